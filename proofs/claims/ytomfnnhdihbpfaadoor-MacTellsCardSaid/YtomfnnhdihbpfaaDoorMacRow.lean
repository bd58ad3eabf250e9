/- Slices of bytes that a call makes whole ('make([]byte, n)'): the block they lie in is known as a row. -/
import Derived.Test.YtomfnnhdihbpfaaDoorMacSpec
import Derived.Test.YtomfnnhdihbpfaaDoorShaEnd
import Derived.OwnWalk
namespace Go.Proofs.YtomfnnhdihbpfaaDoor
open Go.RowKit

theorem RowB.bts {w : World} {g : Nat} {l : List Int} {n : Nat} (h : RowB w g 5 l) (hl : l.length = n) (hm : n ≤ maxLen) (hok : ∀ j, 0 ≤ l.getD j 0 ∧ l.getD j 0 < 256) : Bts w (some ⟨g, 0, none⟩) n n l :=
  ⟨hl, Nat.le_refl _, hm, hok, (fun e => by cases e), fun _ => ⟨g, 0, rfl, fun j hj => by rw [Nat.zero_add]; exact h.cell j (by omega)⟩⟩
/-- an array's block, sliced -/
theorem RowB.btsAt {w : World} {g : Nat} {t : TypeId} {l : List Int} {n : Nat} (h : RowB w g t l) (hl : l.length = n) (hm : n ≤ maxLen) (hok : ∀ j, 0 ≤ l.getD j 0 ∧ l.getD j 0 < 256) : Bts w (some ⟨g, 0, none⟩) n n l :=
  ⟨hl, Nat.le_refl _, hm, hok, (fun e => by cases e), fun _ => ⟨g, 0, rfl, fun j hj => by rw [Nat.zero_add]; exact h.cell j (by omega)⟩⟩
theorem RowB.own {w : World} {base g : Nat} {l : List Int} {n : Nat} (h : RowB w g 5 l) (hb : base ≤ g) (hl : l.length = n) (hm : n ≤ maxLen) : Own w base (.slice (some ⟨g, 0, none⟩) n n) l := by
  subst hl
  refine ⟨by rw [byv_length, Nat.mul_one], .inr ⟨g, l.length, idv l, rfl, hb, h, Nat.le_refl _, hm, by rw [idv_size, Nat.mul_one], ?_⟩⟩
  rw [Nat.mul_one, idv]
  exact List.take_of_length_le (by rw [byv_length]; omega)

/-- make([]byte, n) -/
theorem wpList_make_n {w : World} {ops : Array Oper} {rest : List Oper} {o : Oper} {a : Act} {Q : Exit → Act → World → Prop} (hgd : o.guard = none) (l c : Operand) (ho : o.op = Op.makeSlice 24 l c)
    (L C : Int) (n : Nat) (hl : a.eval l = .int .i64 L) (hc : a.eval c = .int .i64 C) (hL : L = (n : Int)) (hC : C = (n : Int)) (hn : n ≤ 281474976710656)
    (h : ∀ w', RowB w' w.heap.size 5 (List.replicate n 0) → w.grownBy w' none → w'.heap.size = w.heap.size + 1 → wpList Tryd.prog ops Q rest (a.put o.dst (.slice (some ⟨w.heap.size, 0, none⟩) n n)) w') : wpList Tryd.prog ops Q (o :: rest) a w := by
  obtain ⟨i, hi, hz, h1, h2⟩ := info_parts info_u8
  refine wpList_plain hgd fun K hK => ?_
  subst hL hC
  have hr := run_make (P := Tryd.prog) w 24 5 i (.int .u8 0) Tryd.underlying24 hi hz .i64 .i64 n n (by omega) (Int.le_refl _) (by rw [h2]; omega) (by omega)
  simp only [Int.toNat_natCast] at hr
  unfold Oper.wp
  simp [execOp, ho, hl, hc, hr, Result.andThen]
  refine hK _ _ (h _ ?_ (World.grownBy_alloc w _ none) (by simp))
  refine rowb_lit w 5 _ _ ?_
  rw [← Array.toList_inj]
  simp only [h1, Nat.mul_one]
  have := toList_madeCells_one (.int .u8 0) n
  show (madeCells #[Value.int .u8 0] n).toList = _
  rw [this]
  simp [idv, byv]

/-- copy(dst, src) into a row from its head on -/
theorem wpList_copy_b {w : World} {ops : Array Oper} {rest : List Oper} {o : Oper} {a : Act} {Q : Exit → Act → World → Prop} (hgd : o.guard = none) (d s : Operand)
    (ho : o.op = .call { callee := .builtin .copy, args := #[d, s], argTypes := #[24, 24] })
    (g n : Nat) (l : List Int) (hd : a.eval d = .slice (some ⟨g, 0, none⟩) n n) (hg : RowB w g 5 l) (hl : l.length = n)
    (A : Option Addr) (m c : Nat) (k : List Int) (hs : a.eval s = .slice A m c) (hr : Bts w A m c k) (hm : m ≤ n) (B : Nat) (w0 : World) (hb : Below B w0 w) (hBg : B ≤ g)
    (h : ∀ w', RowB w' g 5 (k ++ l.drop m) → Below B w0 w' → wpList Tryd.prog ops Q rest (a.put o.dst (goInt m)) w') : wpList Tryd.prog ops Q (o :: rest) a w := by
  have hkl := hr.len
  have hcl : (byv k).length = m := by rw [byv_length, hkl]
  refine wpList_copy_splice hgd d s 24 24 ho 5 Tryd.underlying24 (by kernel_rfl) (some ⟨g, 0, none⟩) A n n m c hd hs g 0 (byv l) 5 hg (byv k) (by rw [hcl]; exact (show min m n = m from Nat.min_eq_left hm).symm) ?_ (by rw [hcl, byv_length]; omega) (byv_one k) B w0 hb hBg ?_
  · intro h0
    rw [hcl] at h0
    obtain ⟨b, off, hA, hc⟩ := hr.at_ h0
    refine ⟨rfl, ⟨b, off, none⟩, hA, fun j v hv => ?_⟩
    have hj : j < k.length := by
      have := (List.getElem?_eq_some_iff.1 hv).1
      rwa [byv_length] at this
    rw [byv_get k j hj] at hv
    have hadd : (⟨b, off, none⟩ : Addr).add j = ⟨b, off + j, none⟩ := by
      unfold Addr.add
      split
      · rename_i h0; subst h0; rfl
      · rfl
    rw [hadd, hc j (by omega), hv]
  · intro w' hw hB
    rw [hcl]
    refine h w' ?_ hB
    have h2 := hw.out
    unfold splice at h2
    rw [List.take_zero, List.nil_append, Nat.zero_add, hcl] at h2
    unfold RowB
    rw [h2]
    simp [idv, byv, List.map_drop]

theorem Bts.small {w : World} {A : Option Addr} {n c : Nat} {l : List Int} (h : Bts w A n c l) : n ≤ 9223372036854775807 := Nat.le_trans h.le (by have := h.max; unfold maxLen at this; omega)
theorem mac_alloc (w : World) (o : Obj) : Below w.heap.size w (w.alloc o) := (Below.refl _ w).alloc (Nat.le_refl _) o
theorem keyL_length (key : List Int) : (keyL key).length ≤ 64 := by
  unfold keyL
  split
  · rw [sumL, endL, spelt_length]; omega
  · omega
theorem blockL_length (key : List Int) : (blockL key).length = 64 := by
  have := keyL_length key
  simp only [blockL, padK, List.length_append, List.length_replicate]
  omega
theorem xorL_length (x : Int) (l : List Int) : (xorL x l).length = 64 := by simp [xorL]
theorem ok_spelt (r : List Int) : ∀ j, 0 ≤ (speltL r).getD j 0 ∧ (speltL r).getD j 0 < 256 := ok_map _ (fun i => by unfold speltAt; omega) 32
theorem ok_sum (l : List Int) : ∀ j, 0 ≤ (sumL l).getD j 0 ∧ (sumL l).getD j 0 < 256 := by rw [sumL, endL]; exact ok_spelt _
theorem sumL_length (l : List Int) : (sumL l).length = 32 := by rw [sumL, endL]; exact spelt_length _
theorem ok_block (key : List Int) (h : ∀ j, 0 ≤ key.getD j 0 ∧ key.getD j 0 < 256) : ∀ j, 0 ≤ (blockL key).getD j 0 ∧ (blockL key).getD j 0 < 256 := by
  unfold blockL padK
  refine ok_append ?_ (ok_rep _)
  unfold keyL
  split
  · exact ok_sum key
  · exact h
theorem xor_u8_range (a x : Int) : 0 ≤ bits .xor .u8 a x ∧ bits .xor .u8 a x < 256 := by
  have h : ∃ y : Int, bits .xor .u8 a x = IntKind.u8.wrap y := ⟨_, rfl⟩
  obtain ⟨y, h⟩ := h
  rw [h, IntKind.wrap_u8']
  omega
theorem ok_xor (x : Int) (l : List Int) : ∀ j, 0 ≤ (xorL x l).getD j 0 ∧ (xorL x l).getD j 0 < 256 := ok_map _ (fun _ => xor_u8_range _ _) 64
end Go.Proofs.YtomfnnhdihbpfaaDoor
