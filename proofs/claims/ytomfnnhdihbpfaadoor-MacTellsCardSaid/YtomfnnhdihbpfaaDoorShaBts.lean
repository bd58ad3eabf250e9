/- Slices of bytes: what they read as; the slices of bytes that a call makes itself; append and make on them, and pieces of them. -/
import Derived.Test.YtomfnnhdihbpfaaDoorShaRows
import Derived.Laws.AppendOwnNone
namespace Go.Proofs.YtomfnnhdihbpfaaDoor
open Go.RowKit

/-- bytes, as cells -/
def byv (l : List Int) : List Value := l.map (Value.int .u8)
theorem byv_length (l : List Int) : (byv l).length = l.length := by simp [byv]
theorem byv_get (l : List Int) (i : Nat) (h : i < l.length) : (byv l)[i]? = some (.int .u8 (l.getD i 0)) := by
  simp [byv, List.getD_eq_getElem?_getD, h]
theorem byv_append (l m : List Int) : byv (l ++ m) = byv l ++ byv m := by simp [byv]
theorem byv_one (l : List Int) : ∀ u ∈ byv l, u.oneCell' = true := by
  intro u hu
  simp only [byv, List.mem_map] at hu
  obtain ⟨x, _, rfl⟩ := hu
  rfl

/-- the slice value A, n, cap reads as the bytes l -/
structure Bts (w : World) (A : Option Addr) (n cap : Nat) (l : List Int) : Prop where
  len : l.length = n
  le : n ≤ cap
  max : cap ≤ maxLen
  ok : ∀ j, 0 ≤ l.getD j 0 ∧ l.getD j 0 < 256
  bare : A = none → cap = 0
  at_ : 0 < n → ∃ b off, A = some ⟨b, off, none⟩ ∧ ∀ j, j < n → w.cell? ⟨b, off + j, none⟩ = some (.int .u8 (l.getD j 0))

theorem size_u8 (w : World) : (sizeOf (Tryd.prog.elem 24)).run Tryd.prog w = .ok 1 w := by
  have he : Tryd.prog.elem 24 = 5 := by kernel_rfl
  have hq : (Tryd.prog.info? 5).map (·.size) = some 1 := by kernel_rfl
  rw [he]
  cases hi : Tryd.prog.info? 5 with
  | none => simp [hi] at hq
  | some i => simp [hi] at hq; simp [sizeOf, typeInfo, hi, hq]
/-- a piece of a slice of bytes -/
theorem run_cut (b off n cap lo hi : Nat) (l h : Int) (hl : l = lo) (hh : h = hi) (h1 : lo ≤ hi) (h2 : hi ≤ cap) (hlt : lo < cap) (w : World) :
    (Instr.slice 24 (.slice (some ⟨b, off, none⟩) n cap) (some (.int .i64 l)) (some (.int .i64 h)) none).run Tryd.prog w = .ok (.slice (some ⟨b, off + lo, none⟩) (hi - lo) (cap - lo)) w := by
  subst hl hh
  rw [run_slice_lh (P := Tryd.prog) w 24 (some ⟨b, off, none⟩) n cap (by kernel_rfl) .i64 .i64 lo hi (by omega) (by omega) (by omega), size_u8]
  simp only [Result.andThen_ok, sliced, Int.toNat_natCast]
  rw [if_neg (by omega)]
  simp only [Option.map_some, Nat.mul_one]
  congr 3
  unfold Addr.add
  split
  · rename_i h0; subst h0; rfl
  · rfl

theorem Bts.below {w w' : World} {A : Option Addr} {n cap : Nat} {l : List Int} (h : Bts w A n cap l) (hb : Below w.heap.size w w') : Bts w' A n cap l := by
  refine ⟨h.len, h.le, h.max, h.ok, h.bare, fun hn => ?_⟩
  obtain ⟨b, off, hA, hc⟩ := h.at_ hn
  exact ⟨b, off, hA, fun j hj => (hb.cell (p := ⟨b, off + j, none⟩) (block_lt_of_cell (hc j hj))).trans (hc j hj)⟩
theorem Bts.draw {w : World} {A : Option Addr} {n cap : Nat} {l : List Int} (h : Bts w A n cap l) (k : Nat) : Bts (w.drewN k) A n cap l := ⟨h.len, h.le, h.max, h.ok, h.bare, h.at_⟩
theorem Bts.draw1 {w : World} {A : Option Addr} {n cap : Nat} {l : List Int} (h : Bts w A n cap l) : Bts w.drew A n cap l := ⟨h.len, h.le, h.max, h.ok, h.bare, h.at_⟩
theorem Bts.more {w : World} {A : Option Addr} {n cap : Nat} {l : List Int} (h : Bts w A n cap l) (o : Obj) : Bts (w.alloc o) A n cap l := h.below ((Below.refl _ _).alloc (Nat.le_refl _) _)
theorem Bts.nil (w : World) : Bts w none 0 0 [] := ⟨rfl, Nat.le_refl _, by unfold maxLen; omega, fun j => by simp, fun _ => rfl, fun h => by omega⟩
theorem ok_append {l m : List Int} (h : ∀ j, 0 ≤ l.getD j 0 ∧ l.getD j 0 < 256) (k : ∀ j, 0 ≤ m.getD j 0 ∧ m.getD j 0 < 256) : ∀ j, 0 ≤ (l ++ m).getD j 0 ∧ (l ++ m).getD j 0 < 256 := by
  intro j
  have h1 := h j
  have h2 := k (j - l.length)
  simp only [List.getD_eq_getElem?_getD, List.getElem?_append] at *
  split
  · exact h1
  · exact h2

/-- a slice of bytes that the call made itself -/
def Own (w : World) (base : Nat) (v : Value) (l : List Int) : Prop := w.ownsRow base 5 1 v l.length (byv l)
theorem Own.is {w : World} {base : Nat} {v : Value} {l : List Int} (h : Own w base v l) : w.ownsRow base 5 1 v l.length (byv l) := h
theorem Own.of {w : World} {base : Nat} {v : Value} {l : List Int} (h : w.ownsRow base 5 1 v l.length (byv l)) : Own w base v l := h
theorem Own.nil (w : World) (base : Nat) : Own w base (.slice none 0 0) [] := World.ownsRow_nil _ _ _ _
theorem Own.more {w : World} {base : Nat} {v : Value} {l : List Int} (h : Own w base v l) (o : Obj) : Own (w.alloc o) base v l := World.ownsRow.alloc h o
theorem Own.draw {w : World} {base : Nat} {v : Value} {l : List Int} (h : Own w base v l) (k : Nat) : Own (w.drewN k) base v l := h
theorem Own.draw1 {w : World} {base : Nat} {v : Value} {l : List Int} (h : Own w base v l) : Own w.drew base v l := h
theorem Own.mono {w : World} {base b : Nat} {v : Value} {l : List Int} (h : Own w base v l) (hb : b ≤ base) : Own w b v l := by
  refine ⟨h.1, ?_⟩
  rcases h.2 with h0 | ⟨g, cap, cur, hv, hg, rest⟩
  · exact .inl h0
  · exact .inr ⟨g, cap, cur, hv, Nat.le_trans hb hg, rest⟩
theorem Own.below {w w' : World} {base : Nat} {v : Value} {l : List Int} (h : Own w base v l) (hb : Below w.heap.size w w') : Own w' base v l := by
  refine ⟨h.1, ?_⟩
  rcases h.2 with h0 | ⟨g, cap, cur, hv, hg, hh, rest⟩
  · exact .inl h0
  · exact .inr ⟨g, cap, cur, hv, hg, (hb.block g (Array.getElem?_eq_some_iff.1 hh).1).trans hh, rest⟩
theorem Own.far {w w' : World} {base : Nat} {v : Value} {l : List Int} {row : Option Nat} (h : Own w base v l) (hg : w.grownBy w' row) (hne : v.ownBlock = none ∨ v.ownBlock ≠ row) : Own w' base v l := World.ownsRow.kept h hg hne
theorem Own.bts {w : World} {base : Nat} {v : Value} {l : List Int} (h : Own w base v l) (hok : ∀ j, 0 ≤ l.getD j 0 ∧ l.getD j 0 < 256) : ∃ A cap, v = .slice A l.length cap ∧ Bts w A l.length cap l := by
  rcases h.2 with ⟨hv, hn⟩ | ⟨g, cap, cur, hv, _, hh, hnc, hcm, hcs, htake⟩
  · refine ⟨none, 0, by rw [hv, hn], ?_⟩
    obtain rfl : l = [] := List.eq_nil_of_length_eq_zero hn
    exact Bts.nil w
  · refine ⟨some ⟨g, 0, none⟩, cap, hv, rfl, hnc, hcm, hok, (fun e => by cases e), fun hn => ⟨g, 0, rfl, fun j hj => ?_⟩⟩
    rw [Nat.zero_add, cell_of_row _ _ _ _ _ _ hh, ← byv_get l j hj, ← htake, List.getElem?_take, if_pos (by omega)]
    simp
theorem Own.size {w : World} {base : Nat} {v : Value} {l : List Int} (h : Own w base v l) : ∀ k, v.ownBlock = some k → base ≤ k ∧ k < w.heap.size := World.ownsRow.lt h

theorem info_u8 : (Tryd.prog.info? 5).map (fun i => (i.zero, i.size, i.bytes)) = some (some (.int .u8 0), 1, 1) := by kernel_rfl

/-- append(v, s...): v the call's own, s whatever -/
theorem wpList_append_b {w : World} {ops : Array Oper} {rest : List Oper} {o : Oper} {a : Act} {Q : Exit → Act → World → Prop} (hgd : o.guard = none) (s x : Operand)
    (ho : o.op = .call { callee := .builtin .append, args := #[s, x], argTypes := #[24, 24] })
    (base : Nat) (v : Value) (l : List Int) (hs : a.eval s = v) (hown : Own w base v l) (A : Option Addr) (m c : Nat) (l2 : List Int) (hx : a.eval x = .slice A m c) (hr : Bts w A m c l2)
    (hsmall : l.length + m ≤ 140737488355328) (hbase : base ≤ w.heap.size)
    (h : ∀ v' w', Own w' base v' (l ++ l2) → w.grownBy w' v.ownBlock → wpList Tryd.prog ops Q rest (a.put o.dst v') w') : wpList Tryd.prog ops Q (o :: rest) a w := by
  obtain ⟨i, hi, hz, h1, h2⟩ := info_parts info_u8
  have hl2 : (byv l2).length = m * 1 := by rw [byv_length, hr.len, Nat.mul_one]
  rcases A with _ | ad
  · obtain rfl := hr.bare rfl
    have hm : m = 0 := by have := hr.le; omega
    subst hm
    obtain rfl : l2 = [] := List.eq_nil_of_length_eq_zero hr.len
    refine wpList_append_own_none hgd s x 24 ho base 5 i 1 Tryd.underlying24 hi v l.length (byv l) hs hown hx ?_
    exact h v w (by simpa using hown) (World.grownBy.refl w _)
  · refine wpList_append_own (P := Tryd.prog) w hgd s x 24 ho base 5 i (.int .u8 0) 1 1 Tryd.underlying24 hi hz h1 h2 rfl (by omega) v l.length (byv l) hs hown ad m c (byv l2) hx hl2 ?_ (byv_one l2) (by unfold maxLen; omega) (by omega) hbase ?_
    · intro j u hu
      have hj : j < l2.length := by
        have := (List.getElem?_eq_some_iff.1 hu).1
        rwa [byv_length] at this
      rw [byv_get l2 j hj] at hu
      obtain ⟨b, off, hA, hc⟩ := hr.at_ (by have := hr.len; omega)
      injection hA with hA
      subst hA
      have hadd : (⟨b, off, none⟩ : Addr).add j = ⟨b, off + j, none⟩ := by
        unfold Addr.add
        split
        · rename_i h0; subst h0; rfl
        · rfl
      rw [hadd, hc j (by have := hr.len; omega), hu]
    · intro v' w' hown' hg _
      refine h v' w' ?_ hg
      unfold Own
      rw [byv_append, List.length_append, hr.len]
      exact hown'

/-- make([]byte, 0, n) -/
theorem wpList_make_b {w : World} {ops : Array Oper} {rest : List Oper} {o : Oper} {a : Act} {Q : Exit → Act → World → Prop} (hgd : o.guard = none) (l c : Operand) (ho : o.op = Op.makeSlice 24 l c)
    (base : Nat) (C : Int) (n : Nat) (hl : a.eval l = .int .i64 0) (hc : a.eval c = .int .i64 C) (hC : C = (n : Int)) (hn : n ≤ 281474976710656) (hb : base ≤ w.heap.size)
    (h : ∀ v' w', Own w' base v' [] → w.grownBy w' none → wpList Tryd.prog ops Q rest (a.put o.dst v') w') : wpList Tryd.prog ops Q (o :: rest) a w := by
  obtain ⟨i, hi, hz, h1, h2⟩ := info_parts info_u8
  exact wpList_make_own w hgd l c 24 ho base 5 i (.int .u8 0) 1 Tryd.underlying24 hi hz h1 .i64 .i64 C n hl hc hC (by rw [h2]; omega) (by unfold maxLen; omega) hb
    (fun w' r1 r2 => h _ w' r1 r2)
end Go.Proofs.YtomfnnhdihbpfaaDoor
