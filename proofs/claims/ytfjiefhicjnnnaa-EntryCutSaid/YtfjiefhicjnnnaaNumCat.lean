/- The walk over package num's Cat: the bytes of several numbers. -/
import Derived.Test.YtfjiefhicjnnnaaNumMore
import Derived.Test.YtfjiefhicjnnnaaBasBytes
import Derived.Test.YtfjiefhicjnnnaaBasRows
import Derived.Deep.SlicePairs
namespace Go.Proofs.Ytfjiefhicjnnnaa
set_option linter.unusedVariables false
set_option linter.unusedSimpArgs false
open Go.RowKit

def numR (p : Int × Int) : List Value := [.int .u64 p.1, .int .i64 p.2]
/-- the slice value A, n, cap reads as these numbers, each with its size -/
structure Nms (w : World) (A : Option Addr) (n cap : Nat) (l : List (Int × Int)) : Prop where
  rws : Rws 2 w A n cap (l.map numR)
  num : ∀ p ∈ l, 0 ≤ p.1 ∧ p.1 < 18446744073709551616 ∧ -9223372036854775808 ≤ p.2 ∧ p.2 ≤ 9223372036854775807
theorem Nms.len {w : World} {A : Option Addr} {n cap : Nat} {l : List (Int × Int)} (h : Nms w A n cap l) : l.length = n := by have := h.rws.len; rwa [List.length_map] at this
theorem Nms.below {w w' : World} {A : Option Addr} {n cap : Nat} {l : List (Int × Int)} (h : Nms w A n cap l) (hb : Below w.heap.size w w') : Nms w' A n cap l := ⟨h.rws.below hb, h.num⟩
theorem Nms.cells {w : World} {A : Option Addr} {n cap : Nat} {l : List (Int × Int)} (h : Nms w A n cap l) (hn : 0 < n) : ∃ b off, A = some ⟨b, off, none⟩ ∧
    ∀ j, j < n → w.cell? ⟨b, off + j * 2, none⟩ = some (.int .u64 (l.getD j (0, 0)).1) ∧ w.cell? ⟨b, off + j * 2 + 1, none⟩ = some (.int .i64 (l.getD j (0, 0)).2) := by
  obtain ⟨b, off, hA, hc⟩ := h.rws.at_ hn
  refine ⟨b, off, hA, fun j hj => ?_⟩
  have hjl : j < l.length := by rw [h.len]; exact hj
  have h0 := hc j hj 0 (by omega)
  have h1 := hc j hj 1 (by omega)
  simp only [List.getD_eq_getElem?_getD, List.getElem?_map, List.getElem?_eq_getElem hjl, Option.map_some, Option.getD_some, numR, List.getElem?_cons_zero, List.getElem?_cons_succ, Nat.add_zero] at h0 h1 ⊢
  exact ⟨h0, h1⟩
theorem Nms.at_ {w : World} {A : Option Addr} {n cap : Nat} {l : List (Int × Int)} (h : Nms w A n cap l) (j : Nat) (hj : j < n) : 0 ≤ (l.getD j (0, 0)).1 ∧ (l.getD j (0, 0)).1 < 18446744073709551616 ∧ -9223372036854775808 ≤ (l.getD j (0, 0)).2 ∧ (l.getD j (0, 0)).2 ≤ 9223372036854775807 := by
  have hjl : j < l.length := by rw [h.len]; exact hj
  have := h.num _ (List.getElem_mem hjl)
  simpa [List.getD_eq_getElem?_getD, hjl] using this

def toN (l : List (Int × Int)) : List (Nat × Nat) := l.map fun p => (p.1.toNat, p.2.toNat)
def fitsB (l : List (Int × Int)) : Bool := l.all fun p => fitB p.1 p.2
/-- may these numbers be put together? -/
def catB (l : List (Int × Int)) : Bool := decide (l.length ≤ 40) && fitsB l
def CatPost (l : List (Int × Int)) (w : World) (e : Ending) (w' : World) : Prop :=
  (catB l = true → ∃ v, e = .returned (.tuple #[v, .bool true]) ∧ Own w' w.heap.size v (catL (toN l))) ∧ (catB l = false → e = .returned (.tuple #[.slice none 0 0, .bool false])) ∧ Below w.heap.size w w'
theorem catPost_yes {l : List (Int × Int)} {w w' : World} {v : Value} (h : catB l = true) (ho : Own w' w.heap.size v (catL (toN l))) (hb : Below w.heap.size w w') : CatPost l w (.returned (.tuple #[v, .bool true])) w' :=
  ⟨fun _ => ⟨v, rfl, ho⟩, fun h2 => by rw [h] at h2; exact Bool.noConfusion h2, hb⟩
theorem catPost_no {l : List (Int × Int)} {w w' : World} (h : catB l = false) (hb : Below w.heap.size w w') : CatPost l w (.returned (.tuple #[.slice none 0 0, .bool false])) w' :=
  ⟨fun h2 => by rw [h] at h2; exact Bool.noConfusion h2, fun _ => rfl, hb⟩
theorem fitsB_snoc (l : List (Int × Int)) (k : Nat) (h : k < l.length) : fitsB (l.take (k + 1)) = (fitsB (l.take k) && fitB (l.getD k (0, 0)).1 (l.getD k (0, 0)).2) := by
  rw [fitsB, fitsB, List.take_succ_eq_append_getElem h, List.all_append]
  simp [List.getD_eq_getElem?_getD, h]
theorem fitsB_part (l : List (Int × Int)) (k : Nat) (h : fitsB (l.take k) = false) : fitsB l = false := by
  have e : l = l.take k ++ l.drop k := (List.take_append_drop k l).symm
  rw [e, fitsB, List.all_append]
  rw [fitsB] at h
  rw [h, Bool.false_and]
theorem catL_snoc (l : List (Int × Int)) (k : Nat) (h : k < l.length) : catL (toN (l.take (k + 1))) = catL (toN (l.take k)) ++ putL (l.getD k (0, 0)).1.toNat (l.getD k (0, 0)).2.toNat := by
  rw [toN, List.take_succ_eq_append_getElem h, List.map_append, catL_append]
  simp [toN, catL, List.getD_eq_getElem?_getD, h]
theorem catL_ok (l : List (Nat × Nat)) : ∀ j, 0 ≤ (catL l).getD j 0 ∧ (catL l).getD j 0 < 256 := by
  induction l with
  | nil => simp [catL]
  | cons p l ih => exact ok_append (ok_map _ (fun i => putAt_ok _ _ i) _) ih
theorem catL_small (l : List (Int × Int)) (h : fitsB l = true) : (catL (toN l)).length ≤ 8 * l.length := by
  rw [catL_length]
  induction l with
  | nil => simp [toN]
  | cons p l ih =>
    rw [fitsB, List.all_cons, Bool.and_eq_true] at h
    have h2 := h.1
    unfold fitB at h2
    rw [decide_eq_true_eq] at h2
    have := ih h.2
    simp only [toN, List.map_cons, List.sum_cons, List.length_cons] at this ⊢
    omega

theorem cat_long (A : Option Addr) (n c : Nat) (l : List (Int × Int)) (w : World) (hl : Nms w A n c l) (h : 40 < n) :
    Calls Try.prog 24 #[.slice A n c] w fun e w' => CatPost l w e w' := by
  have hn := hl.rws.small
  have h1 : (40 : Int) < n := by omega
  have h2 : catB l = false := by rw [catB, hl.len, decide_eq_false (by omega), Bool.false_and]
  have H2 := Lib.hid h2
  clear h2
  go_enter Try.func24, Try.ntmps24
  go_wp2
  go_ret2
  exact catPost_no H2.out (Below.refl _ _)
set_option maxHeartbeats 1000000 in
theorem cat_short (A : Option Addr) (n c : Nat) (l : List (Int × Int)) (w : World) (hl : Nms w A n c l) (h : n ≤ 40) :
    Calls Try.prog 24 #[.slice A n c] w fun e w' => CatPost l w e w' := by
  have h1 : (n : Int) ≤ 40 := by omega
  have hll : l.length = n := hl.len
  have HLL := Lib.hid hll
  clear hll
  go_enter Try.func24, Try.ntmps24
  go_wp2
  go_loopw [4, 14] (fun v i wr => ∃ k : Nat, k ≤ n ∧ i = .int .i64 k ∧ fitsB (l.take k) = true ∧ Own wr w.heap.size v (catL (toN (l.take k))) ∧ Below w.heap.size w wr) (fun _ i _ => n - (intOf i).toNat)
  case atStart => exact ⟨0, Nat.zero_le _, rfl, rfl, Own.nil _ _, Below.refl _ _⟩
  case round =>
    obtain ⟨k, hk, rfl, hfit, hown, hB⟩ := hrel
    have HF := Lib.hid hfit
    clear hfit
    by_cases hlt : k < n
    · obtain ⟨b, off, rfl, hcs⟩ := (hl.below hB).cells (by omega)
      obtain ⟨hc0, hc1⟩ := hcs k hlt
      obtain ⟨p, hp⟩ : ∃ p, p = l.getD k (0, 0) := ⟨_, rfl⟩
      rw [← hp] at hc0 hc1
      obtain ⟨x, y⟩ := p
      simp only at hc0 hc1
      have hb4 := hl.at_ k hlt
      rw [← hp] at hb4
      simp only at hb4
      have HB4 := Lib.hid hb4
      have HP := Lib.hid hp
      clear hp hb4 hcs
      have hlk : k < l.length := by rw [HLL.out]; exact hlt
      cases hf : fitB x y with
      | false =>
        have HNF := Lib.hid hf
        have hcb : catB l = false := by
          have h3 := fitsB_snoc l k hlk
          rw [← HP.out, HNF.out, Bool.and_false] at h3
          rw [catB, fitsB_part l (k + 1) h3, Bool.and_false]
        have HCB := Lib.hid hcb
        clear hf hcb
        go_wp2_with (go_at_call 34; (with_reducible refine (put_no x y _ HB4.out.1 HB4.out.2.1 HNF.out).mono ?_); rintro e w2 ⟨rfl, rfl⟩)
        go_ret2
        exact catPost_no HCB.out (hB.alloc hB.size _)
      | true =>
        obtain ⟨N, K, rfl, rfl, h2, h3, h4⟩ := fit_nat HB4.out.1 hf
        obtain ⟨Z, hZ⟩ : ∃ Z, putL N K = Z := ⟨_, rfl⟩
        have hZl : Z.length = K := by rw [← hZ]; exact putL_length N K
        have hZo : ∀ j, 0 ≤ Z.getD j 0 ∧ Z.getD j 0 < 256 := by rw [← hZ]; exact ok_map _ (fun i => putAt_ok N K i) K
        have hnext : catL (toN (l.take (k + 1))) = catL (toN (l.take k)) ++ Z := by
          rw [catL_snoc l k hlk, ← HP.out, ← hZ]
          rfl
        have hfit2 : fitsB (l.take (k + 1)) = true := by
          rw [fitsB_snoc l k hlk, HF.out, ← HP.out, hf]
          rfl
        obtain ⟨L, hL⟩ : ∃ L, L = catL (toN (l.take k)) := ⟨_, rfl⟩
        have hLs : L.length ≤ 320 := by
          have := catL_small (l.take k) HF.out
          rw [List.length_take] at this
          rw [hL]
          omega
        rw [← hL] at hown hnext
        have HZ := Lib.hid hZ
        have HZL := Lib.hid hZl
        have HZO := Lib.hid hZo
        have H4 := Lib.hid h4
        have HNX := Lib.hid hnext
        have HF2 := Lib.hid hfit2
        clear hZ hZl hZo h4 hnext hfit2 hL hf hlk
        go_wp2_with (first
          | (go_at_call 34; (with_reducible refine (put_yes N K _ h2 h3 H4.out).mono ?_); rintro e w2 ⟨rfl, hX2, hb2⟩
             obtain ⟨hb3, _, _⟩ := after_one hb2
             have hB2 := then_below hB hb3
             have hown2 := hown.below hb3
             rw [HZ.out] at hX2
             have hX2 := at_next hX2
             clear hb2 hb3)
          | (at_builtin
             refine wpList_append_b rfl _ _ rfl w.heap.size u4 L rfl hown2 _ K K Z rfl (hX2.bts HZL.out (by unfold maxLen; omega) HZO.out) (by omega) hB2.size ?_
             intro v5 w5 hown5 hg5
             have hB5 : Below w.heap.size w w5 := hB2.grown hg5 hB2.size (fun k hk => (hown2.size k hk).1)
             rw [← HNX.out] at hown5
             clear hg5))
        go_roundw
        case rel => exact ⟨k + 1, by omega, by go_num, HF2.out, hown5, hB5⟩
        case measure => simp [intOf]; omega
    · have hkn : k = n := by omega
      have htk : l.take k = l := by rw [hkn, ← HLL.out, List.take_length]
      rw [htk] at hown
      have hcb : catB l = true := by
        have h3 := HF.out
        rw [htk] at h3
        rw [catB, h3, HLL.out, decide_eq_true h]
        rfl
      have HCB := Lib.hid hcb
      have HO := Lib.hid hown
      clear hcb hown htk hkn
      go_wp2
      go_ret2
      exact catPost_yes HCB.out HO.out hB
theorem cat_any (A : Option Addr) (n c : Nat) (l : List (Int × Int)) (w : World) (hl : Nms w A n c l) :
    Calls Try.prog 24 #[.slice A n c] w fun e w' => CatPost l w e w' := by
  by_cases h : 40 < n
  · exact cat_long A n c l w hl h
  · exact cat_short A n c l w hl (by omega)
end Go.Proofs.Ytfjiefhicjnnnaa
