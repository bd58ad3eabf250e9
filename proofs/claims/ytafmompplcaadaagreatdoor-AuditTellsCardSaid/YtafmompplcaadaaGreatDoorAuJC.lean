/- Joined texts: The walk over package num's Cat: the bytes of several numbers. The walks over package num's together and Cut: the numbers that bytes are cut into. The walks over the plain answers' Put and Get of numbers. The walk over the plain answers' Cat of numbers. The walks over the plain answers' Cut and Nums. What a call gives: both sides, the program's and the plain answers', of one hidden value. -/
import Derived.Test.YtafmompplcaadaaGreatDoorAuJB
import Derived.Test.YtafmompplcaadaaGreatDoorAuJA
import Derived.Deep.SlicePairs
/- The walk over package num's Cat: the bytes of several numbers. -/
namespace Go.Proofs.YtafmompplcaadaaGreatDoor
set_option linter.unusedVariables false
set_option linter.unusedSimpArgs false
open Go.RowKit

def numR (p : Int × Int) : List Value := [.int .u64 p.1, .int .i64 p.2]
/-- the slice value A, n, cap reads as these numbers, each with its size -/
structure Nms (w : World) (A : Option Addr) (n cap : Nat) (l : List (Int × Int)) : Prop where
  rws : Rws 2 w A n cap (l.map numR)
  num : ∀ p ∈ l, 0 ≤ p.1 ∧ p.1 < 18446744073709551616 ∧ -9223372036854775808 ≤ p.2 ∧ p.2 ≤ 9223372036854775807
theorem Nms.len {w : World} {A : Option Addr} {n cap : Nat} {l : List (Int × Int)} (h : Nms w A n cap l) : l.length = n := by have := h.rws.len; rwa [List.length_map] at this
theorem Nms.below {w w' : World} {A : Option Addr} {n cap : Nat} {l : List (Int × Int)} (h : Nms w A n cap l) (hb : Below w.heap.size w w') : Nms w' A n cap l := ⟨h.rws.below hb, h.num⟩
theorem Nms.cells {w : World} {A : Option Addr} {n cap : Nat} {l : List (Int × Int)} (h : Nms w A n cap l) (hn : 0 < n) : ∃ b off, A = some ⟨b, off, none⟩ ∧
    ∀ j, j < n → w.cell? ⟨b, off + j * 2, none⟩ = some (.int .u64 (l.getD j (0, 0)).1) ∧ w.cell? ⟨b, off + j * 2 + 1, none⟩ = some (.int .i64 (l.getD j (0, 0)).2) := by
  obtain ⟨b, off, hA, hc⟩ := h.rws.at_ hn
  refine ⟨b, off, hA, fun j hj => ?_⟩
  have hjl : j < l.length := by rw [h.len]; exact hj
  have h0 := hc j hj 0 (by omega)
  have h1 := hc j hj 1 (by omega)
  simp only [List.getD_eq_getElem?_getD, List.getElem?_map, List.getElem?_eq_getElem hjl, Option.map_some, Option.getD_some, numR, List.getElem?_cons_zero, List.getElem?_cons_succ, Nat.add_zero] at h0 h1 ⊢
  exact ⟨h0, h1⟩
theorem Nms.at_ {w : World} {A : Option Addr} {n cap : Nat} {l : List (Int × Int)} (h : Nms w A n cap l) (j : Nat) (hj : j < n) : 0 ≤ (l.getD j (0, 0)).1 ∧ (l.getD j (0, 0)).1 < 18446744073709551616 ∧ -9223372036854775808 ≤ (l.getD j (0, 0)).2 ∧ (l.getD j (0, 0)).2 ≤ 9223372036854775807 := by
  have hjl : j < l.length := by rw [h.len]; exact hj
  have := h.num _ (List.getElem_mem hjl)
  simpa [List.getD_eq_getElem?_getD, hjl] using this

def toN (l : List (Int × Int)) : List (Nat × Nat) := l.map fun p => (p.1.toNat, p.2.toNat)
def fitsB (l : List (Int × Int)) : Bool := l.all fun p => fitB p.1 p.2
/-- may these numbers be put together? -/
def catB (l : List (Int × Int)) : Bool := decide (l.length ≤ 40) && fitsB l
def CatPost (l : List (Int × Int)) (w : World) (e : Ending) (w' : World) : Prop :=
  (catB l = true → ∃ v, e = .returned (.tuple #[v, .bool true]) ∧ Own w' w.heap.size v (catL (toN l))) ∧ (catB l = false → e = .returned (.tuple #[.slice none 0 0, .bool false])) ∧ Below w.heap.size w w'
theorem catPost_yes {l : List (Int × Int)} {w w' : World} {v : Value} (h : catB l = true) (ho : Own w' w.heap.size v (catL (toN l))) (hb : Below w.heap.size w w') : CatPost l w (.returned (.tuple #[v, .bool true])) w' :=
  ⟨fun _ => ⟨v, rfl, ho⟩, fun h2 => by rw [h] at h2; exact Bool.noConfusion h2, hb⟩
theorem catPost_no {l : List (Int × Int)} {w w' : World} (h : catB l = false) (hb : Below w.heap.size w w') : CatPost l w (.returned (.tuple #[.slice none 0 0, .bool false])) w' :=
  ⟨fun h2 => by rw [h] at h2; exact Bool.noConfusion h2, fun _ => rfl, hb⟩
theorem fitsB_snoc (l : List (Int × Int)) (k : Nat) (h : k < l.length) : fitsB (l.take (k + 1)) = (fitsB (l.take k) && fitB (l.getD k (0, 0)).1 (l.getD k (0, 0)).2) := by
  rw [fitsB, fitsB, List.take_succ_eq_append_getElem h, List.all_append]
  simp [List.getD_eq_getElem?_getD, h]
theorem fitsB_part (l : List (Int × Int)) (k : Nat) (h : fitsB (l.take k) = false) : fitsB l = false := by
  have e : l = l.take k ++ l.drop k := (List.take_append_drop k l).symm
  rw [e, fitsB, List.all_append]
  rw [fitsB] at h
  rw [h, Bool.false_and]
theorem catL_snoc (l : List (Int × Int)) (k : Nat) (h : k < l.length) : catL (toN (l.take (k + 1))) = catL (toN (l.take k)) ++ putL (l.getD k (0, 0)).1.toNat (l.getD k (0, 0)).2.toNat := by
  rw [toN, List.take_succ_eq_append_getElem h, List.map_append, catL_append]
  simp [toN, catL, List.getD_eq_getElem?_getD, h]
theorem catL_ok (l : List (Nat × Nat)) : ∀ j, 0 ≤ (catL l).getD j 0 ∧ (catL l).getD j 0 < 256 := by
  induction l with
  | nil => simp [catL]
  | cons p l ih => exact ok_append (ok_map _ (fun i => putAt_ok _ _ i) _) ih
theorem catL_small (l : List (Int × Int)) (h : fitsB l = true) : (catL (toN l)).length ≤ 8 * l.length := by
  rw [catL_length]
  induction l with
  | nil => simp [toN]
  | cons p l ih =>
    rw [fitsB, List.all_cons, Bool.and_eq_true] at h
    have h2 := h.1
    unfold fitB at h2
    rw [decide_eq_true_eq] at h2
    have := ih h.2
    simp only [toN, List.map_cons, List.sum_cons, List.length_cons] at this ⊢
    omega

theorem cat_long (A : Option Addr) (n c : Nat) (l : List (Int × Int)) (w : World) (hl : Nms w A n c l) (h : 40 < n) :
    Calls Tryz.prog 67 #[.slice A n c] w fun e w' => CatPost l w e w' := by
  have hn := hl.rws.small
  have h1 : (40 : Int) < n := by omega
  have h2 : catB l = false := by rw [catB, hl.len, decide_eq_false (by omega), Bool.false_and]
  have H2 := Lib.hid h2
  clear h2
  go_enter Tryz.func67, Tryz.ntmps67
  go_wp2
  go_ret2
  exact catPost_no H2.out (Below.refl _ _)
set_option maxHeartbeats 1000000 in
theorem cat_short (A : Option Addr) (n c : Nat) (l : List (Int × Int)) (w : World) (hl : Nms w A n c l) (h : n ≤ 40) :
    Calls Tryz.prog 67 #[.slice A n c] w fun e w' => CatPost l w e w' := by
  have h1 : (n : Int) ≤ 40 := by omega
  have hll : l.length = n := hl.len
  have HLL := Lib.hid hll
  clear hll
  go_enter Tryz.func67, Tryz.ntmps67
  go_wp2
  go_loopw [4, 14] (fun v i wr => ∃ k : Nat, k ≤ n ∧ i = .int .i64 k ∧ fitsB (l.take k) = true ∧ Own wr w.heap.size v (catL (toN (l.take k))) ∧ Below w.heap.size w wr) (fun _ i _ => n - (intOf i).toNat)
  case atStart => exact ⟨0, Nat.zero_le _, rfl, rfl, Own.nil _ _, Below.refl _ _⟩
  case round =>
    obtain ⟨k, hk, rfl, hfit, hown, hB⟩ := hrel
    have HF := Lib.hid hfit
    clear hfit
    by_cases hlt : k < n
    · obtain ⟨b, off, rfl, hcs⟩ := (hl.below hB).cells (by omega)
      obtain ⟨hc0, hc1⟩ := hcs k hlt
      obtain ⟨p, hp⟩ : ∃ p, p = l.getD k (0, 0) := ⟨_, rfl⟩
      rw [← hp] at hc0 hc1
      obtain ⟨x, y⟩ := p
      simp only at hc0 hc1
      have hb4 := hl.at_ k hlt
      rw [← hp] at hb4
      simp only at hb4
      have HB4 := Lib.hid hb4
      have HP := Lib.hid hp
      clear hp hb4 hcs
      have hlk : k < l.length := by rw [HLL.out]; exact hlt
      cases hf : fitB x y with
      | false =>
        have HNF := Lib.hid hf
        have hcb : catB l = false := by
          have h3 := fitsB_snoc l k hlk
          rw [← HP.out, HNF.out, Bool.and_false] at h3
          rw [catB, fitsB_part l (k + 1) h3, Bool.and_false]
        have HCB := Lib.hid hcb
        clear hf hcb
        go_wp2_with (go_at_call 82; (with_reducible refine (put_no x y _ HB4.out.1 HB4.out.2.1 HNF.out).mono ?_); rintro e w2 ⟨rfl, rfl⟩)
        go_ret2
        exact catPost_no HCB.out (hB.alloc hB.size _)
      | true =>
        obtain ⟨N, K, rfl, rfl, h2, h3, h4⟩ := fit_nat HB4.out.1 hf
        obtain ⟨Z, hZ⟩ : ∃ Z, putL N K = Z := ⟨_, rfl⟩
        have hZl : Z.length = K := by rw [← hZ]; exact putL_length N K
        have hZo : ∀ j, 0 ≤ Z.getD j 0 ∧ Z.getD j 0 < 256 := by rw [← hZ]; exact ok_map _ (fun i => putAt_ok N K i) K
        have hnext : catL (toN (l.take (k + 1))) = catL (toN (l.take k)) ++ Z := by
          rw [catL_snoc l k hlk, ← HP.out, ← hZ]
          rfl
        have hfit2 : fitsB (l.take (k + 1)) = true := by
          rw [fitsB_snoc l k hlk, HF.out, ← HP.out, hf]
          rfl
        obtain ⟨L, hL⟩ : ∃ L, L = catL (toN (l.take k)) := ⟨_, rfl⟩
        have hLs : L.length ≤ 320 := by
          have := catL_small (l.take k) HF.out
          rw [List.length_take] at this
          rw [hL]
          omega
        rw [← hL] at hown hnext
        have HZ := Lib.hid hZ
        have HZL := Lib.hid hZl
        have HZO := Lib.hid hZo
        have H4 := Lib.hid h4
        have HNX := Lib.hid hnext
        have HF2 := Lib.hid hfit2
        clear hZ hZl hZo h4 hnext hfit2 hL hf hlk
        go_wp2_with (first
          | (go_at_call 82; (with_reducible refine (put_yes N K _ h2 h3 H4.out).mono ?_); rintro e w2 ⟨rfl, hX2, hb2⟩
             obtain ⟨hb3, _, _⟩ := after_one hb2
             have hB2 := then_below hB hb3
             have hown2 := hown.below hb3
             rw [HZ.out] at hX2
             have hX2 := at_next hX2
             clear hb2 hb3)
          | (at_builtin
             refine wpList_append_b rfl _ _ rfl w.heap.size u4 L rfl hown2 _ K K Z rfl (hX2.bts HZL.out (by unfold maxLen; omega) HZO.out) (by omega) hB2.size ?_
             intro v5 w5 hown5 hg5
             have hB5 : Below w.heap.size w w5 := hB2.grown hg5 hB2.size (fun k hk => (hown2.size k hk).1)
             rw [← HNX.out] at hown5
             clear hg5))
        go_roundw
        case rel => exact ⟨k + 1, by omega, by go_num, HF2.out, hown5, hB5⟩
        case measure => simp [intOf]; omega
    · have hkn : k = n := by omega
      have htk : l.take k = l := by rw [hkn, ← HLL.out, List.take_length]
      rw [htk] at hown
      have hcb : catB l = true := by
        have h3 := HF.out
        rw [htk] at h3
        rw [catB, h3, HLL.out, decide_eq_true h]
        rfl
      have HCB := Lib.hid hcb
      have HO := Lib.hid hown
      clear hcb hown htk hkn
      go_wp2
      go_ret2
      exact catPost_yes HCB.out HO.out hB
theorem cat_any (A : Option Addr) (n c : Nat) (l : List (Int × Int)) (w : World) (hl : Nms w A n c l) :
    Calls Tryz.prog 67 #[.slice A n c] w fun e w' => CatPost l w e w' := by
  by_cases h : 40 < n
  · exact cat_long A n c l w hl h
  · exact cat_short A n c l w hl (by omega)
end Go.Proofs.YtafmompplcaadaaGreatDoor

/- The walks over package num's together and Cut: the numbers that bytes are cut into. -/
namespace Go.Proofs.YtafmompplcaadaaGreatDoor
set_option linter.unusedVariables false
set_option linter.unusedSimpArgs false
open Go.RowKit

/-- may sizes stand in a row? -/
def sizesB (l : List Int) : Bool := l.all sizeB
def togB (l : List Int) : Bool := decide (l.length ≤ 40) && sizesB l
theorem sizesB_snoc (l : List Int) (k : Nat) (h : k < l.length) : sizesB (l.take (k + 1)) = (sizesB (l.take k) && sizeB (l.getD k 0)) := by
  rw [sizesB, sizesB, List.take_succ_eq_append_getElem h, List.all_append]
  simp [List.getD_eq_getElem?_getD, h]
theorem sizesB_part (l : List Int) (k : Nat) (h : sizesB (l.take k) = false) : sizesB l = false := by
  have e : l = l.take k ++ l.drop k := (List.take_append_drop k l).symm
  rw [e, sizesB, List.all_append]
  rw [sizesB] at h
  rw [h, Bool.false_and]
theorem sum_snoc (l : List Int) (k : Nat) (h : k < l.length) : (l.take (k + 1)).sum = (l.take k).sum + l.getD k 0 := by
  rw [List.take_succ_eq_append_getElem h, List.sum_append]
  simp [List.getD_eq_getElem?_getD, h]
theorem sum_range (l : List Int) (h : sizesB l = true) : 0 ≤ l.sum ∧ l.sum ≤ 8 * l.length := by
  induction l with
  | nil => simp
  | cons x l ih =>
    rw [sizesB, List.all_cons, Bool.and_eq_true] at h
    have h2 := h.1
    unfold sizeB at h2
    rw [decide_eq_true_eq] at h2
    have := ih h.2
    rw [List.sum_cons, List.length_cons]
    omega
theorem ret_two {a b : Int} (h : a = b) (c : Bool) : Ending.returned (.tuple #[.int .i64 a, .bool c]) = .returned (.tuple #[.int .i64 b, .bool c]) := by rw [h]

theorem tog_long (A : Option Addr) (n c : Nat) (l : List Int) (w : World) (hl : Its .i64 w A n c l) (h : 40 < n) :
    Calls Tryz.prog 96 #[.slice A n c] w fun e w' => e = .returned (.tuple #[.int .i64 0, .bool false]) ∧ w = w' := by
  have hn := hl.small
  have h1 : (40 : Int) < n := by omega
  go_enter Tryz.func96, Tryz.ntmps96
  go_wp2
  go_ret2
  exact ⟨rfl, rfl⟩
/-- what together hands back -/
def TogPost (l : List Int) (w : World) (e : Ending) (w' : World) : Prop :=
  (togB l = true → e = .returned (.tuple #[.int .i64 l.sum, .bool true])) ∧ (togB l = false → e = .returned (.tuple #[.int .i64 0, .bool false])) ∧ w = w'
theorem togPost_yes {l : List Int} {w : World} {s : Int} (h : togB l = true) (hs : s = l.sum) : TogPost l w (.returned (.tuple #[.int .i64 s, .bool true])) w :=
  ⟨fun _ => ret_two hs _, fun h2 => by rw [h] at h2; exact Bool.noConfusion h2, rfl⟩
theorem togPost_no {l : List Int} {w : World} (h : togB l = false) : TogPost l w (.returned (.tuple #[.int .i64 0, .bool false])) w :=
  ⟨fun h2 => by rw [h] at h2; exact Bool.noConfusion h2, fun _ => rfl, rfl⟩
set_option maxHeartbeats 1000000 in
theorem tog_short (A : Option Addr) (n c : Nat) (l : List Int) (w : World) (hl : Its .i64 w A n c l) (h : n ≤ 40) :
    Calls Tryz.prog 96 #[.slice A n c] w fun e w' => TogPost l w e w' := by
  have h1 : (n : Int) ≤ 40 := by omega
  have HLL := Lib.hid hl.len
  go_enter Tryz.func96, Tryz.ntmps96
  go_wp2
  go_loop [4, 12] (fun s i => ∃ (k : Nat) (z : Int), k ≤ n ∧ i = .int .i64 k ∧ sizesB (l.take k) = true ∧ s = .int .i64 z ∧ z = (l.take k).sum) (fun _ i => n - (intOf i).toNat)
  case atStart => exact ⟨0, 0, Nat.zero_le _, rfl, rfl, rfl, rfl⟩
  case round =>
    obtain ⟨k, z, hk, rfl, hfit, rfl, hz⟩ := hrel
    have hr := sum_range (l.take k) hfit
    rw [← hz, List.length_take, HLL.out] at hr
    obtain ⟨hr0, hr1⟩ := hr
    have hr2 : z ≤ 320 := by omega
    have HF := Lib.hid hfit
    have HZ := Lib.hid hz
    clear hfit hz hr1
    by_cases hlt : k < n
    · obtain ⟨b, off, rfl, hcs⟩ := hl.at_ (by omega)
      have hc0 := hcs k hlt
      obtain ⟨x, hx⟩ : ∃ x, x = l.getD k 0 := ⟨_, rfl⟩
      rw [← hx] at hc0
      have hlk : k < l.length := by rw [HLL.out]; exact hlt
      have HX := Lib.hid hx
      clear hx hcs
      by_cases hs : 1 ≤ x ∧ x ≤ 8
      · obtain ⟨hs1, hs2⟩ := hs
        have hfit2 : sizesB (l.take (k + 1)) = true := by
          rw [sizesB_snoc l k hlk, HF.out, ← HX.out]
          unfold sizeB; simp; omega
        have hsum : z + x = (l.take (k + 1)).sum := by rw [sum_snoc l k hlk, ← HX.out, HZ.out]
        have HF2 := Lib.hid hfit2
        have HS := Lib.hid hsum
        clear hfit2 hsum hlk
        go_wp2_with (go_at_call 102; refine (size_yes _ _ (by omega) (by omega)).mono ?_; rintro e w1 ⟨rfl, rfl⟩)
        go_round
        case rel => exact ⟨k + 1, z + x, by omega, by go_num, HF2.out, rfl, HS.out⟩
        case measure => simp [intOf]; omega
      · have hs1 : x < 1 ∨ 8 < x := by omega
        have hcb : togB l = false := by
          have h3 := sizesB_snoc l k hlk
          have h4 : sizeB (l.getD k 0) = false := by rw [← HX.out]; unfold sizeB; simp; omega
          rw [h4, Bool.and_false] at h3
          rw [togB, sizesB_part l (k + 1) h3, Bool.and_false]
        have HCB := Lib.hid hcb
        clear hcb hlk hs
        go_wp2_with (go_at_call 102; refine (size_no _ _ hs1).mono ?_; rintro e w1 ⟨rfl, rfl⟩)
        go_ret2
        exact togPost_no HCB.out
    · have hkn : k = n := by omega
      have htk : l.take k = l := by rw [hkn, ← HLL.out, List.take_length]
      have hcb : togB l = true := by
        have h3 := HF.out
        rw [htk] at h3
        rw [togB, h3, HLL.out, decide_eq_true h]
        rfl
      have hsum : z = l.sum := by rw [HZ.out, htk]
      have HCB := Lib.hid hcb
      have HS := Lib.hid hsum
      clear hcb htk hkn hsum
      go_wp2
      go_ret2
      exact togPost_yes HCB.out HS.out
theorem tog_any (A : Option Addr) (n c : Nat) (l : List Int) (w : World) (hl : Its .i64 w A n c l) :
    Calls Tryz.prog 96 #[.slice A n c] w fun e w' => TogPost l w e w' := by
  by_cases h : 40 < n
  · refine (tog_long A n c l w hl h).mono fun e w' ⟨he, hw⟩ => ?_
    subst he hw
    exact togPost_no (by rw [togB, hl.len, decide_eq_false (by omega), Bool.false_and])
  · exact tog_short A n c l w hl (by omega)
/-- numbers as they lie in cells -/
def ints (l : List Nat) : List Int := l.map Int.ofNat
theorem ints_length (l : List Nat) : (ints l).length = l.length := by simp [ints]
theorem ints_append (l m : List Nat) : ints (l ++ m) = ints l ++ ints m := by simp [ints]
theorem ints_get (l : List Nat) (k : Nat) (h : k < l.length) : (ints l).getD k 0 = ((l.getD k 0 : Nat) : Int) := by
  simp [ints, List.getD_eq_getElem?_getD, h]
theorem ints_sum (l : List Nat) : (ints l).sum = (l.sum : Nat) := by
  induction l with
  | nil => rfl
  | cons x l ih =>
    have : ints (x :: l) = (x : Int) :: ints l := rfl
    rw [this, List.sum_cons, ih, List.sum_cons]
    omega
def okSizes (ks : List Nat) : Prop := ∀ k ∈ ks, 1 ≤ k ∧ k ≤ 8
/-- sizes that may stand in a row -/
theorem tog_nat {l : List Int} (h : togB l = true) : ∃ ks : List Nat, l = ints ks ∧ okSizes ks ∧ ks.length ≤ 40 := by
  rw [togB, Bool.and_eq_true, decide_eq_true_eq] at h
  obtain ⟨h1, h2⟩ := h
  rw [sizesB, List.all_eq_true] at h2
  have hs : ∀ x ∈ l, 1 ≤ x ∧ x ≤ 8 := fun x hx => by
    have := h2 x hx
    unfold sizeB at this
    simpa using this
  refine ⟨l.map Int.toNat, ?_, ?_, by simpa using h1⟩
  · rw [ints, List.map_map]
    have : l.map (Int.ofNat ∘ Int.toNat) = l.map id := List.map_congr_left fun x hx => by
      have := hs x hx
      simp only [Function.comp, id]
      exact Int.toNat_of_nonneg (by omega)
    rw [this, List.map_id]
  · intro k hk
    obtain ⟨x, hx, rfl⟩ := List.mem_map.1 hk
    have := hs x hx
    omega
/-- the number at place k of what is cut -/
theorem cutL_get (ks : List Nat) (b : List Int) (k : Nat) (h : k < ks.length) : (cutL ks b)[k]? = some (numL ((b.drop (ks.take k).sum).take (ks.getD k 0))) := by
  induction ks generalizing b k with
  | nil => simp at h
  | cons x ks ih =>
    cases k with
    | zero => simp [cutL]
    | succ k =>
      rw [cutL, List.getElem?_cons_succ, ih (b.drop x) k (by simpa using h)]
      rw [List.take_succ_cons, List.sum_cons, List.drop_drop]
      simp
theorem cutL_snoc (ks : List Nat) (b : List Int) (k : Nat) (h : k < ks.length) : (cutL ks b).take (k + 1) = (cutL ks b).take k ++ [numL ((b.drop (ks.take k).sum).take (ks.getD k 0))] := by
  have hl : k < (cutL ks b).length := by rw [cutL_length]; exact h
  have := cutL_get ks b k h
  rw [List.getElem?_eq_getElem hl, Option.some.injEq] at this
  rw [List.take_succ_eq_append_getElem hl, this]
theorem sumN_snoc (ks : List Nat) (k : Nat) (h : k < ks.length) : (ks.take (k + 1)).sum = (ks.take k).sum + ks.getD k 0 := by
  rw [List.take_succ_eq_append_getElem h, List.sum_append]
  simp [List.getD_eq_getElem?_getD, h]
theorem sumN_le (ks : List Nat) (k : Nat) : (ks.take k).sum ≤ ks.sum := by
  have e : ks.sum = (ks.take k).sum + (ks.drop k).sum := by rw [← List.sum_append, List.take_append_drop]
  omega

/-- may these bytes be cut so? -/
def cutB (l : List Int) (n : Nat) : Bool := togB l && decide (l.sum = n)
set_option maxHeartbeats 1000000 in
theorem cut_no (A D : Option Addr) (n c m d : Nat) (b l : List Int) (w : World) (hb : Bts w A n c b) (hl : Its .i64 w D m d l) (h : cutB l n = false) :
    Calls Tryz.prog 85 #[.slice A n c, .slice D m d] w fun e w' => e = .returned (.tuple #[.slice none 0 0, .bool false]) ∧ w = w' := by
  have hn := hb.small
  have hm := hl.small
  cases ht : togB l with
  | false =>
    have HT := Lib.hid ht
    clear ht h
    go_enter Tryz.func85, Tryz.ntmps85
    go_wp2_with (go_at_call 96; (with_reducible refine (tog_any D m d l _ hl).mono ?_); rintro e w1 ⟨_, hw1, rfl⟩
                 have he := hw1 HT.out
                 subst he)
    go_ret2
    exact ⟨rfl, rfl⟩
  | true =>
    have hne : l.sum ≠ (n : Int) := by
      rw [cutB, ht, Bool.true_and, decide_eq_false_iff_not] at h
      exact h
    obtain ⟨s, hs⟩ : ∃ s, l.sum = s := ⟨_, rfl⟩
    rw [hs] at hne
    have hne2 : (s != (n : Int)) = true := by rw [bne_iff_ne]; exact hne
    have HT := Lib.hid ht
    have HS := Lib.hid hs
    clear ht h hne hs
    go_enter Tryz.func85, Tryz.ntmps85
    go_wp2_with (go_at_call 96; (with_reducible refine (tog_any D m d l _ hl).mono ?_); rintro e w1 ⟨hw1, _, rfl⟩
                 have he := hw1 HT.out
                 rw [HS.out] at he
                 subst he)
    go_ret2
    exact ⟨rfl, rfl⟩

set_option maxHeartbeats 2000000 in
theorem cut_yes (A D : Option Addr) (n c m d : Nat) (b : List Int) (ks : List Nat) (w : World) (hb : Bts w A n c b) (hl : Its .i64 w D m d (ints ks)) (hk : okSizes ks) (hk40 : ks.length ≤ 40) (hsum : ks.sum = n) :
    Calls Tryz.prog 85 #[.slice A n c, .slice D m d] w fun e w' => ∃ v, e = .returned (.tuple #[v, .bool true]) ∧ OwnI .u64 30 w' w.heap.size v (ints (cutL ks b)) ∧ Below w.heap.size w w' := by
  have hn := hb.small
  have hm := hl.small
  have hks : ks.length = m := by have := hl.len; rwa [ints_length] at this
  have hm40 : (m : Int) ≤ 40 := by omega
  have htog : togB (ints ks) = true := by
    rw [togB, ints_length, decide_eq_true hk40, Bool.true_and, sizesB, List.all_eq_true]
    intro x hx
    obtain ⟨k, hk1, rfl⟩ := List.mem_map.1 hx
    have := hk k hk1
    unfold sizeB
    simp
    omega
  have hs : (ints ks).sum = (n : Int) := by rw [ints_sum, hsum]
  have hne : ((n : Int) != (n : Int)) = false := by simp
  have HT := Lib.hid htog
  have HS := Lib.hid hs
  have HKS := Lib.hid hks
  have HSUM := Lib.hid hsum
  have HK := Lib.hid hk
  clear htog hs hks hsum hk
  go_enter Tryz.func85, Tryz.ntmps85
  go_wp2_with (first
    | (go_at_call 96; (with_reducible refine (tog_any D m d (ints ks) _ hl).mono ?_); rintro e w1 ⟨hw1, _, rfl⟩
       have he := hw1 HT.out
       rw [HS.out] at he
       subst he)
    | (at_make
       refine wpList_make_i rfl 102 30 .u64 8 _ _ rfl Tryz.underlying102 (by kernel_rfl) (by omega) w.heap.size m m rfl rfl rfl (by omega) (Nat.le_refl _) ?_
       intro v2 w2 hown2 hg2
       have hB2 : Below w.heap.size w w2 := (Below.refl _ _).grown hg2 (Nat.le_refl _) (fun k hk => by cases hk)
       clear hg2))
  go_loopw [8, 9, 33] (fun v q i wr => ∃ (k a : Nat) (L : List Nat), k ≤ m ∧ i = .int .i64 k ∧ q = .int .i64 a ∧ a = (ks.take k).sum ∧ L = (cutL ks b).take k ∧ OwnI .u64 30 wr w.heap.size v (ints L) ∧ Below w.heap.size w wr) (fun _ _ i _ => m - (intOf i).toNat)
  case atStart => exact ⟨0, 0, [], Nat.zero_le _, rfl, rfl, rfl, rfl, hown2, hB2⟩
  case round =>
    clear hown2 hB2
    obtain ⟨k, a, L, hkm, rfl, rfl, ha, hL, hown, hB⟩ := hrel
    have HA := Lib.hid ha
    have HL := Lib.hid hL
    clear ha hL
    by_cases hlt : k < m
    · have hkk : k < ks.length := by rw [HKS.out]; exact hlt
      obtain ⟨bd, od, rfl, hcs⟩ := (hl.below hB).at_ (by omega)
      have hck := hcs k hlt
      rw [ints_get ks k hkk] at hck
      obtain ⟨K, hK⟩ : ∃ K, ks.getD k 0 = K := ⟨_, rfl⟩
      have hK18 : 1 ≤ K ∧ K ≤ 8 := by
        rw [← hK, List.getD_eq_getElem?_getD, List.getElem?_eq_getElem hkk]
        exact HK.out _ (List.getElem_mem hkk)
      obtain ⟨hK1, hK8⟩ := hK18
      have hak : a + K ≤ n := by
        have h1 := sumN_snoc ks k hkk
        have h2 := sumN_le ks (k + 1)
        rw [hK, ← HA.out] at h1
        rw [HSUM.out] at h2
        omega
      rw [hK] at hck
      obtain ⟨bb, off, rfl, _⟩ := hb.at_ (by omega)
      have hcut : ∀ w, (Instr.slice 22 (.slice (some ⟨bb, off, none⟩) n c) (some (.int .i64 a)) (some (.int .i64 ((a : Int) + K))) (some (.int .i64 ((a : Int) + K)))).run Tryz.prog w = .ok (.slice (some ⟨bb, off + a, none⟩) K K) w := fun w => by
        have := run_cut3 bb off n c a (a + K) (a + K) a ((a : Int) + K) ((a : Int) + K) rfl (by omega) (by omega) (by omega) (by omega) (by have := hb.le; omega) (by omega) w
        rw [show a + K - a = K by omega] at this
        exact this
      obtain ⟨x, hx⟩ : ∃ x, numL ((b.drop a).take K) = x := ⟨_, rfl⟩
      have hpc : Bts wr (some ⟨bb, off + a, none⟩) K K ((b.drop a).take K) := by
        have h3 := piece_bts (hb.below hB) hak hK1
        exact ⟨h3.len, Nat.le_refl _, by unfold maxLen; omega, h3.ok, (fun e => by cases e), h3.at_⟩
      have hx2 : numL ((((b.drop a).take K).drop 0).take K) = x := by
        rw [List.drop_zero, List.take_take, Nat.min_self, hx]
      have hL2 : L ++ [x] = (cutL ks b).take (k + 1) := by rw [cutL_snoc ks b k hkk, HL.out, ← HA.out, hK, hx]
      have ha2 : a + K = (ks.take (k + 1)).sum := by rw [sumN_snoc ks k hkk, hK, HA.out]
      have hLl : (ints L).length ≤ 40 := by
        rw [ints_length, HL.out, List.length_take]
        omega
      have HX2 := Lib.hid hx2
      have HL2 := Lib.hid hL2
      have HA2 := Lib.hid ha2
      have HPC := Lib.hid hpc
      clear hx hK hx2 hL2 ha2 hpc hcs hkk
      have hg0 : 0 ≤ (a : Int) + K := by omega
      go_wp2_with (first
        | (go_at_call 97; (with_reducible refine (get_at (some ⟨bb, off + a, none⟩) K K ((b.drop a).take K) 0 K 0 K wr rfl rfl HPC.out hK1 hK8 (by omega)).mono ?_); rintro e w6 ⟨he, rfl⟩
           rw [HX2.out, Nat.zero_add] at he
           subst he)
        | (at_builtin
           refine wpList_append_i rfl 102 30 .u64 8 _ _ rfl Tryz.underlying102 (by kernel_rfl) (by omega) w.heap.size u8 (ints L) rfl (hown.more _) _ 1 1 [(x : Int)] rfl (one_its .u64 30 _ (x : Int)) (by omega) (Nat.le_trans hB.size (size_le_alloc _ _)) ?_
           intro v5 w5 hown5 hg5
           have hB5 : Below w.heap.size w w5 := (hB.alloc hB.size _).grown hg5 (Nat.le_trans hB.size (size_le_alloc _ _)) (fun k hk => (hown.size k hk).1)
           have hown5 : OwnI .u64 30 w5 w.heap.size v5 (ints (L ++ [x])) := by rw [ints_append]; exact hown5
           clear hg5))
      go_roundw
      case rel => exact ⟨k + 1, a + K, L ++ [x], by omega, by go_num, by go_num, HA2.out, HL2.out, hown5, hB5⟩
      case measure => simp [intOf]; omega
    · have hkn : k = m := by omega
      have htk : L = cutL ks b := by
        have h5 := cutL_length ks b
        rw [HL.out, hkn, ← HKS.out, ← h5, List.take_length]
      rw [htk] at hown
      have HO := Lib.hid hown
      clear hown htk hkn
      go_wp2
      go_ret2
      exact ⟨_, rfl, HO.out, hB⟩
end Go.Proofs.YtafmompplcaadaaGreatDoor

/- The walks over the plain answers' Put and Get of numbers. -/
namespace Go.Proofs.YtafmompplcaadaaGreatDoor
set_option linter.unusedVariables false
set_option linter.unusedSimpArgs false
open Go.RowKit

theorem rput_out (n k : Int) (w : World) (h : k < 1 ∨ 8 < k) :
    Calls Tryz.prog 83 #[.int .u64 n, .int .i64 k] w fun e w' => e = .returned (.tuple #[.slice none 0 0, .bool false]) ∧ Below w.heap.size w w' := by
  by_cases h1 : k < 1
  · clear h
    go_enter Tryz.func83, Tryz.ntmps83
    go_wp2
    go_ret2
    exact ⟨rfl, Below.refl _ _⟩
  · have h2 : 1 ≤ k := by omega
    have h3 : 8 < k := by omega
    clear h h1
    go_enter Tryz.func83, Tryz.ntmps83
    go_wp2
    go_ret2
    exact ⟨rfl, Below.refl _ _⟩
def putV (N K g : Nat) : Value := if N < 256 ^ K then .tuple #[.slice (some ⟨g, 0, none⟩) K K, .bool true] else .tuple #[.slice none 0 0, .bool false]
theorem putV_yes {N K g : Nat} (h : N < 256 ^ K) : Ending.returned (.tuple #[.slice (some ⟨g, 0, none⟩) K K, .bool true]) = Ending.returned (putV N K g) := by rw [putV, if_pos h]
theorem putV_no {N K g : Nat} (h : ¬ N < 256 ^ K) : Ending.returned (.tuple #[.slice none 0 0, .bool false]) = Ending.returned (putV N K g) := by rw [putV, if_neg h]
set_option maxHeartbeats 1000000 in
theorem rput_any (N K : Nat) (w : World) (h1 : 1 ≤ K) (h2 : K ≤ 8) (h3 : N < 256 ^ 8) :
    Calls Tryz.prog 83 #[.int .u64 N, .int .i64 K] w fun e w' => e = .returned (putV N K w.heap.size) ∧ RowB w' w.heap.size 5 (putL N K) ∧ Below w.heap.size w w' := by
  have HN := Lib.hid h3
  clear h3
  go_enter Tryz.func83, Tryz.ntmps83
  go_wp2_with (at_make
               refine wpList_make_n rfl _ _ rfl K K K rfl rfl rfl rfl (by omega) ?_
               intro w1 hX1 hg1 hs1
               have hB1 : Below w.heap.size w w1 := (Below.refl _ _).grown hg1 (Nat.le_refl _) (fun k hk => by cases hk))
  go_loopw [0, 7] (fun n i wr => ∃ M x : Nat, M ≤ K ∧ n = .int .u64 x ∧ x = N / 256 ^ (K - M) ∧ i = .int .i64 ((M : Int) - 1) ∧ RowB wr w.heap.size 5 (fillBack N K (K - M)) ∧ Below w.heap.size w wr) (fun _ i _ => (intOf i + 1).toNat)
  case atStart => exact ⟨K, N, Nat.le_refl _, rfl, by simp, rfl, by rw [Nat.sub_self]; exact hX1, hB1⟩
  case round =>
    clear hX1 hg1 hs1 hB1
    obtain ⟨M, x, hM, rfl, hx, rfl, hX, hB⟩ := hrel
    have hxb : x < 256 ^ 8 := by rw [hx]; exact Nat.lt_of_le_of_lt (Nat.div_le_self _ _) HN.out
    have HX := Lib.hid hx
    clear hx
    rcases M with _ | m
    · rw [Nat.sub_zero, fillBack_all] at hX
      have hx0 : (x = 0) ↔ N < 256 ^ K := by
        rw [HX.out, Nat.sub_zero, Nat.div_eq_zero_iff]
        have := Nat.pow_pos (n := K) (show 0 < 256 by omega)
        omega
      by_cases hz : x = 0
      · have hlt := hx0.1 hz
        have hne : ((x : Int) != 0) = false := by subst hz; rfl
        have HLT := Lib.hid hlt
        clear hx0 hz hlt
        go_wp2
        go_ret2
        exact ⟨putV_yes HLT.out, hX, hB⟩
      · have hlt : ¬ N < 256 ^ K := fun h => hz (hx0.2 h)
        have hne : ((x : Int) != 0) = true := by rw [bne_iff_ne]; omega
        have HLT := Lib.hid hlt
        clear hx0 hz hlt
        go_wp2
        go_ret2
        exact ⟨putV_no HLT.out, hX, hB⟩
    · have e : (((m + 1 : Nat) : Int) - 1) = m := by omega
      rw [e]
      have hl : (fillBack N K (K - (m + 1))).length = K := fillBack_length _ _ _
      have hcell := hX.cell m (by omega)
      have hfr := hX.free m
      have hnext : fillBack N K (K - m) = (fillBack N K (K - (m + 1))).set m ((x : Int) % 256) := by
        rw [show K - m = (K - (m + 1)) + 1 by omega, fillBack, HX.out, show K - 1 - (K - (m + 1)) = m by omega]
        rfl
      have hx2 : x / 256 = N / 256 ^ (K - m) := by
        rw [HX.out, show K - m = (K - (m + 1)) + 1 by omega, Nat.div_div_eq_div_mul, Nat.pow_succ]
      have HP := Lib.hid (hX.put m ((x : Int) % 256))
      have HNX := Lib.hid hnext
      have HX2 := Lib.hid hx2
      have HBB := Lib.hid hB
      obtain ⟨c, hc⟩ : ∃ c, c = (fillBack N K (K - (m + 1))).getD m 0 := ⟨_, rfl⟩
      rw [← hc] at hcell
      clear hc e hl hnext hx2 hX hB
      go_wp2
      go_roundw
      case rel =>
        exact ⟨m, x / 256, by omega, by go_num, HX2.out, rfl, by rw [HNX.out]; exact HP.out, HBB.out.setCell (p := ⟨_, m, none⟩) (Nat.le_refl _) _⟩
      case measure => simp [intOf]

set_option maxHeartbeats 1000000 in
theorem rget_no (A : Option Addr) (n c : Nat) (l : List Int) (at_ k : Int) (w : World) (hb : Bts w A n c l) (ha0 : -9223372036854775808 ≤ at_) (ha1 : at_ ≤ 9223372036854775807) (h : mayGet n at_ k = false) :
    Calls Tryz.prog 87 #[.slice A n c, .int .i64 at_, .int .i64 k] w fun e w' => e = .returned (.tuple #[.int .u64 0, .int .i64 (-1)]) ∧ w = w' := by
  have hn := hb.small
  have h' : ¬ (1 ≤ k ∧ k ≤ 8 ∧ 0 ≤ at_ ∧ at_ + k ≤ n) := by
    unfold mayGet at h; simpa using h
  clear h
  by_cases h1 : k < 1
  · clear h'
    go_enter Tryz.func87, Tryz.ntmps87
    go_wp2
    go_ret2
    exact ⟨rfl, rfl⟩
  · by_cases h2 : 8 < k
    · have h1' : 1 ≤ k := by omega
      clear h' h1
      go_enter Tryz.func87, Tryz.ntmps87
      go_wp2
      go_ret2
      exact ⟨rfl, rfl⟩
    · have h1' : 1 ≤ k := by omega
      have h2' : k ≤ 8 := by omega
      by_cases h3 : at_ < 0
      · clear h' h1 h2
        go_enter Tryz.func87, Tryz.ntmps87
        go_wp2
        go_ret2
        exact ⟨rfl, rfl⟩
      · have h3' : 0 ≤ at_ := by omega
        by_cases h4 : (n : Int) < at_
        · clear h' h1 h2 h3
          go_enter Tryz.func87, Tryz.ntmps87
          go_wp2
          go_ret2
          exact ⟨rfl, rfl⟩
        · have h4' : at_ ≤ (n : Int) := by omega
          have h5 : n - at_ < k := by omega
          clear h' h1 h2 h3 h4
          go_enter Tryz.func87, Tryz.ntmps87
          go_wp2
          go_ret2
          exact ⟨rfl, rfl⟩

theorem mulStep (y : Nat) (z : Int) (hy : y < 256 ^ 7) (h0 : 0 ≤ z) (h1 : z < 256) : IntKind.u64.wrap (IntKind.u64.wrap (256 * (y : Int)) + z) = ((256 * y + z.toNat : Nat) : Int) := by
  rw [IntKind.wrap_u64, IntKind.wrap_u64]
  omega
set_option maxHeartbeats 1000000 in
theorem rget_yes (A : Option Addr) (n c : Nat) (l : List Int) (at_ k : Nat) (w : World) (hb : Bts w A n c l) (h1 : 1 ≤ k) (h2 : k ≤ 8) (h3 : at_ + k ≤ n) :
    Calls Tryz.prog 87 #[.slice A n c, .int .i64 at_, .int .i64 k] w fun e w' => e = .returned (.tuple #[.int .u64 (numL ((l.drop at_).take k)), .int .i64 ((at_ + k : Nat) : Int)]) ∧ w = w' := by
  have hn := hb.small
  obtain ⟨b, off, rfl, hc⟩ := hb.at_ (by omega)
  have h4 : (at_ : Int) + k ≤ n := by omega
  have HC := Lib.hid hc
  have HO := Lib.hid hb.ok
  have HL := Lib.hid hb.len
  clear hc hb
  go_enter Tryz.func87, Tryz.ntmps87
  go_wp2
  go_loop [8, 9] (fun v i => ∃ j y : Nat, j ≤ k ∧ v = .int .u64 y ∧ y = numL ((l.drop at_).take j) ∧ i = .int .i64 ((at_ + j : Nat) : Int)) (fun _ i => at_ + k - (intOf i).toNat)
  case atStart => exact ⟨0, 0, by omega, rfl, by simp [numL, numOf], rfl⟩
  case round =>
    obtain ⟨j, y, hj, rfl, hy, rfl⟩ := hrel
    by_cases hlt : j < k
    · have hcj := HC.out (at_ + j) (by omega)
      obtain ⟨z, hz⟩ : ∃ z, z = l.getD (at_ + j) 0 := ⟨_, rfl⟩
      rw [← hz] at hcj
      obtain ⟨hz0, hz1⟩ := HO.out (at_ + j)
      rw [← hz] at hz0 hz1
      have hy8 : y < 256 ^ 7 := by
        have hb := numL_bound ((l.drop at_).take j) (fun x hx => mem_ok HO.out x (List.mem_of_mem_drop (List.mem_of_mem_take hx)))
        rw [← hy] at hb
        refine Nat.lt_of_lt_of_le hb (Nat.pow_le_pow_right (by omega) ?_)
        rw [List.length_take]
        omega
      have hst := mulStep y z hy8 hz0 hz1
      have hnx : 256 * y + z.toNat = numL ((l.drop at_).take (j + 1)) := by
        rw [num_next l at_ j (by rw [HL.out]; omega), hy, hz]
      have HST := Lib.hid hst
      have HNX := Lib.hid hnx
      clear hy hz hy8 hst hnx
      go_wp2
      go_round
      case rel => exact ⟨j + 1, 256 * y + z.toNat, by omega, by rw [HST.out], HNX.out, by go_num⟩
      case measure => simp [intOf]; omega
    · obtain rfl : j = k := by omega
      have HY := Lib.hid hy
      clear hy
      go_wp2
      go_ret2
      rw [← HY.out]
      exact ⟨rfl, rfl⟩
end Go.Proofs.YtafmompplcaadaaGreatDoor

/- The walk over the plain answers' Cat of numbers. -/
namespace Go.Proofs.YtafmompplcaadaaGreatDoor
set_option linter.unusedVariables false
set_option linter.unusedSimpArgs false
open Go.RowKit

theorem rput_yes (N K : Nat) (w : World) (h1 : 1 ≤ K) (h2 : K ≤ 8) (h3 : N < 256 ^ K) :
    Calls Tryz.prog 83 #[.int .u64 N, .int .i64 K] w fun e w' => e = .returned (.tuple #[.slice (some ⟨w.heap.size, 0, none⟩) K K, .bool true]) ∧ RowB w' w.heap.size 5 (putL N K) ∧ Below w.heap.size w w' :=
  (rput_any N K w h1 h2 (Nat.lt_of_lt_of_le h3 (Nat.pow_le_pow_right (by omega) h2))).mono fun e w' ⟨he, hX, hB⟩ => ⟨by rw [he, putV, if_pos h3], hX, hB⟩
theorem rput_no (n k : Int) (w : World) (h0 : 0 ≤ n) (h1 : n < 18446744073709551616) (h : fitB n k = false) :
    Calls Tryz.prog 83 #[.int .u64 n, .int .i64 k] w fun e w' => e = .returned (.tuple #[.slice none 0 0, .bool false]) ∧ Below w.heap.size w w' := by
  by_cases hk : k < 1 ∨ 8 < k
  · exact rput_out n k w hk
  · obtain ⟨N, rfl⟩ := Int.eq_ofNat_of_zero_le h0
    obtain ⟨K, rfl⟩ := Int.eq_ofNat_of_zero_le (show 0 ≤ k by omega)
    have h3 : ¬ N < 256 ^ K := fun h2 => by
      rw [fit_of N K (by omega) (by omega) h2] at h
      exact Bool.noConfusion h
    exact (rput_any N K w (by omega) (by omega) (by omega)).mono fun e w' ⟨he, _, hB⟩ => ⟨by rw [he, putV, if_neg h3], hB⟩

theorem rcat_long (A : Option Addr) (n c : Nat) (l : List (Int × Int)) (w : World) (hl : Nms w A n c l) (h : 40 < n) :
    Calls Tryz.prog 71 #[.slice A n c] w fun e w' => CatPost l w e w' := by
  have hn := hl.rws.small
  have h1 : (40 : Int) < n := by omega
  have h2 : catB l = false := by rw [catB, hl.len, decide_eq_false (by omega), Bool.false_and]
  have H2 := Lib.hid h2
  clear h2
  go_enter Tryz.func71, Tryz.ntmps71
  go_wp2
  go_ret2
  exact catPost_no H2.out (Below.refl _ _)
set_option maxHeartbeats 2000000 in
theorem rcat_short (A : Option Addr) (n c : Nat) (l : List (Int × Int)) (w : World) (hl : Nms w A n c l) (h : n ≤ 40) :
    Calls Tryz.prog 71 #[.slice A n c] w fun e w' => CatPost l w e w' := by
  have h1 : (n : Int) ≤ 40 := by omega
  have hll : l.length = n := hl.len
  have HLL := Lib.hid hll
  clear hll
  go_enter Tryz.func71, Tryz.ntmps71
  go_wp2
  go_loopw [4, 5] (fun v i wr => ∃ k : Nat, k ≤ n ∧ i = .int .i64 k ∧ fitsB (l.take k) = true ∧ Own wr w.heap.size v (catL (toN (l.take k))) ∧ Below w.heap.size w wr) (fun _ i _ => n - (intOf i).toNat)
  case atStart => exact ⟨0, Nat.zero_le _, rfl, rfl, Own.nil _ _, Below.refl _ _⟩
  case round =>
    obtain ⟨k, hk, rfl, hfit, hown, hB⟩ := hrel
    have HF := Lib.hid hfit
    clear hfit
    by_cases hlt : k < n
    · obtain ⟨b, off, rfl, hcs⟩ := (hl.below hB).cells (by omega)
      obtain ⟨hc0, hc1⟩ := hcs k hlt
      obtain ⟨p, hp⟩ : ∃ p, p = l.getD k (0, 0) := ⟨_, rfl⟩
      rw [← hp] at hc0 hc1
      obtain ⟨x, y⟩ := p
      simp only at hc0 hc1
      have hb4 := hl.at_ k hlt
      rw [← hp] at hb4
      simp only at hb4
      have HB4 := Lib.hid hb4
      have HP := Lib.hid hp
      clear hp hb4 hcs
      have hlk : k < l.length := by rw [HLL.out]; exact hlt
      have hlk0 : (0 : Int) ≤ k := by omega
      have hlk1 : (k : Int) < n := by omega
      have hd0 : wr.drew.cell? ⟨b, off + k * 2, none⟩ = some (.int .u64 x) := hc0
      have hd1 : wr.drew.cell? ⟨b, off + k * 2 + 1, none⟩ = some (.int .i64 y) := hc1
      cases hf : fitB x y with
      | false =>
        have HNF := Lib.hid hf
        have hcb : catB l = false := by
          have h3 := fitsB_snoc l k hlk
          rw [← HP.out, HNF.out, Bool.and_false] at h3
          rw [catB, fitsB_part l (k + 1) h3, Bool.and_false]
        have HCB := Lib.hid hcb
        clear hf hcb
        go_wp2
        go_region_held3 (fun w' => w'.cell? ⟨b, off + k * 2, none⟩ = some (.int .u64 x) ∧ w'.cell? ⟨b, off + k * 2 + 1, none⟩ = some (.int .i64 y)) (first | with_reducible exact ⟨hd0, hd1⟩ | with_reducible exact ⟨k0, k1⟩)
          ((go_at_call 83; (with_reducible refine (rput_no x y _ HB4.out.1 HB4.out.2.1 HNF.out).mono ?_); rintro e w2 ⟨rfl, hb2⟩
            have hS2 := below_draw hb2
            have k0 := (hS2.cell (p := ⟨b, off + k * 2, none⟩) (block_lt_of_cell hc0)).trans hc0
            have k1 := (hS2.cell (p := ⟨b, off + k * 2 + 1, none⟩) (block_lt_of_cell hc1)).trans hc1
            clear hb2))
        clear k0 k1 hd0 hd1 hc0 hc1
        go_wp2
        go_ret2
        exact catPost_no HCB.out (then_below hB hS2)
      | true =>
        obtain ⟨N, K, rfl, rfl, h2, h3, h4⟩ := fit_nat HB4.out.1 hf
        obtain ⟨Z, hZ⟩ : ∃ Z, putL N K = Z := ⟨_, rfl⟩
        have hZl : Z.length = K := by rw [← hZ]; exact putL_length N K
        have hZo : ∀ j, 0 ≤ Z.getD j 0 ∧ Z.getD j 0 < 256 := by rw [← hZ]; exact ok_map _ (fun i => putAt_ok N K i) K
        have hnext : catL (toN (l.take (k + 1))) = catL (toN (l.take k)) ++ Z := by
          rw [catL_snoc l k hlk, ← HP.out, ← hZ]
          rfl
        have hfit2 : fitsB (l.take (k + 1)) = true := by
          rw [fitsB_snoc l k hlk, HF.out, ← HP.out, hf]
          rfl
        obtain ⟨L, hL⟩ : ∃ L, L = catL (toN (l.take k)) := ⟨_, rfl⟩
        have hLs : L.length ≤ 320 := by
          have := catL_small (l.take k) HF.out
          rw [List.length_take] at this
          rw [hL]
          omega
        rw [← hL] at hown hnext
        have HZ := Lib.hid hZ
        have HZL := Lib.hid hZl
        have HZO := Lib.hid hZo
        have H4 := Lib.hid h4
        have HNX := Lib.hid hnext
        have HF2 := Lib.hid hfit2
        clear hZ hZl hZo h4 hnext hfit2 hL hf hlk
        go_wp2
        go_region_held3 (fun w' => w'.cell? ⟨b, off + k * 2, none⟩ = some (.int .u64 N) ∧ w'.cell? ⟨b, off + k * 2 + 1, none⟩ = some (.int .i64 K)) (first | with_reducible exact ⟨hd0, hd1⟩ | with_reducible exact ⟨k0, k1⟩)
          ((go_at_call 83; (with_reducible refine (rput_yes N K _ h2 h3 H4.out).mono ?_); rintro e w2 ⟨rfl, hX2, hb2⟩
            have hS2 := below_draw hb2
            have hX2 : RowB w2 wr.heap.size 5 (putL N K) := hX2
            have k0 := (hS2.cell (p := ⟨b, off + k * 2, none⟩) (block_lt_of_cell hc0)).trans hc0
            have k1 := (hS2.cell (p := ⟨b, off + k * 2 + 1, none⟩) (block_lt_of_cell hc1)).trans hc1
            clear hb2))
        clear k0 k1 hd0 hd1 hc0 hc1
        rw [HZ.out] at hX2
        have hB2 := then_below hB hS2
        have hown2 := hown.below hS2
        go_wp2_with (first
          | (at_builtin
             refine wpList_append_b rfl _ _ rfl w.heap.size u4 L rfl hown2 _ K K Z rfl (hX2.bts HZL.out (by unfold maxLen; omega) HZO.out) (by omega) hB2.size ?_
             intro v5 w5 hown5 hg5
             have hB5 : Below w.heap.size w w5 := hB2.grown hg5 hB2.size (fun k hk => (hown2.size k hk).1)
             rw [← HNX.out] at hown5
             clear hg5))
        go_roundw
        case rel => exact ⟨k + 1, by omega, by go_num, HF2.out, hown5, hB5⟩
        case measure => simp [intOf]; omega
    · have hkn : k = n := by omega
      have htk : l.take k = l := by rw [hkn, ← HLL.out, List.take_length]
      rw [htk] at hown
      have hcb : catB l = true := by
        have h3 := HF.out
        rw [htk] at h3
        rw [catB, h3, HLL.out, decide_eq_true h]
        rfl
      have HCB := Lib.hid hcb
      have HO := Lib.hid hown
      clear hcb hown htk hkn
      go_wp2
      go_ret2
      exact catPost_yes HCB.out HO.out hB
theorem rcat_any (A : Option Addr) (n c : Nat) (l : List (Int × Int)) (w : World) (hl : Nms w A n c l) :
    Calls Tryz.prog 71 #[.slice A n c] w fun e w' => CatPost l w e w' := by
  by_cases h : 40 < n
  · exact rcat_long A n c l w hl h
  · exact rcat_short A n c l w hl (by omega)
end Go.Proofs.YtafmompplcaadaaGreatDoor

/- The walks over the plain answers' Cut and Nums. -/
namespace Go.Proofs.YtafmompplcaadaaGreatDoor
set_option linter.unusedVariables false
set_option linter.unusedSimpArgs false
open Go.RowKit

set_option maxHeartbeats 2000000 in
theorem rcut_no (A D : Option Addr) (n c m d : Nat) (b l : List Int) (w : World) (hb : Bts w A n c b) (hl : Its .i64 w D m d l) (h : cutB l n = false) :
    Calls Tryz.prog 74 #[.slice A n c, .slice D m d] w fun e w' => e = .returned (.tuple #[.slice none 0 0, .bool false]) ∧ w = w' := by
  have hn := hb.small
  have hm := hl.small
  have HLL := Lib.hid hl.len
  have HC := Lib.hid h
  clear h
  go_enter Tryz.func74, Tryz.ntmps74
  go_wp2
  go_loop [6, 7] (fun s i => ∃ (k : Nat) (z : Int), k ≤ m ∧ k ≤ 40 ∧ i = .int .i64 k ∧ sizesB (l.take k) = true ∧ s = .int .i64 z ∧ z = (l.take k).sum) (fun _ i => m - (intOf i).toNat)
  case atStart => exact ⟨0, 0, Nat.zero_le _, Nat.zero_le _, rfl, rfl, rfl, rfl⟩
  case round =>
    obtain ⟨k, z, hk, hk40, rfl, hfit, rfl, hz⟩ := hrel
    have hr := sum_range (l.take k) hfit
    rw [← hz, List.length_take, HLL.out] at hr
    obtain ⟨hr0, hr1⟩ := hr
    have hr2 : z ≤ 320 := by omega
    have HF := Lib.hid hfit
    have HZ := Lib.hid hz
    clear hfit hz hr1
    by_cases hlt : k < m
    · obtain ⟨bb, off, rfl, hcs⟩ := hl.at_ (by omega)
      have hc0 := hcs k hlt
      obtain ⟨x, hx⟩ : ∃ x, x = l.getD k 0 := ⟨_, rfl⟩
      rw [← hx] at hc0
      have hlk : k < l.length := by rw [HLL.out]; exact hlt
      have HX := Lib.hid hx
      clear hx hcs
      by_cases hs1 : x < 1
      · go_wp2
        go_ret2
        exact ⟨rfl, rfl⟩
      · by_cases hs2 : 8 < x
        · have hs1' : 1 ≤ x := by omega
          go_wp2
          go_ret2
          exact ⟨rfl, rfl⟩
        · have hs1' : 1 ≤ x := by omega
          have hs2' : x ≤ 8 := by omega
          by_cases h40 : 40 ≤ k
          · have h40' : (40 : Int) ≤ k := by omega
            go_wp2
            go_ret2
            exact ⟨rfl, rfl⟩
          · have h40' : (k : Int) < 40 := by omega
            have hfit2 : sizesB (l.take (k + 1)) = true := by
              rw [sizesB_snoc l k hlk, HF.out, ← HX.out]
              unfold sizeB; simp; omega
            have hsum : z + x = (l.take (k + 1)).sum := by rw [sum_snoc l k hlk, ← HX.out, HZ.out]
            have HF2 := Lib.hid hfit2
            have HS := Lib.hid hsum
            clear hfit2 hsum hlk
            go_wp2
            go_round
            case rel => exact ⟨k + 1, z + x, by omega, by omega, by go_num, HF2.out, rfl, HS.out⟩
            case measure => simp [intOf]; omega
    · have hkn : k = m := by omega
      have htk : l.take k = l := by rw [hkn, ← HLL.out, List.take_length]
      have hne : z ≠ (n : Int) := by
        have h3 := HF.out
        have h4 := HC.out
        rw [htk] at h3
        have hll := HLL.out
        rw [cutB, togB, h3, decide_eq_true (show l.length ≤ 40 by omega), Bool.true_and, Bool.true_and, decide_eq_false_iff_not] at h4
        rw [HZ.out, htk]
        exact h4
      have hne2 : (z != (n : Int)) = true := by rw [bne_iff_ne]; exact hne
      clear htk hkn hne
      go_wp2
      go_ret2
      exact ⟨rfl, rfl⟩

set_option maxHeartbeats 4000000 in
theorem rcut_yes (A D : Option Addr) (n c m d : Nat) (b : List Int) (ks : List Nat) (w : World) (hb : Bts w A n c b) (hl : Its .i64 w D m d (ints ks)) (hk : okSizes ks) (hk40 : ks.length ≤ 40) (hsum : ks.sum = n) :
    Calls Tryz.prog 74 #[.slice A n c, .slice D m d] w fun e w' => ∃ v, e = .returned (.tuple #[v, .bool true]) ∧ OwnI .u64 30 w' w.heap.size v (ints (cutL ks b)) ∧ Below w.heap.size w w' := by
  have hn := hb.small
  have hm := hl.small
  have hks : ks.length = m := by have := hl.len; rwa [ints_length] at this
  have hm40 : (m : Int) ≤ 40 := by omega
  have hne : ((n : Int) != (n : Int)) = false := by simp
  have hn320 : (n : Int) ≤ 320 := by
    have h1 : ∀ l : List Nat, okSizes l → l.sum ≤ 8 * l.length := by
      intro l
      induction l with
      | nil => intro _; simp
      | cons x l ih =>
        intro h
        have h2 := h x (by simp)
        have h3 := ih (fun y hy => h y (by simp [hy]))
        rw [List.sum_cons, List.length_cons]
        omega
    have := h1 ks hk
    omega
  have HKS := Lib.hid hks
  have HSUM := Lib.hid hsum
  have HK := Lib.hid hk
  clear hks hsum hk
  go_enter Tryz.func74, Tryz.ntmps74
  go_wp2
  go_loop [6, 7] (fun s i => ∃ (k z : Nat), k ≤ m ∧ i = .int .i64 k ∧ s = .int .i64 z ∧ z = (ks.take k).sum) (fun _ i => m - (intOf i).toNat)
  case atStart => exact ⟨0, 0, Nat.zero_le _, rfl, rfl, rfl⟩
  case round =>
    obtain ⟨k, z, hk, rfl, rfl, hz⟩ := hrel
    have hzb : (z : Int) ≤ 320 := by
      have h2 := sumN_le ks k
      rw [← hz, HSUM.out] at h2
      omega
    have HZ := Lib.hid hz
    clear hz
    by_cases hlt : k < m
    · have hkk : k < ks.length := by rw [HKS.out]; exact hlt
      obtain ⟨bd, od, rfl, hcs⟩ := hl.at_ (by omega)
      have hck := hcs k hlt
      rw [ints_get ks k hkk] at hck
      obtain ⟨K, hK⟩ : ∃ K, ks.getD k 0 = K := ⟨_, rfl⟩
      have hK18 : 1 ≤ K ∧ K ≤ 8 := by
        rw [← hK, List.getD_eq_getElem?_getD, List.getElem?_eq_getElem hkk]
        exact HK.out _ (List.getElem_mem hkk)
      obtain ⟨hK1, hK8⟩ := hK18
      rw [hK] at hck
      have hz2 : z + K = (ks.take (k + 1)).sum := by rw [sumN_snoc ks k hkk, hK, HZ.out]
      have h40 : (k : Int) < 40 := by omega
      have hK1' : (1 : Int) ≤ K := by omega
      have hK8' : (K : Int) ≤ 8 := by omega
      have HZ2 := Lib.hid hz2
      clear hK hz2 hcs hkk
      go_wp2
      go_round
      case rel => exact ⟨k + 1, z + K, by omega, by go_num, by go_num, HZ2.out⟩
      case measure => simp [intOf]; omega
    · have hkn : k = m := by omega
      have hzn : z = n := by
        rw [HZ.out, hkn, ← HKS.out, List.take_length, HSUM.out]
      subst hzn
      clear hk hkn hzb
      go_wp2
      go_loopw [8, 9, 10] (fun v q i wr => ∃ (k a : Nat) (L : List Nat), k ≤ m ∧ i = .int .i64 k ∧ q = .int .i64 a ∧ a = (ks.take k).sum ∧ L = (cutL ks b).take k ∧ OwnI .u64 30 wr w.heap.size v (ints L) ∧ Below w.heap.size w wr) (fun _ _ i _ => m - (intOf i).toNat)
      case atStart => exact ⟨0, 0, [], Nat.zero_le _, rfl, rfl, rfl, rfl, OwnI.nil _ _ _ _, Below.refl _ _⟩
      case round =>
        obtain ⟨k, a, L, hkm, rfl, rfl, ha, hL, hown, hB⟩ := hrel
        have HA := Lib.hid ha
        have HL := Lib.hid hL
        clear ha hL
        by_cases hlt : k < m
        · have hkk : k < ks.length := by rw [HKS.out]; exact hlt
          obtain ⟨bd, od, rfl, hcs⟩ := (hl.below hB).at_ (by omega)
          have hck := hcs k hlt
          rw [ints_get ks k hkk] at hck
          obtain ⟨K, hK⟩ : ∃ K, ks.getD k 0 = K := ⟨_, rfl⟩
          have hK18 : 1 ≤ K ∧ K ≤ 8 := by
            rw [← hK, List.getD_eq_getElem?_getD, List.getElem?_eq_getElem hkk]
            exact HK.out _ (List.getElem_mem hkk)
          obtain ⟨hK1, hK8⟩ := hK18
          have hak : a + K ≤ z := by
            have h1 := sumN_snoc ks k hkk
            have h2 := sumN_le ks (k + 1)
            rw [hK, ← HA.out] at h1
            rw [HSUM.out] at h2
            omega
          rw [hK] at hck
          obtain ⟨x, hx⟩ : ∃ x, numL ((b.drop a).take K) = x := ⟨_, rfl⟩
          have hL2 : L ++ [x] = (cutL ks b).take (k + 1) := by rw [cutL_snoc ks b k hkk, HL.out, ← HA.out, hK, hx]
          have ha2 : a + K = (ks.take (k + 1)).sum := by rw [sumN_snoc ks k hkk, hK, HA.out]
          have hLl : (ints L).length ≤ 40 := by
            rw [ints_length, HL.out, List.length_take]
            omega
          have HX := Lib.hid hx
          have HL2 := Lib.hid hL2
          have HA2 := Lib.hid ha2
          clear hx hK hL2 ha2 hcs hkk
          go_wp2_with (first
            | (go_at_call 87; (with_reducible refine (rget_yes A z c b a K wr (hb.below hB) hK1 hK8 hak).mono ?_); rintro e w6 ⟨he, rfl⟩
               rw [HX.out] at he
               subst he)
            | (at_builtin
               refine wpList_append_i rfl 102 30 .u64 8 _ _ rfl Tryz.underlying102 (by kernel_rfl) (by omega) w.heap.size u8 (ints L) rfl (hown.more _) _ 1 1 [(x : Int)] rfl (one_its .u64 30 _ (x : Int)) (by omega) (Nat.le_trans hB.size (size_le_alloc _ _)) ?_
               intro v5 w5 hown5 hg5
               have hB5 : Below w.heap.size w w5 := (hB.alloc hB.size _).grown hg5 (Nat.le_trans hB.size (size_le_alloc _ _)) (fun k hk => (hown.size k hk).1)
               have hown5 : OwnI .u64 30 w5 w.heap.size v5 (ints (L ++ [x])) := by rw [ints_append]; exact hown5
               clear hg5))
          go_roundw
          case rel => exact ⟨k + 1, a + K, L ++ [x], by omega, by go_num, by go_num, HA2.out, HL2.out, hown5, hB5⟩
          case measure => simp [intOf]; omega
        · have hkn : k = m := by omega
          have htk : L = cutL ks b := by
            have h5 := cutL_length ks b
            rw [HL.out, hkn, ← HKS.out, ← h5, List.take_length]
          rw [htk] at hown
          have HO := Lib.hid hown
          clear hown htk hkn
          go_wp2
          go_ret2
          exact ⟨_, rfl, HO.out, hB⟩
end Go.Proofs.YtafmompplcaadaaGreatDoor

/- What a call gives: both sides, the program's and the plain answers', of one hidden value. -/
namespace Go.Proofs.YtafmompplcaadaaGreatDoor
set_option linter.unusedVariables false
set_option linter.unusedSimpArgs false
open Go.RowKit

/-- a call that hands back bytes and a bool -/
def GivesB (L : List Int) (b : Bool) (w : World) (e : Ending) (w' : World) : Prop := ∃ A m c, e = .returned (.tuple #[.slice A m c, .bool b]) ∧ Bts w' A m c L ∧ Below w.heap.size w w'
/-- a call that hands back numbers and a bool -/
def GivesI (L : List Int) (b : Bool) (w : World) (e : Ending) (w' : World) : Prop := ∃ A m c, e = .returned (.tuple #[.slice A m c, .bool b]) ∧ Its .u64 w' A m c L ∧ Below w.heap.size w w'
theorem Own.gives {w w' : World} {v : Value} {L : List Int} (h : Own w' w.heap.size v L) (ho : ∀ j, 0 ≤ L.getD j 0 ∧ L.getD j 0 < 256) (hb : Below w.heap.size w w') : GivesB L true w (.returned (.tuple #[v, .bool true])) w' := by
  obtain ⟨A, m, c, rfl, hbt⟩ := h.slice ho
  exact ⟨A, m, c, rfl, hbt, hb⟩
theorem OwnI.gives {w w' : World} {e : TypeId} {v : Value} {L : List Int} (h : OwnI .u64 e w' w.heap.size v L) (hb : Below w.heap.size w w') : GivesI L true w (.returned (.tuple #[v, .bool true])) w' := by
  obtain ⟨A, m, c, rfl, hi⟩ := h.its
  exact ⟨A, m, c, rfl, hi, hb⟩
theorem puts (n k : Int) (h0 : 0 ≤ n) (h1 : n < 18446744073709551616) : ∃ L b, (∀ w, Calls Tryz.prog 82 #[.int .u64 n, .int .i64 k] w fun e w' => GivesB L b w e w') ∧ ∀ w, Calls Tryz.prog 83 #[.int .u64 n, .int .i64 k] w fun e w' => GivesB L b w e w' := by
  cases h : fitB n k with
  | false =>
    refine ⟨[], false, fun w => (put_no n k w h0 h1 h).mono fun e w' ⟨he, hw⟩ => ?_, fun w => (rput_no n k w h0 h1 h).mono fun e w' ⟨he, hw⟩ => ?_⟩
    · subst hw
      exact ⟨none, 0, 0, he, Bts.nil w, Below.refl _ _⟩
    · exact ⟨none, 0, 0, he, Bts.nil w', hw⟩
  | true =>
    obtain ⟨N, K, rfl, rfl, h2, h3, h4⟩ := fit_nat h0 h
    refine ⟨putL N K, true, fun w => (put_yes N K w h2 h3 h4).mono fun e w' ⟨he, hX, hB⟩ => ?_, fun w => (rput_yes N K w h2 h3 h4).mono fun e w' ⟨he, hX, hB⟩ => ?_⟩
    · exact ⟨_, _, _, he, hX.bts (putL_length N K) (by unfold maxLen; omega) (putL_ok N K), hB⟩
    · exact ⟨_, _, _, he, hX.bts (putL_length N K) (by unfold maxLen; omega) (putL_ok N K), hB⟩
theorem gets (n c : Nat) (b : List Int) (i k : Int) (ha0 : -9223372036854775808 ≤ i) (ha1 : i ≤ 9223372036854775807) (hk0 : -9223372036854775808 ≤ k) (hk1 : k ≤ 9223372036854775807) :
    ∃ x y, (∀ A w, Bts w A n c b → Calls Tryz.prog 97 #[.slice A n c, .int .i64 i, .int .i64 k] w fun e w' => e = .returned (.tuple #[.int .u64 x, .int .i64 y]) ∧ w = w') ∧ ∀ A w, Bts w A n c b → Calls Tryz.prog 87 #[.slice A n c, .int .i64 i, .int .i64 k] w fun e w' => e = .returned (.tuple #[.int .u64 x, .int .i64 y]) ∧ w = w' := by
  cases h : mayGet n i k with
  | false => exact ⟨_, _, fun A w hb => get_no A n c b i k w hb ha0 ha1 hk0 hk1 h, fun A w hb => rget_no A n c b i k w hb ha0 ha1 h⟩
  | true =>
    obtain ⟨a, K, rfl, rfl, h1, h2, h3⟩ := mayGet_nat h
    exact ⟨_, _, fun A w hb => get_yes A n c b a K w hb h1 h2 h3, fun A w hb => rget_yes A n c b a K w hb h1 h2 h3⟩
theorem catPost_gives {l : List (Int × Int)} {w w' : World} {e : Ending} (h : CatPost l w e w') : GivesB (if catB l then catL (toN l) else []) (catB l) w e w' := by
  obtain ⟨h1, h2, h3⟩ := h
  cases hc : catB l with
  | true =>
    obtain ⟨v, he, ho⟩ := h1 hc
    subst he
    exact ho.gives (catL_ok _) h3
  | false => exact ⟨none, 0, 0, h2 hc, Bts.nil w', h3⟩
theorem cats (n c : Nat) (l : List (Int × Int)) : ∃ L b, (∀ A w, Nms w A n c l → Calls Tryz.prog 67 #[.slice A n c] w fun e w' => GivesB L b w e w') ∧ ∀ A w, Nms w A n c l → Calls Tryz.prog 71 #[.slice A n c] w fun e w' => GivesB L b w e w' :=
  ⟨_, _, fun A w hl => (cat_any A n c l w hl).mono fun _ _ h => catPost_gives h, fun A w hl => (rcat_any A n c l w hl).mono fun _ _ h => catPost_gives h⟩
theorem cuts (n c m d : Nat) (b l : List Int) : ∃ L z, (∀ A D w, Bts w A n c b → Its .i64 w D m d l → Calls Tryz.prog 85 #[.slice A n c, .slice D m d] w fun e w' => GivesI L z w e w') ∧
    ∀ A D w, Bts w A n c b → Its .i64 w D m d l → Calls Tryz.prog 74 #[.slice A n c, .slice D m d] w fun e w' => GivesI L z w e w' := by
  cases hc : cutB l n with
  | false =>
    refine ⟨[], false, fun A D w hb hl => (cut_no A D n c m d b l w hb hl hc).mono fun e w' ⟨he, hw⟩ => ?_, fun A D w hb hl => (rcut_no A D n c m d b l w hb hl hc).mono fun e w' ⟨he, hw⟩ => ?_⟩
    · subst hw
      exact ⟨none, 0, 0, he, Its.nil _ w, Below.refl _ _⟩
    · subst hw
      exact ⟨none, 0, 0, he, Its.nil _ w, Below.refl _ _⟩
  | true =>
    rw [cutB, Bool.and_eq_true, decide_eq_true_eq] at hc
    obtain ⟨ks, rfl, hk, hk40⟩ := tog_nat hc.1
    have hs := hc.2
    rw [ints_sum] at hs
    refine ⟨ints (cutL ks b), true, fun A D w hb hl => (cut_yes A D n c m d b ks w hb hl hk hk40 (by omega)).mono fun e w' ⟨v, he, ho, hB⟩ => ?_, fun A D w hb hl => (rcut_yes A D n c m d b ks w hb hl hk hk40 (by omega)).mono fun e w' ⟨v, he, ho, hB⟩ => ?_⟩
    · subst he
      exact ho.gives hB
    · subst he
      exact ho.gives hB
end Go.Proofs.YtafmompplcaadaaGreatDoor
