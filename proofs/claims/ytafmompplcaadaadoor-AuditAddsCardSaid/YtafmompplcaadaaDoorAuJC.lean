/- Joined texts: The walk over package num's Cat: the bytes of several numbers. The walks over package num's together and Cut: the numbers that bytes are cut into. The walks over the plain answers' Put and Get of numbers. The walk over the plain answers' Cat of numbers. The walks over the plain answers' Cut and Nums. What a call gives: both sides, the program's and the plain answers', of one hidden value. Entries, plainly: their cells and bytes, which may be; a slice of entries as it lies; those of a kind, and the epoch of the last start. Sums of bytes (SHA-256) as functions of lists: what the walks over package sha, and over the plain answers of the document, come to; and that both are the same. Entries in a chain of sums, plainly: heads, records, what is read of bytes, what is wrong with them, two texts of one sum. -/
import Derived.Test.YtafmompplcaadaaDoorAuJB
import Derived.Test.YtafmompplcaadaaDoorAuJA
import Derived.Deep.SlicePairs
import GoSem.Claim
import Derived.KernelRfl
import Derived.Laws.BitsAllLaws
/- The walk over package num's Cat: the bytes of several numbers. -/
namespace Go.Proofs.YtafmompplcaadaaDoor
set_option linter.unusedVariables false
set_option linter.unusedSimpArgs false
open Go.RowKit

def numR (p : Int × Int) : List Value := [.int .u64 p.1, .int .i64 p.2]
/-- the slice value A, n, cap reads as these numbers, each with its size -/
structure Nms (w : World) (A : Option Addr) (n cap : Nat) (l : List (Int × Int)) : Prop where
  rws : Rws 2 w A n cap (l.map numR)
  num : ∀ p ∈ l, 0 ≤ p.1 ∧ p.1 < 18446744073709551616 ∧ -9223372036854775808 ≤ p.2 ∧ p.2 ≤ 9223372036854775807
theorem Nms.len {w : World} {A : Option Addr} {n cap : Nat} {l : List (Int × Int)} (h : Nms w A n cap l) : l.length = n := by have := h.rws.len; rwa [List.length_map] at this
theorem Nms.below {w w' : World} {A : Option Addr} {n cap : Nat} {l : List (Int × Int)} (h : Nms w A n cap l) (hb : Below w.heap.size w w') : Nms w' A n cap l := ⟨h.rws.below hb, h.num⟩
theorem Nms.cells {w : World} {A : Option Addr} {n cap : Nat} {l : List (Int × Int)} (h : Nms w A n cap l) (hn : 0 < n) : ∃ b off, A = some ⟨b, off, none⟩ ∧
    ∀ j, j < n → w.cell? ⟨b, off + j * 2, none⟩ = some (.int .u64 (l.getD j (0, 0)).1) ∧ w.cell? ⟨b, off + j * 2 + 1, none⟩ = some (.int .i64 (l.getD j (0, 0)).2) := by
  obtain ⟨b, off, hA, hc⟩ := h.rws.at_ hn
  refine ⟨b, off, hA, fun j hj => ?_⟩
  have hjl : j < l.length := by rw [h.len]; exact hj
  have h0 := hc j hj 0 (by omega)
  have h1 := hc j hj 1 (by omega)
  simp only [List.getD_eq_getElem?_getD, List.getElem?_map, List.getElem?_eq_getElem hjl, Option.map_some, Option.getD_some, numR, List.getElem?_cons_zero, List.getElem?_cons_succ, Nat.add_zero] at h0 h1 ⊢
  exact ⟨h0, h1⟩
theorem Nms.at_ {w : World} {A : Option Addr} {n cap : Nat} {l : List (Int × Int)} (h : Nms w A n cap l) (j : Nat) (hj : j < n) : 0 ≤ (l.getD j (0, 0)).1 ∧ (l.getD j (0, 0)).1 < 18446744073709551616 ∧ -9223372036854775808 ≤ (l.getD j (0, 0)).2 ∧ (l.getD j (0, 0)).2 ≤ 9223372036854775807 := by
  have hjl : j < l.length := by rw [h.len]; exact hj
  have := h.num _ (List.getElem_mem hjl)
  simpa [List.getD_eq_getElem?_getD, hjl] using this

def toN (l : List (Int × Int)) : List (Nat × Nat) := l.map fun p => (p.1.toNat, p.2.toNat)
def fitsB (l : List (Int × Int)) : Bool := l.all fun p => fitB p.1 p.2
/-- may these numbers be put together? -/
def catB (l : List (Int × Int)) : Bool := decide (l.length ≤ 40) && fitsB l
def CatPost (l : List (Int × Int)) (w : World) (e : Ending) (w' : World) : Prop :=
  (catB l = true → ∃ v, e = .returned (.tuple #[v, .bool true]) ∧ Own w' w.heap.size v (catL (toN l))) ∧ (catB l = false → e = .returned (.tuple #[.slice none 0 0, .bool false])) ∧ Below w.heap.size w w'
theorem catPost_yes {l : List (Int × Int)} {w w' : World} {v : Value} (h : catB l = true) (ho : Own w' w.heap.size v (catL (toN l))) (hb : Below w.heap.size w w') : CatPost l w (.returned (.tuple #[v, .bool true])) w' :=
  ⟨fun _ => ⟨v, rfl, ho⟩, fun h2 => by rw [h] at h2; exact Bool.noConfusion h2, hb⟩
theorem catPost_no {l : List (Int × Int)} {w w' : World} (h : catB l = false) (hb : Below w.heap.size w w') : CatPost l w (.returned (.tuple #[.slice none 0 0, .bool false])) w' :=
  ⟨fun h2 => by rw [h] at h2; exact Bool.noConfusion h2, fun _ => rfl, hb⟩
theorem fitsB_snoc (l : List (Int × Int)) (k : Nat) (h : k < l.length) : fitsB (l.take (k + 1)) = (fitsB (l.take k) && fitB (l.getD k (0, 0)).1 (l.getD k (0, 0)).2) := by
  rw [fitsB, fitsB, List.take_succ_eq_append_getElem h, List.all_append]
  simp [List.getD_eq_getElem?_getD, h]
theorem fitsB_part (l : List (Int × Int)) (k : Nat) (h : fitsB (l.take k) = false) : fitsB l = false := by
  have e : l = l.take k ++ l.drop k := (List.take_append_drop k l).symm
  rw [e, fitsB, List.all_append]
  rw [fitsB] at h
  rw [h, Bool.false_and]
theorem catL_snoc (l : List (Int × Int)) (k : Nat) (h : k < l.length) : catL (toN (l.take (k + 1))) = catL (toN (l.take k)) ++ putL (l.getD k (0, 0)).1.toNat (l.getD k (0, 0)).2.toNat := by
  rw [toN, List.take_succ_eq_append_getElem h, List.map_append, catL_append]
  simp [toN, catL, List.getD_eq_getElem?_getD, h]
theorem catL_ok (l : List (Nat × Nat)) : ∀ j, 0 ≤ (catL l).getD j 0 ∧ (catL l).getD j 0 < 256 := by
  induction l with
  | nil => simp [catL]
  | cons p l ih => exact ok_append (ok_map _ (fun i => putAt_ok _ _ i) _) ih
theorem catL_small (l : List (Int × Int)) (h : fitsB l = true) : (catL (toN l)).length ≤ 8 * l.length := by
  rw [catL_length]
  induction l with
  | nil => simp [toN]
  | cons p l ih =>
    rw [fitsB, List.all_cons, Bool.and_eq_true] at h
    have h2 := h.1
    unfold fitB at h2
    rw [decide_eq_true_eq] at h2
    have := ih h.2
    simp only [toN, List.map_cons, List.sum_cons, List.length_cons] at this ⊢
    omega

theorem cat_long (A : Option Addr) (n c : Nat) (l : List (Int × Int)) (w : World) (hl : Nms w A n c l) (h : 40 < n) :
    Calls Tryd.prog 50 #[.slice A n c] w fun e w' => CatPost l w e w' := by
  have hn := hl.rws.small
  have h1 : (40 : Int) < n := by omega
  have h2 : catB l = false := by rw [catB, hl.len, decide_eq_false (by omega), Bool.false_and]
  have H2 := Lib.hid h2
  clear h2
  go_enter Tryd.func50, Tryd.ntmps50
  go_wp2
  go_ret2
  exact catPost_no H2.out (Below.refl _ _)
set_option maxHeartbeats 1000000 in
theorem cat_short (A : Option Addr) (n c : Nat) (l : List (Int × Int)) (w : World) (hl : Nms w A n c l) (h : n ≤ 40) :
    Calls Tryd.prog 50 #[.slice A n c] w fun e w' => CatPost l w e w' := by
  have h1 : (n : Int) ≤ 40 := by omega
  have hll : l.length = n := hl.len
  have HLL := Lib.hid hll
  clear hll
  go_enter Tryd.func50, Tryd.ntmps50
  go_wp2
  go_loopw [4, 14] (fun v i wr => ∃ k : Nat, k ≤ n ∧ i = .int .i64 k ∧ fitsB (l.take k) = true ∧ Own wr w.heap.size v (catL (toN (l.take k))) ∧ Below w.heap.size w wr) (fun _ i _ => n - (intOf i).toNat)
  case atStart => exact ⟨0, Nat.zero_le _, rfl, rfl, Own.nil _ _, Below.refl _ _⟩
  case round =>
    obtain ⟨k, hk, rfl, hfit, hown, hB⟩ := hrel
    have HF := Lib.hid hfit
    clear hfit
    by_cases hlt : k < n
    · obtain ⟨b, off, rfl, hcs⟩ := (hl.below hB).cells (by omega)
      obtain ⟨hc0, hc1⟩ := hcs k hlt
      obtain ⟨p, hp⟩ : ∃ p, p = l.getD k (0, 0) := ⟨_, rfl⟩
      rw [← hp] at hc0 hc1
      obtain ⟨x, y⟩ := p
      simp only at hc0 hc1
      have hb4 := hl.at_ k hlt
      rw [← hp] at hb4
      simp only at hb4
      have HB4 := Lib.hid hb4
      have HP := Lib.hid hp
      clear hp hb4 hcs
      have hlk : k < l.length := by rw [HLL.out]; exact hlt
      cases hf : fitB x y with
      | false =>
        have HNF := Lib.hid hf
        have hcb : catB l = false := by
          have h3 := fitsB_snoc l k hlk
          rw [← HP.out, HNF.out, Bool.and_false] at h3
          rw [catB, fitsB_part l (k + 1) h3, Bool.and_false]
        have HCB := Lib.hid hcb
        clear hf hcb
        go_wp2_with (go_at_call 59; (with_reducible refine (put_no x y _ HB4.out.1 HB4.out.2.1 HNF.out).mono ?_); rintro e w2 ⟨rfl, rfl⟩)
        go_ret2
        exact catPost_no HCB.out (hB.alloc hB.size _)
      | true =>
        obtain ⟨N, K, rfl, rfl, h2, h3, h4⟩ := fit_nat HB4.out.1 hf
        obtain ⟨Z, hZ⟩ : ∃ Z, putL N K = Z := ⟨_, rfl⟩
        have hZl : Z.length = K := by rw [← hZ]; exact putL_length N K
        have hZo : ∀ j, 0 ≤ Z.getD j 0 ∧ Z.getD j 0 < 256 := by rw [← hZ]; exact ok_map _ (fun i => putAt_ok N K i) K
        have hnext : catL (toN (l.take (k + 1))) = catL (toN (l.take k)) ++ Z := by
          rw [catL_snoc l k hlk, ← HP.out, ← hZ]
          rfl
        have hfit2 : fitsB (l.take (k + 1)) = true := by
          rw [fitsB_snoc l k hlk, HF.out, ← HP.out, hf]
          rfl
        obtain ⟨L, hL⟩ : ∃ L, L = catL (toN (l.take k)) := ⟨_, rfl⟩
        have hLs : L.length ≤ 320 := by
          have := catL_small (l.take k) HF.out
          rw [List.length_take] at this
          rw [hL]
          omega
        rw [← hL] at hown hnext
        have HZ := Lib.hid hZ
        have HZL := Lib.hid hZl
        have HZO := Lib.hid hZo
        have H4 := Lib.hid h4
        have HNX := Lib.hid hnext
        have HF2 := Lib.hid hfit2
        clear hZ hZl hZo h4 hnext hfit2 hL hf hlk
        go_wp2_with (first
          | (go_at_call 59; (with_reducible refine (put_yes N K _ h2 h3 H4.out).mono ?_); rintro e w2 ⟨rfl, hX2, hb2⟩
             obtain ⟨hb3, _, _⟩ := after_one hb2
             have hB2 := then_below hB hb3
             have hown2 := hown.below hb3
             rw [HZ.out] at hX2
             have hX2 := at_next hX2
             clear hb2 hb3)
          | (at_builtin
             refine wpList_append_b rfl _ _ rfl w.heap.size u4 L rfl hown2 _ K K Z rfl (hX2.bts HZL.out (by unfold maxLen; omega) HZO.out) (by omega) hB2.size ?_
             intro v5 w5 hown5 hg5
             have hB5 : Below w.heap.size w w5 := hB2.grown hg5 hB2.size (fun k hk => (hown2.size k hk).1)
             rw [← HNX.out] at hown5
             clear hg5))
        go_roundw
        case rel => exact ⟨k + 1, by omega, by go_num, HF2.out, hown5, hB5⟩
        case measure => simp [intOf]; omega
    · have hkn : k = n := by omega
      have htk : l.take k = l := by rw [hkn, ← HLL.out, List.take_length]
      rw [htk] at hown
      have hcb : catB l = true := by
        have h3 := HF.out
        rw [htk] at h3
        rw [catB, h3, HLL.out, decide_eq_true h]
        rfl
      have HCB := Lib.hid hcb
      have HO := Lib.hid hown
      clear hcb hown htk hkn
      go_wp2
      go_ret2
      exact catPost_yes HCB.out HO.out hB
theorem cat_any (A : Option Addr) (n c : Nat) (l : List (Int × Int)) (w : World) (hl : Nms w A n c l) :
    Calls Tryd.prog 50 #[.slice A n c] w fun e w' => CatPost l w e w' := by
  by_cases h : 40 < n
  · exact cat_long A n c l w hl h
  · exact cat_short A n c l w hl (by omega)
end Go.Proofs.YtafmompplcaadaaDoor

/- The walks over package num's together and Cut: the numbers that bytes are cut into. -/
namespace Go.Proofs.YtafmompplcaadaaDoor
set_option linter.unusedVariables false
set_option linter.unusedSimpArgs false
open Go.RowKit

/-- may sizes stand in a row? -/
def sizesB (l : List Int) : Bool := l.all sizeB
def togB (l : List Int) : Bool := decide (l.length ≤ 40) && sizesB l
theorem sizesB_snoc (l : List Int) (k : Nat) (h : k < l.length) : sizesB (l.take (k + 1)) = (sizesB (l.take k) && sizeB (l.getD k 0)) := by
  rw [sizesB, sizesB, List.take_succ_eq_append_getElem h, List.all_append]
  simp [List.getD_eq_getElem?_getD, h]
theorem sizesB_part (l : List Int) (k : Nat) (h : sizesB (l.take k) = false) : sizesB l = false := by
  have e : l = l.take k ++ l.drop k := (List.take_append_drop k l).symm
  rw [e, sizesB, List.all_append]
  rw [sizesB] at h
  rw [h, Bool.false_and]
theorem sum_snoc (l : List Int) (k : Nat) (h : k < l.length) : (l.take (k + 1)).sum = (l.take k).sum + l.getD k 0 := by
  rw [List.take_succ_eq_append_getElem h, List.sum_append]
  simp [List.getD_eq_getElem?_getD, h]
theorem sum_range (l : List Int) (h : sizesB l = true) : 0 ≤ l.sum ∧ l.sum ≤ 8 * l.length := by
  induction l with
  | nil => simp
  | cons x l ih =>
    rw [sizesB, List.all_cons, Bool.and_eq_true] at h
    have h2 := h.1
    unfold sizeB at h2
    rw [decide_eq_true_eq] at h2
    have := ih h.2
    rw [List.sum_cons, List.length_cons]
    omega
theorem ret_two {a b : Int} (h : a = b) (c : Bool) : Ending.returned (.tuple #[.int .i64 a, .bool c]) = .returned (.tuple #[.int .i64 b, .bool c]) := by rw [h]

theorem tog_long (A : Option Addr) (n c : Nat) (l : List Int) (w : World) (hl : Its .i64 w A n c l) (h : 40 < n) :
    Calls Tryd.prog 60 #[.slice A n c] w fun e w' => e = .returned (.tuple #[.int .i64 0, .bool false]) ∧ w = w' := by
  have hn := hl.small
  have h1 : (40 : Int) < n := by omega
  go_enter Tryd.func60, Tryd.ntmps60
  go_wp2
  go_ret2
  exact ⟨rfl, rfl⟩
/-- what together hands back -/
def TogPost (l : List Int) (w : World) (e : Ending) (w' : World) : Prop :=
  (togB l = true → e = .returned (.tuple #[.int .i64 l.sum, .bool true])) ∧ (togB l = false → e = .returned (.tuple #[.int .i64 0, .bool false])) ∧ w = w'
theorem togPost_yes {l : List Int} {w : World} {s : Int} (h : togB l = true) (hs : s = l.sum) : TogPost l w (.returned (.tuple #[.int .i64 s, .bool true])) w :=
  ⟨fun _ => ret_two hs _, fun h2 => by rw [h] at h2; exact Bool.noConfusion h2, rfl⟩
theorem togPost_no {l : List Int} {w : World} (h : togB l = false) : TogPost l w (.returned (.tuple #[.int .i64 0, .bool false])) w :=
  ⟨fun h2 => by rw [h] at h2; exact Bool.noConfusion h2, fun _ => rfl, rfl⟩
set_option maxHeartbeats 1000000 in
theorem tog_short (A : Option Addr) (n c : Nat) (l : List Int) (w : World) (hl : Its .i64 w A n c l) (h : n ≤ 40) :
    Calls Tryd.prog 60 #[.slice A n c] w fun e w' => TogPost l w e w' := by
  have h1 : (n : Int) ≤ 40 := by omega
  have HLL := Lib.hid hl.len
  go_enter Tryd.func60, Tryd.ntmps60
  go_wp2
  go_loop [4, 12] (fun s i => ∃ (k : Nat) (z : Int), k ≤ n ∧ i = .int .i64 k ∧ sizesB (l.take k) = true ∧ s = .int .i64 z ∧ z = (l.take k).sum) (fun _ i => n - (intOf i).toNat)
  case atStart => exact ⟨0, 0, Nat.zero_le _, rfl, rfl, rfl, rfl⟩
  case round =>
    obtain ⟨k, z, hk, rfl, hfit, rfl, hz⟩ := hrel
    have hr := sum_range (l.take k) hfit
    rw [← hz, List.length_take, HLL.out] at hr
    obtain ⟨hr0, hr1⟩ := hr
    have hr2 : z ≤ 320 := by omega
    have HF := Lib.hid hfit
    have HZ := Lib.hid hz
    clear hfit hz hr1
    by_cases hlt : k < n
    · obtain ⟨b, off, rfl, hcs⟩ := hl.at_ (by omega)
      have hc0 := hcs k hlt
      obtain ⟨x, hx⟩ : ∃ x, x = l.getD k 0 := ⟨_, rfl⟩
      rw [← hx] at hc0
      have hlk : k < l.length := by rw [HLL.out]; exact hlt
      have HX := Lib.hid hx
      clear hx hcs
      by_cases hs : 1 ≤ x ∧ x ≤ 8
      · obtain ⟨hs1, hs2⟩ := hs
        have hfit2 : sizesB (l.take (k + 1)) = true := by
          rw [sizesB_snoc l k hlk, HF.out, ← HX.out]
          unfold sizeB; simp; omega
        have hsum : z + x = (l.take (k + 1)).sum := by rw [sum_snoc l k hlk, ← HX.out, HZ.out]
        have HF2 := Lib.hid hfit2
        have HS := Lib.hid hsum
        clear hfit2 hsum hlk
        go_wp2_with (go_at_call 68; refine (size_yes _ _ (by omega) (by omega)).mono ?_; rintro e w1 ⟨rfl, rfl⟩)
        go_round
        case rel => exact ⟨k + 1, z + x, by omega, by go_num, HF2.out, rfl, HS.out⟩
        case measure => simp [intOf]; omega
      · have hs1 : x < 1 ∨ 8 < x := by omega
        have hcb : togB l = false := by
          have h3 := sizesB_snoc l k hlk
          have h4 : sizeB (l.getD k 0) = false := by rw [← HX.out]; unfold sizeB; simp; omega
          rw [h4, Bool.and_false] at h3
          rw [togB, sizesB_part l (k + 1) h3, Bool.and_false]
        have HCB := Lib.hid hcb
        clear hcb hlk hs
        go_wp2_with (go_at_call 68; refine (size_no _ _ hs1).mono ?_; rintro e w1 ⟨rfl, rfl⟩)
        go_ret2
        exact togPost_no HCB.out
    · have hkn : k = n := by omega
      have htk : l.take k = l := by rw [hkn, ← HLL.out, List.take_length]
      have hcb : togB l = true := by
        have h3 := HF.out
        rw [htk] at h3
        rw [togB, h3, HLL.out, decide_eq_true h]
        rfl
      have hsum : z = l.sum := by rw [HZ.out, htk]
      have HCB := Lib.hid hcb
      have HS := Lib.hid hsum
      clear hcb htk hkn hsum
      go_wp2
      go_ret2
      exact togPost_yes HCB.out HS.out
theorem tog_any (A : Option Addr) (n c : Nat) (l : List Int) (w : World) (hl : Its .i64 w A n c l) :
    Calls Tryd.prog 60 #[.slice A n c] w fun e w' => TogPost l w e w' := by
  by_cases h : 40 < n
  · refine (tog_long A n c l w hl h).mono fun e w' ⟨he, hw⟩ => ?_
    subst he hw
    exact togPost_no (by rw [togB, hl.len, decide_eq_false (by omega), Bool.false_and])
  · exact tog_short A n c l w hl (by omega)
/-- numbers as they lie in cells -/
def ints (l : List Nat) : List Int := l.map Int.ofNat
theorem ints_length (l : List Nat) : (ints l).length = l.length := by simp [ints]
theorem ints_append (l m : List Nat) : ints (l ++ m) = ints l ++ ints m := by simp [ints]
theorem ints_get (l : List Nat) (k : Nat) (h : k < l.length) : (ints l).getD k 0 = ((l.getD k 0 : Nat) : Int) := by
  simp [ints, List.getD_eq_getElem?_getD, h]
theorem ints_sum (l : List Nat) : (ints l).sum = (l.sum : Nat) := by
  induction l with
  | nil => rfl
  | cons x l ih =>
    have : ints (x :: l) = (x : Int) :: ints l := rfl
    rw [this, List.sum_cons, ih, List.sum_cons]
    omega
def okSizes (ks : List Nat) : Prop := ∀ k ∈ ks, 1 ≤ k ∧ k ≤ 8
/-- sizes that may stand in a row -/
theorem tog_nat {l : List Int} (h : togB l = true) : ∃ ks : List Nat, l = ints ks ∧ okSizes ks ∧ ks.length ≤ 40 := by
  rw [togB, Bool.and_eq_true, decide_eq_true_eq] at h
  obtain ⟨h1, h2⟩ := h
  rw [sizesB, List.all_eq_true] at h2
  have hs : ∀ x ∈ l, 1 ≤ x ∧ x ≤ 8 := fun x hx => by
    have := h2 x hx
    unfold sizeB at this
    simpa using this
  refine ⟨l.map Int.toNat, ?_, ?_, by simpa using h1⟩
  · rw [ints, List.map_map]
    have : l.map (Int.ofNat ∘ Int.toNat) = l.map id := List.map_congr_left fun x hx => by
      have := hs x hx
      simp only [Function.comp, id]
      exact Int.toNat_of_nonneg (by omega)
    rw [this, List.map_id]
  · intro k hk
    obtain ⟨x, hx, rfl⟩ := List.mem_map.1 hk
    have := hs x hx
    omega
/-- the number at place k of what is cut -/
theorem cutL_get (ks : List Nat) (b : List Int) (k : Nat) (h : k < ks.length) : (cutL ks b)[k]? = some (numL ((b.drop (ks.take k).sum).take (ks.getD k 0))) := by
  induction ks generalizing b k with
  | nil => simp at h
  | cons x ks ih =>
    cases k with
    | zero => simp [cutL]
    | succ k =>
      rw [cutL, List.getElem?_cons_succ, ih (b.drop x) k (by simpa using h)]
      rw [List.take_succ_cons, List.sum_cons, List.drop_drop]
      simp
theorem cutL_snoc (ks : List Nat) (b : List Int) (k : Nat) (h : k < ks.length) : (cutL ks b).take (k + 1) = (cutL ks b).take k ++ [numL ((b.drop (ks.take k).sum).take (ks.getD k 0))] := by
  have hl : k < (cutL ks b).length := by rw [cutL_length]; exact h
  have := cutL_get ks b k h
  rw [List.getElem?_eq_getElem hl, Option.some.injEq] at this
  rw [List.take_succ_eq_append_getElem hl, this]
theorem sumN_snoc (ks : List Nat) (k : Nat) (h : k < ks.length) : (ks.take (k + 1)).sum = (ks.take k).sum + ks.getD k 0 := by
  rw [List.take_succ_eq_append_getElem h, List.sum_append]
  simp [List.getD_eq_getElem?_getD, h]
theorem sumN_le (ks : List Nat) (k : Nat) : (ks.take k).sum ≤ ks.sum := by
  have e : ks.sum = (ks.take k).sum + (ks.drop k).sum := by rw [← List.sum_append, List.take_append_drop]
  omega

/-- may these bytes be cut so? -/
def cutB (l : List Int) (n : Nat) : Bool := togB l && decide (l.sum = n)
set_option maxHeartbeats 1000000 in
theorem cut_no (A D : Option Addr) (n c m d : Nat) (b l : List Int) (w : World) (hb : Bts w A n c b) (hl : Its .i64 w D m d l) (h : cutB l n = false) :
    Calls Tryd.prog 54 #[.slice A n c, .slice D m d] w fun e w' => e = .returned (.tuple #[.slice none 0 0, .bool false]) ∧ w = w' := by
  have hn := hb.small
  have hm := hl.small
  cases ht : togB l with
  | false =>
    have HT := Lib.hid ht
    clear ht h
    go_enter Tryd.func54, Tryd.ntmps54
    go_wp2_with (go_at_call 60; (with_reducible refine (tog_any D m d l _ hl).mono ?_); rintro e w1 ⟨_, hw1, rfl⟩
                 have he := hw1 HT.out
                 subst he)
    go_ret2
    exact ⟨rfl, rfl⟩
  | true =>
    have hne : l.sum ≠ (n : Int) := by
      rw [cutB, ht, Bool.true_and, decide_eq_false_iff_not] at h
      exact h
    obtain ⟨s, hs⟩ : ∃ s, l.sum = s := ⟨_, rfl⟩
    rw [hs] at hne
    have hne2 : (s != (n : Int)) = true := by rw [bne_iff_ne]; exact hne
    have HT := Lib.hid ht
    have HS := Lib.hid hs
    clear ht h hne hs
    go_enter Tryd.func54, Tryd.ntmps54
    go_wp2_with (go_at_call 60; (with_reducible refine (tog_any D m d l _ hl).mono ?_); rintro e w1 ⟨hw1, _, rfl⟩
                 have he := hw1 HT.out
                 rw [HS.out] at he
                 subst he)
    go_ret2
    exact ⟨rfl, rfl⟩

set_option maxHeartbeats 2000000 in
theorem cut_yes (A D : Option Addr) (n c m d : Nat) (b : List Int) (ks : List Nat) (w : World) (hb : Bts w A n c b) (hl : Its .i64 w D m d (ints ks)) (hk : okSizes ks) (hk40 : ks.length ≤ 40) (hsum : ks.sum = n) :
    Calls Tryd.prog 54 #[.slice A n c, .slice D m d] w fun e w' => ∃ v, e = .returned (.tuple #[v, .bool true]) ∧ OwnI .u64 30 w' w.heap.size v (ints (cutL ks b)) ∧ Below w.heap.size w w' := by
  have hn := hb.small
  have hm := hl.small
  have hks : ks.length = m := by have := hl.len; rwa [ints_length] at this
  have hm40 : (m : Int) ≤ 40 := by omega
  have htog : togB (ints ks) = true := by
    rw [togB, ints_length, decide_eq_true hk40, Bool.true_and, sizesB, List.all_eq_true]
    intro x hx
    obtain ⟨k, hk1, rfl⟩ := List.mem_map.1 hx
    have := hk k hk1
    unfold sizeB
    simp
    omega
  have hs : (ints ks).sum = (n : Int) := by rw [ints_sum, hsum]
  have hne : ((n : Int) != (n : Int)) = false := by simp
  have HT := Lib.hid htog
  have HS := Lib.hid hs
  have HKS := Lib.hid hks
  have HSUM := Lib.hid hsum
  have HK := Lib.hid hk
  clear htog hs hks hsum hk
  go_enter Tryd.func54, Tryd.ntmps54
  go_wp2_with (first
    | (go_at_call 60; (with_reducible refine (tog_any D m d (ints ks) _ hl).mono ?_); rintro e w1 ⟨hw1, _, rfl⟩
       have he := hw1 HT.out
       rw [HS.out] at he
       subst he)
    | (at_make
       refine wpList_make_i rfl 103 30 .u64 8 _ _ rfl Tryd.underlying103 (by kernel_rfl) (by omega) w.heap.size m m rfl rfl rfl (by omega) (Nat.le_refl _) ?_
       intro v2 w2 hown2 hg2
       have hB2 : Below w.heap.size w w2 := (Below.refl _ _).grown hg2 (Nat.le_refl _) (fun k hk => by cases hk)
       clear hg2))
  go_loopw [8, 9, 33] (fun v q i wr => ∃ (k a : Nat) (L : List Nat), k ≤ m ∧ i = .int .i64 k ∧ q = .int .i64 a ∧ a = (ks.take k).sum ∧ L = (cutL ks b).take k ∧ OwnI .u64 30 wr w.heap.size v (ints L) ∧ Below w.heap.size w wr) (fun _ _ i _ => m - (intOf i).toNat)
  case atStart => exact ⟨0, 0, [], Nat.zero_le _, rfl, rfl, rfl, rfl, hown2, hB2⟩
  case round =>
    clear hown2 hB2
    obtain ⟨k, a, L, hkm, rfl, rfl, ha, hL, hown, hB⟩ := hrel
    have HA := Lib.hid ha
    have HL := Lib.hid hL
    clear ha hL
    by_cases hlt : k < m
    · have hkk : k < ks.length := by rw [HKS.out]; exact hlt
      obtain ⟨bd, od, rfl, hcs⟩ := (hl.below hB).at_ (by omega)
      have hck := hcs k hlt
      rw [ints_get ks k hkk] at hck
      obtain ⟨K, hK⟩ : ∃ K, ks.getD k 0 = K := ⟨_, rfl⟩
      have hK18 : 1 ≤ K ∧ K ≤ 8 := by
        rw [← hK, List.getD_eq_getElem?_getD, List.getElem?_eq_getElem hkk]
        exact HK.out _ (List.getElem_mem hkk)
      obtain ⟨hK1, hK8⟩ := hK18
      have hak : a + K ≤ n := by
        have h1 := sumN_snoc ks k hkk
        have h2 := sumN_le ks (k + 1)
        rw [hK, ← HA.out] at h1
        rw [HSUM.out] at h2
        omega
      rw [hK] at hck
      obtain ⟨bb, off, rfl, _⟩ := hb.at_ (by omega)
      have hcut : ∀ w, (Instr.slice 22 (.slice (some ⟨bb, off, none⟩) n c) (some (.int .i64 a)) (some (.int .i64 ((a : Int) + K))) (some (.int .i64 ((a : Int) + K)))).run Tryd.prog w = .ok (.slice (some ⟨bb, off + a, none⟩) K K) w := fun w => by
        have := run_cut3 bb off n c a (a + K) (a + K) a ((a : Int) + K) ((a : Int) + K) rfl (by omega) (by omega) (by omega) (by omega) (by have := hb.le; omega) (by omega) w
        rw [show a + K - a = K by omega] at this
        exact this
      obtain ⟨x, hx⟩ : ∃ x, numL ((b.drop a).take K) = x := ⟨_, rfl⟩
      have hpc : Bts wr (some ⟨bb, off + a, none⟩) K K ((b.drop a).take K) := by
        have h3 := piece_bts (hb.below hB) hak hK1
        exact ⟨h3.len, Nat.le_refl _, by unfold maxLen; omega, h3.ok, (fun e => by cases e), h3.at_⟩
      have hx2 : numL ((((b.drop a).take K).drop 0).take K) = x := by
        rw [List.drop_zero, List.take_take, Nat.min_self, hx]
      have hL2 : L ++ [x] = (cutL ks b).take (k + 1) := by rw [cutL_snoc ks b k hkk, HL.out, ← HA.out, hK, hx]
      have ha2 : a + K = (ks.take (k + 1)).sum := by rw [sumN_snoc ks k hkk, hK, HA.out]
      have hLl : (ints L).length ≤ 40 := by
        rw [ints_length, HL.out, List.length_take]
        omega
      have HX2 := Lib.hid hx2
      have HL2 := Lib.hid hL2
      have HA2 := Lib.hid ha2
      have HPC := Lib.hid hpc
      clear hx hK hx2 hL2 ha2 hpc hcs hkk
      have hg0 : 0 ≤ (a : Int) + K := by omega
      go_wp2_with (first
        | (go_at_call 61; (with_reducible refine (get_at (some ⟨bb, off + a, none⟩) K K ((b.drop a).take K) 0 K 0 K wr rfl rfl HPC.out hK1 hK8 (by omega)).mono ?_); rintro e w6 ⟨he, rfl⟩
           rw [HX2.out, Nat.zero_add] at he
           subst he)
        | (at_builtin
           refine wpList_append_i rfl 103 30 .u64 8 _ _ rfl Tryd.underlying103 (by kernel_rfl) (by omega) w.heap.size u8 (ints L) rfl (hown.more _) _ 1 1 [(x : Int)] rfl (one_its .u64 30 _ (x : Int)) (by omega) (Nat.le_trans hB.size (size_le_alloc _ _)) ?_
           intro v5 w5 hown5 hg5
           have hB5 : Below w.heap.size w w5 := (hB.alloc hB.size _).grown hg5 (Nat.le_trans hB.size (size_le_alloc _ _)) (fun k hk => (hown.size k hk).1)
           have hown5 : OwnI .u64 30 w5 w.heap.size v5 (ints (L ++ [x])) := by rw [ints_append]; exact hown5
           clear hg5))
      go_roundw
      case rel => exact ⟨k + 1, a + K, L ++ [x], by omega, by go_num, by go_num, HA2.out, HL2.out, hown5, hB5⟩
      case measure => simp [intOf]; omega
    · have hkn : k = m := by omega
      have htk : L = cutL ks b := by
        have h5 := cutL_length ks b
        rw [HL.out, hkn, ← HKS.out, ← h5, List.take_length]
      rw [htk] at hown
      have HO := Lib.hid hown
      clear hown htk hkn
      go_wp2
      go_ret2
      exact ⟨_, rfl, HO.out, hB⟩
end Go.Proofs.YtafmompplcaadaaDoor

/- The walks over the plain answers' Put and Get of numbers. -/
namespace Go.Proofs.YtafmompplcaadaaDoor
set_option linter.unusedVariables false
set_option linter.unusedSimpArgs false
open Go.RowKit

def putV (N K g : Nat) : Value := if N < 256 ^ K then .tuple #[.slice (some ⟨g, 0, none⟩) K K, .bool true] else .tuple #[.slice none 0 0, .bool false]
theorem putV_yes {N K g : Nat} (h : N < 256 ^ K) : Ending.returned (.tuple #[.slice (some ⟨g, 0, none⟩) K K, .bool true]) = Ending.returned (putV N K g) := by rw [putV, if_pos h]
theorem putV_no {N K g : Nat} (h : ¬ N < 256 ^ K) : Ending.returned (.tuple #[.slice none 0 0, .bool false]) = Ending.returned (putV N K g) := by rw [putV, if_neg h]
theorem mulStep (y : Nat) (z : Int) (hy : y < 256 ^ 7) (h0 : 0 ≤ z) (h1 : z < 256) : IntKind.u64.wrap (IntKind.u64.wrap (256 * (y : Int)) + z) = ((256 * y + z.toNat : Nat) : Int) := by
  rw [IntKind.wrap_u64, IntKind.wrap_u64]
  omega
end Go.Proofs.YtafmompplcaadaaDoor

/- The walk over the plain answers' Cat of numbers. -/
namespace Go.Proofs.YtafmompplcaadaaDoor
set_option linter.unusedVariables false
set_option linter.unusedSimpArgs false
open Go.RowKit

end Go.Proofs.YtafmompplcaadaaDoor

/- The walks over the plain answers' Cut and Nums. -/
namespace Go.Proofs.YtafmompplcaadaaDoor
set_option linter.unusedVariables false
set_option linter.unusedSimpArgs false
open Go.RowKit

end Go.Proofs.YtafmompplcaadaaDoor

/- What a call gives: both sides, the program's and the plain answers', of one hidden value. -/
namespace Go.Proofs.YtafmompplcaadaaDoor
set_option linter.unusedVariables false
set_option linter.unusedSimpArgs false
open Go.RowKit

/-- a call that hands back bytes and a bool -/
def GivesB (L : List Int) (b : Bool) (w : World) (e : Ending) (w' : World) : Prop := ∃ A m c, e = .returned (.tuple #[.slice A m c, .bool b]) ∧ Bts w' A m c L ∧ Below w.heap.size w w'
/-- a call that hands back numbers and a bool -/
def GivesI (L : List Int) (b : Bool) (w : World) (e : Ending) (w' : World) : Prop := ∃ A m c, e = .returned (.tuple #[.slice A m c, .bool b]) ∧ Its .u64 w' A m c L ∧ Below w.heap.size w w'
theorem Own.gives {w w' : World} {v : Value} {L : List Int} (h : Own w' w.heap.size v L) (ho : ∀ j, 0 ≤ L.getD j 0 ∧ L.getD j 0 < 256) (hb : Below w.heap.size w w') : GivesB L true w (.returned (.tuple #[v, .bool true])) w' := by
  obtain ⟨A, m, c, rfl, hbt⟩ := h.slice ho
  exact ⟨A, m, c, rfl, hbt, hb⟩
theorem OwnI.gives {w w' : World} {e : TypeId} {v : Value} {L : List Int} (h : OwnI .u64 e w' w.heap.size v L) (hb : Below w.heap.size w w') : GivesI L true w (.returned (.tuple #[v, .bool true])) w' := by
  obtain ⟨A, m, c, rfl, hi⟩ := h.its
  exact ⟨A, m, c, rfl, hi, hb⟩
theorem catPost_gives {l : List (Int × Int)} {w w' : World} {e : Ending} (h : CatPost l w e w') : GivesB (if catB l then catL (toN l) else []) (catB l) w e w' := by
  obtain ⟨h1, h2, h3⟩ := h
  cases hc : catB l with
  | true =>
    obtain ⟨v, he, ho⟩ := h1 hc
    subst he
    exact ho.gives (catL_ok _) h3
  | false => exact ⟨none, 0, 0, h2 hc, Bts.nil w', h3⟩
end Go.Proofs.YtafmompplcaadaaDoor

/- Entries, plainly: their cells and bytes, which may be; a slice of entries as it lies; those of a kind, and the epoch of the last start. -/
namespace Go.Proofs.YtafmompplcaadaaDoor
set_option linter.unusedVariables false
set_option linter.unusedSimpArgs false
open Go.RowKit

structure En where
  kind : Int
  tick : Int
  epoch : Int
  user : Int
  sess : Int
  count : Int
  cmd : Int
  arg : Int
  code : Int
deriving DecidableEq
def En.zero : En := ⟨0, 0, 0, 0, 0, 0, 0, 0, 0⟩
def En.row (u : En) : List Value := [.int .i64 u.kind, .int .i64 u.tick, .int .i64 u.epoch, .int .i64 u.user, .int .u64 u.sess, .int .u64 u.count, .int .i64 u.cmd, .int .i64 u.arg, .int .i64 u.code]
def enA (u : En) : Array Value := u.row.toArray
def enV (u : En) : Value := .agg (enA u)
theorem enA_size (u : En) : (enA u).size = 9 := rfl
theorem erow_len (u : En) : u.row.length = 9 := rfl
theorem row_one9 (u : En) : ∀ v ∈ u.row, v.oneCell' = true := by
  intro v hv
  simp only [En.row, List.mem_cons, List.not_mem_nil, or_false] at hv
  rcases hv with rfl | rfl | rfl | rfl | rfl | rfl | rfl | rfl | rfl <;> rfl
/-- its two wide numbers are -/
structure En.ok (u : En) : Prop where
  sess : 0 ≤ u.sess ∧ u.sess < 18446744073709551616
  count : 0 ≤ u.count ∧ u.count < 18446744073709551616
/-- the block g holds this entry -/
structure BoxE (w : World) (g : Nat) (u : En) : Prop where
  blk : w.heap[g]? = some (.cells (enA u) 33 (0, 0))
section
variable {w w' : World} {g : Nat} {u : En}
theorem BoxE.below (h : BoxE w g u) (hb : Below w.heap.size w w') : BoxE w' g u := ⟨(hb.block g (Array.getElem?_eq_some_iff.1 h.blk).1).trans h.blk⟩
theorem BoxE.new (w : World) (u : En) : BoxE (w.alloc (.cells (enA u) 33)) w.heap.size u := ⟨heap_alloc_new w _⟩
theorem BoxE.lt (h : BoxE w g u) : g < w.heap.size := (Array.getElem?_eq_some_iff.1 h.blk).1
theorem BoxE.draw (h : BoxE w g u) (k : Nat) : BoxE (w.drewN k) g u := ⟨h.blk⟩
theorem BoxE.c0 (h : BoxE w g u) : w.cell? ⟨g, 0, none⟩ = some (.int .i64 u.kind) := (cell_of_row _ _ _ _ _ _ h.blk).trans rfl
theorem BoxE.c1 (h : BoxE w g u) : w.cell? ⟨g, 1, none⟩ = some (.int .i64 u.tick) := (cell_of_row _ _ _ _ _ _ h.blk).trans rfl
theorem BoxE.c2 (h : BoxE w g u) : w.cell? ⟨g, 2, none⟩ = some (.int .i64 u.epoch) := (cell_of_row _ _ _ _ _ _ h.blk).trans rfl
theorem BoxE.c3 (h : BoxE w g u) : w.cell? ⟨g, 3, none⟩ = some (.int .i64 u.user) := (cell_of_row _ _ _ _ _ _ h.blk).trans rfl
theorem BoxE.c4 (h : BoxE w g u) : w.cell? ⟨g, 4, none⟩ = some (.int .u64 u.sess) := (cell_of_row _ _ _ _ _ _ h.blk).trans rfl
theorem BoxE.c5 (h : BoxE w g u) : w.cell? ⟨g, 5, none⟩ = some (.int .u64 u.count) := (cell_of_row _ _ _ _ _ _ h.blk).trans rfl
theorem BoxE.c6 (h : BoxE w g u) : w.cell? ⟨g, 6, none⟩ = some (.int .i64 u.cmd) := (cell_of_row _ _ _ _ _ _ h.blk).trans rfl
theorem BoxE.c7 (h : BoxE w g u) : w.cell? ⟨g, 7, none⟩ = some (.int .i64 u.arg) := (cell_of_row _ _ _ _ _ _ h.blk).trans rfl
theorem BoxE.c8 (h : BoxE w g u) : w.cell? ⟨g, 8, none⟩ = some (.int .i64 u.code) := (cell_of_row _ _ _ _ _ _ h.blk).trans rfl
theorem BoxE.cells (h : BoxE w g u) : w.cell? ⟨g, 0, none⟩ = some (.int .i64 u.kind) ∧ w.cell? ⟨g, 1, none⟩ = some (.int .i64 u.tick) ∧ w.cell? ⟨g, 2, none⟩ = some (.int .i64 u.epoch) ∧ w.cell? ⟨g, 3, none⟩ = some (.int .i64 u.user) ∧ w.cell? ⟨g, 4, none⟩ = some (.int .u64 u.sess) ∧ w.cell? ⟨g, 5, none⟩ = some (.int .u64 u.count) ∧ w.cell? ⟨g, 6, none⟩ = some (.int .i64 u.cmd) ∧ w.cell? ⟨g, 7, none⟩ = some (.int .i64 u.arg) ∧ w.cell? ⟨g, 8, none⟩ = some (.int .i64 u.code) :=
  ⟨h.c0, h.c1, h.c2, h.c3, h.c4, h.c5, h.c6, h.c7, h.c8⟩
end
/-- a slice of entries -/
structure Ens (w : World) (A : Option Addr) (n c : Nat) (l : List En) : Prop where
  rws : Rws 9 w A n c (l.map En.row)
section
variable {w w' : World} {A : Option Addr} {n c : Nat} {l : List En}
theorem Ens.len (h : Ens w A n c l) : l.length = n := by rw [← h.rws.len, List.length_map]
theorem Ens.small (h : Ens w A n c l) : n ≤ 9223372036854775807 := h.rws.small
theorem Ens.below (h : Ens w A n c l) (hb : Below w.heap.size w w') : Ens w' A n c l := ⟨h.rws.below hb⟩
theorem Ens.draw (h : Ens w A n c l) (k : Nat) : Ens (w.drewN k) A n c l := ⟨h.rws.draw k⟩
theorem Ens.more (h : Ens w A n c l) (o : Obj) : Ens (w.alloc o) A n c l := ⟨h.rws.more o⟩
theorem Ens.nil (w : World) : Ens w none 0 0 [] := ⟨Rws.nil 9 w⟩
/-- one of them -/
theorem Ens.at_ (h : Ens w A n c l) (j : Nat) (hj : j < n) : ∃ b off u, A = some ⟨b, off, none⟩ ∧ l[j]? = some u ∧ b < w.heap.size ∧
    (w.cell? ⟨b, off + j * 9, none⟩ = some (.int .i64 u.kind) ∧ w.cell? ⟨b, off + j * 9 + 1, none⟩ = some (.int .i64 u.tick) ∧ w.cell? ⟨b, off + j * 9 + 2, none⟩ = some (.int .i64 u.epoch) ∧ w.cell? ⟨b, off + j * 9 + 3, none⟩ = some (.int .i64 u.user) ∧ w.cell? ⟨b, off + j * 9 + 4, none⟩ = some (.int .u64 u.sess) ∧ w.cell? ⟨b, off + j * 9 + 5, none⟩ = some (.int .u64 u.count) ∧ w.cell? ⟨b, off + j * 9 + 6, none⟩ = some (.int .i64 u.cmd) ∧ w.cell? ⟨b, off + j * 9 + 7, none⟩ = some (.int .i64 u.arg) ∧ w.cell? ⟨b, off + j * 9 + 8, none⟩ = some (.int .i64 u.code)) := by
  obtain ⟨b, off, hA, hc⟩ := h.rws.at_ (by omega)
  have hl : j < l.length := by rw [h.len]; exact hj
  have hr : (l.map En.row).getD j [] = l[j].row := by simp [List.getD_eq_getElem?_getD, hl]
  have hk : ∀ i, i < 9 → w.cell? ⟨b, off + j * 9 + i, none⟩ = some (l[j].row.getD i undef) := fun i hi => by rw [← hr]; exact hc j hj i hi
  exact ⟨b, off, l[j], hA, by simp [hl], block_lt_of_cell (hk 0 (by omega)), hk 0 (by omega), hk 1 (by omega), hk 2 (by omega), hk 3 (by omega), hk 4 (by omega), hk 5 (by omega), hk 6 (by omega), hk 7 (by omega), hk 8 (by omega)⟩
end
/-- what the call made of entries -/
theorem own_ens {w : World} {B : Nat} {v : Value} {l : List En} (h : OwnR 33 9 w B v (l.map En.row)) : ∃ A n c, v = .slice A n c ∧ Ens w A n c l := by
  obtain ⟨A, n, c, rfl, hr⟩ := h.rws
  exact ⟨A, n, c, rfl, ⟨hr⟩⟩
theorem map_row (l m : List En) : (l ++ m).map En.row = l.map En.row ++ m.map En.row := List.map_append
theorem one_ens (w : World) (u : En) : Ens (w.alloc (.cells (enA u) 33)) (some ⟨w.heap.size, 0, none⟩) 1 1 [u] := ⟨one_rws 9 _ w u.row rfl (row_one9 u)⟩
theorem info_entry : (Tryd.prog.info? 33).map (fun i => (i.zero.map (·.cells.size), i.size, i.bytes)) = some (some 9, 9, 72) := by kernel_rfl
theorem info_en {C : Array Value} (h : C.size = 9) : (Tryd.prog.info? 33).map (·.size) = some C.size := by rw [h]; kernel_rfl
theorem enA_one (u : En) : (enA u).all (·.oneCell') = true := all_oneCell_toArray fun v hv => row_one9 u v hv

def upE (n most : Int) : Bool := decide (0 ≤ n) && decide (n ≤ most)
def mayE (u : En) : Bool := decide (0 ≤ u.kind) && (decide (u.kind < 5) && (decide (0 ≤ u.code) && (decide (u.code ≤ 12) && (upE u.tick 1073741824 && (upE u.epoch 1073741824 && (upE u.user 255 && (upE u.cmd 255 && upE u.arg 65535)))))))
theorem up_iff {n m : Int} : upE n m = true ↔ 0 ≤ n ∧ n ≤ m := by simp [upE]
theorem may_iff {u : En} : mayE u = true ↔ (0 ≤ u.kind ∧ u.kind < 5) ∧ (0 ≤ u.code ∧ u.code ≤ 12) ∧ (0 ≤ u.tick ∧ u.tick ≤ 1073741824) ∧ (0 ≤ u.epoch ∧ u.epoch ≤ 1073741824) ∧ (0 ≤ u.user ∧ u.user ≤ 255) ∧ (0 ≤ u.cmd ∧ u.cmd ≤ 255) ∧ (0 ≤ u.arg ∧ u.arg ≤ 65535) := by
  simp only [mayE, Bool.and_eq_true, decide_eq_true_eq, up_iff, and_assoc]
def numsE (u : En) : List Int := [u.kind, u.tick, u.epoch, u.user, u.sess, u.count, u.cmd, u.arg, u.code]
def szI : List Int := [1, 4, 4, 1, 8, 8, 1, 2, 1]
def szN : List Nat := [1, 4, 4, 1, 8, 8, 1, 2, 1]
theorem sz_ints : szI = ints szN := rfl
def rowE (u : En) : List (Int × Int) := (numsE u).zip szI
/-- its bytes -/
def putE (u : En) : List Int := catL (toN (rowE u))
def enOf (l : List Nat) : En := ⟨l.getD 0 0, l.getD 1 0, l.getD 2 0, l.getD 3 0, l.getD 4 0, l.getD 5 0, l.getD 6 0, l.getD 7 0, l.getD 8 0⟩
/-- what bytes seem to be -/
def seemsE (b : List Int) : En := enOf (cutL szN b)
def gotB (b : List Int) : Bool := decide (b.length = 30) && mayE (seemsE b)
def getE (b : List Int) : En := if gotB b then seemsE b else En.zero
theorem nat_row (u : En) : toN (rowE u) = [(u.kind.toNat, 1), (u.tick.toNat, 4), (u.epoch.toNat, 4), (u.user.toNat, 1), (u.sess.toNat, 8), (u.count.toNat, 8), (u.cmd.toNat, 1), (u.arg.toNat, 2), (u.code.toNat, 1)] := rfl
theorem fit_iff {n k : Int} : fitB n k = true ↔ 1 ≤ k ∧ k ≤ 8 ∧ n.toNat < 256 ^ k.toNat := by simp [fitB]
theorem put_fits {u : En} (h : mayE u = true) (ho : u.ok) : catB (rowE u) = true := by
  obtain ⟨h0, h8, h1, h2, h3, h6, h7⟩ := may_iff.1 h
  obtain ⟨h4, h5⟩ := ho
  simp only [catB, fitsB, rowE, numsE, szI, List.zip_cons_cons, List.zip_nil_right, List.length_cons, List.length_nil, List.all_cons, List.all_nil, Bool.and_eq_true, decide_eq_true_eq, fit_iff, Bool.and_true]
  refine ⟨by omega, ⟨by omega, by omega, ?_⟩, ⟨by omega, by omega, ?_⟩, ⟨by omega, by omega, ?_⟩, ⟨by omega, by omega, ?_⟩, ⟨by omega, by omega, ?_⟩, ⟨by omega, by omega, ?_⟩, ⟨by omega, by omega, ?_⟩, ⟨by omega, by omega, ?_⟩, by omega, by omega, ?_⟩
  all_goals
    simp only [Int.reduceToNat, Nat.reducePow]
    omega
theorem row_small {u : En} (h : mayE u = true) (ho : u.ok) : ∀ p ∈ rowE u, 0 ≤ p.1 ∧ p.1 < 18446744073709551616 ∧ -9223372036854775808 ≤ p.2 ∧ p.2 ≤ 9223372036854775807 := by
  obtain ⟨h0, h8, h1, h2, h3, h6, h7⟩ := may_iff.1 h
  obtain ⟨h4, h5⟩ := ho
  intro p hp
  simp only [rowE, numsE, szI, List.zip_cons_cons, List.zip_nil_right, List.mem_cons, List.not_mem_nil, or_false] at hp
  rcases hp with rfl | rfl | rfl | rfl | rfl | rfl | rfl | rfl | rfl <;> simp only <;> omega
theorem put_len (u : En) : (putE u).length = 30 := by rw [putE, catL_length, nat_row]; rfl
theorem put_ok (u : En) : ∀ j, 0 ≤ (putE u).getD j 0 ∧ (putE u).getD j 0 < 256 := catL_ok _
theorem fits_of {l : List (Int × Int)} (h : catB l = true) : fitsL (toN l) := by
  rw [catB, Bool.and_eq_true] at h
  intro p hp
  obtain ⟨q, hq, rfl⟩ := List.mem_map.1 hp
  have := List.all_eq_true.1 h.2 q hq
  exact (fit_iff.1 this).2.2
theorem seems_put {u : En} (h : mayE u = true) (ho : u.ok) : seemsE (putE u) = u := by
  have h1 := cut_cat _ (fits_of (put_fits h ho))
  obtain ⟨h0, h8, h2, h3, h4, h6, h7⟩ := may_iff.1 h
  obtain ⟨h9, h5⟩ := ho
  rw [nat_row] at h1
  have h2 : cutL szN (putE u) = [u.kind.toNat, u.tick.toNat, u.epoch.toNat, u.user.toNat, u.sess.toNat, u.count.toNat, u.cmd.toNat, u.arg.toNat, u.code.toNat] := by rw [putE, nat_row]; exact h1
  rw [seemsE, h2]
  rcases u with ⟨a0, a1, a2, a3, a4, a5, a6, a7, a8⟩
  simp only [enOf, List.getD_eq_getElem?_getD, List.getElem?_cons_zero, List.getElem?_cons_succ, Option.getD_some, En.mk.injEq] at *
  refine ⟨?_, ?_, ?_, ?_, ?_, ?_, ?_, ?_, ?_⟩ <;> omega
theorem got_put {u : En} (h : mayE u = true) (ho : u.ok) : gotB (putE u) = true := by rw [gotB, put_len, seems_put h ho, h]; rfl
theorem cut_nine (b : List Int) : ∃ a0 a1 a2 a3 a4 a5 a6 a7 a8, cutL szN b = [a0, a1, a2, a3, a4, a5, a6, a7, a8] := ⟨_, _, _, _, _, _, _, _, _, rfl⟩
theorem put_seems {b : List Int} (hb : ∀ x ∈ b, 0 ≤ x ∧ x < 256) (h : b.length = 30) : putE (seemsE b) = b := by
  have h1 := cat_cut szN b hb (by rw [h]; rfl)
  obtain ⟨a0, a1, a2, a3, a4, a5, a6, a7, a8, hc⟩ := cut_nine b
  rw [hc] at h1
  rw [putE, nat_row, seemsE, hc]
  exact h1
theorem seems_ok {b : List Int} (hb : ∀ x ∈ b, 0 ≤ x ∧ x < 256) (h : b.length = 30) : (seemsE b).ok := by
  have h1 := fits_cut szN b hb (by rw [h]; rfl)
  obtain ⟨a0, a1, a2, a3, a4, a5, a6, a7, a8, hc⟩ := cut_nine b
  rw [hc] at h1
  rw [seemsE, hc]
  have h4 := h1 (a4, 8) (by simp [szN])
  have h5 := h1 (a5, 8) (by simp [szN])
  simp only [Nat.reducePow] at h4 h5
  exact ⟨by simp [enOf]; omega, by simp [enOf]; omega⟩
theorem eput_inj {u v : En} (hu : mayE u = true) (ho : u.ok) (hv : mayE v = true) (hp : v.ok) (h : putE u = putE v) : u = v := by
  rw [← seems_put hu ho, ← seems_put hv hp, h]

/-- those of a kind -/
def ofE (l : List En) (k : Int) : List En := l.filter fun u => u.kind == k
/-- the last start's epoch -/
def epochE (l : List En) : Int := l.foldl (fun x u => if u.kind = 0 then u.epoch else x) 0
theorem epoch_snoc (l : List En) (u : En) : epochE (l ++ [u]) = if u.kind = 0 then u.epoch else epochE l := by simp [epochE]
theorem epoch_back (l : List En) : epochE l = ((ofE l.reverse 0).head?.map En.epoch).getD 0 := by
  have key : ∀ m : List En, epochE m.reverse = ((ofE m 0).head?.map En.epoch).getD 0 := by
    intro m
    induction m with
    | nil => rfl
    | cons u m ih =>
      rw [List.reverse_cons, epoch_snoc, ih]
      by_cases h : u.kind = 0
      · simp [h, ofE]
      · simp [h, ofE]
  have := key l.reverse
  rwa [List.reverse_reverse] at this
theorem of_snoc (l : List En) (u : En) (k : Int) : ofE (l ++ [u]) k = ofE l k ++ if u.kind == k then [u] else [] := by
  rw [ofE, List.filter_append, ofE]
  simp only [List.filter_cons, List.filter_nil]
theorem etake_more {α : Type} {l : List α} {j : Nat} {u : α} (h : l[j]? = some u) : l.take (j + 1) = l.take j ++ [u] := by
  obtain ⟨hj, rfl⟩ := List.getElem?_eq_some_iff.1 h
  exact List.take_succ_eq_append_getElem hj
theorem of_take {l : List En} {j : Nat} {u : En} (h : l[j]? = some u) (k : Int) : ofE (l.take (j + 1)) k = ofE (l.take j) k ++ if u.kind == k then [u] else [] := by rw [etake_more h, of_snoc]
theorem of_len (l : List En) (k : Int) : (ofE l k).length ≤ l.length := List.length_filter_le _ _
def sameE (l m : List En) : Bool := decide (l = m)
theorem same_len {l m : List En} (h : l.length ≠ m.length) : sameE l m = false := by
  rw [sameE, decide_eq_false_iff_not]
  rintro rfl
  exact h rfl
theorem same_take {l m : List En} {j : Nat} {u v : En} (h : l[j]? = some u) (h2 : m[j]? = some v) (h3 : l.take j = m.take j) (h4 : u = v) : l.take (j + 1) = m.take (j + 1) := by
  rw [etake_more h, etake_more h2, h3, h4]
theorem same_stop {l m : List En} {j : Nat} {u v : En} (h : l[j]? = some u) (h2 : m[j]? = some v) (h3 : u ≠ v) : sameE l m = false := by
  rw [sameE, decide_eq_false_iff_not]
  rintro rfl
  rw [h] at h2
  exact h3 (Option.some.inj h2)
/-- gives a bool, a number, an entry -/
def GBe (b : Bool) (w : World) (e : Ending) (w' : World) : Prop := e = .returned (.bool b) ∧ Below w.heap.size w w'
def GIe (i : Int) (w : World) (e : Ending) (w' : World) : Prop := e = .returned (.int .i64 i) ∧ Below w.heap.size w w'
/-- gives an entry, and a bool; gives entries -/
def GE (u : En) (b : Bool) (w : World) (e : Ending) (w' : World) : Prop := e = .returned (.tuple #[enV u, .bool b]) ∧ Below w.heap.size w w'
def GL (l : List En) (w : World) (e : Ending) (w' : World) : Prop := ∃ A n c, e = .returned (.slice A n c) ∧ Ens w' A n c l ∧ Below w.heap.size w w'
end Go.Proofs.YtafmompplcaadaaDoor

/- Sums of bytes (SHA-256) as functions of lists: what the walks over package sha, and over the plain answers of the document, come to; and that both are the same. -/
namespace Go.Proofs.YtafmompplcaadaaDoor
open Go

/-- a number of 32 bits, turned -/
def rot (x n : Int) : Int := bits .or .u32 (x / 2 ^ n.toNat) (x * 2 ^ (32 - n).toNat % 4294967296)
def x32 (a b : Int) : Int := bits .xor .u32 a b
def a32 (a b : Int) : Int := bits .and .u32 a b

def bigE (e : Int) : Int := x32 (x32 (rot e 6) (rot e 11)) (rot e 25)
def bigA (a : Int) : Int := x32 (x32 (rot a 2) (rot a 13)) (rot a 22)
def chE (e f g : Int) : Int := x32 (a32 e f) (a32 (x32 IntKind.u32.max e) g)
def majA (a b c : Int) : Int := x32 (x32 (a32 a b) (a32 a c)) (a32 b c)
def lowS (x : Int) : Int := x32 (x32 (rot x 7) (rot x 18)) (x / 8)
def highS (y : Int) : Int := x32 (x32 (rot y 17) (rot y 19)) (y / 1024)

/-- one round -/
def rnd (r : List Int) (n : Int) : List Int :=
  match r with
  | [a, b, c, d, e, f, g, h] => [(h + bigE e + chE e f g + n + (bigA a + majA a b c)) % 4294967296, a, b, c, (d + (h + bigE e + chE e f g + n)) % 4294967296, e, f, g]
  | _ => r

def kList : List Int := [1116352408, 1899447441, 3049323471, 3921009573, 961987163, 1508970993, 2453635748, 2870763221, 3624381080, 310598401, 607225278, 1426881987, 1925078388, 2162078206, 2614888103, 3248222580, 3835390401, 4022224774, 264347078, 604807628, 770255983, 1249150122, 1555081692, 1996064986, 2554220882, 2821834349, 2952996808, 3210313671, 3336571891, 3584528711, 113926993, 338241895, 666307205, 773529912, 1294757372, 1396182291, 1695183700, 1986661051, 2177026350, 2456956037, 2730485921, 2820302411, 3259730800, 3345764771, 3516065817, 3600352804, 4094571909, 275423344, 430227734, 506948616, 659060556, 883997877, 958139571, 1322822218, 1537002063, 1747873779, 1955562222, 2024104815, 2227730452, 2361852424, 2428436474, 2756734187, 3204031479, 3329325298]
def iList : List Int := [1779033703, 3144134277, 1013904242, 2773480762, 1359893119, 2600822924, 528734635, 1541459225]

/-- the i-th number of a block -/
def word (l : List Int) (i : Nat) : Int :=
  bits .or .u32 (bits .or .u32 (bits .or .u32 (l.getD (4 * i) 0 * 16777216 % 4294967296) (l.getD (4 * i + 1) 0 * 65536 % 4294967296)) (l.getD (4 * i + 2) 0 * 256 % 4294967296)) (l.getD (4 * i + 3) 0)
def spreadA (l : List Int) : Nat → List Int
  | 0 => List.replicate 64 0
  | k + 1 => (spreadA l k).set k (word l k)
def nextW (w : List Int) (i : Nat) : Int :=
  (w.getD (i - 16) 0 + lowS (w.getD (i - 15) 0) + w.getD (i - 7) 0 + highS (w.getD (i - 2) 0)) % 4294967296
def spreadB (l : List Int) : Nat → List Int
  | 0 => spreadA l 16
  | k + 1 => (spreadB l k).set (k + 16) (nextW (spreadB l k) (k + 16))
def spreadAll (l : List Int) : List Int := spreadB l 48

def runs (w : List Int) (r : List Int) : Nat → List Int
  | 0 => r
  | k + 1 => rnd (runs w r k) ((kList.getD k 0 + w.getD k 0) % 4294967296)
def addTo (x r : List Int) : Nat → List Int
  | 0 => x
  | k + 1 => (addTo x r k).set k (((addTo x r k).getD k 0 + r.getD k 0) % 4294967296)
/-- a register, rounded by a block -/
def roundedL (r l : List Int) : List Int := addTo (runs (spreadAll l) r 64) r 8
/-- .. by the first k blocks -/
def blocksL (r l : List Int) : Nat → List Int
  | 0 => r
  | k + 1 => roundedL (blocksL r l k) ((l.drop (64 * k)).take 64)
def byBlocks (r l : List Int) : List Int := blocksL r l (l.length / 64)

/-- how many noughts stand behind the byte 128 -/
def noughts (n : Nat) : Nat := (64 - (n + 9) % 64) % 64
def bits8 (n : Nat) (i : Nat) : Int := ((8 * n : Nat) : Int) / 2 ^ (56 - 8 * i) % 256
def endingL (n : Nat) : List Int := [128] ++ List.replicate (noughts n) 0 ++ (List.range 8).map (bits8 n)
def speltAt (r : List Int) (i : Nat) : Int := r.getD (i / 4) 0 / 2 ^ (24 - 8 * (i % 4)) % 256
def speltL (r : List Int) : List Int := (List.range 32).map (speltAt r)
def endL (r rest : List Int) (n : Nat) : List Int := speltL (byBlocks r (rest ++ endingL n))
def sumL (l : List Int) : List Int := endL (byBlocks iList (l.take (l.length / 64 * 64))) (l.drop (l.length / 64 * 64)) l.length

theorem abc_first : ((sumL [97, 98, 99]).getD 0 0, (sumL [97, 98, 99]).getD 1 0, (sumL [97, 98, 99]).getD 2 0, (sumL [97, 98, 99]).getD 3 0) = (186, 120, 22, 191) := by decide +kernel
theorem none_first : ((sumL []).getD 0 0, (sumL []).getD 3 0) = (227, 66) := by decide +kernel
end Go.Proofs.YtafmompplcaadaaDoor

/- Entries in a chain of sums, plainly: heads, records, what is read of bytes, what is wrong with them, two texts of one sum. -/
namespace Go.Proofs.YtafmompplcaadaaDoor
set_option linter.unusedVariables false
set_option linter.unusedSimpArgs false
open Go

theorem csum_len (l : List Int) : (sumL l).length = 32 := by simp [sumL, endL, speltL]
theorem csum_byte (l : List Int) : ∀ j, 0 ≤ (sumL l).getD j 0 ∧ (sumL l).getD j 0 < 256 := by
  intro j
  by_cases h : j < 32
  · simp only [sumL, endL, speltL, List.getD_eq_getElem?_getD, List.getElem?_map, List.getElem?_range h, Option.map_some, Option.getD_some, speltAt]
    omega
  · rw [List.getD_eq_getElem?_getD, List.getElem?_eq_none (by rw [csum_len]; omega)]
    simp
def startC : List Int := sumL [0]
def linkT (h : List Int) (u : En) : List Int := 1 :: (h ++ putE u)
def linkC (h : List Int) (u : En) : List Int := sumL (linkT h u)
def headF (h : List Int) (l : List En) : List Int := l.foldl linkC h
def headC (l : List En) : List Int := headF startC l
theorem headF_cons (h : List Int) (u : En) (l : List En) : headF h (u :: l) = headF (linkC h u) l := rfl
theorem headF_snoc (h : List Int) (l : List En) (u : En) : headF h (l ++ [u]) = linkC (headF h l) u := by simp [headF]
theorem headC_snoc (l : List En) (u : En) : headC (l ++ [u]) = linkC (headC l) u := headF_snoc _ _ _
theorem headF_len {h : List Int} (hh : h.length = 32) (l : List En) : (headF h l).length = 32 := by
  induction l generalizing h with
  | nil => exact hh
  | cons u l ih => rw [headF_cons]; exact ih (csum_len _)
theorem headC_len (l : List En) : (headC l).length = 32 := headF_len (csum_len _) l
theorem headF_byte {h : List Int} (hh : ∀ j, 0 ≤ h.getD j 0 ∧ h.getD j 0 < 256) (l : List En) : ∀ j, 0 ≤ (headF h l).getD j 0 ∧ (headF h l).getD j 0 < 256 := by
  induction l generalizing h with
  | nil => exact hh
  | cons u l ih => rw [headF_cons]; exact ih (csum_byte _)
theorem headC_byte (l : List En) : ∀ j, 0 ≤ (headC l).getD j 0 ∧ (headC l).getD j 0 < 256 := headF_byte (csum_byte _) l
/-- the text of entries -/
def textC (l : List En) : List Int := if h : l = [] then [0] else linkT (headC l.dropLast) (l.getLast h)
theorem textC_snoc (l : List En) (u : En) : textC (l ++ [u]) = linkT (headC l) u := by simp [textC]
theorem head_text (l : List En) : headC l = sumL (textC l) := by
  rcases List.eq_nil_or_concat l with rfl | ⟨m, u, rfl⟩
  · rfl
  · rw [List.concat_eq_append, headC_snoc, textC_snoc, linkC]
/-- the records -/
def recsF : List Int → List En → List Int
  | _, [] => []
  | h, u :: l => putE u ++ (linkC h u ++ recsF (linkC h u) l)
def recsC (l : List En) : List Int := recsF startC l
theorem recsF_len (l : List En) : ∀ h, (recsF h l).length = 62 * l.length := by
  induction l with
  | nil => intro h; rfl
  | cons u l ih =>
    intro h
    rw [recsF, List.length_append, List.length_append, put_len, linkC, csum_len, ih, List.length_cons]
    omega
theorem recsF_app (l m : List En) : ∀ h, recsF h (l ++ m) = recsF h l ++ recsF (headF h l) m := by
  induction l with
  | nil => intro h; rfl
  | cons u l ih => intro h; rw [List.cons_append, recsF, recsF, ih, headF_cons]; simp
theorem recsC_snoc (l : List En) (u : En) : recsC (l ++ [u]) = recsC l ++ (putE u ++ linkC (headC l) u) := by
  rw [recsC, recsF_app, recsF, recsF]
  simp [recsC, headC]
def mayC (l : List En) : Bool := l.all mayE
def putC (l : List En) : Bool := decide (l.length ≤ 264) && mayC l
theorem mayC_snoc (l : List En) (u : En) : mayC (l ++ [u]) = (mayC l && mayE u) := by simp [mayC]
theorem mayC_part {l : List En} {k : Nat} (h : mayC (l.take k) = false) : mayC l = false := by
  rw [← List.take_append_drop k l]
  unfold mayC at h ⊢
  rw [List.all_append, h, Bool.false_and]
/-- is there a whole record behind the head h? -/
def wholeC (h b : List Int) : Bool := decide (62 ≤ b.length) && (gotB (b.take 30) && linkC h (seemsE (b.take 30)) == (b.drop 30).take 32)
def readF : Nat → List Int → List Int → List En
  | 0, _, _ => []
  | f + 1, h, b => if wholeC h b then seemsE (b.take 30) :: readF f (linkC h (seemsE (b.take 30))) (b.drop 62) else []
def readC (b : List Int) : List En := readF 264 startC b
theorem readF_le (f : Nat) : ∀ h b, (readF f h b).length ≤ f := by
  induction f with
  | zero => intro h b; exact Nat.le_refl _
  | succ f ih =>
    intro h b
    rw [readF]
    split
    · rw [List.length_cons]; exact Nat.succ_le_succ (ih _ _)
    · exact Nat.zero_le _
theorem readC_le (b : List Int) : (readC b).length ≤ 264 := readF_le _ _ _
theorem readF_room (f : Nat) : ∀ h b, 62 * (readF f h b).length ≤ b.length := by
  induction f with
  | zero => intro h b; exact Nat.zero_le _
  | succ f ih =>
    intro h b
    rw [readF]
    cases hw : wholeC h b with
    | false => exact Nat.zero_le _
    | true =>
      rw [wholeC, Bool.and_eq_true, decide_eq_true_eq] at hw
      have := ih (linkC h (seemsE (b.take 30))) (b.drop 62)
      rw [List.length_drop] at this
      rw [if_pos rfl, List.length_cons]
      omega
theorem readC_room (b : List Int) : 62 * (readC b).length ≤ b.length := readF_room _ _ _
/-- a step of reading -/
theorem readF_at (f : Nat) : ∀ (h b : List Int) (k : Nat), k ≤ (readF f h b).length →
    (k < (readF f h b).length → wholeC (headF h ((readF f h b).take k)) (b.drop (62 * k)) = true ∧ (readF f h b)[k]? = some (seemsE ((b.drop (62 * k)).take 30))) ∧
    (k = (readF f h b).length → k < f → wholeC (headF h ((readF f h b).take k)) (b.drop (62 * k)) = false) := by
  induction f with
  | zero => intro h b k hk; exact ⟨fun h2 => by simp [readF] at h2, fun _ h2 => by omega⟩
  | succ f ih =>
    intro h b k hk
    cases hw : wholeC h b with
    | false =>
      have e : readF (f + 1) h b = [] := by rw [readF, hw]; rfl
      rw [e] at hk ⊢
      have : k = 0 := by simpa using hk
      subst this
      exact ⟨fun h2 => by simp at h2, fun _ _ => by simpa [headF] using hw⟩
    | true =>
      have e : readF (f + 1) h b = seemsE (b.take 30) :: readF f (linkC h (seemsE (b.take 30))) (b.drop 62) := by rw [readF, hw]; rfl
      rw [e] at hk ⊢
      cases k with
      | zero => exact ⟨fun _ => ⟨by simpa [headF] using hw, by simp⟩, fun h2 => by simp at h2⟩
      | succ k =>
        rw [List.length_cons] at hk ⊢
        obtain ⟨h1, h2⟩ := ih (linkC h (seemsE (b.take 30))) (b.drop 62) k (by omega)
        have e2 : (b.drop 62).drop (62 * k) = b.drop (62 * (k + 1)) := by rw [List.drop_drop]; congr 1; omega
        rw [e2] at h1 h2
        rw [List.take_succ_cons, headF_cons, List.getElem?_cons_succ]
        exact ⟨fun h3 => h1 (by omega), fun h3 h4 => h2 (by omega) (by omega)⟩
theorem whole_parts {h b : List Int} (hw : wholeC h b = true) : 62 ≤ b.length ∧ gotB (b.take 30) = true ∧ linkC h (seemsE (b.take 30)) = (b.drop 30).take 32 := by
  rw [wholeC, Bool.and_eq_true, Bool.and_eq_true, decide_eq_true_eq, beq_iff_eq] at hw
  exact hw
theorem ok_part {b : List Int} (hb : ∀ x ∈ b, 0 ≤ x ∧ x < 256) {c : List Int} (hc : ∀ x ∈ c, x ∈ b) : ∀ x ∈ c, 0 ≤ x ∧ x < 256 := fun x hx => hb x (hc x hx)
/-- what is read may be, and is put as what was read -/
theorem readF_put (f : Nat) : ∀ (h b : List Int), (∀ x ∈ b, 0 ≤ x ∧ x < 256) → mayC (readF f h b) = true ∧ (∀ u ∈ readF f h b, u.ok) ∧ recsF h (readF f h b) = b.take (62 * (readF f h b).length) := by
  induction f with
  | zero => intro h b _; exact ⟨rfl, fun u hu => by simp [readF] at hu, by simp [readF, recsF]⟩
  | succ f ih =>
    intro h b hb
    cases hw : wholeC h b with
    | false =>
      have e : readF (f + 1) h b = [] := by rw [readF, hw]; rfl
      rw [e]
      exact ⟨rfl, fun u hu => by simp at hu, by simp [recsF]⟩
    | true =>
      have e : readF (f + 1) h b = seemsE (b.take 30) :: readF f (linkC h (seemsE (b.take 30))) (b.drop 62) := by rw [readF, hw]; rfl
      obtain ⟨h1, h2, h3⟩ := whole_parts hw
      obtain ⟨i1, i2, i3⟩ := ih (linkC h (seemsE (b.take 30))) (b.drop 62) (ok_part hb fun x hx => List.mem_of_mem_drop hx)
      have ht : ∀ x ∈ b.take 30, 0 ≤ x ∧ x < 256 := ok_part hb fun x hx => List.mem_of_mem_take hx
      have hl : (b.take 30).length = 30 := by rw [List.length_take]; omega
      have hg := h2
      rw [gotB, Bool.and_eq_true, decide_eq_true_eq] at hg
      rw [e]
      refine ⟨?_, ?_, ?_⟩
      · show (mayE _ && mayC _) = true
        rw [hg.2, i1]; rfl
      · intro u hu
        rcases List.mem_cons.1 hu with rfl | hu
        · exact seems_ok ht hl
        · exact i2 u hu
      · rw [recsF, put_seems ht hl, i3, h3, List.length_cons]
        have e1 : (b.drop 62).take (62 * (readF f ((b.drop 30).take 32) (b.drop 62)).length) = ((b.drop 30).drop 32).take (62 * (readF f ((b.drop 30).take 32) (b.drop 62)).length) := by rw [List.drop_drop]
        rw [e1, ← List.take_add, ← List.take_add]
        congr 1
        omega
theorem readC_put {b : List Int} (hb : ∀ x ∈ b, 0 ≤ x ∧ x < 256) : mayC (readC b) = true ∧ (∀ u ∈ readC b, u.ok) ∧ recsC (readC b) = b.take (62 * (readC b).length) := readF_put _ _ _ hb
/-- what is put is read -/
theorem read_recs (l : List En) : ∀ (f : Nat) (h c : List Int), mayC l = true → (∀ u ∈ l, u.ok) → l.length ≤ f → readF f h (recsF h l ++ c) = l ++ readF (f - l.length) (headF h l) c := by
  induction l with
  | nil => intro f h c _ _ _; simp [recsF, headF]
  | cons u l ih =>
    intro f h c hm ho hf
    obtain ⟨f, rfl⟩ : ∃ g, f = g + 1 := ⟨f - 1, by rw [List.length_cons] at hf; omega⟩
    have hm2 : mayE u = true ∧ mayC l = true := by
      have : (mayE u && mayC l) = true := hm
      rwa [Bool.and_eq_true] at this
    have hu := ho u (by simp)
    have e1 : (recsF h (u :: l) ++ c).take 30 = putE u := by rw [recsF, List.append_assoc]; exact List.take_left' (put_len u)
    have e2 : (recsF h (u :: l) ++ c).drop 30 = linkC h u ++ (recsF (linkC h u) l ++ c) := by rw [recsF, List.append_assoc, List.append_assoc]; exact List.drop_left' (put_len u)
    have e3 : ((recsF h (u :: l) ++ c).drop 30).take 32 = linkC h u := by rw [e2]; exact List.take_left' (csum_len _)
    have e4 : (recsF h (u :: l) ++ c).drop 62 = recsF (linkC h u) l ++ c := by
      have : (recsF h (u :: l) ++ c).drop 62 = ((recsF h (u :: l) ++ c).drop 30).drop 32 := by rw [List.drop_drop]
      rw [this, e2]
      exact List.drop_left' (csum_len _)
    have hw : wholeC h (recsF h (u :: l) ++ c) = true := by
      rw [wholeC, e1, e3, got_put hm2.1 hu, seems_put hm2.1 hu]
      rw [decide_eq_true (by rw [List.length_append, recsF_len, List.length_cons]; omega)]
      simp
    rw [readF, if_pos hw, e1, e4, seems_put hm2.1 hu, ih f (linkC h u) c hm2.2 (fun v hv => ho v (by simp [hv])) (by rw [List.length_cons] at hf; omega), headF_cons, List.length_cons, Nat.add_sub_add_right]
    rfl
theorem readF_short {f : Nat} {h c : List Int} (hc : c.length < 62) : readF f h c = [] := by
  cases f with
  | zero => rfl
  | succ f =>
    have : wholeC h c = false := by rw [wholeC, decide_eq_false (by omega), Bool.false_and]
    rw [readF, this]; rfl
/-- cut off anywhere the whole records are read -/
theorem torn_read {l : List En} (hm : mayC l = true) (ho : ∀ u ∈ l, u.ok) (h264 : l.length ≤ 264) (k : Nat) (hk : k ≤ 62 * l.length) : readC ((recsC l).take k) = l.take (k / 62) := by
  have hl : (l.take (k / 62)).length = k / 62 := by rw [List.length_take]; omega
  have e1 : (recsC l).take k = recsF startC (l.take (k / 62)) ++ (recsF (headF startC (l.take (k / 62))) (l.drop (k / 62))).take (k % 62) := by
    have e2 : recsC l = recsF startC (l.take (k / 62)) ++ recsF (headF startC (l.take (k / 62))) (l.drop (k / 62)) := by rw [recsC, ← recsF_app, List.take_append_drop]
    have e3 : k = (recsF startC (l.take (k / 62))).length + k % 62 := by rw [recsF_len, hl]; omega
    rw [e2]
    obtain ⟨X, hX⟩ : ∃ X, recsF startC (l.take (k / 62)) = X := ⟨_, rfl⟩
    obtain ⟨Z, hZ⟩ : ∃ Z, recsF (headF startC (l.take (k / 62))) (l.drop (k / 62)) = Z := ⟨_, rfl⟩
    rw [hX] at e3 ⊢
    rw [hZ]
    obtain ⟨r, hr⟩ : ∃ r, k % 62 = r := ⟨_, rfl⟩
    rw [hr] at e3 ⊢
    rw [e3, List.take_length_add_append]
  have hm2 : mayC (l.take (k / 62)) = true := by
    cases h : mayC (l.take (k / 62)) with
    | true => rfl
    | false => rw [mayC_part h] at hm; exact hm
  rw [readC, e1, read_recs _ 264 startC _ hm2 (fun u hu => ho u (List.mem_of_mem_take hu)) (by omega), readF_short (by rw [List.length_take]; omega), List.append_nil]
theorem put_read {l : List En} (hm : mayC l = true) (ho : ∀ u ∈ l, u.ok) (h264 : l.length ≤ 264) : readC (recsC l) = l := by
  have := torn_read hm ho h264 (62 * l.length) (Nat.le_refl _)
  rwa [List.take_of_length_le (by rw [recsC, recsF_len]; exact Nat.le_refl _), Nat.mul_div_cancel_left _ (by omega), List.take_length] at this
/-- what is wrong -/
def noughtsC : List Int := List.replicate 32 0
def errC (b : List Int) : Int :=
  if 62 * (readC b).length = b.length then 0 else if (readC b).length = 264 ∨ b.length < 62 * (readC b).length + 62 then 4 else if gotB ((b.drop (62 * (readC b).length)).take 30) = true then 7 else 3
def verC (b : List Int) : List Int := if errC b = 0 then headC (readC b) else noughtsC
theorem err_ok (b : List Int) : errC b = 0 ↔ 62 * (readC b).length = b.length := by
  unfold errC
  split
  · simp [*]
  · split
    · simp [*]
    · split <;> simp [*]
/-- two texts of one sum: where they begin, from behind -/
def clashIx (a b : List En) : Nat → Nat → Nat × Nat
  | i + 1, k + 1 => if textC (a.take (i + 1)) = textC (b.take (k + 1)) then clashIx a b i k else (i + 1, k + 1)
  | i, k => (i, k)
def clashB (a b : List En) : Bool := putC a && (putC b && (decide (headC a = headC b) && !decide (a = b)))
def clashP (a b : List En) : List Int × List Int :=
  if clashB a b then (textC (a.take (clashIx a b a.length b.length).1), textC (b.take (clashIx a b a.length b.length).2)) else ([], [])
end Go.Proofs.YtafmompplcaadaaDoor
