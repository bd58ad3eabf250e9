/- The walks over package num's together and Cut: the numbers that bytes are cut into. -/
import Derived.Test.YtfjiefhicjnnnaaNumCat
import Derived.Test.YtfjiefhicjnnnaaBasBytes
import Derived.Test.YtfjiefhicjnnnaaBasInts
namespace Go.Proofs.Ytfjiefhicjnnnaa
set_option linter.unusedVariables false
set_option linter.unusedSimpArgs false
open Go.RowKit

/-- may sizes stand in a row? -/
def sizesB (l : List Int) : Bool := l.all sizeB
def togB (l : List Int) : Bool := decide (l.length ≤ 40) && sizesB l
theorem sizesB_snoc (l : List Int) (k : Nat) (h : k < l.length) : sizesB (l.take (k + 1)) = (sizesB (l.take k) && sizeB (l.getD k 0)) := by
  rw [sizesB, sizesB, List.take_succ_eq_append_getElem h, List.all_append]
  simp [List.getD_eq_getElem?_getD, h]
theorem sizesB_part (l : List Int) (k : Nat) (h : sizesB (l.take k) = false) : sizesB l = false := by
  have e : l = l.take k ++ l.drop k := (List.take_append_drop k l).symm
  rw [e, sizesB, List.all_append]
  rw [sizesB] at h
  rw [h, Bool.false_and]
theorem sum_snoc (l : List Int) (k : Nat) (h : k < l.length) : (l.take (k + 1)).sum = (l.take k).sum + l.getD k 0 := by
  rw [List.take_succ_eq_append_getElem h, List.sum_append]
  simp [List.getD_eq_getElem?_getD, h]
theorem sum_range (l : List Int) (h : sizesB l = true) : 0 ≤ l.sum ∧ l.sum ≤ 8 * l.length := by
  induction l with
  | nil => simp
  | cons x l ih =>
    rw [sizesB, List.all_cons, Bool.and_eq_true] at h
    have h2 := h.1
    unfold sizeB at h2
    rw [decide_eq_true_eq] at h2
    have := ih h.2
    rw [List.sum_cons, List.length_cons]
    omega
theorem ret_two {a b : Int} (h : a = b) (c : Bool) : Ending.returned (.tuple #[.int .i64 a, .bool c]) = .returned (.tuple #[.int .i64 b, .bool c]) := by rw [h]

theorem tog_long (A : Option Addr) (n c : Nat) (l : List Int) (w : World) (hl : Its .i64 w A n c l) (h : 40 < n) :
    Calls Try.prog 36 #[.slice A n c] w fun e w' => e = .returned (.tuple #[.int .i64 0, .bool false]) ∧ w = w' := by
  have hn := hl.small
  have h1 : (40 : Int) < n := by omega
  go_enter Try.func36, Try.ntmps36
  go_wp2
  go_ret2
  exact ⟨rfl, rfl⟩
/-- what together hands back -/
def TogPost (l : List Int) (w : World) (e : Ending) (w' : World) : Prop :=
  (togB l = true → e = .returned (.tuple #[.int .i64 l.sum, .bool true])) ∧ (togB l = false → e = .returned (.tuple #[.int .i64 0, .bool false])) ∧ w = w'
theorem togPost_yes {l : List Int} {w : World} {s : Int} (h : togB l = true) (hs : s = l.sum) : TogPost l w (.returned (.tuple #[.int .i64 s, .bool true])) w :=
  ⟨fun _ => ret_two hs _, fun h2 => by rw [h] at h2; exact Bool.noConfusion h2, rfl⟩
theorem togPost_no {l : List Int} {w : World} (h : togB l = false) : TogPost l w (.returned (.tuple #[.int .i64 0, .bool false])) w :=
  ⟨fun h2 => by rw [h] at h2; exact Bool.noConfusion h2, fun _ => rfl, rfl⟩
set_option maxHeartbeats 1000000 in
theorem tog_short (A : Option Addr) (n c : Nat) (l : List Int) (w : World) (hl : Its .i64 w A n c l) (h : n ≤ 40) :
    Calls Try.prog 36 #[.slice A n c] w fun e w' => TogPost l w e w' := by
  have h1 : (n : Int) ≤ 40 := by omega
  have HLL := Lib.hid hl.len
  go_enter Try.func36, Try.ntmps36
  go_wp2
  go_loop [4, 12] (fun s i => ∃ (k : Nat) (z : Int), k ≤ n ∧ i = .int .i64 k ∧ sizesB (l.take k) = true ∧ s = .int .i64 z ∧ z = (l.take k).sum) (fun _ i => n - (intOf i).toNat)
  case atStart => exact ⟨0, 0, Nat.zero_le _, rfl, rfl, rfl, rfl⟩
  case round =>
    obtain ⟨k, z, hk, rfl, hfit, rfl, hz⟩ := hrel
    have hr := sum_range (l.take k) hfit
    rw [← hz, List.length_take, HLL.out] at hr
    obtain ⟨hr0, hr1⟩ := hr
    have hr2 : z ≤ 320 := by omega
    have HF := Lib.hid hfit
    have HZ := Lib.hid hz
    clear hfit hz hr1
    by_cases hlt : k < n
    · obtain ⟨b, off, rfl, hcs⟩ := hl.at_ (by omega)
      have hc0 := hcs k hlt
      obtain ⟨x, hx⟩ : ∃ x, x = l.getD k 0 := ⟨_, rfl⟩
      rw [← hx] at hc0
      have hlk : k < l.length := by rw [HLL.out]; exact hlt
      have HX := Lib.hid hx
      clear hx hcs
      by_cases hs : 1 ≤ x ∧ x ≤ 8
      · obtain ⟨hs1, hs2⟩ := hs
        have hfit2 : sizesB (l.take (k + 1)) = true := by
          rw [sizesB_snoc l k hlk, HF.out, ← HX.out]
          unfold sizeB; simp; omega
        have hsum : z + x = (l.take (k + 1)).sum := by rw [sum_snoc l k hlk, ← HX.out, HZ.out]
        have HF2 := Lib.hid hfit2
        have HS := Lib.hid hsum
        clear hfit2 hsum hlk
        go_wp2_with (go_at_call 43; refine (size_yes _ _ (by omega) (by omega)).mono ?_; rintro e w1 ⟨rfl, rfl⟩)
        go_round
        case rel => exact ⟨k + 1, z + x, by omega, by go_num, HF2.out, rfl, HS.out⟩
        case measure => simp [intOf]; omega
      · have hs1 : x < 1 ∨ 8 < x := by omega
        have hcb : togB l = false := by
          have h3 := sizesB_snoc l k hlk
          have h4 : sizeB (l.getD k 0) = false := by rw [← HX.out]; unfold sizeB; simp; omega
          rw [h4, Bool.and_false] at h3
          rw [togB, sizesB_part l (k + 1) h3, Bool.and_false]
        have HCB := Lib.hid hcb
        clear hcb hlk hs
        go_wp2_with (go_at_call 43; refine (size_no _ _ hs1).mono ?_; rintro e w1 ⟨rfl, rfl⟩)
        go_ret2
        exact togPost_no HCB.out
    · have hkn : k = n := by omega
      have htk : l.take k = l := by rw [hkn, ← HLL.out, List.take_length]
      have hcb : togB l = true := by
        have h3 := HF.out
        rw [htk] at h3
        rw [togB, h3, HLL.out, decide_eq_true h]
        rfl
      have hsum : z = l.sum := by rw [HZ.out, htk]
      have HCB := Lib.hid hcb
      have HS := Lib.hid hsum
      clear hcb htk hkn hsum
      go_wp2
      go_ret2
      exact togPost_yes HCB.out HS.out
theorem tog_any (A : Option Addr) (n c : Nat) (l : List Int) (w : World) (hl : Its .i64 w A n c l) :
    Calls Try.prog 36 #[.slice A n c] w fun e w' => TogPost l w e w' := by
  by_cases h : 40 < n
  · refine (tog_long A n c l w hl h).mono fun e w' ⟨he, hw⟩ => ?_
    subst he hw
    exact togPost_no (by rw [togB, hl.len, decide_eq_false (by omega), Bool.false_and])
  · exact tog_short A n c l w hl (by omega)
/-- numbers as they lie in cells -/
def ints (l : List Nat) : List Int := l.map Int.ofNat
theorem ints_length (l : List Nat) : (ints l).length = l.length := by simp [ints]
theorem ints_append (l m : List Nat) : ints (l ++ m) = ints l ++ ints m := by simp [ints]
theorem ints_get (l : List Nat) (k : Nat) (h : k < l.length) : (ints l).getD k 0 = ((l.getD k 0 : Nat) : Int) := by
  simp [ints, List.getD_eq_getElem?_getD, h]
theorem ints_sum (l : List Nat) : (ints l).sum = (l.sum : Nat) := by
  induction l with
  | nil => rfl
  | cons x l ih =>
    have : ints (x :: l) = (x : Int) :: ints l := rfl
    rw [this, List.sum_cons, ih, List.sum_cons]
    omega
def okSizes (ks : List Nat) : Prop := ∀ k ∈ ks, 1 ≤ k ∧ k ≤ 8
/-- sizes that may stand in a row -/
theorem tog_nat {l : List Int} (h : togB l = true) : ∃ ks : List Nat, l = ints ks ∧ okSizes ks ∧ ks.length ≤ 40 := by
  rw [togB, Bool.and_eq_true, decide_eq_true_eq] at h
  obtain ⟨h1, h2⟩ := h
  rw [sizesB, List.all_eq_true] at h2
  have hs : ∀ x ∈ l, 1 ≤ x ∧ x ≤ 8 := fun x hx => by
    have := h2 x hx
    unfold sizeB at this
    simpa using this
  refine ⟨l.map Int.toNat, ?_, ?_, by simpa using h1⟩
  · rw [ints, List.map_map]
    have : l.map (Int.ofNat ∘ Int.toNat) = l.map id := List.map_congr_left fun x hx => by
      have := hs x hx
      simp only [Function.comp, id]
      exact Int.toNat_of_nonneg (by omega)
    rw [this, List.map_id]
  · intro k hk
    obtain ⟨x, hx, rfl⟩ := List.mem_map.1 hk
    have := hs x hx
    omega
/-- the number at place k of what is cut -/
theorem cutL_get (ks : List Nat) (b : List Int) (k : Nat) (h : k < ks.length) : (cutL ks b)[k]? = some (numL ((b.drop (ks.take k).sum).take (ks.getD k 0))) := by
  induction ks generalizing b k with
  | nil => simp at h
  | cons x ks ih =>
    cases k with
    | zero => simp [cutL]
    | succ k =>
      rw [cutL, List.getElem?_cons_succ, ih (b.drop x) k (by simpa using h)]
      rw [List.take_succ_cons, List.sum_cons, List.drop_drop]
      simp
theorem cutL_snoc (ks : List Nat) (b : List Int) (k : Nat) (h : k < ks.length) : (cutL ks b).take (k + 1) = (cutL ks b).take k ++ [numL ((b.drop (ks.take k).sum).take (ks.getD k 0))] := by
  have hl : k < (cutL ks b).length := by rw [cutL_length]; exact h
  have := cutL_get ks b k h
  rw [List.getElem?_eq_getElem hl, Option.some.injEq] at this
  rw [List.take_succ_eq_append_getElem hl, this]
theorem sumN_snoc (ks : List Nat) (k : Nat) (h : k < ks.length) : (ks.take (k + 1)).sum = (ks.take k).sum + ks.getD k 0 := by
  rw [List.take_succ_eq_append_getElem h, List.sum_append]
  simp [List.getD_eq_getElem?_getD, h]
theorem sumN_le (ks : List Nat) (k : Nat) : (ks.take k).sum ≤ ks.sum := by
  have e : ks.sum = (ks.take k).sum + (ks.drop k).sum := by rw [← List.sum_append, List.take_append_drop]
  omega

/-- may these bytes be cut so? -/
def cutB (l : List Int) (n : Nat) : Bool := togB l && decide (l.sum = n)
set_option maxHeartbeats 1000000 in
theorem cut_no (A D : Option Addr) (n c m d : Nat) (b l : List Int) (w : World) (hb : Bts w A n c b) (hl : Its .i64 w D m d l) (h : cutB l n = false) :
    Calls Try.prog 26 #[.slice A n c, .slice D m d] w fun e w' => e = .returned (.tuple #[.slice none 0 0, .bool false]) ∧ w = w' := by
  have hn := hb.small
  have hm := hl.small
  cases ht : togB l with
  | false =>
    have HT := Lib.hid ht
    clear ht h
    go_enter Try.func26, Try.ntmps26
    go_wp2_with (go_at_call 36; (with_reducible refine (tog_any D m d l _ hl).mono ?_); rintro e w1 ⟨_, hw1, rfl⟩
                 have he := hw1 HT.out
                 subst he)
    go_ret2
    exact ⟨rfl, rfl⟩
  | true =>
    have hne : l.sum ≠ (n : Int) := by
      rw [cutB, ht, Bool.true_and, decide_eq_false_iff_not] at h
      exact h
    obtain ⟨s, hs⟩ : ∃ s, l.sum = s := ⟨_, rfl⟩
    rw [hs] at hne
    have hne2 : (s != (n : Int)) = true := by rw [bne_iff_ne]; exact hne
    have HT := Lib.hid ht
    have HS := Lib.hid hs
    clear ht h hne hs
    go_enter Try.func26, Try.ntmps26
    go_wp2_with (go_at_call 36; (with_reducible refine (tog_any D m d l _ hl).mono ?_); rintro e w1 ⟨hw1, _, rfl⟩
                 have he := hw1 HT.out
                 rw [HS.out] at he
                 subst he)
    go_ret2
    exact ⟨rfl, rfl⟩

set_option maxHeartbeats 2000000 in
theorem cut_yes (A D : Option Addr) (n c m d : Nat) (b : List Int) (ks : List Nat) (w : World) (hb : Bts w A n c b) (hl : Its .i64 w D m d (ints ks)) (hk : okSizes ks) (hk40 : ks.length ≤ 40) (hsum : ks.sum = n) :
    Calls Try.prog 26 #[.slice A n c, .slice D m d] w fun e w' => ∃ v, e = .returned (.tuple #[v, .bool true]) ∧ OwnI .u64 22 w' w.heap.size v (ints (cutL ks b)) ∧ Below w.heap.size w w' := by
  have hn := hb.small
  have hm := hl.small
  have hks : ks.length = m := by have := hl.len; rwa [ints_length] at this
  have hm40 : (m : Int) ≤ 40 := by omega
  have htog : togB (ints ks) = true := by
    rw [togB, ints_length, decide_eq_true hk40, Bool.true_and, sizesB, List.all_eq_true]
    intro x hx
    obtain ⟨k, hk1, rfl⟩ := List.mem_map.1 hx
    have := hk k hk1
    unfold sizeB
    simp
    omega
  have hs : (ints ks).sum = (n : Int) := by rw [ints_sum, hsum]
  have hne : ((n : Int) != (n : Int)) = false := by simp
  have HT := Lib.hid htog
  have HS := Lib.hid hs
  have HKS := Lib.hid hks
  have HSUM := Lib.hid hsum
  have HK := Lib.hid hk
  clear htog hs hks hsum hk
  go_enter Try.func26, Try.ntmps26
  go_wp2_with (first
    | (go_at_call 36; (with_reducible refine (tog_any D m d (ints ks) _ hl).mono ?_); rintro e w1 ⟨hw1, _, rfl⟩
       have he := hw1 HT.out
       rw [HS.out] at he
       subst he)
    | (at_make
       refine wpList_make_i rfl 51 22 .u64 8 _ _ rfl Try.underlying51 (by kernel_rfl) (by omega) w.heap.size m m rfl rfl rfl (by omega) (Nat.le_refl _) ?_
       intro v2 w2 hown2 hg2
       have hB2 : Below w.heap.size w w2 := (Below.refl _ _).grown hg2 (Nat.le_refl _) (fun k hk => by cases hk)
       clear hg2))
  go_loopw [8, 9, 33] (fun v q i wr => ∃ (k a : Nat) (L : List Nat), k ≤ m ∧ i = .int .i64 k ∧ q = .int .i64 a ∧ a = (ks.take k).sum ∧ L = (cutL ks b).take k ∧ OwnI .u64 22 wr w.heap.size v (ints L) ∧ Below w.heap.size w wr) (fun _ _ i _ => m - (intOf i).toNat)
  case atStart => exact ⟨0, 0, [], Nat.zero_le _, rfl, rfl, rfl, rfl, hown2, hB2⟩
  case round =>
    clear hown2 hB2
    obtain ⟨k, a, L, hkm, rfl, rfl, ha, hL, hown, hB⟩ := hrel
    have HA := Lib.hid ha
    have HL := Lib.hid hL
    clear ha hL
    by_cases hlt : k < m
    · have hkk : k < ks.length := by rw [HKS.out]; exact hlt
      obtain ⟨bd, od, rfl, hcs⟩ := (hl.below hB).at_ (by omega)
      have hck := hcs k hlt
      rw [ints_get ks k hkk] at hck
      obtain ⟨K, hK⟩ : ∃ K, ks.getD k 0 = K := ⟨_, rfl⟩
      have hK18 : 1 ≤ K ∧ K ≤ 8 := by
        rw [← hK, List.getD_eq_getElem?_getD, List.getElem?_eq_getElem hkk]
        exact HK.out _ (List.getElem_mem hkk)
      obtain ⟨hK1, hK8⟩ := hK18
      have hak : a + K ≤ n := by
        have h1 := sumN_snoc ks k hkk
        have h2 := sumN_le ks (k + 1)
        rw [hK, ← HA.out] at h1
        rw [HSUM.out] at h2
        omega
      rw [hK] at hck
      obtain ⟨bb, off, rfl, _⟩ := hb.at_ (by omega)
      have hcut : ∀ w, (Instr.slice 26 (.slice (some ⟨bb, off, none⟩) n c) (some (.int .i64 a)) (some (.int .i64 ((a : Int) + K))) (some (.int .i64 ((a : Int) + K)))).run Try.prog w = .ok (.slice (some ⟨bb, off + a, none⟩) K K) w := fun w => by
        have := run_cut3 bb off n c a (a + K) (a + K) a ((a : Int) + K) ((a : Int) + K) rfl (by omega) (by omega) (by omega) (by omega) (by have := hb.le; omega) (by omega) w
        rw [show a + K - a = K by omega] at this
        exact this
      obtain ⟨x, hx⟩ : ∃ x, numL ((b.drop a).take K) = x := ⟨_, rfl⟩
      have hpc : Bts wr (some ⟨bb, off + a, none⟩) K K ((b.drop a).take K) := by
        have h3 := piece_bts (hb.below hB) hak hK1
        exact ⟨h3.len, Nat.le_refl _, by unfold maxLen; omega, h3.ok, (fun e => by cases e), h3.at_⟩
      have hx2 : numL ((((b.drop a).take K).drop 0).take K) = x := by
        rw [List.drop_zero, List.take_take, Nat.min_self, hx]
      have hL2 : L ++ [x] = (cutL ks b).take (k + 1) := by rw [cutL_snoc ks b k hkk, HL.out, ← HA.out, hK, hx]
      have ha2 : a + K = (ks.take (k + 1)).sum := by rw [sumN_snoc ks k hkk, hK, HA.out]
      have hLl : (ints L).length ≤ 40 := by
        rw [ints_length, HL.out, List.length_take]
        omega
      have HX2 := Lib.hid hx2
      have HL2 := Lib.hid hL2
      have HA2 := Lib.hid ha2
      have HPC := Lib.hid hpc
      clear hx hK hx2 hL2 ha2 hpc hcs hkk
      have hg0 : 0 ≤ (a : Int) + K := by omega
      go_wp2_with (first
        | (go_at_call 37; (with_reducible refine (get_at (some ⟨bb, off + a, none⟩) K K ((b.drop a).take K) 0 K 0 K wr rfl rfl HPC.out hK1 hK8 (by omega)).mono ?_); rintro e w6 ⟨he, rfl⟩
           rw [HX2.out, Nat.zero_add] at he
           subst he)
        | (at_builtin
           refine wpList_append_i rfl 51 22 .u64 8 _ _ rfl Try.underlying51 (by kernel_rfl) (by omega) w.heap.size u8 (ints L) rfl (hown.more _) _ 1 1 [(x : Int)] rfl (one_its .u64 22 _ (x : Int)) (by omega) (Nat.le_trans hB.size (size_le_alloc _ _)) ?_
           intro v5 w5 hown5 hg5
           have hB5 : Below w.heap.size w w5 := (hB.alloc hB.size _).grown hg5 (Nat.le_trans hB.size (size_le_alloc _ _)) (fun k hk => (hown.size k hk).1)
           have hown5 : OwnI .u64 22 w5 w.heap.size v5 (ints (L ++ [x])) := by rw [ints_append]; exact hown5
           clear hg5))
      go_roundw
      case rel => exact ⟨k + 1, a + K, L ++ [x], by omega, by go_num, by go_num, HA2.out, HL2.out, hown5, hB5⟩
      case measure => simp [intOf]; omega
    · have hkn : k = m := by omega
      have htk : L = cutL ks b := by
        have h5 := cutL_length ks b
        rw [HL.out, hkn, ← HKS.out, ← h5, List.take_length]
      rw [htk] at hown
      have HO := Lib.hid hown
      clear hown htk hkn
      go_wp2
      go_ret2
      exact ⟨_, rfl, HO.out, hB⟩
end Go.Proofs.Ytfjiefhicjnnnaa
