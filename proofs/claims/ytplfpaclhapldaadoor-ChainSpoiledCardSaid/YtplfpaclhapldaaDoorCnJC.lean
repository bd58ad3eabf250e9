/- Joined texts: The walks over package num's together and Cut: the numbers that bytes are cut into. The walks over the plain answers' Put and Get of numbers. The walk over the plain answers' Cat of numbers. The walks over the plain answers' Cut and Nums. What a call gives: both sides, the program's and the plain answers', of one hidden value. Entries, plainly: their cells and bytes, which may be; a slice of entries as it lies; those of a kind, and the epoch of the last start. Sums of bytes (SHA-256) as functions of lists: what the walks over package sha, and over the plain answers of the document, come to; and that both are the same. -/
import Derived.Test.YtplfpaclhapldaaDoorCnJB
import Derived.Test.YtplfpaclhapldaaDoorCnJA
import GoSem.Claim
import Derived.KernelRfl
import Derived.Laws.BitsAllLaws
/- The walks over package num's together and Cut: the numbers that bytes are cut into. -/
namespace Go.Proofs.YtplfpaclhapldaaDoor
set_option linter.unusedVariables false
set_option linter.unusedSimpArgs false
open Go.RowKit

/-- may sizes stand in a row? -/
def sizesB (l : List Int) : Bool := l.all sizeB
def togB (l : List Int) : Bool := decide (l.length ≤ 40) && sizesB l
theorem sizesB_snoc (l : List Int) (k : Nat) (h : k < l.length) : sizesB (l.take (k + 1)) = (sizesB (l.take k) && sizeB (l.getD k 0)) := by
  rw [sizesB, sizesB, List.take_succ_eq_append_getElem h, List.all_append]
  simp [List.getD_eq_getElem?_getD, h]
theorem sizesB_part (l : List Int) (k : Nat) (h : sizesB (l.take k) = false) : sizesB l = false := by
  have e : l = l.take k ++ l.drop k := (List.take_append_drop k l).symm
  rw [e, sizesB, List.all_append]
  rw [sizesB] at h
  rw [h, Bool.false_and]
theorem sum_snoc (l : List Int) (k : Nat) (h : k < l.length) : (l.take (k + 1)).sum = (l.take k).sum + l.getD k 0 := by
  rw [List.take_succ_eq_append_getElem h, List.sum_append]
  simp [List.getD_eq_getElem?_getD, h]
theorem sum_range (l : List Int) (h : sizesB l = true) : 0 ≤ l.sum ∧ l.sum ≤ 8 * l.length := by
  induction l with
  | nil => simp
  | cons x l ih =>
    rw [sizesB, List.all_cons, Bool.and_eq_true] at h
    have h2 := h.1
    unfold sizeB at h2
    rw [decide_eq_true_eq] at h2
    have := ih h.2
    rw [List.sum_cons, List.length_cons]
    omega
theorem ret_two {a b : Int} (h : a = b) (c : Bool) : Ending.returned (.tuple #[.int .i64 a, .bool c]) = .returned (.tuple #[.int .i64 b, .bool c]) := by rw [h]

theorem tog_long (A : Option Addr) (n c : Nat) (l : List Int) (w : World) (hl : Its .i64 w A n c l) (h : 40 < n) :
    Calls Tryd.prog 70 #[.slice A n c] w fun e w' => e = .returned (.tuple #[.int .i64 0, .bool false]) ∧ w = w' := by
  have hn := hl.small
  have h1 : (40 : Int) < n := by omega
  go_enter Tryd.func70, Tryd.ntmps70
  go_wp2
  go_ret2
  exact ⟨rfl, rfl⟩
/-- what together hands back -/
def TogPost (l : List Int) (w : World) (e : Ending) (w' : World) : Prop :=
  (togB l = true → e = .returned (.tuple #[.int .i64 l.sum, .bool true])) ∧ (togB l = false → e = .returned (.tuple #[.int .i64 0, .bool false])) ∧ w = w'
theorem togPost_yes {l : List Int} {w : World} {s : Int} (h : togB l = true) (hs : s = l.sum) : TogPost l w (.returned (.tuple #[.int .i64 s, .bool true])) w :=
  ⟨fun _ => ret_two hs _, fun h2 => by rw [h] at h2; exact Bool.noConfusion h2, rfl⟩
theorem togPost_no {l : List Int} {w : World} (h : togB l = false) : TogPost l w (.returned (.tuple #[.int .i64 0, .bool false])) w :=
  ⟨fun h2 => by rw [h] at h2; exact Bool.noConfusion h2, fun _ => rfl, rfl⟩
set_option maxHeartbeats 1000000 in
theorem tog_short (A : Option Addr) (n c : Nat) (l : List Int) (w : World) (hl : Its .i64 w A n c l) (h : n ≤ 40) :
    Calls Tryd.prog 70 #[.slice A n c] w fun e w' => TogPost l w e w' := by
  have h1 : (n : Int) ≤ 40 := by omega
  have HLL := Lib.hid hl.len
  go_enter Tryd.func70, Tryd.ntmps70
  go_wp2
  go_loop [4, 12] (fun s i => ∃ (k : Nat) (z : Int), k ≤ n ∧ i = .int .i64 k ∧ sizesB (l.take k) = true ∧ s = .int .i64 z ∧ z = (l.take k).sum) (fun _ i => n - (intOf i).toNat)
  case atStart => exact ⟨0, 0, Nat.zero_le _, rfl, rfl, rfl, rfl⟩
  case round =>
    obtain ⟨k, z, hk, rfl, hfit, rfl, hz⟩ := hrel
    have hr := sum_range (l.take k) hfit
    rw [← hz, List.length_take, HLL.out] at hr
    obtain ⟨hr0, hr1⟩ := hr
    have hr2 : z ≤ 320 := by omega
    have HF := Lib.hid hfit
    have HZ := Lib.hid hz
    clear hfit hz hr1
    by_cases hlt : k < n
    · obtain ⟨b, off, rfl, hcs⟩ := hl.at_ (by omega)
      have hc0 := hcs k hlt
      obtain ⟨x, hx⟩ : ∃ x, x = l.getD k 0 := ⟨_, rfl⟩
      rw [← hx] at hc0
      have hlk : k < l.length := by rw [HLL.out]; exact hlt
      have HX := Lib.hid hx
      clear hx hcs
      by_cases hs : 1 ≤ x ∧ x ≤ 8
      · obtain ⟨hs1, hs2⟩ := hs
        have hfit2 : sizesB (l.take (k + 1)) = true := by
          rw [sizesB_snoc l k hlk, HF.out, ← HX.out]
          unfold sizeB; simp; omega
        have hsum : z + x = (l.take (k + 1)).sum := by rw [sum_snoc l k hlk, ← HX.out, HZ.out]
        have HF2 := Lib.hid hfit2
        have HS := Lib.hid hsum
        clear hfit2 hsum hlk
        go_wp2_with (go_at_call 74; refine (size_yes _ _ (by omega) (by omega)).mono ?_; rintro e w1 ⟨rfl, rfl⟩)
        go_round
        case rel => exact ⟨k + 1, z + x, by omega, by go_num, HF2.out, rfl, HS.out⟩
        case measure => simp [intOf]; omega
      · have hs1 : x < 1 ∨ 8 < x := by omega
        have hcb : togB l = false := by
          have h3 := sizesB_snoc l k hlk
          have h4 : sizeB (l.getD k 0) = false := by rw [← HX.out]; unfold sizeB; simp; omega
          rw [h4, Bool.and_false] at h3
          rw [togB, sizesB_part l (k + 1) h3, Bool.and_false]
        have HCB := Lib.hid hcb
        clear hcb hlk hs
        go_wp2_with (go_at_call 74; refine (size_no _ _ hs1).mono ?_; rintro e w1 ⟨rfl, rfl⟩)
        go_ret2
        exact togPost_no HCB.out
    · have hkn : k = n := by omega
      have htk : l.take k = l := by rw [hkn, ← HLL.out, List.take_length]
      have hcb : togB l = true := by
        have h3 := HF.out
        rw [htk] at h3
        rw [togB, h3, HLL.out, decide_eq_true h]
        rfl
      have hsum : z = l.sum := by rw [HZ.out, htk]
      have HCB := Lib.hid hcb
      have HS := Lib.hid hsum
      clear hcb htk hkn hsum
      go_wp2
      go_ret2
      exact togPost_yes HCB.out HS.out
theorem tog_any (A : Option Addr) (n c : Nat) (l : List Int) (w : World) (hl : Its .i64 w A n c l) :
    Calls Tryd.prog 70 #[.slice A n c] w fun e w' => TogPost l w e w' := by
  by_cases h : 40 < n
  · refine (tog_long A n c l w hl h).mono fun e w' ⟨he, hw⟩ => ?_
    subst he hw
    exact togPost_no (by rw [togB, hl.len, decide_eq_false (by omega), Bool.false_and])
  · exact tog_short A n c l w hl (by omega)
/-- numbers as they lie in cells -/
def ints (l : List Nat) : List Int := l.map Int.ofNat
theorem ints_length (l : List Nat) : (ints l).length = l.length := by simp [ints]
theorem ints_append (l m : List Nat) : ints (l ++ m) = ints l ++ ints m := by simp [ints]
theorem ints_get (l : List Nat) (k : Nat) (h : k < l.length) : (ints l).getD k 0 = ((l.getD k 0 : Nat) : Int) := by
  simp [ints, List.getD_eq_getElem?_getD, h]
theorem ints_sum (l : List Nat) : (ints l).sum = (l.sum : Nat) := by
  induction l with
  | nil => rfl
  | cons x l ih =>
    have : ints (x :: l) = (x : Int) :: ints l := rfl
    rw [this, List.sum_cons, ih, List.sum_cons]
    omega
def okSizes (ks : List Nat) : Prop := ∀ k ∈ ks, 1 ≤ k ∧ k ≤ 8
/-- sizes that may stand in a row -/
theorem tog_nat {l : List Int} (h : togB l = true) : ∃ ks : List Nat, l = ints ks ∧ okSizes ks ∧ ks.length ≤ 40 := by
  rw [togB, Bool.and_eq_true, decide_eq_true_eq] at h
  obtain ⟨h1, h2⟩ := h
  rw [sizesB, List.all_eq_true] at h2
  have hs : ∀ x ∈ l, 1 ≤ x ∧ x ≤ 8 := fun x hx => by
    have := h2 x hx
    unfold sizeB at this
    simpa using this
  refine ⟨l.map Int.toNat, ?_, ?_, by simpa using h1⟩
  · rw [ints, List.map_map]
    have : l.map (Int.ofNat ∘ Int.toNat) = l.map id := List.map_congr_left fun x hx => by
      have := hs x hx
      simp only [Function.comp, id]
      exact Int.toNat_of_nonneg (by omega)
    rw [this, List.map_id]
  · intro k hk
    obtain ⟨x, hx, rfl⟩ := List.mem_map.1 hk
    have := hs x hx
    omega
/-- the number at place k of what is cut -/
theorem cutL_get (ks : List Nat) (b : List Int) (k : Nat) (h : k < ks.length) : (cutL ks b)[k]? = some (numL ((b.drop (ks.take k).sum).take (ks.getD k 0))) := by
  induction ks generalizing b k with
  | nil => simp at h
  | cons x ks ih =>
    cases k with
    | zero => simp [cutL]
    | succ k =>
      rw [cutL, List.getElem?_cons_succ, ih (b.drop x) k (by simpa using h)]
      rw [List.take_succ_cons, List.sum_cons, List.drop_drop]
      simp
theorem cutL_snoc (ks : List Nat) (b : List Int) (k : Nat) (h : k < ks.length) : (cutL ks b).take (k + 1) = (cutL ks b).take k ++ [numL ((b.drop (ks.take k).sum).take (ks.getD k 0))] := by
  have hl : k < (cutL ks b).length := by rw [cutL_length]; exact h
  have := cutL_get ks b k h
  rw [List.getElem?_eq_getElem hl, Option.some.injEq] at this
  rw [List.take_succ_eq_append_getElem hl, this]
theorem sumN_snoc (ks : List Nat) (k : Nat) (h : k < ks.length) : (ks.take (k + 1)).sum = (ks.take k).sum + ks.getD k 0 := by
  rw [List.take_succ_eq_append_getElem h, List.sum_append]
  simp [List.getD_eq_getElem?_getD, h]
theorem sumN_le (ks : List Nat) (k : Nat) : (ks.take k).sum ≤ ks.sum := by
  have e : ks.sum = (ks.take k).sum + (ks.drop k).sum := by rw [← List.sum_append, List.take_append_drop]
  omega

/-- may these bytes be cut so? -/
def cutB (l : List Int) (n : Nat) : Bool := togB l && decide (l.sum = n)
set_option maxHeartbeats 1000000 in
theorem cut_no (A D : Option Addr) (n c m d : Nat) (b l : List Int) (w : World) (hb : Bts w A n c b) (hl : Its .i64 w D m d l) (h : cutB l n = false) :
    Calls Tryd.prog 62 #[.slice A n c, .slice D m d] w fun e w' => e = .returned (.tuple #[.slice none 0 0, .bool false]) ∧ w = w' := by
  have hn := hb.small
  have hm := hl.small
  cases ht : togB l with
  | false =>
    have HT := Lib.hid ht
    clear ht h
    go_enter Tryd.func62, Tryd.ntmps62
    go_wp2_with (go_at_call 70; (with_reducible refine (tog_any D m d l _ hl).mono ?_); rintro e w1 ⟨_, hw1, rfl⟩
                 have he := hw1 HT.out
                 subst he)
    go_ret2
    exact ⟨rfl, rfl⟩
  | true =>
    have hne : l.sum ≠ (n : Int) := by
      rw [cutB, ht, Bool.true_and, decide_eq_false_iff_not] at h
      exact h
    obtain ⟨s, hs⟩ : ∃ s, l.sum = s := ⟨_, rfl⟩
    rw [hs] at hne
    have hne2 : (s != (n : Int)) = true := by rw [bne_iff_ne]; exact hne
    have HT := Lib.hid ht
    have HS := Lib.hid hs
    clear ht h hne hs
    go_enter Tryd.func62, Tryd.ntmps62
    go_wp2_with (go_at_call 70; (with_reducible refine (tog_any D m d l _ hl).mono ?_); rintro e w1 ⟨hw1, _, rfl⟩
                 have he := hw1 HT.out
                 rw [HS.out] at he
                 subst he)
    go_ret2
    exact ⟨rfl, rfl⟩

set_option maxHeartbeats 2000000 in
theorem cut_yes (A D : Option Addr) (n c m d : Nat) (b : List Int) (ks : List Nat) (w : World) (hb : Bts w A n c b) (hl : Its .i64 w D m d (ints ks)) (hk : okSizes ks) (hk40 : ks.length ≤ 40) (hsum : ks.sum = n) :
    Calls Tryd.prog 62 #[.slice A n c, .slice D m d] w fun e w' => ∃ v, e = .returned (.tuple #[v, .bool true]) ∧ OwnI .u64 25 w' w.heap.size v (ints (cutL ks b)) ∧ Below w.heap.size w w' := by
  have hn := hb.small
  have hm := hl.small
  have hks : ks.length = m := by have := hl.len; rwa [ints_length] at this
  have hm40 : (m : Int) ≤ 40 := by omega
  have htog : togB (ints ks) = true := by
    rw [togB, ints_length, decide_eq_true hk40, Bool.true_and, sizesB, List.all_eq_true]
    intro x hx
    obtain ⟨k, hk1, rfl⟩ := List.mem_map.1 hx
    have := hk k hk1
    unfold sizeB
    simp
    omega
  have hs : (ints ks).sum = (n : Int) := by rw [ints_sum, hsum]
  have hne : ((n : Int) != (n : Int)) = false := by simp
  have HT := Lib.hid htog
  have HS := Lib.hid hs
  have HKS := Lib.hid hks
  have HSUM := Lib.hid hsum
  have HK := Lib.hid hk
  clear htog hs hks hsum hk
  go_enter Tryd.func62, Tryd.ntmps62
  go_wp2_with (first
    | (go_at_call 70; (with_reducible refine (tog_any D m d (ints ks) _ hl).mono ?_); rintro e w1 ⟨hw1, _, rfl⟩
       have he := hw1 HT.out
       rw [HS.out] at he
       subst he)
    | (at_make
       refine wpList_make_i rfl 79 25 .u64 8 _ _ rfl Tryd.underlying79 (by kernel_rfl) (by omega) w.heap.size m m rfl rfl rfl (by omega) (Nat.le_refl _) ?_
       intro v2 w2 hown2 hg2
       have hB2 : Below w.heap.size w w2 := (Below.refl _ _).grown hg2 (Nat.le_refl _) (fun k hk => by cases hk)
       clear hg2))
  go_loopw [8, 9, 33] (fun v q i wr => ∃ (k a : Nat) (L : List Nat), k ≤ m ∧ i = .int .i64 k ∧ q = .int .i64 a ∧ a = (ks.take k).sum ∧ L = (cutL ks b).take k ∧ OwnI .u64 25 wr w.heap.size v (ints L) ∧ Below w.heap.size w wr) (fun _ _ i _ => m - (intOf i).toNat)
  case atStart => exact ⟨0, 0, [], Nat.zero_le _, rfl, rfl, rfl, rfl, hown2, hB2⟩
  case round =>
    clear hown2 hB2
    obtain ⟨k, a, L, hkm, rfl, rfl, ha, hL, hown, hB⟩ := hrel
    have HA := Lib.hid ha
    have HL := Lib.hid hL
    clear ha hL
    by_cases hlt : k < m
    · have hkk : k < ks.length := by rw [HKS.out]; exact hlt
      obtain ⟨bd, od, rfl, hcs⟩ := (hl.below hB).at_ (by omega)
      have hck := hcs k hlt
      rw [ints_get ks k hkk] at hck
      obtain ⟨K, hK⟩ : ∃ K, ks.getD k 0 = K := ⟨_, rfl⟩
      have hK18 : 1 ≤ K ∧ K ≤ 8 := by
        rw [← hK, List.getD_eq_getElem?_getD, List.getElem?_eq_getElem hkk]
        exact HK.out _ (List.getElem_mem hkk)
      obtain ⟨hK1, hK8⟩ := hK18
      have hak : a + K ≤ n := by
        have h1 := sumN_snoc ks k hkk
        have h2 := sumN_le ks (k + 1)
        rw [hK, ← HA.out] at h1
        rw [HSUM.out] at h2
        omega
      rw [hK] at hck
      obtain ⟨bb, off, rfl, _⟩ := hb.at_ (by omega)
      have hcut : ∀ w, (Instr.slice 29 (.slice (some ⟨bb, off, none⟩) n c) (some (.int .i64 a)) (some (.int .i64 ((a : Int) + K))) (some (.int .i64 ((a : Int) + K)))).run Tryd.prog w = .ok (.slice (some ⟨bb, off + a, none⟩) K K) w := fun w => by
        have := run_cut3 bb off n c a (a + K) (a + K) a ((a : Int) + K) ((a : Int) + K) rfl (by omega) (by omega) (by omega) (by omega) (by have := hb.le; omega) (by omega) w
        rw [show a + K - a = K by omega] at this
        exact this
      obtain ⟨x, hx⟩ : ∃ x, numL ((b.drop a).take K) = x := ⟨_, rfl⟩
      have hpc : Bts wr (some ⟨bb, off + a, none⟩) K K ((b.drop a).take K) := by
        have h3 := piece_bts (hb.below hB) hak hK1
        exact ⟨h3.len, Nat.le_refl _, by unfold maxLen; omega, h3.ok, (fun e => by cases e), h3.at_⟩
      have hx2 : numL ((((b.drop a).take K).drop 0).take K) = x := by
        rw [List.drop_zero, List.take_take, Nat.min_self, hx]
      have hL2 : L ++ [x] = (cutL ks b).take (k + 1) := by rw [cutL_snoc ks b k hkk, HL.out, ← HA.out, hK, hx]
      have ha2 : a + K = (ks.take (k + 1)).sum := by rw [sumN_snoc ks k hkk, hK, HA.out]
      have hLl : (ints L).length ≤ 40 := by
        rw [ints_length, HL.out, List.length_take]
        omega
      have HX2 := Lib.hid hx2
      have HL2 := Lib.hid hL2
      have HA2 := Lib.hid ha2
      have HPC := Lib.hid hpc
      clear hx hK hx2 hL2 ha2 hpc hcs hkk
      have hg0 : 0 ≤ (a : Int) + K := by omega
      go_wp2_with (first
        | (go_at_call 71; (with_reducible refine (get_at (some ⟨bb, off + a, none⟩) K K ((b.drop a).take K) 0 K 0 K wr rfl rfl HPC.out hK1 hK8 (by omega)).mono ?_); rintro e w6 ⟨he, rfl⟩
           rw [HX2.out, Nat.zero_add] at he
           subst he)
        | (at_builtin
           refine wpList_append_i rfl 79 25 .u64 8 _ _ rfl Tryd.underlying79 (by kernel_rfl) (by omega) w.heap.size u8 (ints L) rfl (hown.more _) _ 1 1 [(x : Int)] rfl (one_its .u64 25 _ (x : Int)) (by omega) (Nat.le_trans hB.size (size_le_alloc _ _)) ?_
           intro v5 w5 hown5 hg5
           have hB5 : Below w.heap.size w w5 := (hB.alloc hB.size _).grown hg5 (Nat.le_trans hB.size (size_le_alloc _ _)) (fun k hk => (hown.size k hk).1)
           have hown5 : OwnI .u64 25 w5 w.heap.size v5 (ints (L ++ [x])) := by rw [ints_append]; exact hown5
           clear hg5))
      go_roundw
      case rel => exact ⟨k + 1, a + K, L ++ [x], by omega, by go_num, by go_num, HA2.out, HL2.out, hown5, hB5⟩
      case measure => simp [intOf]; omega
    · have hkn : k = m := by omega
      have htk : L = cutL ks b := by
        have h5 := cutL_length ks b
        rw [HL.out, hkn, ← HKS.out, ← h5, List.take_length]
      rw [htk] at hown
      have HO := Lib.hid hown
      clear hown htk hkn
      go_wp2
      go_ret2
      exact ⟨_, rfl, HO.out, hB⟩
end Go.Proofs.YtplfpaclhapldaaDoor

/- The walks over the plain answers' Put and Get of numbers. -/
namespace Go.Proofs.YtplfpaclhapldaaDoor
set_option linter.unusedVariables false
set_option linter.unusedSimpArgs false
open Go.RowKit

theorem rput_out (n k : Int) (w : World) (h : k < 1 ∨ 8 < k) :
    Calls Tryd.prog 58 #[.int .u64 n, .int .i64 k] w fun e w' => e = .returned (.tuple #[.slice none 0 0, .bool false]) ∧ Below w.heap.size w w' := by
  by_cases h1 : k < 1
  · clear h
    go_enter Tryd.func58, Tryd.ntmps58
    go_wp2
    go_ret2
    exact ⟨rfl, Below.refl _ _⟩
  · have h2 : 1 ≤ k := by omega
    have h3 : 8 < k := by omega
    clear h h1
    go_enter Tryd.func58, Tryd.ntmps58
    go_wp2
    go_ret2
    exact ⟨rfl, Below.refl _ _⟩
def putV (N K g : Nat) : Value := if N < 256 ^ K then .tuple #[.slice (some ⟨g, 0, none⟩) K K, .bool true] else .tuple #[.slice none 0 0, .bool false]
theorem putV_yes {N K g : Nat} (h : N < 256 ^ K) : Ending.returned (.tuple #[.slice (some ⟨g, 0, none⟩) K K, .bool true]) = Ending.returned (putV N K g) := by rw [putV, if_pos h]
theorem putV_no {N K g : Nat} (h : ¬ N < 256 ^ K) : Ending.returned (.tuple #[.slice none 0 0, .bool false]) = Ending.returned (putV N K g) := by rw [putV, if_neg h]
set_option maxHeartbeats 1000000 in
theorem rput_any (N K : Nat) (w : World) (h1 : 1 ≤ K) (h2 : K ≤ 8) (h3 : N < 256 ^ 8) :
    Calls Tryd.prog 58 #[.int .u64 N, .int .i64 K] w fun e w' => e = .returned (putV N K w.heap.size) ∧ RowB w' w.heap.size 5 (putL N K) ∧ Below w.heap.size w w' := by
  have HN := Lib.hid h3
  clear h3
  go_enter Tryd.func58, Tryd.ntmps58
  go_wp2_with (at_make
               refine wpList_make_n rfl _ _ rfl K K K rfl rfl rfl rfl (by omega) ?_
               intro w1 hX1 hg1 hs1
               have hB1 : Below w.heap.size w w1 := (Below.refl _ _).grown hg1 (Nat.le_refl _) (fun k hk => by cases hk))
  go_loopw [0, 7] (fun n i wr => ∃ M x : Nat, M ≤ K ∧ n = .int .u64 x ∧ x = N / 256 ^ (K - M) ∧ i = .int .i64 ((M : Int) - 1) ∧ RowB wr w.heap.size 5 (fillBack N K (K - M)) ∧ Below w.heap.size w wr) (fun _ i _ => (intOf i + 1).toNat)
  case atStart => exact ⟨K, N, Nat.le_refl _, rfl, by simp, rfl, by rw [Nat.sub_self]; exact hX1, hB1⟩
  case round =>
    clear hX1 hg1 hs1 hB1
    obtain ⟨M, x, hM, rfl, hx, rfl, hX, hB⟩ := hrel
    have hxb : x < 256 ^ 8 := by rw [hx]; exact Nat.lt_of_le_of_lt (Nat.div_le_self _ _) HN.out
    have HX := Lib.hid hx
    clear hx
    rcases M with _ | m
    · rw [Nat.sub_zero, fillBack_all] at hX
      have hx0 : (x = 0) ↔ N < 256 ^ K := by
        rw [HX.out, Nat.sub_zero, Nat.div_eq_zero_iff]
        have := Nat.pow_pos (n := K) (show 0 < 256 by omega)
        omega
      by_cases hz : x = 0
      · have hlt := hx0.1 hz
        have hne : ((x : Int) != 0) = false := by subst hz; rfl
        have HLT := Lib.hid hlt
        clear hx0 hz hlt
        go_wp2
        go_ret2
        exact ⟨putV_yes HLT.out, hX, hB⟩
      · have hlt : ¬ N < 256 ^ K := fun h => hz (hx0.2 h)
        have hne : ((x : Int) != 0) = true := by rw [bne_iff_ne]; omega
        have HLT := Lib.hid hlt
        clear hx0 hz hlt
        go_wp2
        go_ret2
        exact ⟨putV_no HLT.out, hX, hB⟩
    · have e : (((m + 1 : Nat) : Int) - 1) = m := by omega
      rw [e]
      have hl : (fillBack N K (K - (m + 1))).length = K := fillBack_length _ _ _
      have hcell := hX.cell m (by omega)
      have hfr := hX.free m
      have hnext : fillBack N K (K - m) = (fillBack N K (K - (m + 1))).set m ((x : Int) % 256) := by
        rw [show K - m = (K - (m + 1)) + 1 by omega, fillBack, HX.out, show K - 1 - (K - (m + 1)) = m by omega]
        rfl
      have hx2 : x / 256 = N / 256 ^ (K - m) := by
        rw [HX.out, show K - m = (K - (m + 1)) + 1 by omega, Nat.div_div_eq_div_mul, Nat.pow_succ]
      have HP := Lib.hid (hX.put m ((x : Int) % 256))
      have HNX := Lib.hid hnext
      have HX2 := Lib.hid hx2
      have HBB := Lib.hid hB
      obtain ⟨c, hc⟩ : ∃ c, c = (fillBack N K (K - (m + 1))).getD m 0 := ⟨_, rfl⟩
      rw [← hc] at hcell
      clear hc e hl hnext hx2 hX hB
      go_wp2
      go_roundw
      case rel =>
        exact ⟨m, x / 256, by omega, by go_num, HX2.out, rfl, by rw [HNX.out]; exact HP.out, HBB.out.setCell (p := ⟨_, m, none⟩) (Nat.le_refl _) _⟩
      case measure => simp [intOf]

set_option maxHeartbeats 1000000 in
theorem rget_no (A : Option Addr) (n c : Nat) (l : List Int) (at_ k : Int) (w : World) (hb : Bts w A n c l) (ha0 : -9223372036854775808 ≤ at_) (ha1 : at_ ≤ 9223372036854775807) (h : mayGet n at_ k = false) :
    Calls Tryd.prog 64 #[.slice A n c, .int .i64 at_, .int .i64 k] w fun e w' => e = .returned (.tuple #[.int .u64 0, .int .i64 (-1)]) ∧ w = w' := by
  have hn := hb.small
  have h' : ¬ (1 ≤ k ∧ k ≤ 8 ∧ 0 ≤ at_ ∧ at_ + k ≤ n) := by
    unfold mayGet at h; simpa using h
  clear h
  by_cases h1 : k < 1
  · clear h'
    go_enter Tryd.func64, Tryd.ntmps64
    go_wp2
    go_ret2
    exact ⟨rfl, rfl⟩
  · by_cases h2 : 8 < k
    · have h1' : 1 ≤ k := by omega
      clear h' h1
      go_enter Tryd.func64, Tryd.ntmps64
      go_wp2
      go_ret2
      exact ⟨rfl, rfl⟩
    · have h1' : 1 ≤ k := by omega
      have h2' : k ≤ 8 := by omega
      by_cases h3 : at_ < 0
      · clear h' h1 h2
        go_enter Tryd.func64, Tryd.ntmps64
        go_wp2
        go_ret2
        exact ⟨rfl, rfl⟩
      · have h3' : 0 ≤ at_ := by omega
        by_cases h4 : (n : Int) < at_
        · clear h' h1 h2 h3
          go_enter Tryd.func64, Tryd.ntmps64
          go_wp2
          go_ret2
          exact ⟨rfl, rfl⟩
        · have h4' : at_ ≤ (n : Int) := by omega
          have h5 : n - at_ < k := by omega
          clear h' h1 h2 h3 h4
          go_enter Tryd.func64, Tryd.ntmps64
          go_wp2
          go_ret2
          exact ⟨rfl, rfl⟩

theorem mulStep (y : Nat) (z : Int) (hy : y < 256 ^ 7) (h0 : 0 ≤ z) (h1 : z < 256) : IntKind.u64.wrap (IntKind.u64.wrap (256 * (y : Int)) + z) = ((256 * y + z.toNat : Nat) : Int) := by
  rw [IntKind.wrap_u64, IntKind.wrap_u64]
  omega
set_option maxHeartbeats 1000000 in
theorem rget_yes (A : Option Addr) (n c : Nat) (l : List Int) (at_ k : Nat) (w : World) (hb : Bts w A n c l) (h1 : 1 ≤ k) (h2 : k ≤ 8) (h3 : at_ + k ≤ n) :
    Calls Tryd.prog 64 #[.slice A n c, .int .i64 at_, .int .i64 k] w fun e w' => e = .returned (.tuple #[.int .u64 (numL ((l.drop at_).take k)), .int .i64 ((at_ + k : Nat) : Int)]) ∧ w = w' := by
  have hn := hb.small
  obtain ⟨b, off, rfl, hc⟩ := hb.at_ (by omega)
  have h4 : (at_ : Int) + k ≤ n := by omega
  have HC := Lib.hid hc
  have HO := Lib.hid hb.ok
  have HL := Lib.hid hb.len
  clear hc hb
  go_enter Tryd.func64, Tryd.ntmps64
  go_wp2
  go_loop [8, 9] (fun v i => ∃ j y : Nat, j ≤ k ∧ v = .int .u64 y ∧ y = numL ((l.drop at_).take j) ∧ i = .int .i64 ((at_ + j : Nat) : Int)) (fun _ i => at_ + k - (intOf i).toNat)
  case atStart => exact ⟨0, 0, by omega, rfl, by simp [numL, numOf], rfl⟩
  case round =>
    obtain ⟨j, y, hj, rfl, hy, rfl⟩ := hrel
    by_cases hlt : j < k
    · have hcj := HC.out (at_ + j) (by omega)
      obtain ⟨z, hz⟩ : ∃ z, z = l.getD (at_ + j) 0 := ⟨_, rfl⟩
      rw [← hz] at hcj
      obtain ⟨hz0, hz1⟩ := HO.out (at_ + j)
      rw [← hz] at hz0 hz1
      have hy8 : y < 256 ^ 7 := by
        have hb := numL_bound ((l.drop at_).take j) (fun x hx => mem_ok HO.out x (List.mem_of_mem_drop (List.mem_of_mem_take hx)))
        rw [← hy] at hb
        refine Nat.lt_of_lt_of_le hb (Nat.pow_le_pow_right (by omega) ?_)
        rw [List.length_take]
        omega
      have hst := mulStep y z hy8 hz0 hz1
      have hnx : 256 * y + z.toNat = numL ((l.drop at_).take (j + 1)) := by
        rw [num_next l at_ j (by rw [HL.out]; omega), hy, hz]
      have HST := Lib.hid hst
      have HNX := Lib.hid hnx
      clear hy hz hy8 hst hnx
      go_wp2
      go_round
      case rel => exact ⟨j + 1, 256 * y + z.toNat, by omega, by rw [HST.out], HNX.out, by go_num⟩
      case measure => simp [intOf]; omega
    · obtain rfl : j = k := by omega
      have HY := Lib.hid hy
      clear hy
      go_wp2
      go_ret2
      rw [← HY.out]
      exact ⟨rfl, rfl⟩
end Go.Proofs.YtplfpaclhapldaaDoor

/- The walk over the plain answers' Cat of numbers. -/
namespace Go.Proofs.YtplfpaclhapldaaDoor
set_option linter.unusedVariables false
set_option linter.unusedSimpArgs false
open Go.RowKit

theorem rput_yes (N K : Nat) (w : World) (h1 : 1 ≤ K) (h2 : K ≤ 8) (h3 : N < 256 ^ K) :
    Calls Tryd.prog 58 #[.int .u64 N, .int .i64 K] w fun e w' => e = .returned (.tuple #[.slice (some ⟨w.heap.size, 0, none⟩) K K, .bool true]) ∧ RowB w' w.heap.size 5 (putL N K) ∧ Below w.heap.size w w' :=
  (rput_any N K w h1 h2 (Nat.lt_of_lt_of_le h3 (Nat.pow_le_pow_right (by omega) h2))).mono fun e w' ⟨he, hX, hB⟩ => ⟨by rw [he, putV, if_pos h3], hX, hB⟩
theorem rput_no (n k : Int) (w : World) (h0 : 0 ≤ n) (h1 : n < 18446744073709551616) (h : fitB n k = false) :
    Calls Tryd.prog 58 #[.int .u64 n, .int .i64 k] w fun e w' => e = .returned (.tuple #[.slice none 0 0, .bool false]) ∧ Below w.heap.size w w' := by
  by_cases hk : k < 1 ∨ 8 < k
  · exact rput_out n k w hk
  · obtain ⟨N, rfl⟩ := Int.eq_ofNat_of_zero_le h0
    obtain ⟨K, rfl⟩ := Int.eq_ofNat_of_zero_le (show 0 ≤ k by omega)
    have h3 : ¬ N < 256 ^ K := fun h2 => by
      rw [fit_of N K (by omega) (by omega) h2] at h
      exact Bool.noConfusion h
    exact (rput_any N K w (by omega) (by omega) (by omega)).mono fun e w' ⟨he, _, hB⟩ => ⟨by rw [he, putV, if_neg h3], hB⟩

theorem rcat_long (A : Option Addr) (n c : Nat) (l : List (Int × Int)) (w : World) (hl : Nms w A n c l) (h : 40 < n) :
    Calls Tryd.prog 44 #[.slice A n c] w fun e w' => CatPost l w e w' := by
  have hn := hl.rws.small
  have h1 : (40 : Int) < n := by omega
  have h2 : catB l = false := by rw [catB, hl.len, decide_eq_false (by omega), Bool.false_and]
  have H2 := Lib.hid h2
  clear h2
  go_enter Tryd.func44, Tryd.ntmps44
  go_wp2
  go_ret2
  exact catPost_no H2.out (Below.refl _ _)
set_option maxHeartbeats 2000000 in
theorem rcat_short (A : Option Addr) (n c : Nat) (l : List (Int × Int)) (w : World) (hl : Nms w A n c l) (h : n ≤ 40) :
    Calls Tryd.prog 44 #[.slice A n c] w fun e w' => CatPost l w e w' := by
  have h1 : (n : Int) ≤ 40 := by omega
  have hll : l.length = n := hl.len
  have HLL := Lib.hid hll
  clear hll
  go_enter Tryd.func44, Tryd.ntmps44
  go_wp2
  go_loopw [4, 5] (fun v i wr => ∃ k : Nat, k ≤ n ∧ i = .int .i64 k ∧ fitsB (l.take k) = true ∧ Own wr w.heap.size v (catL (toN (l.take k))) ∧ Below w.heap.size w wr) (fun _ i _ => n - (intOf i).toNat)
  case atStart => exact ⟨0, Nat.zero_le _, rfl, rfl, Own.nil _ _, Below.refl _ _⟩
  case round =>
    obtain ⟨k, hk, rfl, hfit, hown, hB⟩ := hrel
    have HF := Lib.hid hfit
    clear hfit
    by_cases hlt : k < n
    · obtain ⟨b, off, rfl, hcs⟩ := (hl.below hB).cells (by omega)
      obtain ⟨hc0, hc1⟩ := hcs k hlt
      obtain ⟨p, hp⟩ : ∃ p, p = l.getD k (0, 0) := ⟨_, rfl⟩
      rw [← hp] at hc0 hc1
      obtain ⟨x, y⟩ := p
      simp only at hc0 hc1
      have hb4 := hl.at_ k hlt
      rw [← hp] at hb4
      simp only at hb4
      have HB4 := Lib.hid hb4
      have HP := Lib.hid hp
      clear hp hb4 hcs
      have hlk : k < l.length := by rw [HLL.out]; exact hlt
      have hlk0 : (0 : Int) ≤ k := by omega
      have hlk1 : (k : Int) < n := by omega
      have hd0 : wr.drew.cell? ⟨b, off + k * 2, none⟩ = some (.int .u64 x) := hc0
      have hd1 : wr.drew.cell? ⟨b, off + k * 2 + 1, none⟩ = some (.int .i64 y) := hc1
      cases hf : fitB x y with
      | false =>
        have HNF := Lib.hid hf
        have hcb : catB l = false := by
          have h3 := fitsB_snoc l k hlk
          rw [← HP.out, HNF.out, Bool.and_false] at h3
          rw [catB, fitsB_part l (k + 1) h3, Bool.and_false]
        have HCB := Lib.hid hcb
        clear hf hcb
        go_wp2
        go_region_held3 (fun w' => w'.cell? ⟨b, off + k * 2, none⟩ = some (.int .u64 x) ∧ w'.cell? ⟨b, off + k * 2 + 1, none⟩ = some (.int .i64 y)) (first | with_reducible exact ⟨hd0, hd1⟩ | with_reducible exact ⟨k0, k1⟩)
          ((go_at_call 58; (with_reducible refine (rput_no x y _ HB4.out.1 HB4.out.2.1 HNF.out).mono ?_); rintro e w2 ⟨rfl, hb2⟩
            have hS2 := below_draw hb2
            have k0 := (hS2.cell (p := ⟨b, off + k * 2, none⟩) (block_lt_of_cell hc0)).trans hc0
            have k1 := (hS2.cell (p := ⟨b, off + k * 2 + 1, none⟩) (block_lt_of_cell hc1)).trans hc1
            clear hb2))
        clear k0 k1 hd0 hd1 hc0 hc1
        go_wp2
        go_ret2
        exact catPost_no HCB.out (then_below hB hS2)
      | true =>
        obtain ⟨N, K, rfl, rfl, h2, h3, h4⟩ := fit_nat HB4.out.1 hf
        obtain ⟨Z, hZ⟩ : ∃ Z, putL N K = Z := ⟨_, rfl⟩
        have hZl : Z.length = K := by rw [← hZ]; exact putL_length N K
        have hZo : ∀ j, 0 ≤ Z.getD j 0 ∧ Z.getD j 0 < 256 := by rw [← hZ]; exact ok_map _ (fun i => putAt_ok N K i) K
        have hnext : catL (toN (l.take (k + 1))) = catL (toN (l.take k)) ++ Z := by
          rw [catL_snoc l k hlk, ← HP.out, ← hZ]
          rfl
        have hfit2 : fitsB (l.take (k + 1)) = true := by
          rw [fitsB_snoc l k hlk, HF.out, ← HP.out, hf]
          rfl
        obtain ⟨L, hL⟩ : ∃ L, L = catL (toN (l.take k)) := ⟨_, rfl⟩
        have hLs : L.length ≤ 320 := by
          have := catL_small (l.take k) HF.out
          rw [List.length_take] at this
          rw [hL]
          omega
        rw [← hL] at hown hnext
        have HZ := Lib.hid hZ
        have HZL := Lib.hid hZl
        have HZO := Lib.hid hZo
        have H4 := Lib.hid h4
        have HNX := Lib.hid hnext
        have HF2 := Lib.hid hfit2
        clear hZ hZl hZo h4 hnext hfit2 hL hf hlk
        go_wp2
        go_region_held3 (fun w' => w'.cell? ⟨b, off + k * 2, none⟩ = some (.int .u64 N) ∧ w'.cell? ⟨b, off + k * 2 + 1, none⟩ = some (.int .i64 K)) (first | with_reducible exact ⟨hd0, hd1⟩ | with_reducible exact ⟨k0, k1⟩)
          ((go_at_call 58; (with_reducible refine (rput_yes N K _ h2 h3 H4.out).mono ?_); rintro e w2 ⟨rfl, hX2, hb2⟩
            have hS2 := below_draw hb2
            have hX2 : RowB w2 wr.heap.size 5 (putL N K) := hX2
            have k0 := (hS2.cell (p := ⟨b, off + k * 2, none⟩) (block_lt_of_cell hc0)).trans hc0
            have k1 := (hS2.cell (p := ⟨b, off + k * 2 + 1, none⟩) (block_lt_of_cell hc1)).trans hc1
            clear hb2))
        clear k0 k1 hd0 hd1 hc0 hc1
        rw [HZ.out] at hX2
        have hB2 := then_below hB hS2
        have hown2 := hown.below hS2
        go_wp2_with (first
          | (at_builtin
             refine wpList_append_b rfl _ _ rfl w.heap.size u4 L rfl hown2 _ K K Z rfl (hX2.bts HZL.out (by unfold maxLen; omega) HZO.out) (by omega) hB2.size ?_
             intro v5 w5 hown5 hg5
             have hB5 : Below w.heap.size w w5 := hB2.grown hg5 hB2.size (fun k hk => (hown2.size k hk).1)
             rw [← HNX.out] at hown5
             clear hg5))
        go_roundw
        case rel => exact ⟨k + 1, by omega, by go_num, HF2.out, hown5, hB5⟩
        case measure => simp [intOf]; omega
    · have hkn : k = n := by omega
      have htk : l.take k = l := by rw [hkn, ← HLL.out, List.take_length]
      rw [htk] at hown
      have hcb : catB l = true := by
        have h3 := HF.out
        rw [htk] at h3
        rw [catB, h3, HLL.out, decide_eq_true h]
        rfl
      have HCB := Lib.hid hcb
      have HO := Lib.hid hown
      clear hcb hown htk hkn
      go_wp2
      go_ret2
      exact catPost_yes HCB.out HO.out hB
theorem rcat_any (A : Option Addr) (n c : Nat) (l : List (Int × Int)) (w : World) (hl : Nms w A n c l) :
    Calls Tryd.prog 44 #[.slice A n c] w fun e w' => CatPost l w e w' := by
  by_cases h : 40 < n
  · exact rcat_long A n c l w hl h
  · exact rcat_short A n c l w hl (by omega)
end Go.Proofs.YtplfpaclhapldaaDoor

/- The walks over the plain answers' Cut and Nums. -/
namespace Go.Proofs.YtplfpaclhapldaaDoor
set_option linter.unusedVariables false
set_option linter.unusedSimpArgs false
open Go.RowKit

set_option maxHeartbeats 2000000 in
theorem rcut_no (A D : Option Addr) (n c m d : Nat) (b l : List Int) (w : World) (hb : Bts w A n c b) (hl : Its .i64 w D m d l) (h : cutB l n = false) :
    Calls Tryd.prog 50 #[.slice A n c, .slice D m d] w fun e w' => e = .returned (.tuple #[.slice none 0 0, .bool false]) ∧ w = w' := by
  have hn := hb.small
  have hm := hl.small
  have HLL := Lib.hid hl.len
  have HC := Lib.hid h
  clear h
  go_enter Tryd.func50, Tryd.ntmps50
  go_wp2
  go_loop [6, 7] (fun s i => ∃ (k : Nat) (z : Int), k ≤ m ∧ k ≤ 40 ∧ i = .int .i64 k ∧ sizesB (l.take k) = true ∧ s = .int .i64 z ∧ z = (l.take k).sum) (fun _ i => m - (intOf i).toNat)
  case atStart => exact ⟨0, 0, Nat.zero_le _, Nat.zero_le _, rfl, rfl, rfl, rfl⟩
  case round =>
    obtain ⟨k, z, hk, hk40, rfl, hfit, rfl, hz⟩ := hrel
    have hr := sum_range (l.take k) hfit
    rw [← hz, List.length_take, HLL.out] at hr
    obtain ⟨hr0, hr1⟩ := hr
    have hr2 : z ≤ 320 := by omega
    have HF := Lib.hid hfit
    have HZ := Lib.hid hz
    clear hfit hz hr1
    by_cases hlt : k < m
    · obtain ⟨bb, off, rfl, hcs⟩ := hl.at_ (by omega)
      have hc0 := hcs k hlt
      obtain ⟨x, hx⟩ : ∃ x, x = l.getD k 0 := ⟨_, rfl⟩
      rw [← hx] at hc0
      have hlk : k < l.length := by rw [HLL.out]; exact hlt
      have HX := Lib.hid hx
      clear hx hcs
      by_cases hs1 : x < 1
      · go_wp2
        go_ret2
        exact ⟨rfl, rfl⟩
      · by_cases hs2 : 8 < x
        · have hs1' : 1 ≤ x := by omega
          go_wp2
          go_ret2
          exact ⟨rfl, rfl⟩
        · have hs1' : 1 ≤ x := by omega
          have hs2' : x ≤ 8 := by omega
          by_cases h40 : 40 ≤ k
          · have h40' : (40 : Int) ≤ k := by omega
            go_wp2
            go_ret2
            exact ⟨rfl, rfl⟩
          · have h40' : (k : Int) < 40 := by omega
            have hfit2 : sizesB (l.take (k + 1)) = true := by
              rw [sizesB_snoc l k hlk, HF.out, ← HX.out]
              unfold sizeB; simp; omega
            have hsum : z + x = (l.take (k + 1)).sum := by rw [sum_snoc l k hlk, ← HX.out, HZ.out]
            have HF2 := Lib.hid hfit2
            have HS := Lib.hid hsum
            clear hfit2 hsum hlk
            go_wp2
            go_round
            case rel => exact ⟨k + 1, z + x, by omega, by omega, by go_num, HF2.out, rfl, HS.out⟩
            case measure => simp [intOf]; omega
    · have hkn : k = m := by omega
      have htk : l.take k = l := by rw [hkn, ← HLL.out, List.take_length]
      have hne : z ≠ (n : Int) := by
        have h3 := HF.out
        have h4 := HC.out
        rw [htk] at h3
        have hll := HLL.out
        rw [cutB, togB, h3, decide_eq_true (show l.length ≤ 40 by omega), Bool.true_and, Bool.true_and, decide_eq_false_iff_not] at h4
        rw [HZ.out, htk]
        exact h4
      have hne2 : (z != (n : Int)) = true := by rw [bne_iff_ne]; exact hne
      clear htk hkn hne
      go_wp2
      go_ret2
      exact ⟨rfl, rfl⟩

set_option maxHeartbeats 4000000 in
theorem rcut_yes (A D : Option Addr) (n c m d : Nat) (b : List Int) (ks : List Nat) (w : World) (hb : Bts w A n c b) (hl : Its .i64 w D m d (ints ks)) (hk : okSizes ks) (hk40 : ks.length ≤ 40) (hsum : ks.sum = n) :
    Calls Tryd.prog 50 #[.slice A n c, .slice D m d] w fun e w' => ∃ v, e = .returned (.tuple #[v, .bool true]) ∧ OwnI .u64 25 w' w.heap.size v (ints (cutL ks b)) ∧ Below w.heap.size w w' := by
  have hn := hb.small
  have hm := hl.small
  have hks : ks.length = m := by have := hl.len; rwa [ints_length] at this
  have hm40 : (m : Int) ≤ 40 := by omega
  have hne : ((n : Int) != (n : Int)) = false := by simp
  have hn320 : (n : Int) ≤ 320 := by
    have h1 : ∀ l : List Nat, okSizes l → l.sum ≤ 8 * l.length := by
      intro l
      induction l with
      | nil => intro _; simp
      | cons x l ih =>
        intro h
        have h2 := h x (by simp)
        have h3 := ih (fun y hy => h y (by simp [hy]))
        rw [List.sum_cons, List.length_cons]
        omega
    have := h1 ks hk
    omega
  have HKS := Lib.hid hks
  have HSUM := Lib.hid hsum
  have HK := Lib.hid hk
  clear hks hsum hk
  go_enter Tryd.func50, Tryd.ntmps50
  go_wp2
  go_loop [6, 7] (fun s i => ∃ (k z : Nat), k ≤ m ∧ i = .int .i64 k ∧ s = .int .i64 z ∧ z = (ks.take k).sum) (fun _ i => m - (intOf i).toNat)
  case atStart => exact ⟨0, 0, Nat.zero_le _, rfl, rfl, rfl⟩
  case round =>
    obtain ⟨k, z, hk, rfl, rfl, hz⟩ := hrel
    have hzb : (z : Int) ≤ 320 := by
      have h2 := sumN_le ks k
      rw [← hz, HSUM.out] at h2
      omega
    have HZ := Lib.hid hz
    clear hz
    by_cases hlt : k < m
    · have hkk : k < ks.length := by rw [HKS.out]; exact hlt
      obtain ⟨bd, od, rfl, hcs⟩ := hl.at_ (by omega)
      have hck := hcs k hlt
      rw [ints_get ks k hkk] at hck
      obtain ⟨K, hK⟩ : ∃ K, ks.getD k 0 = K := ⟨_, rfl⟩
      have hK18 : 1 ≤ K ∧ K ≤ 8 := by
        rw [← hK, List.getD_eq_getElem?_getD, List.getElem?_eq_getElem hkk]
        exact HK.out _ (List.getElem_mem hkk)
      obtain ⟨hK1, hK8⟩ := hK18
      rw [hK] at hck
      have hz2 : z + K = (ks.take (k + 1)).sum := by rw [sumN_snoc ks k hkk, hK, HZ.out]
      have h40 : (k : Int) < 40 := by omega
      have hK1' : (1 : Int) ≤ K := by omega
      have hK8' : (K : Int) ≤ 8 := by omega
      have HZ2 := Lib.hid hz2
      clear hK hz2 hcs hkk
      go_wp2
      go_round
      case rel => exact ⟨k + 1, z + K, by omega, by go_num, by go_num, HZ2.out⟩
      case measure => simp [intOf]; omega
    · have hkn : k = m := by omega
      have hzn : z = n := by
        rw [HZ.out, hkn, ← HKS.out, List.take_length, HSUM.out]
      subst hzn
      clear hk hkn hzb
      go_wp2
      go_loopw [8, 9, 10] (fun v q i wr => ∃ (k a : Nat) (L : List Nat), k ≤ m ∧ i = .int .i64 k ∧ q = .int .i64 a ∧ a = (ks.take k).sum ∧ L = (cutL ks b).take k ∧ OwnI .u64 25 wr w.heap.size v (ints L) ∧ Below w.heap.size w wr) (fun _ _ i _ => m - (intOf i).toNat)
      case atStart => exact ⟨0, 0, [], Nat.zero_le _, rfl, rfl, rfl, rfl, OwnI.nil _ _ _ _, Below.refl _ _⟩
      case round =>
        obtain ⟨k, a, L, hkm, rfl, rfl, ha, hL, hown, hB⟩ := hrel
        have HA := Lib.hid ha
        have HL := Lib.hid hL
        clear ha hL
        by_cases hlt : k < m
        · have hkk : k < ks.length := by rw [HKS.out]; exact hlt
          obtain ⟨bd, od, rfl, hcs⟩ := (hl.below hB).at_ (by omega)
          have hck := hcs k hlt
          rw [ints_get ks k hkk] at hck
          obtain ⟨K, hK⟩ : ∃ K, ks.getD k 0 = K := ⟨_, rfl⟩
          have hK18 : 1 ≤ K ∧ K ≤ 8 := by
            rw [← hK, List.getD_eq_getElem?_getD, List.getElem?_eq_getElem hkk]
            exact HK.out _ (List.getElem_mem hkk)
          obtain ⟨hK1, hK8⟩ := hK18
          have hak : a + K ≤ z := by
            have h1 := sumN_snoc ks k hkk
            have h2 := sumN_le ks (k + 1)
            rw [hK, ← HA.out] at h1
            rw [HSUM.out] at h2
            omega
          rw [hK] at hck
          obtain ⟨x, hx⟩ : ∃ x, numL ((b.drop a).take K) = x := ⟨_, rfl⟩
          have hL2 : L ++ [x] = (cutL ks b).take (k + 1) := by rw [cutL_snoc ks b k hkk, HL.out, ← HA.out, hK, hx]
          have ha2 : a + K = (ks.take (k + 1)).sum := by rw [sumN_snoc ks k hkk, hK, HA.out]
          have hLl : (ints L).length ≤ 40 := by
            rw [ints_length, HL.out, List.length_take]
            omega
          have HX := Lib.hid hx
          have HL2 := Lib.hid hL2
          have HA2 := Lib.hid ha2
          clear hx hK hL2 ha2 hcs hkk
          go_wp2_with (first
            | (go_at_call 64; (with_reducible refine (rget_yes A z c b a K wr (hb.below hB) hK1 hK8 hak).mono ?_); rintro e w6 ⟨he, rfl⟩
               rw [HX.out] at he
               subst he)
            | (at_builtin
               refine wpList_append_i rfl 79 25 .u64 8 _ _ rfl Tryd.underlying79 (by kernel_rfl) (by omega) w.heap.size u8 (ints L) rfl (hown.more _) _ 1 1 [(x : Int)] rfl (one_its .u64 25 _ (x : Int)) (by omega) (Nat.le_trans hB.size (size_le_alloc _ _)) ?_
               intro v5 w5 hown5 hg5
               have hB5 : Below w.heap.size w w5 := (hB.alloc hB.size _).grown hg5 (Nat.le_trans hB.size (size_le_alloc _ _)) (fun k hk => (hown.size k hk).1)
               have hown5 : OwnI .u64 25 w5 w.heap.size v5 (ints (L ++ [x])) := by rw [ints_append]; exact hown5
               clear hg5))
          go_roundw
          case rel => exact ⟨k + 1, a + K, L ++ [x], by omega, by go_num, by go_num, HA2.out, HL2.out, hown5, hB5⟩
          case measure => simp [intOf]; omega
        · have hkn : k = m := by omega
          have htk : L = cutL ks b := by
            have h5 := cutL_length ks b
            rw [HL.out, hkn, ← HKS.out, ← h5, List.take_length]
          rw [htk] at hown
          have HO := Lib.hid hown
          clear hown htk hkn
          go_wp2
          go_ret2
          exact ⟨_, rfl, HO.out, hB⟩
end Go.Proofs.YtplfpaclhapldaaDoor

/- What a call gives: both sides, the program's and the plain answers', of one hidden value. -/
namespace Go.Proofs.YtplfpaclhapldaaDoor
set_option linter.unusedVariables false
set_option linter.unusedSimpArgs false
open Go.RowKit

/-- a call that hands back bytes and a bool -/
def GivesB (L : List Int) (b : Bool) (w : World) (e : Ending) (w' : World) : Prop := ∃ A m c, e = .returned (.tuple #[.slice A m c, .bool b]) ∧ Bts w' A m c L ∧ Below w.heap.size w w'
/-- a call that hands back numbers and a bool -/
def GivesI (L : List Int) (b : Bool) (w : World) (e : Ending) (w' : World) : Prop := ∃ A m c, e = .returned (.tuple #[.slice A m c, .bool b]) ∧ Its .u64 w' A m c L ∧ Below w.heap.size w w'
theorem Own.gives {w w' : World} {v : Value} {L : List Int} (h : Own w' w.heap.size v L) (ho : ∀ j, 0 ≤ L.getD j 0 ∧ L.getD j 0 < 256) (hb : Below w.heap.size w w') : GivesB L true w (.returned (.tuple #[v, .bool true])) w' := by
  obtain ⟨A, m, c, rfl, hbt⟩ := h.slice ho
  exact ⟨A, m, c, rfl, hbt, hb⟩
theorem OwnI.gives {w w' : World} {e : TypeId} {v : Value} {L : List Int} (h : OwnI .u64 e w' w.heap.size v L) (hb : Below w.heap.size w w') : GivesI L true w (.returned (.tuple #[v, .bool true])) w' := by
  obtain ⟨A, m, c, rfl, hi⟩ := h.its
  exact ⟨A, m, c, rfl, hi, hb⟩
theorem puts (n k : Int) (h0 : 0 ≤ n) (h1 : n < 18446744073709551616) : ∃ L b, (∀ w, Calls Tryd.prog 57 #[.int .u64 n, .int .i64 k] w fun e w' => GivesB L b w e w') ∧ ∀ w, Calls Tryd.prog 58 #[.int .u64 n, .int .i64 k] w fun e w' => GivesB L b w e w' := by
  cases h : fitB n k with
  | false =>
    refine ⟨[], false, fun w => (put_no n k w h0 h1 h).mono fun e w' ⟨he, hw⟩ => ?_, fun w => (rput_no n k w h0 h1 h).mono fun e w' ⟨he, hw⟩ => ?_⟩
    · subst hw
      exact ⟨none, 0, 0, he, Bts.nil w, Below.refl _ _⟩
    · exact ⟨none, 0, 0, he, Bts.nil w', hw⟩
  | true =>
    obtain ⟨N, K, rfl, rfl, h2, h3, h4⟩ := fit_nat h0 h
    refine ⟨putL N K, true, fun w => (put_yes N K w h2 h3 h4).mono fun e w' ⟨he, hX, hB⟩ => ?_, fun w => (rput_yes N K w h2 h3 h4).mono fun e w' ⟨he, hX, hB⟩ => ?_⟩
    · exact ⟨_, _, _, he, hX.bts (putL_length N K) (by unfold maxLen; omega) (putL_ok N K), hB⟩
    · exact ⟨_, _, _, he, hX.bts (putL_length N K) (by unfold maxLen; omega) (putL_ok N K), hB⟩
theorem gets (n c : Nat) (b : List Int) (i k : Int) (ha0 : -9223372036854775808 ≤ i) (ha1 : i ≤ 9223372036854775807) (hk0 : -9223372036854775808 ≤ k) (hk1 : k ≤ 9223372036854775807) :
    ∃ x y, (∀ A w, Bts w A n c b → Calls Tryd.prog 71 #[.slice A n c, .int .i64 i, .int .i64 k] w fun e w' => e = .returned (.tuple #[.int .u64 x, .int .i64 y]) ∧ w = w') ∧ ∀ A w, Bts w A n c b → Calls Tryd.prog 64 #[.slice A n c, .int .i64 i, .int .i64 k] w fun e w' => e = .returned (.tuple #[.int .u64 x, .int .i64 y]) ∧ w = w' := by
  cases h : mayGet n i k with
  | false => exact ⟨_, _, fun A w hb => get_no A n c b i k w hb ha0 ha1 hk0 hk1 h, fun A w hb => rget_no A n c b i k w hb ha0 ha1 h⟩
  | true =>
    obtain ⟨a, K, rfl, rfl, h1, h2, h3⟩ := mayGet_nat h
    exact ⟨_, _, fun A w hb => get_yes A n c b a K w hb h1 h2 h3, fun A w hb => rget_yes A n c b a K w hb h1 h2 h3⟩
theorem catPost_gives {l : List (Int × Int)} {w w' : World} {e : Ending} (h : CatPost l w e w') : GivesB (if catB l then catL (toN l) else []) (catB l) w e w' := by
  obtain ⟨h1, h2, h3⟩ := h
  cases hc : catB l with
  | true =>
    obtain ⟨v, he, ho⟩ := h1 hc
    subst he
    exact ho.gives (catL_ok _) h3
  | false => exact ⟨none, 0, 0, h2 hc, Bts.nil w', h3⟩
theorem cats (n c : Nat) (l : List (Int × Int)) : ∃ L b, (∀ A w, Nms w A n c l → Calls Tryd.prog 42 #[.slice A n c] w fun e w' => GivesB L b w e w') ∧ ∀ A w, Nms w A n c l → Calls Tryd.prog 44 #[.slice A n c] w fun e w' => GivesB L b w e w' :=
  ⟨_, _, fun A w hl => (cat_any A n c l w hl).mono fun _ _ h => catPost_gives h, fun A w hl => (rcat_any A n c l w hl).mono fun _ _ h => catPost_gives h⟩
theorem cuts (n c m d : Nat) (b l : List Int) : ∃ L z, (∀ A D w, Bts w A n c b → Its .i64 w D m d l → Calls Tryd.prog 62 #[.slice A n c, .slice D m d] w fun e w' => GivesI L z w e w') ∧
    ∀ A D w, Bts w A n c b → Its .i64 w D m d l → Calls Tryd.prog 50 #[.slice A n c, .slice D m d] w fun e w' => GivesI L z w e w' := by
  cases hc : cutB l n with
  | false =>
    refine ⟨[], false, fun A D w hb hl => (cut_no A D n c m d b l w hb hl hc).mono fun e w' ⟨he, hw⟩ => ?_, fun A D w hb hl => (rcut_no A D n c m d b l w hb hl hc).mono fun e w' ⟨he, hw⟩ => ?_⟩
    · subst hw
      exact ⟨none, 0, 0, he, Its.nil _ w, Below.refl _ _⟩
    · subst hw
      exact ⟨none, 0, 0, he, Its.nil _ w, Below.refl _ _⟩
  | true =>
    rw [cutB, Bool.and_eq_true, decide_eq_true_eq] at hc
    obtain ⟨ks, rfl, hk, hk40⟩ := tog_nat hc.1
    have hs := hc.2
    rw [ints_sum] at hs
    refine ⟨ints (cutL ks b), true, fun A D w hb hl => (cut_yes A D n c m d b ks w hb hl hk hk40 (by omega)).mono fun e w' ⟨v, he, ho, hB⟩ => ?_, fun A D w hb hl => (rcut_yes A D n c m d b ks w hb hl hk hk40 (by omega)).mono fun e w' ⟨v, he, ho, hB⟩ => ?_⟩
    · subst he
      exact ho.gives hB
    · subst he
      exact ho.gives hB
end Go.Proofs.YtplfpaclhapldaaDoor

/- Entries, plainly: their cells and bytes, which may be; a slice of entries as it lies; those of a kind, and the epoch of the last start. -/
namespace Go.Proofs.YtplfpaclhapldaaDoor
set_option linter.unusedVariables false
set_option linter.unusedSimpArgs false
open Go.RowKit

structure En where
  kind : Int
  tick : Int
  epoch : Int
  user : Int
  sess : Int
  count : Int
  cmd : Int
  arg : Int
  code : Int
deriving DecidableEq
def En.zero : En := ⟨0, 0, 0, 0, 0, 0, 0, 0, 0⟩
def En.row (u : En) : List Value := [.int .i64 u.kind, .int .i64 u.tick, .int .i64 u.epoch, .int .i64 u.user, .int .u64 u.sess, .int .u64 u.count, .int .i64 u.cmd, .int .i64 u.arg, .int .i64 u.code]
def enA (u : En) : Array Value := u.row.toArray
def enV (u : En) : Value := .agg (enA u)
theorem enA_size (u : En) : (enA u).size = 9 := rfl
theorem erow_len (u : En) : u.row.length = 9 := rfl
theorem row_one9 (u : En) : ∀ v ∈ u.row, v.oneCell' = true := by
  intro v hv
  simp only [En.row, List.mem_cons, List.not_mem_nil, or_false] at hv
  rcases hv with rfl | rfl | rfl | rfl | rfl | rfl | rfl | rfl | rfl <;> rfl
/-- its two wide numbers are -/
structure En.ok (u : En) : Prop where
  sess : 0 ≤ u.sess ∧ u.sess < 18446744073709551616
  count : 0 ≤ u.count ∧ u.count < 18446744073709551616
/-- the block g holds this entry -/
structure BoxE (w : World) (g : Nat) (u : En) : Prop where
  blk : w.heap[g]? = some (.cells (enA u) 28 (0, 0))
section
variable {w w' : World} {g : Nat} {u : En}
theorem BoxE.below (h : BoxE w g u) (hb : Below w.heap.size w w') : BoxE w' g u := ⟨(hb.block g (Array.getElem?_eq_some_iff.1 h.blk).1).trans h.blk⟩
theorem BoxE.new (w : World) (u : En) : BoxE (w.alloc (.cells (enA u) 28)) w.heap.size u := ⟨heap_alloc_new w _⟩
theorem BoxE.lt (h : BoxE w g u) : g < w.heap.size := (Array.getElem?_eq_some_iff.1 h.blk).1
theorem BoxE.draw (h : BoxE w g u) (k : Nat) : BoxE (w.drewN k) g u := ⟨h.blk⟩
theorem BoxE.c0 (h : BoxE w g u) : w.cell? ⟨g, 0, none⟩ = some (.int .i64 u.kind) := (cell_of_row _ _ _ _ _ _ h.blk).trans rfl
theorem BoxE.c1 (h : BoxE w g u) : w.cell? ⟨g, 1, none⟩ = some (.int .i64 u.tick) := (cell_of_row _ _ _ _ _ _ h.blk).trans rfl
theorem BoxE.c2 (h : BoxE w g u) : w.cell? ⟨g, 2, none⟩ = some (.int .i64 u.epoch) := (cell_of_row _ _ _ _ _ _ h.blk).trans rfl
theorem BoxE.c3 (h : BoxE w g u) : w.cell? ⟨g, 3, none⟩ = some (.int .i64 u.user) := (cell_of_row _ _ _ _ _ _ h.blk).trans rfl
theorem BoxE.c4 (h : BoxE w g u) : w.cell? ⟨g, 4, none⟩ = some (.int .u64 u.sess) := (cell_of_row _ _ _ _ _ _ h.blk).trans rfl
theorem BoxE.c5 (h : BoxE w g u) : w.cell? ⟨g, 5, none⟩ = some (.int .u64 u.count) := (cell_of_row _ _ _ _ _ _ h.blk).trans rfl
theorem BoxE.c6 (h : BoxE w g u) : w.cell? ⟨g, 6, none⟩ = some (.int .i64 u.cmd) := (cell_of_row _ _ _ _ _ _ h.blk).trans rfl
theorem BoxE.c7 (h : BoxE w g u) : w.cell? ⟨g, 7, none⟩ = some (.int .i64 u.arg) := (cell_of_row _ _ _ _ _ _ h.blk).trans rfl
theorem BoxE.c8 (h : BoxE w g u) : w.cell? ⟨g, 8, none⟩ = some (.int .i64 u.code) := (cell_of_row _ _ _ _ _ _ h.blk).trans rfl
theorem BoxE.cells (h : BoxE w g u) : w.cell? ⟨g, 0, none⟩ = some (.int .i64 u.kind) ∧ w.cell? ⟨g, 1, none⟩ = some (.int .i64 u.tick) ∧ w.cell? ⟨g, 2, none⟩ = some (.int .i64 u.epoch) ∧ w.cell? ⟨g, 3, none⟩ = some (.int .i64 u.user) ∧ w.cell? ⟨g, 4, none⟩ = some (.int .u64 u.sess) ∧ w.cell? ⟨g, 5, none⟩ = some (.int .u64 u.count) ∧ w.cell? ⟨g, 6, none⟩ = some (.int .i64 u.cmd) ∧ w.cell? ⟨g, 7, none⟩ = some (.int .i64 u.arg) ∧ w.cell? ⟨g, 8, none⟩ = some (.int .i64 u.code) :=
  ⟨h.c0, h.c1, h.c2, h.c3, h.c4, h.c5, h.c6, h.c7, h.c8⟩
end
/-- a slice of entries -/
structure Ens (w : World) (A : Option Addr) (n c : Nat) (l : List En) : Prop where
  rws : Rws 9 w A n c (l.map En.row)
section
variable {w w' : World} {A : Option Addr} {n c : Nat} {l : List En}
theorem Ens.len (h : Ens w A n c l) : l.length = n := by rw [← h.rws.len, List.length_map]
theorem Ens.small (h : Ens w A n c l) : n ≤ 9223372036854775807 := h.rws.small
theorem Ens.below (h : Ens w A n c l) (hb : Below w.heap.size w w') : Ens w' A n c l := ⟨h.rws.below hb⟩
theorem Ens.draw (h : Ens w A n c l) (k : Nat) : Ens (w.drewN k) A n c l := ⟨h.rws.draw k⟩
theorem Ens.more (h : Ens w A n c l) (o : Obj) : Ens (w.alloc o) A n c l := ⟨h.rws.more o⟩
theorem Ens.nil (w : World) : Ens w none 0 0 [] := ⟨Rws.nil 9 w⟩
/-- one of them -/
theorem Ens.at_ (h : Ens w A n c l) (j : Nat) (hj : j < n) : ∃ b off u, A = some ⟨b, off, none⟩ ∧ l[j]? = some u ∧ b < w.heap.size ∧
    (w.cell? ⟨b, off + j * 9, none⟩ = some (.int .i64 u.kind) ∧ w.cell? ⟨b, off + j * 9 + 1, none⟩ = some (.int .i64 u.tick) ∧ w.cell? ⟨b, off + j * 9 + 2, none⟩ = some (.int .i64 u.epoch) ∧ w.cell? ⟨b, off + j * 9 + 3, none⟩ = some (.int .i64 u.user) ∧ w.cell? ⟨b, off + j * 9 + 4, none⟩ = some (.int .u64 u.sess) ∧ w.cell? ⟨b, off + j * 9 + 5, none⟩ = some (.int .u64 u.count) ∧ w.cell? ⟨b, off + j * 9 + 6, none⟩ = some (.int .i64 u.cmd) ∧ w.cell? ⟨b, off + j * 9 + 7, none⟩ = some (.int .i64 u.arg) ∧ w.cell? ⟨b, off + j * 9 + 8, none⟩ = some (.int .i64 u.code)) := by
  obtain ⟨b, off, hA, hc⟩ := h.rws.at_ (by omega)
  have hl : j < l.length := by rw [h.len]; exact hj
  have hr : (l.map En.row).getD j [] = l[j].row := by simp [List.getD_eq_getElem?_getD, hl]
  have hk : ∀ i, i < 9 → w.cell? ⟨b, off + j * 9 + i, none⟩ = some (l[j].row.getD i undef) := fun i hi => by rw [← hr]; exact hc j hj i hi
  exact ⟨b, off, l[j], hA, by simp [hl], block_lt_of_cell (hk 0 (by omega)), hk 0 (by omega), hk 1 (by omega), hk 2 (by omega), hk 3 (by omega), hk 4 (by omega), hk 5 (by omega), hk 6 (by omega), hk 7 (by omega), hk 8 (by omega)⟩
end
/-- what the call made of entries -/
theorem own_ens {w : World} {B : Nat} {v : Value} {l : List En} (h : OwnR 28 9 w B v (l.map En.row)) : ∃ A n c, v = .slice A n c ∧ Ens w A n c l := by
  obtain ⟨A, n, c, rfl, hr⟩ := h.rws
  exact ⟨A, n, c, rfl, ⟨hr⟩⟩
theorem map_row (l m : List En) : (l ++ m).map En.row = l.map En.row ++ m.map En.row := List.map_append
theorem one_ens (w : World) (u : En) : Ens (w.alloc (.cells (enA u) 28)) (some ⟨w.heap.size, 0, none⟩) 1 1 [u] := ⟨one_rws 9 _ w u.row rfl (row_one9 u)⟩
theorem info_entry : (Tryd.prog.info? 28).map (fun i => (i.zero.map (·.cells.size), i.size, i.bytes)) = some (some 9, 9, 72) := by kernel_rfl
theorem info_en {C : Array Value} (h : C.size = 9) : (Tryd.prog.info? 28).map (·.size) = some C.size := by rw [h]; kernel_rfl
theorem enA_one (u : En) : (enA u).all (·.oneCell') = true := all_oneCell_toArray fun v hv => row_one9 u v hv

def upE (n most : Int) : Bool := decide (0 ≤ n) && decide (n ≤ most)
def mayE (u : En) : Bool := decide (0 ≤ u.kind) && (decide (u.kind < 5) && (decide (0 ≤ u.code) && (decide (u.code ≤ 12) && (upE u.tick 1073741824 && (upE u.epoch 1073741824 && (upE u.user 255 && (upE u.cmd 255 && upE u.arg 65535)))))))
theorem up_iff {n m : Int} : upE n m = true ↔ 0 ≤ n ∧ n ≤ m := by simp [upE]
theorem may_iff {u : En} : mayE u = true ↔ (0 ≤ u.kind ∧ u.kind < 5) ∧ (0 ≤ u.code ∧ u.code ≤ 12) ∧ (0 ≤ u.tick ∧ u.tick ≤ 1073741824) ∧ (0 ≤ u.epoch ∧ u.epoch ≤ 1073741824) ∧ (0 ≤ u.user ∧ u.user ≤ 255) ∧ (0 ≤ u.cmd ∧ u.cmd ≤ 255) ∧ (0 ≤ u.arg ∧ u.arg ≤ 65535) := by
  simp only [mayE, Bool.and_eq_true, decide_eq_true_eq, up_iff, and_assoc]
def numsE (u : En) : List Int := [u.kind, u.tick, u.epoch, u.user, u.sess, u.count, u.cmd, u.arg, u.code]
def szI : List Int := [1, 4, 4, 1, 8, 8, 1, 2, 1]
def szN : List Nat := [1, 4, 4, 1, 8, 8, 1, 2, 1]
theorem sz_ints : szI = ints szN := rfl
def rowE (u : En) : List (Int × Int) := (numsE u).zip szI
/-- its bytes -/
def putE (u : En) : List Int := catL (toN (rowE u))
def enOf (l : List Nat) : En := ⟨l.getD 0 0, l.getD 1 0, l.getD 2 0, l.getD 3 0, l.getD 4 0, l.getD 5 0, l.getD 6 0, l.getD 7 0, l.getD 8 0⟩
/-- what bytes seem to be -/
def seemsE (b : List Int) : En := enOf (cutL szN b)
def gotB (b : List Int) : Bool := decide (b.length = 30) && mayE (seemsE b)
def getE (b : List Int) : En := if gotB b then seemsE b else En.zero
theorem nat_row (u : En) : toN (rowE u) = [(u.kind.toNat, 1), (u.tick.toNat, 4), (u.epoch.toNat, 4), (u.user.toNat, 1), (u.sess.toNat, 8), (u.count.toNat, 8), (u.cmd.toNat, 1), (u.arg.toNat, 2), (u.code.toNat, 1)] := rfl
theorem fit_iff {n k : Int} : fitB n k = true ↔ 1 ≤ k ∧ k ≤ 8 ∧ n.toNat < 256 ^ k.toNat := by simp [fitB]
theorem put_fits {u : En} (h : mayE u = true) (ho : u.ok) : catB (rowE u) = true := by
  obtain ⟨h0, h8, h1, h2, h3, h6, h7⟩ := may_iff.1 h
  obtain ⟨h4, h5⟩ := ho
  simp only [catB, fitsB, rowE, numsE, szI, List.zip_cons_cons, List.zip_nil_right, List.length_cons, List.length_nil, List.all_cons, List.all_nil, Bool.and_eq_true, decide_eq_true_eq, fit_iff, Bool.and_true]
  refine ⟨by omega, ⟨by omega, by omega, ?_⟩, ⟨by omega, by omega, ?_⟩, ⟨by omega, by omega, ?_⟩, ⟨by omega, by omega, ?_⟩, ⟨by omega, by omega, ?_⟩, ⟨by omega, by omega, ?_⟩, ⟨by omega, by omega, ?_⟩, ⟨by omega, by omega, ?_⟩, by omega, by omega, ?_⟩
  all_goals
    simp only [Int.reduceToNat, Nat.reducePow]
    omega
theorem row_small {u : En} (h : mayE u = true) (ho : u.ok) : ∀ p ∈ rowE u, 0 ≤ p.1 ∧ p.1 < 18446744073709551616 ∧ -9223372036854775808 ≤ p.2 ∧ p.2 ≤ 9223372036854775807 := by
  obtain ⟨h0, h8, h1, h2, h3, h6, h7⟩ := may_iff.1 h
  obtain ⟨h4, h5⟩ := ho
  intro p hp
  simp only [rowE, numsE, szI, List.zip_cons_cons, List.zip_nil_right, List.mem_cons, List.not_mem_nil, or_false] at hp
  rcases hp with rfl | rfl | rfl | rfl | rfl | rfl | rfl | rfl | rfl <;> simp only <;> omega
theorem put_len (u : En) : (putE u).length = 30 := by rw [putE, catL_length, nat_row]; rfl
theorem put_ok (u : En) : ∀ j, 0 ≤ (putE u).getD j 0 ∧ (putE u).getD j 0 < 256 := catL_ok _
theorem fits_of {l : List (Int × Int)} (h : catB l = true) : fitsL (toN l) := by
  rw [catB, Bool.and_eq_true] at h
  intro p hp
  obtain ⟨q, hq, rfl⟩ := List.mem_map.1 hp
  have := List.all_eq_true.1 h.2 q hq
  exact (fit_iff.1 this).2.2
theorem seems_put {u : En} (h : mayE u = true) (ho : u.ok) : seemsE (putE u) = u := by
  have h1 := cut_cat _ (fits_of (put_fits h ho))
  obtain ⟨h0, h8, h2, h3, h4, h6, h7⟩ := may_iff.1 h
  obtain ⟨h9, h5⟩ := ho
  rw [nat_row] at h1
  have h2 : cutL szN (putE u) = [u.kind.toNat, u.tick.toNat, u.epoch.toNat, u.user.toNat, u.sess.toNat, u.count.toNat, u.cmd.toNat, u.arg.toNat, u.code.toNat] := by rw [putE, nat_row]; exact h1
  rw [seemsE, h2]
  rcases u with ⟨a0, a1, a2, a3, a4, a5, a6, a7, a8⟩
  simp only [enOf, List.getD_eq_getElem?_getD, List.getElem?_cons_zero, List.getElem?_cons_succ, Option.getD_some, En.mk.injEq] at *
  refine ⟨?_, ?_, ?_, ?_, ?_, ?_, ?_, ?_, ?_⟩ <;> omega
theorem got_put {u : En} (h : mayE u = true) (ho : u.ok) : gotB (putE u) = true := by rw [gotB, put_len, seems_put h ho, h]; rfl
theorem cut_nine (b : List Int) : ∃ a0 a1 a2 a3 a4 a5 a6 a7 a8, cutL szN b = [a0, a1, a2, a3, a4, a5, a6, a7, a8] := ⟨_, _, _, _, _, _, _, _, _, rfl⟩
theorem put_seems {b : List Int} (hb : ∀ x ∈ b, 0 ≤ x ∧ x < 256) (h : b.length = 30) : putE (seemsE b) = b := by
  have h1 := cat_cut szN b hb (by rw [h]; rfl)
  obtain ⟨a0, a1, a2, a3, a4, a5, a6, a7, a8, hc⟩ := cut_nine b
  rw [hc] at h1
  rw [putE, nat_row, seemsE, hc]
  exact h1
theorem seems_ok {b : List Int} (hb : ∀ x ∈ b, 0 ≤ x ∧ x < 256) (h : b.length = 30) : (seemsE b).ok := by
  have h1 := fits_cut szN b hb (by rw [h]; rfl)
  obtain ⟨a0, a1, a2, a3, a4, a5, a6, a7, a8, hc⟩ := cut_nine b
  rw [hc] at h1
  rw [seemsE, hc]
  have h4 := h1 (a4, 8) (by simp [szN])
  have h5 := h1 (a5, 8) (by simp [szN])
  simp only [Nat.reducePow] at h4 h5
  exact ⟨by simp [enOf]; omega, by simp [enOf]; omega⟩
theorem eput_inj {u v : En} (hu : mayE u = true) (ho : u.ok) (hv : mayE v = true) (hp : v.ok) (h : putE u = putE v) : u = v := by
  rw [← seems_put hu ho, ← seems_put hv hp, h]

/-- those of a kind -/
def ofE (l : List En) (k : Int) : List En := l.filter fun u => u.kind == k
/-- the last start's epoch -/
def epochE (l : List En) : Int := l.foldl (fun x u => if u.kind = 0 then u.epoch else x) 0
theorem epoch_snoc (l : List En) (u : En) : epochE (l ++ [u]) = if u.kind = 0 then u.epoch else epochE l := by simp [epochE]
theorem epoch_back (l : List En) : epochE l = ((ofE l.reverse 0).head?.map En.epoch).getD 0 := by
  have key : ∀ m : List En, epochE m.reverse = ((ofE m 0).head?.map En.epoch).getD 0 := by
    intro m
    induction m with
    | nil => rfl
    | cons u m ih =>
      rw [List.reverse_cons, epoch_snoc, ih]
      by_cases h : u.kind = 0
      · simp [h, ofE]
      · simp [h, ofE]
  have := key l.reverse
  rwa [List.reverse_reverse] at this
theorem of_snoc (l : List En) (u : En) (k : Int) : ofE (l ++ [u]) k = ofE l k ++ if u.kind == k then [u] else [] := by
  rw [ofE, List.filter_append, ofE]
  simp only [List.filter_cons, List.filter_nil]
theorem etake_more {α : Type} {l : List α} {j : Nat} {u : α} (h : l[j]? = some u) : l.take (j + 1) = l.take j ++ [u] := by
  obtain ⟨hj, rfl⟩ := List.getElem?_eq_some_iff.1 h
  exact List.take_succ_eq_append_getElem hj
theorem of_take {l : List En} {j : Nat} {u : En} (h : l[j]? = some u) (k : Int) : ofE (l.take (j + 1)) k = ofE (l.take j) k ++ if u.kind == k then [u] else [] := by rw [etake_more h, of_snoc]
theorem of_len (l : List En) (k : Int) : (ofE l k).length ≤ l.length := List.length_filter_le _ _
def sameE (l m : List En) : Bool := decide (l = m)
theorem same_len {l m : List En} (h : l.length ≠ m.length) : sameE l m = false := by
  rw [sameE, decide_eq_false_iff_not]
  rintro rfl
  exact h rfl
theorem same_take {l m : List En} {j : Nat} {u v : En} (h : l[j]? = some u) (h2 : m[j]? = some v) (h3 : l.take j = m.take j) (h4 : u = v) : l.take (j + 1) = m.take (j + 1) := by
  rw [etake_more h, etake_more h2, h3, h4]
theorem same_stop {l m : List En} {j : Nat} {u v : En} (h : l[j]? = some u) (h2 : m[j]? = some v) (h3 : u ≠ v) : sameE l m = false := by
  rw [sameE, decide_eq_false_iff_not]
  rintro rfl
  rw [h] at h2
  exact h3 (Option.some.inj h2)
/-- gives a bool, a number, an entry -/
def GBe (b : Bool) (w : World) (e : Ending) (w' : World) : Prop := e = .returned (.bool b) ∧ Below w.heap.size w w'
def GIe (i : Int) (w : World) (e : Ending) (w' : World) : Prop := e = .returned (.int .i64 i) ∧ Below w.heap.size w w'
/-- gives an entry, and a bool; gives entries -/
def GE (u : En) (b : Bool) (w : World) (e : Ending) (w' : World) : Prop := e = .returned (.tuple #[enV u, .bool b]) ∧ Below w.heap.size w w'
def GL (l : List En) (w : World) (e : Ending) (w' : World) : Prop := ∃ A n c, e = .returned (.slice A n c) ∧ Ens w' A n c l ∧ Below w.heap.size w w'
end Go.Proofs.YtplfpaclhapldaaDoor

/- Sums of bytes (SHA-256) as functions of lists: what the walks over package sha, and over the plain answers of the document, come to; and that both are the same. -/
namespace Go.Proofs.YtplfpaclhapldaaDoor
open Go

/-- a number of 32 bits, turned -/
def rot (x n : Int) : Int := bits .or .u32 (x / 2 ^ n.toNat) (x * 2 ^ (32 - n).toNat % 4294967296)
def x32 (a b : Int) : Int := bits .xor .u32 a b
def a32 (a b : Int) : Int := bits .and .u32 a b

def bigE (e : Int) : Int := x32 (x32 (rot e 6) (rot e 11)) (rot e 25)
def bigA (a : Int) : Int := x32 (x32 (rot a 2) (rot a 13)) (rot a 22)
def chE (e f g : Int) : Int := x32 (a32 e f) (a32 (x32 IntKind.u32.max e) g)
def majA (a b c : Int) : Int := x32 (x32 (a32 a b) (a32 a c)) (a32 b c)
def lowS (x : Int) : Int := x32 (x32 (rot x 7) (rot x 18)) (x / 8)
def highS (y : Int) : Int := x32 (x32 (rot y 17) (rot y 19)) (y / 1024)

/-- one round -/
def rnd (r : List Int) (n : Int) : List Int :=
  match r with
  | [a, b, c, d, e, f, g, h] => [(h + bigE e + chE e f g + n + (bigA a + majA a b c)) % 4294967296, a, b, c, (d + (h + bigE e + chE e f g + n)) % 4294967296, e, f, g]
  | _ => r

def kList : List Int := [1116352408, 1899447441, 3049323471, 3921009573, 961987163, 1508970993, 2453635748, 2870763221, 3624381080, 310598401, 607225278, 1426881987, 1925078388, 2162078206, 2614888103, 3248222580, 3835390401, 4022224774, 264347078, 604807628, 770255983, 1249150122, 1555081692, 1996064986, 2554220882, 2821834349, 2952996808, 3210313671, 3336571891, 3584528711, 113926993, 338241895, 666307205, 773529912, 1294757372, 1396182291, 1695183700, 1986661051, 2177026350, 2456956037, 2730485921, 2820302411, 3259730800, 3345764771, 3516065817, 3600352804, 4094571909, 275423344, 430227734, 506948616, 659060556, 883997877, 958139571, 1322822218, 1537002063, 1747873779, 1955562222, 2024104815, 2227730452, 2361852424, 2428436474, 2756734187, 3204031479, 3329325298]
def iList : List Int := [1779033703, 3144134277, 1013904242, 2773480762, 1359893119, 2600822924, 528734635, 1541459225]

/-- the i-th number of a block -/
def word (l : List Int) (i : Nat) : Int :=
  bits .or .u32 (bits .or .u32 (bits .or .u32 (l.getD (4 * i) 0 * 16777216 % 4294967296) (l.getD (4 * i + 1) 0 * 65536 % 4294967296)) (l.getD (4 * i + 2) 0 * 256 % 4294967296)) (l.getD (4 * i + 3) 0)
def spreadA (l : List Int) : Nat → List Int
  | 0 => List.replicate 64 0
  | k + 1 => (spreadA l k).set k (word l k)
def nextW (w : List Int) (i : Nat) : Int :=
  (w.getD (i - 16) 0 + lowS (w.getD (i - 15) 0) + w.getD (i - 7) 0 + highS (w.getD (i - 2) 0)) % 4294967296
def spreadB (l : List Int) : Nat → List Int
  | 0 => spreadA l 16
  | k + 1 => (spreadB l k).set (k + 16) (nextW (spreadB l k) (k + 16))
def spreadAll (l : List Int) : List Int := spreadB l 48

def runs (w : List Int) (r : List Int) : Nat → List Int
  | 0 => r
  | k + 1 => rnd (runs w r k) ((kList.getD k 0 + w.getD k 0) % 4294967296)
def addTo (x r : List Int) : Nat → List Int
  | 0 => x
  | k + 1 => (addTo x r k).set k (((addTo x r k).getD k 0 + r.getD k 0) % 4294967296)
/-- a register, rounded by a block -/
def roundedL (r l : List Int) : List Int := addTo (runs (spreadAll l) r 64) r 8
/-- .. by the first k blocks -/
def blocksL (r l : List Int) : Nat → List Int
  | 0 => r
  | k + 1 => roundedL (blocksL r l k) ((l.drop (64 * k)).take 64)
def byBlocks (r l : List Int) : List Int := blocksL r l (l.length / 64)

/-- how many noughts stand behind the byte 128 -/
def noughts (n : Nat) : Nat := (64 - (n + 9) % 64) % 64
def bits8 (n : Nat) (i : Nat) : Int := ((8 * n : Nat) : Int) / 2 ^ (56 - 8 * i) % 256
def endingL (n : Nat) : List Int := [128] ++ List.replicate (noughts n) 0 ++ (List.range 8).map (bits8 n)
def speltAt (r : List Int) (i : Nat) : Int := r.getD (i / 4) 0 / 2 ^ (24 - 8 * (i % 4)) % 256
def speltL (r : List Int) : List Int := (List.range 32).map (speltAt r)
def endL (r rest : List Int) (n : Nat) : List Int := speltL (byBlocks r (rest ++ endingL n))
def sumL (l : List Int) : List Int := endL (byBlocks iList (l.take (l.length / 64 * 64))) (l.drop (l.length / 64 * 64)) l.length

theorem abc_first : ((sumL [97, 98, 99]).getD 0 0, (sumL [97, 98, 99]).getD 1 0, (sumL [97, 98, 99]).getD 2 0, (sumL [97, 98, 99]).getD 3 0) = (186, 120, 22, 191) := by decide +kernel
theorem none_first : ((sumL []).getD 0 0, (sumL []).getD 3 0) = (227, 66) := by decide +kernel
end Go.Proofs.YtplfpaclhapldaaDoor
