/- The walk over the law StoreCrash. -/
import Derived.Test.YtoohcpckdkbngaaStoAt
import Derived.Test.YtoohcpckdkbngaaStoAwake
import Derived.Test.YtoohcpckdkbngaaBasTake
namespace Go.Proofs.Ytoohcpckdkbngaa
set_option linter.unusedVariables false
set_option linter.unusedSimpArgs false
open Go.RowKit

/-- the three boxes, and their bytes -/
def CrashH (w : World) (g0 g1 g2 : Nat) (cap : Int) (A : Option Addr) (n c : Nat) (sure : Int) (cap1 : Int) (A1 : Option Addr) (n1 c1 : Nat) (sure1 : Int) (cap2 : Int) (A2 : Option Addr) (n2 c2 : Nat) (sure2 : Int) (data : List Int) : Prop :=
  BoxT w g0 24 cap A n c sure ∧ BoxT w g1 24 cap1 A1 n1 c1 sure1 ∧ BoxT w g2 24 cap2 A2 n2 c2 sure2 ∧ Bts w A2 n2 c2 data ∧ Bts w A n c data
theorem CrashH.below {w w' : World} {g0 g1 g2 : Nat} {cap : Int} {A : Option Addr} {n c : Nat} {sure : Int} {cap1 : Int} {A1 : Option Addr} {n1 c1 : Nat} {sure1 : Int} {cap2 : Int} {A2 : Option Addr} {n2 c2 : Nat} {sure2 : Int} {data : List Int} (h : CrashH w g0 g1 g2 cap A n c sure cap1 A1 n1 c1 sure1 cap2 A2 n2 c2 sure2 data) (hb : Below w.heap.size w w') : CrashH w' g0 g1 g2 cap A n c sure cap1 A1 n1 c1 sure1 cap2 A2 n2 c2 sure2 data :=
  ⟨h.1.below hb, h.2.1.below hb, h.2.2.1.below hb, h.2.2.2.1.below hb, h.2.2.2.2.below hb⟩
set_option maxHeartbeats 1000000 in
theorem scrashw_no (s : Sp) (A : Option Addr) (n c : Nat) (keep again : Int) (w : World) (hb : Bts w A n c s.data) (h : 5000 < n ∨ mayP s = false) :
    Calls Try.prog 6 #[s.val A n c, .int .i64 keep, .int .i64 again] w (GBool true w) := by
  have hl := hb.len
  obtain ⟨cap, data, sure⟩ := s
  simp only at hb
  unfold Sp.val
  simp only
  have hn := hb.small
  have HT := Lib.hid (rfl : true = true)
  have HBw := Lib.hid (Below.refl w.heap.size w)
  have hmm : mayP ⟨cap, data, sure⟩ = mayT cap n sure := by rw [mayP]; simp only at hl; rw [hl]
  rw [hmm] at h
  by_cases h5 : n ≤ 5000
  · have FN := Lib.hid (show decide (n ≤ 5000) = true from decide_eq_true h5)
    have HM := Lib.hid (h.resolve_left (by omega))
    clear h hmm hb
    go_enter Try.func6, Try.ntmps6
    go_wp2_with (first
      | (go_at_call 9
         refine (sawake_any _).mono ?_
         rintro e w1 ⟨he, hbx⟩
         rw [HT.out] at he
         subst he
         have hX : Below w.heap.size w w1 := (after_one hbx).1
         have HBw1 := Lib.hid (HBw.out.trans (hX.mono HBw.out.size))
         have HXsw1 := Lib.hid (show BoxT w1 w.heap.size 24 cap A n c sure from (after_one hbx).2.2)
         obtain ⟨s0, s1, s2⟩ := HXsw1.out.cells
         clear hbx hX)
      | (go_at_call 10
         (with_reducible refine (few_any _ A n c _ _ hn).mono ?_)
         rintro e w2 ⟨he, hbx⟩
         rw [FN.out] at he
         subst he
         have hX : Below w1.heap.size w1 w2 := hbx
         have HBw2 := Lib.hid (HBw1.out.trans (hX.mono HBw1.out.size))
         have HXsw2 := Lib.hid (HXsw1.out.below hX)
         clear s0 s1 s2
         obtain ⟨s0, s1, s2⟩ := HXsw2.out.cells
         clear hbx hX)
      | (go_at_call 23
         (with_reducible refine (stmay_any _ A n c _ _ hn).mono ?_)
         rintro e w3 ⟨he, hbx⟩
         rw [HM.out] at he
         subst he
         have hX : Below w2.heap.size w2 w3 := hbx
         have HBw3 := Lib.hid (HBw2.out.trans (hX.mono HBw2.out.size))
         have HXsw3 := Lib.hid (HXsw2.out.below hX)
         clear s0 s1 s2
         obtain ⟨s0, s1, s2⟩ := HXsw3.out.cells
         clear hbx hX))
    go_ret
    exact ⟨rfl, HBw3.out⟩
  · have FN := Lib.hid (show decide (n ≤ 5000) = false from decide_eq_false h5)
    clear h hmm hb
    go_enter Try.func6, Try.ntmps6
    go_wp2_with (first
      | (go_at_call 9
         refine (sawake_any _).mono ?_
         rintro e w1 ⟨he, hbx⟩
         rw [HT.out] at he
         subst he
         have hX : Below w.heap.size w w1 := (after_one hbx).1
         have HBw1 := Lib.hid (HBw.out.trans (hX.mono HBw.out.size))
         have HXsw1 := Lib.hid (show BoxT w1 w.heap.size 24 cap A n c sure from (after_one hbx).2.2)
         obtain ⟨s0, s1, s2⟩ := HXsw1.out.cells
         clear hbx hX)
      | (go_at_call 10
         (with_reducible refine (few_any _ A n c _ _ hn).mono ?_)
         rintro e w2 ⟨he, hbx⟩
         rw [FN.out] at he
         subst he
         have hX : Below w1.heap.size w1 w2 := hbx
         have HBw2 := Lib.hid (HBw1.out.trans (hX.mono HBw1.out.size))
         have HXsw2 := Lib.hid (HXsw1.out.below hX)
         clear s0 s1 s2
         obtain ⟨s0, s1, s2⟩ := HXsw2.out.cells
         clear hbx hX))
    go_ret
    exact ⟨rfl, HBw2.out⟩
set_option maxRecDepth 100000 in
set_option maxHeartbeats 4000000 in
theorem scrashw_core (s : Sp) (A : Option Addr) (n c : Nat) (keep again : Int) (w : World) (hb : Bts w A n c s.data) (h5 : n ≤ 5000) (hm : mayP s = true) :
    Calls Try.prog 6 #[s.val A n c, .int .i64 keep, .int .i64 again] w (GBool true w) := by
  have hl := hb.len
  obtain ⟨cap, data, sure⟩ := s
  simp only at hb
  unfold Sp.val
  simp only
  have hn := hb.small
  have HT := Lib.hid (rfl : true = true)
  have HBw := Lib.hid (Below.refl w.heap.size w)
  have hmm : mayP ⟨cap, data, sure⟩ = mayT cap n sure := by rw [mayP]; simp only at hl; rw [hl]
  have FN := Lib.hid (show decide (n ≤ 5000) = true from decide_eq_true h5)
  have HMP := Lib.hid hm
  have HM := Lib.hid (hmm.symm.trans hm)
  have HA := Lib.hid hb
  have HLL := Lib.hid hl
  clear hmm hm hb hl
  go_enter Try.func6, Try.ntmps6
  go_wp2_with (first
    | (go_at_call 9
       refine (sawake_any _).mono ?_
       rintro e w1 ⟨he, hbx⟩
       rw [HT.out] at he
       subst he
       have hX : Below w.heap.size w w1 := (after_one hbx).1
       have HBw1 := Lib.hid (HBw.out.trans (hX.mono HBw.out.size))
       have HXsw1 := Lib.hid (show BoxT w1 w.heap.size 24 cap A n c sure from (after_one hbx).2.2)
       obtain ⟨s0, s1, s2⟩ := HXsw1.out.cells
       clear hbx hX)
    | (go_at_call 10
       (with_reducible refine (few_any _ A n c _ _ hn).mono ?_)
       rintro e w2 ⟨he, hbx⟩
       rw [FN.out] at he
       subst he
       have hX : Below w1.heap.size w1 w2 := hbx
       have HBw2 := Lib.hid (HBw1.out.trans (hX.mono HBw1.out.size))
       have HXsw2 := Lib.hid (HXsw1.out.below hX)
       clear s0 s1 s2
       obtain ⟨s0, s1, s2⟩ := HXsw2.out.cells
       clear hbx hX)
    | (go_at_call 23
       (with_reducible refine (stmay_any _ A n c _ _ hn).mono ?_)
       rintro e w3 ⟨he, hbx⟩
       rw [HM.out] at he
       subst he
       have hX : Below w2.heap.size w2 w3 := hbx
       have HBw3 := Lib.hid (HBw2.out.trans (hX.mono HBw2.out.size))
       have HXsw3 := Lib.hid (HXsw2.out.below hX)
       clear s0 s1 s2
       obtain ⟨s0, s1, s2⟩ := HXsw3.out.cells
       clear hbx hX)
    | (go_at_call 13
       (with_reducible refine (stsync_at cap data sure A n c _ (HA.out.below (HBw4.out.trans ((one_alloc w4 (.cells #[.int .i64 cap1, .slice A1 n1 c1, .int .i64 sure1] 24)).mono HBw4.out.size))) (by omega)).mono ?_)
       rintro e w5 ⟨A2, n2, c2, he, hbt0, -, hbx⟩
       obtain ⟨⟨⟨cap2, data2, sure2⟩, e2⟩, hr2⟩ : ∃ r, syncP ⟨cap, data, sure⟩ = r := ⟨_, rfl⟩
       rw [hr2] at he hbt0
       have he2 : e = .returned (.tuple #[.agg #[.int .i64 cap2, .slice A2 n2 c2, .int .i64 sure2], .int .i64 e2]) := he
       clear he
       subst he2
       have hbt : Bts w5 A2 n2 c2 data2 := hbt0
       have HR2 := Lib.hid hr2
       have hz := HR2.out
       rw [sync_ok HMP.out] at hz
       injection hz with hz1 hz2
       injection hz1 with hza hzb0 hzc
       have hzb : data = data2 := hzb0
       clear hzb0
       subst hz2
       clear HR2
       have hm2 : mayP ⟨cap2, data2, sure2⟩ = true := by have h := may_data HMP.out; refine may_of ?_; subst hza hzb hzc; simp only at h ⊢; omega
       have HC2 := Lib.hid (show ∀ k, crashP ⟨cap2, data2, sure2⟩ k = ⟨cap2, data2, sure2⟩ from fun k => crash_again hm2 (by subst hzb hzc; rfl))
       have HE2 := Lib.hid hzb
       have HN2 := Lib.hid (show n2 ≤ 5000 from by have h := hbt.len; rw [← hzb] at h; have h2 : data.length = n := HLL.out; omega)
       clear hza hzb hzc hm2
       have hX : Below w4.heap.size w4 w5 := (after_one hbx).1
       have HBw5 := Lib.hid (HBw4.out.trans (hX.mono HBw4.out.size))
       have HXsw5 := Lib.hid (HXsw4.out.below hX)
       have HXb1w5 := Lib.hid (show BoxT w5 w4.heap.size 24 cap1 A1 n1 c1 sure1 from (after_one hbx).2.2)
       have HD1w5 := Lib.hid (HD1w4.out.below hX)
       have HD2w5 := Lib.hid hbt
       clear s0 s1 s2
       obtain ⟨s0, s1, s2⟩ := (HXsw5.out.below (one_alloc w5 (.cells #[.int .i64 cap2, .slice A2 n2 c2, .int .i64 sure2] 24))).cells
       obtain ⟨b10, b11, b12⟩ := (HXb1w5.out.below (one_alloc w5 (.cells #[.int .i64 cap2, .slice A2 n2 c2, .int .i64 sure2] 24))).cells
       clear hbx hX hbt0 hbt hr2)
    | (go_at_call 20
       (with_reducible refine (stcrash_at cap data sure A n c _ keep (HA.out.below HBw3.out) (by omega)).mono ?_)
       rintro e w4 ⟨A1, n1, c1, he, hbt0, -, hbx⟩
       obtain ⟨⟨cap1, data1, sure1⟩, hr1⟩ : ∃ r, crashP ⟨cap, data, sure⟩ keep = r := ⟨_, rfl⟩
       rw [hr1] at he hbt0
       have he2 : e = .returned (.agg #[.int .i64 cap1, .slice A1 n1 c1, .int .i64 sure1]) := he
       clear he
       subst he2
       have hbt : Bts w4 A1 n1 c1 data1 := hbt0
       have HR1 := Lib.hid hr1
       have hc1 := crash_may HMP.out HR1.out
       have H5 := Lib.hid (show n1 ≤ 5000 from by have h : data1.length ≤ data.length := hc1.2.2.2.2.1; have h2 : data.length = n := HLL.out; rw [hbt.len] at h; omega)
       have HC1 := Lib.hid (show ∀ k, crashP ⟨cap1, data1, sure1⟩ k = ⟨cap1, data1, sure1⟩ from fun k => crash_again hc1.1 hc1.2.2.1)
       clear hc1
       have hX : Below w3.heap.size w3 w4 := hbx
       have HBw4 := Lib.hid (HBw3.out.trans (hX.mono HBw3.out.size))
       have HXsw4 := Lib.hid (HXsw3.out.below hX)
       have HD1w4 := Lib.hid hbt
       clear s0 s1 s2
       obtain ⟨s0, s1, s2⟩ := (HXsw4.out.below (one_alloc w4 (.cells #[.int .i64 cap1, .slice A1 n1 c1, .int .i64 sure1] 24))).cells
       clear hbx hX hbt0 hbt hr1))
  have hBn := one_alloc w5 (.cells #[.int .i64 cap2, .slice A2 n2 c2, .int .i64 sure2] 24)
  have hbn : BoxT (w5.alloc (.cells #[.int .i64 cap2, .slice A2 n2 c2, .int .i64 sure2] 24)) w5.heap.size 24 cap2 A2 n2 c2 sure2 := heap_alloc_new w5 _
  have HBW5 := Lib.hid (HBw5.out.trans (hBn.mono HBw5.out.size))
  obtain ⟨W5, hW5⟩ : ∃ W, w5.alloc (.cells #[.int .i64 cap2, .slice A2 n2 c2, .int .i64 sure2] 24) = W := ⟨_, rfl⟩
  rw [hW5] at hBn hbn HBW5 s0 s1 s2 b10 b11 b12 ⊢
  clear hW5
  have hd0 : Below W5.heap.size W5 W5.drew := (Below.refl _ _).drew
  have H0 : CrashH W5 w.heap.size w4.heap.size w5.heap.size cap A n c sure cap1 A1 n1 c1 sure1 cap2 A2 n2 c2 sure2 data := ⟨HXsw5.out.below hBn, HXb1w5.out.below hBn, hbn, (by rw [HE2.out]; exact HD2w5.out.below hBn), HA.out.below HBW5.out⟩
  have hV0 : Below w.heap.size w W5.drew := HBW5.out.drew
  have V0 := H0.below hd0
  have HD1 := (HD1w5.out.below hBn).below hd0
  have HD2 := (HD2w5.out.below hBn).below hd0
  obtain ⟨Y0, hY0⟩ : ∃ Y, W5.drew = Y := ⟨_, rfl⟩
  refine wp_region_held_drew (S := (fun w' => CrashH w' w.heap.size w4.heap.size w5.heap.size cap A n c sure cap1 A1 n1 c1 sure1 cap2 A2 n2 c2 sure2 data)) (by kernel_rfl) V0 (fun hHeld => ?_)
  rw [hY0] at hV0 V0 HD1 HD2 hHeld ⊢
  clear hY0 hd0 H0 hBn
  have hV0Y := hV0
  have HD10 := HD1
  have HD20 := HD2
  clear HD1 HD2 hV0Y
  refine take_move 0 (.tmp 11) (.int .i64 0) rfl rfl rfl (by kernel_rfl) (by kernel_rfl) (by kernel_rfl) (fun _ _ _ h => h) rfl hHeld ?_
  simp only [Act.put, List.setIfInBounds_toArray, List.set_cons_zero, List.set_cons_succ]
  refine take_run 1 (.bool true) rfl (by kernel_rfl) (by kernel_rfl) (by kernel_rfl) (fun _ _ _ h => h) rfl hHeld (fun w => ?_) ?_
  · go_simp
  simp only [Act.put, List.setIfInBounds_toArray, List.set_cons_zero, List.set_cons_succ]
  refine take_move 2 (.tmp 36) (.bool true) rfl rfl rfl (by kernel_rfl) (by kernel_rfl) (by kernel_rfl) (fun _ _ _ h => h) rfl hHeld ?_
  simp only [Act.put, List.setIfInBounds_toArray, List.set_cons_zero, List.set_cons_succ]
  refine take_if 3 (.agg #[.int .i64 cap1, .slice A1 n1 c1, .int .i64 sure1]) rfl (by kernel_rfl) (by kernel_rfl) (by kernel_rfl) (fun _ _ _ h => h) rfl hHeld (fun w' hw' => ?_) ?_
  · obtain ⟨h1, h2, h3, -, -⟩ := hw'
    obtain ⟨x0, x1, x2⟩ := h1.cells
    obtain ⟨y0, y1, y2⟩ := h2.cells
    obtain ⟨z0, z1, z2⟩ := h3.cells
    go_simp
  simp only [Act.put, List.setIfInBounds_toArray, List.set_cons_zero, List.set_cons_succ]
  refine take_move 4 (.tmp 2) (.int .i64 again) rfl rfl rfl (by kernel_rfl) (by kernel_rfl) (by kernel_rfl) (fun _ _ _ h => h) rfl hHeld ?_
  simp only [Act.put, List.setIfInBounds_toArray, List.set_cons_zero, List.set_cons_succ]
  refine take_if 6 (.agg #[.int .i64 cap1, .slice A1 n1 c1, .int .i64 sure1]) rfl (by kernel_rfl) (by kernel_rfl) (by kernel_rfl) (fun _ _ _ h => h) rfl hHeld (fun w' hw' => ?_) ?_
  · obtain ⟨h1, h2, h3, -, -⟩ := hw'
    obtain ⟨x0, x1, x2⟩ := h1.cells
    obtain ⟨y0, y1, y2⟩ := h2.cells
    obtain ⟨z0, z1, z2⟩ := h3.cells
    go_simp
  simp only [Act.put, List.setIfInBounds_toArray, List.set_cons_zero, List.set_cons_succ]
  refine one_step 5 (by kernel_rfl) rfl (fun K hK => ?_)
  go_simp
  go_at_call 20
  refine (stcrash_at cap1 data1 sure1 A1 n1 c1 Y0 again HD10 (by have := H5.out; omega)).mono ?_
  rintro e v1 ⟨A9, n9, c9, he, hbt0, -, hb⟩
  rw [HC1.out] at he hbt0
  have he2 : e = .returned (.agg #[.int .i64 cap1, .slice A9 n9 c9, .int .i64 sure1]) := he
  clear he
  subst he2
  have HD9 : Bts v1 A9 n9 c9 data1 := hbt0
  clear hbt0
  have hVv1 : Below w.heap.size w v1 := hV0.trans (hb.mono hV0.size)
  have Vv1 := V0.below hb
  have HD1v1 := HD10.below hb
  have HD2v1 := HD20.below hb
  refine hK.out _ _ Vv1 (fun hHeld0 => ?_)
  clear hK K hHeld hb V0 HD10 HD20 
  have hHeld := hHeld0
  clear hHeld0
  try simp only [Act.put, List.setIfInBounds_toArray, List.set_cons_zero, List.set_cons_succ]
  refine one_step 7 (by kernel_rfl) rfl (fun K hK => ?_)
  go_simp
  go_at_call 24
  refine (stsame_at cap1 data1 sure1 A9 n9 c9 v1 cap1 data1 sure1 A1 n1 c1 HD9 HD1v1).mono ?_
  rintro e v2 ⟨he, hb⟩
  rw [sameP_self] at he
  subst he
  have hVv2 : Below w.heap.size w v2 := hVv1.trans (hb.mono hVv1.size)
  have Vv2 := Vv1.below hb
  have HD1v2 := HD1v1.below hb
  have HD2v2 := HD2v1.below hb
  refine hK.out _ _ Vv2 (fun hHeld0 => ?_)
  clear hK K hHeld hb Vv1 HD1v1 HD2v1 HD9
  have hHeld := hHeld0
  clear hHeld0
  try simp only [Act.put, List.setIfInBounds_toArray, List.set_cons_zero, List.set_cons_succ]
  refine take_run 8 (.bool true) rfl (by kernel_rfl) (by kernel_rfl) (by kernel_rfl) (fun _ _ _ h => h) rfl hHeld (fun w => ?_) ?_
  · go_simp
  simp only [Act.put, List.setIfInBounds_toArray, List.set_cons_zero, List.set_cons_succ]
  refine take_move 9 (.tmp 43) (.bool true) rfl rfl rfl (by kernel_rfl) (by kernel_rfl) (by kernel_rfl) (fun _ _ _ h => h) rfl hHeld ?_
  simp only [Act.put, List.setIfInBounds_toArray, List.set_cons_zero, List.set_cons_succ]
  refine take_if 10 (.agg #[.int .i64 cap2, .slice A2 n2 c2, .int .i64 sure2]) rfl (by kernel_rfl) (by kernel_rfl) (by kernel_rfl) (fun _ _ _ h => h) rfl hHeld (fun w' hw' => ?_) ?_
  · obtain ⟨h1, h2, h3, -, -⟩ := hw'
    obtain ⟨x0, x1, x2⟩ := h1.cells
    obtain ⟨y0, y1, y2⟩ := h2.cells
    obtain ⟨z0, z1, z2⟩ := h3.cells
    go_simp
  simp only [Act.put, List.setIfInBounds_toArray, List.set_cons_zero, List.set_cons_succ]
  refine take_move 11 (.tmp 1) (.int .i64 keep) rfl rfl rfl (by kernel_rfl) (by kernel_rfl) (by kernel_rfl) (fun _ _ _ h => h) rfl hHeld ?_
  simp only [Act.put, List.setIfInBounds_toArray, List.set_cons_zero, List.set_cons_succ]
  refine take_if 13 (.agg #[.int .i64 cap2, .slice A2 n2 c2, .int .i64 sure2]) rfl (by kernel_rfl) (by kernel_rfl) (by kernel_rfl) (fun _ _ _ h => h) rfl hHeld (fun w' hw' => ?_) ?_
  · obtain ⟨h1, h2, h3, -, -⟩ := hw'
    obtain ⟨x0, x1, x2⟩ := h1.cells
    obtain ⟨y0, y1, y2⟩ := h2.cells
    obtain ⟨z0, z1, z2⟩ := h3.cells
    go_simp
  simp only [Act.put, List.setIfInBounds_toArray, List.set_cons_zero, List.set_cons_succ]
  refine one_step 12 (by kernel_rfl) rfl (fun K hK => ?_)
  go_simp
  go_at_call 20
  refine (stcrash_at cap2 data2 sure2 A2 n2 c2 v2 keep HD2v2 (by have := HN2.out; omega)).mono ?_
  rintro e v3 ⟨A9, n9, c9, he, hbt0, -, hb⟩
  rw [HC2.out] at he hbt0
  have he2 : e = .returned (.agg #[.int .i64 cap2, .slice A9 n9 c9, .int .i64 sure2]) := he
  clear he
  subst he2
  have HD9 : Bts v3 A9 n9 c9 data2 := hbt0
  clear hbt0
  have hVv3 : Below w.heap.size w v3 := hVv2.trans (hb.mono hVv2.size)
  have Vv3 := Vv2.below hb
  have HD1v3 := HD1v2.below hb
  have HD2v3 := HD2v2.below hb
  refine hK.out _ _ Vv3 (fun hHeld0 => ?_)
  clear hK K hHeld hb Vv2 HD1v2 HD2v2 
  have hHeld := hHeld0
  clear hHeld0
  try simp only [Act.put, List.setIfInBounds_toArray, List.set_cons_zero, List.set_cons_succ]
  refine one_step 14 (by kernel_rfl) rfl (fun K hK => ?_)
  go_simp
  go_at_call 24
  refine (stsame_at cap2 data2 sure2 A9 n9 c9 v3 cap2 data2 sure2 A2 n2 c2 HD9 HD2v3).mono ?_
  rintro e v4 ⟨he, hb⟩
  rw [sameP_self] at he
  subst he
  have hVv4 : Below w.heap.size w v4 := hVv3.trans (hb.mono hVv3.size)
  have Vv4 := Vv3.below hb
  have HD1v4 := HD1v3.below hb
  have HD2v4 := HD2v3.below hb
  refine hK.out _ _ Vv4 (fun hHeld0 => ?_)
  clear hK K hHeld hb Vv3 HD1v3 HD2v3 HD9
  have hHeld := hHeld0
  clear hHeld0
  try simp only [Act.put, List.setIfInBounds_toArray, List.set_cons_zero, List.set_cons_succ]
  refine take_run 15 (.bool true) rfl (by kernel_rfl) (by kernel_rfl) (by kernel_rfl) (fun _ _ _ h => h) rfl hHeld (fun w => ?_) ?_
  · go_simp
  simp only [Act.put, List.setIfInBounds_toArray, List.set_cons_zero, List.set_cons_succ]
  refine take_move 16 (.tmp 50) (.bool true) rfl rfl rfl (by kernel_rfl) (by kernel_rfl) (by kernel_rfl) (fun _ _ _ h => h) rfl hHeld ?_
  simp only [Act.put, List.setIfInBounds_toArray, List.set_cons_zero, List.set_cons_succ]
  refine take_run 17 (.pointer (some ⟨w5.heap.size, 1, none⟩)) rfl (by kernel_rfl) (by kernel_rfl) (by kernel_rfl) (fun _ _ _ h => h) rfl hHeld (fun w => ?_) ?_
  · go_simp
  simp only [Act.put, List.setIfInBounds_toArray, List.set_cons_zero, List.set_cons_succ]
  refine take_if 18 (.slice A2 n2 c2) rfl (by kernel_rfl) (by kernel_rfl) (by kernel_rfl) (fun _ _ _ h => h) rfl hHeld (fun w' hw' => ?_) ?_
  · obtain ⟨h1, h2, h3, -, -⟩ := hw'
    obtain ⟨x0, x1, x2⟩ := h1.cells
    obtain ⟨y0, y1, y2⟩ := h2.cells
    obtain ⟨z0, z1, z2⟩ := h3.cells
    go_simp
  simp only [Act.put, List.setIfInBounds_toArray, List.set_cons_zero, List.set_cons_succ]
  refine take_if 19 (.string (bstr data)) rfl (by kernel_rfl) (by kernel_rfl) (by kernel_rfl) (fun _ _ _ h => h) rfl hHeld (fun w' hw' => ?_) ?_
  · obtain ⟨-, -, -, u1, u2⟩ := hw'
    have q := conv_bts u1
    go_simp
  simp only [Act.put, List.setIfInBounds_toArray, List.set_cons_zero, List.set_cons_succ]
  refine take_run 20 (.pointer (some ⟨w.heap.size, 1, none⟩)) rfl (by kernel_rfl) (by kernel_rfl) (by kernel_rfl) (fun _ _ _ h => h) rfl hHeld (fun w => ?_) ?_
  · go_simp
  simp only [Act.put, List.setIfInBounds_toArray, List.set_cons_zero, List.set_cons_succ]
  refine take_if 21 (.slice A n c) rfl (by kernel_rfl) (by kernel_rfl) (by kernel_rfl) (fun _ _ _ h => h) rfl hHeld (fun w' hw' => ?_) ?_
  · obtain ⟨h1, h2, h3, -, -⟩ := hw'
    obtain ⟨x0, x1, x2⟩ := h1.cells
    obtain ⟨y0, y1, y2⟩ := h2.cells
    obtain ⟨z0, z1, z2⟩ := h3.cells
    go_simp
  simp only [Act.put, List.setIfInBounds_toArray, List.set_cons_zero, List.set_cons_succ]
  refine take_if 22 (.string (bstr data)) rfl (by kernel_rfl) (by kernel_rfl) (by kernel_rfl) (fun _ _ _ h => h) rfl hHeld (fun w' hw' => ?_) ?_
  · obtain ⟨-, -, -, u1, u2⟩ := hw'
    have q := conv_bts u2
    go_simp
  simp only [Act.put, List.setIfInBounds_toArray, List.set_cons_zero, List.set_cons_succ]
  refine take_run 23 (.bool true) rfl (by kernel_rfl) (by kernel_rfl) (by kernel_rfl) (fun _ _ _ h => h) rfl hHeld (fun w => ?_) ?_
  · go_simp
  simp only [Act.put, List.setIfInBounds_toArray, List.set_cons_zero, List.set_cons_succ]
  refine take_run 24 (.bool true) rfl (by kernel_rfl) (by kernel_rfl) (by kernel_rfl) (fun _ _ _ h => h) rfl hHeld (fun w => ?_) ?_
  · go_simp
  simp only [Act.put, List.setIfInBounds_toArray, List.set_cons_zero, List.set_cons_succ]
  refine take_run 25 (.bool true) rfl (by kernel_rfl) (by kernel_rfl) (by kernel_rfl) (fun _ _ _ h => h) rfl hHeld (fun w => ?_) ?_
  · go_simp
  simp only [Act.put, List.setIfInBounds_toArray, List.set_cons_zero, List.set_cons_succ]
  refine wpAnyH_done (by kernel_rfl) ?_ _
  go_wp2
  go_ret
  exact ⟨by simp, hVv4⟩
theorem scrashw_any (s : Sp) (A : Option Addr) (n c : Nat) (keep again : Int) (w : World) (hb : Bts w A n c s.data) :
    Calls Try.prog 6 #[s.val A n c, .int .i64 keep, .int .i64 again] w (GBool true w) := by
  by_cases h5 : n ≤ 5000
  · cases hm : mayP s with
    | true => exact scrashw_core s A n c keep again w hb h5 hm
    | false => exact scrashw_no s A n c keep again w hb (.inr hm)
  · exact scrashw_no s A n c keep again w hb (.inl (by omega))
end Go.Proofs.Ytoohcpckdkbngaa
