/- The walk over the law StoreRoom. -/
import Derived.Test.YtoohcpckdkbngaaStoAt
import Derived.Test.YtoohcpckdkbngaaStoAwake
import Derived.Test.YtoohcpckdkbngaaBasTake
namespace Go.Proofs.Ytoohcpckdkbngaa
set_option linter.unusedVariables false
set_option linter.unusedSimpArgs false
open Go.RowKit

/-- the three boxes -/
def RoomH (w : World) (g0 g1 g2 : Nat) (cap : Int) (A : Option Addr) (n c : Nat) (sure : Int) (cap1 : Int) (A1 : Option Addr) (n1 c1 : Nat) (sure1 : Int) (cap2 : Int) (A2 : Option Addr) (n2 c2 : Nat) (sure2 : Int) : Prop :=
  BoxT w g0 24 cap A n c sure ∧ BoxT w g1 24 cap1 A1 n1 c1 sure1 ∧ BoxT w g2 24 cap2 A2 n2 c2 sure2
theorem RoomH.below {w w' : World} {g0 g1 g2 : Nat} {cap : Int} {A : Option Addr} {n c : Nat} {sure : Int} {cap1 : Int} {A1 : Option Addr} {n1 c1 : Nat} {sure1 : Int} {cap2 : Int} {A2 : Option Addr} {n2 c2 : Nat} {sure2 : Int} (h : RoomH w g0 g1 g2 cap A n c sure cap1 A1 n1 c1 sure1 cap2 A2 n2 c2 sure2) (hb : Below w.heap.size w w') : RoomH w' g0 g1 g2 cap A n c sure cap1 A1 n1 c1 sure1 cap2 A2 n2 c2 sure2 :=
  ⟨h.1.below hb, h.2.1.below hb, h.2.2.below hb⟩
theorem left_may {cap : Int} {n : Nat} {sure : Int} (h : mayT cap n sure = true) : leftT cap n sure = cap - n := by rw [leftT, if_pos h]
set_option maxHeartbeats 1000000 in
theorem sroomw_no (s : Sp) (A B : Option Addr) (n c m d : Nat) (b : List Int) (k : Int) (w : World) (hb : Bts w A n c s.data) (h2 : Bts w B m d b) (h : 5000 < n ∨ 5000 < m ∨ mayP s = false) :
    Calls Try.prog 8 #[s.val A n c, .slice B m d, .int .i64 k] w (GBool true w) := by
  have hl := hb.len
  obtain ⟨cap, data, sure⟩ := s
  simp only at hb
  unfold Sp.val
  simp only
  have hn := hb.small
  have HT := Lib.hid (rfl : true = true)
  have HBw := Lib.hid (Below.refl w.heap.size w)
  have hmm : mayP ⟨cap, data, sure⟩ = mayT cap n sure := by rw [mayP]; simp only at hl; rw [hl]
  rw [hmm] at h
  by_cases h5 : n ≤ 5000
  · have FN := Lib.hid (show decide (n ≤ 5000) = true from decide_eq_true h5)
    by_cases h6 : m ≤ 5000
    · have h6' : (m : Int) ≤ 5000 := by omega
      have h7 : mayT cap n sure = false := by
        rcases h with h | h | h
        · omega
        · omega
        · exact h
      have HM := Lib.hid h7
      clear h h7 hmm hb h2
      go_enter Try.func8, Try.ntmps8
      go_wp2_with (first
        | (go_at_call 9
           refine (sawake_any _).mono ?_
           rintro e w1 ⟨he, hbx⟩
           rw [HT.out] at he
           subst he
           have hX : Below w.heap.size w w1 := (after_one hbx).1
           have HBw1 := Lib.hid (HBw.out.trans (hX.mono HBw.out.size))
           have HXsw1 := Lib.hid (show BoxT w1 w.heap.size 24 cap A n c sure from (after_one hbx).2.2)
           obtain ⟨s0, s1, s2⟩ := HXsw1.out.cells
           clear hbx hX)
        | (go_at_call 10
           (with_reducible refine (few_any _ A n c _ _ hn).mono ?_)
           rintro e w2 ⟨he, hbx⟩
           rw [FN.out] at he
           subst he
           have hX : Below w1.heap.size w1 w2 := hbx
           have HBw2 := Lib.hid (HBw1.out.trans (hX.mono HBw1.out.size))
           have HXsw2 := Lib.hid (HXsw1.out.below hX)
           clear s0 s1 s2
           obtain ⟨s0, s1, s2⟩ := HXsw2.out.cells
           clear hbx hX)
        | (go_at_call 23
           (with_reducible refine (stmay_any _ A n c _ _ hn).mono ?_)
           rintro e w3 ⟨he, hbx⟩
           rw [HM.out] at he
           subst he
           have hX : Below w2.heap.size w2 w3 := hbx
           have HBw3 := Lib.hid (HBw2.out.trans (hX.mono HBw2.out.size))
           have HXsw3 := Lib.hid (HXsw2.out.below hX)
           clear s0 s1 s2
           obtain ⟨s0, s1, s2⟩ := HXsw3.out.cells
           clear hbx hX))
      go_ret
      exact ⟨rfl, HBw3.out⟩
    · have h6' : (5000 : Int) < m := by omega
      clear h hmm hb h2
      go_enter Try.func8, Try.ntmps8
      go_wp2_with (first
        | (go_at_call 9
           refine (sawake_any _).mono ?_
           rintro e w1 ⟨he, hbx⟩
           rw [HT.out] at he
           subst he
           have hX : Below w.heap.size w w1 := (after_one hbx).1
           have HBw1 := Lib.hid (HBw.out.trans (hX.mono HBw.out.size))
           have HXsw1 := Lib.hid (show BoxT w1 w.heap.size 24 cap A n c sure from (after_one hbx).2.2)
           obtain ⟨s0, s1, s2⟩ := HXsw1.out.cells
           clear hbx hX)
        | (go_at_call 10
           (with_reducible refine (few_any _ A n c _ _ hn).mono ?_)
           rintro e w2 ⟨he, hbx⟩
           rw [FN.out] at he
           subst he
           have hX : Below w1.heap.size w1 w2 := hbx
           have HBw2 := Lib.hid (HBw1.out.trans (hX.mono HBw1.out.size))
           have HXsw2 := Lib.hid (HXsw1.out.below hX)
           clear s0 s1 s2
           obtain ⟨s0, s1, s2⟩ := HXsw2.out.cells
           clear hbx hX))
      go_ret
      exact ⟨rfl, HBw2.out⟩
  · have FN := Lib.hid (show decide (n ≤ 5000) = false from decide_eq_false h5)
    clear h hmm hb h2
    go_enter Try.func8, Try.ntmps8
    go_wp2_with (first
      | (go_at_call 9
         refine (sawake_any _).mono ?_
         rintro e w1 ⟨he, hbx⟩
         rw [HT.out] at he
         subst he
         have hX : Below w.heap.size w w1 := (after_one hbx).1
         have HBw1 := Lib.hid (HBw.out.trans (hX.mono HBw.out.size))
         have HXsw1 := Lib.hid (show BoxT w1 w.heap.size 24 cap A n c sure from (after_one hbx).2.2)
         obtain ⟨s0, s1, s2⟩ := HXsw1.out.cells
         clear hbx hX)
      | (go_at_call 10
         (with_reducible refine (few_any _ A n c _ _ hn).mono ?_)
         rintro e w2 ⟨he, hbx⟩
         rw [FN.out] at he
         subst he
         have hX : Below w1.heap.size w1 w2 := hbx
         have HBw2 := Lib.hid (HBw1.out.trans (hX.mono HBw1.out.size))
         have HXsw2 := Lib.hid (HXsw1.out.below hX)
         clear s0 s1 s2
         obtain ⟨s0, s1, s2⟩ := HXsw2.out.cells
         clear hbx hX))
    go_ret
    exact ⟨rfl, HBw2.out⟩
set_option maxRecDepth 100000 in
set_option maxHeartbeats 4000000 in
theorem sroomw_1_1 (s : Sp) (A B : Option Addr) (n c m d : Nat) (b : List Int) (j : Nat) (w : World) (hb : Bts w A n c s.data) (h2 : Bts w B m d b) (h5 : n ≤ 5000) (h6 : m ≤ 5000) (hm : mayP s = true) (hw : writeP s b = (⟨s.cap, s.data ++ b, s.sure⟩, 0)) (hl1 : (m : Int) ≤ s.cap - n) (hj : j ≤ n) (hc : cutP s j = (⟨s.cap, s.data.take j, j⟩, 0)) :
    Calls Try.prog 8 #[s.val A n c, .slice B m d, .int .i64 (j : Int)] w (GBool true w) := by
  have hl := hb.len
  obtain ⟨cap, data, sure⟩ := s
  simp only at hb
  unfold Sp.val
  simp only
  have hn := hb.small
  have HT := Lib.hid (rfl : true = true)
  have HBw := Lib.hid (Below.refl w.heap.size w)
  have hmm : mayP ⟨cap, data, sure⟩ = mayT cap n sure := by rw [mayP]; simp only at hl; rw [hl]
  have h6' : (m : Int) ≤ 5000 := by omega
  have hq := mayT_iff.1 (hmm.symm.trans hm)
  obtain ⟨LF, hLF⟩ : ∃ x, cap - (n : Int) = x := ⟨_, rfl⟩
  simp only at hl1
  rw [hLF] at hl1
  have hLFd : decide ((m : Int) ≤ LF) = true := decide_eq_true hl1
  have HLF := Lib.hid (show leftT cap n sure = LF from (left_may (hmm.symm.trans hm)).trans hLF)
  have HLFE := Lib.hid hLF
  obtain ⟨LW, hLW⟩ : ∃ x, LF - (m : Int) = x := ⟨_, rfl⟩
  have hwr : IntKind.i64.wrap (LF - (m : Int)) = LW := by rw [IntKind.wrap_i64, ← hLW]; omega
  have HLWE := Lib.hid hLW
  obtain ⟨LC, hLC⟩ : ∃ x, cap - (j : Int) = x := ⟨_, rfl⟩
  have hwc : IntKind.i64.wrap (cap - (j : Int)) = LC := by rw [IntKind.wrap_i64, ← hLC]; omega
  have HLC := Lib.hid (show leftT cap j j = LC from (left_may (mayT_iff.2 (by omega))).trans hLC)
  have FN := Lib.hid (show decide (n ≤ 5000) = true from decide_eq_true h5)
  have HMP := Lib.hid hm
  have HM := Lib.hid (hmm.symm.trans hm)
  have HA := Lib.hid hb
  have HE := Lib.hid h2
  have HLL := Lib.hid (show data.length = n from hl)
  have HLB := Lib.hid h2.len
  have HW := Lib.hid hw
  have HC := Lib.hid hc
  clear hmm hm hb h2 hl hw hc hq hLF hLW hLC
  go_enter Try.func8, Try.ntmps8
  go_wp2_with (first
    | (go_at_call 9
       refine (sawake_any _).mono ?_
       rintro e w1 ⟨he, hbx⟩
       rw [HT.out] at he
       subst he
       have hX : Below w.heap.size w w1 := (after_one hbx).1
       have HBw1 := Lib.hid (HBw.out.trans (hX.mono HBw.out.size))
       have HXsw1 := Lib.hid (show BoxT w1 w.heap.size 24 cap A n c sure from (after_one hbx).2.2)
       obtain ⟨s0, s1, s2⟩ := HXsw1.out.cells
       clear hbx hX)
    | (go_at_call 10
       (with_reducible refine (few_any _ A n c _ _ hn).mono ?_)
       rintro e w2 ⟨he, hbx⟩
       rw [FN.out] at he
       subst he
       have hX : Below w1.heap.size w1 w2 := hbx
       have HBw2 := Lib.hid (HBw1.out.trans (hX.mono HBw1.out.size))
       have HXsw2 := Lib.hid (HXsw1.out.below hX)
       clear s0 s1 s2
       obtain ⟨s0, s1, s2⟩ := HXsw2.out.cells
       clear hbx hX)
    | (go_at_call 23
       (with_reducible refine (stmay_any _ A n c _ _ hn).mono ?_)
       rintro e w3 ⟨he, hbx⟩
       rw [HM.out] at he
       subst he
       have hX : Below w2.heap.size w2 w3 := hbx
       have HBw3 := Lib.hid (HBw2.out.trans (hX.mono HBw2.out.size))
       have HXsw3 := Lib.hid (HXsw2.out.below hX)
       clear s0 s1 s2
       obtain ⟨s0, s1, s2⟩ := HXsw3.out.cells
       clear hbx hX)
    | (go_at_call 15
       (with_reducible refine (stcut_at cap data sure A n c _ (j : Int) (HA.out.below HBw5.out) (by omega)).mono ?_)
       rintro e w6 ⟨A2, n2, c2, he, hbt0, -, hbx⟩
       rw [HC.out] at he hbt0
       have he2 : e = .returned (.tuple #[.agg #[.int .i64 cap, .slice A2 n2 c2, .int .i64 (j : Int)], .int .i64 0]) := he
       clear he
       have hnj : j = n2 := by rw [← hbt0.len, List.length_take, HLL.out]; omega
       subst hnj
       subst he2
       have hX : Below w5.heap.size w5 w6 := hbx
       have HBw6 := Lib.hid (HBw5.out.trans (hX.mono HBw5.out.size))
       have HXsw6 := Lib.hid (HXsw5.out.below hX)
       have HXb1w6 := Lib.hid (HXb1w5.out.below hX)
       have HD1w6 := Lib.hid (HD1w5.out.below hX)
       have HD2w6 := Lib.hid hbt0
       clear s0 s1 s2
       clear hbx hX hbt0)
    | (go_at_call 25
       (with_reducible refine (stleft_any _ A n c _ _ hn).mono ?_)
       rintro e w5 ⟨he, hbx⟩
       rw [HLF.out] at he
       subst he
       have hX : Below w4.heap.size w4 w5 := (after_one hbx).1
       have HBw5 := Lib.hid (HBw4.out.trans (hX.mono HBw4.out.size))
       have HXsw5 := Lib.hid (HXsw4.out.below hX)
       have HXb1w5 := Lib.hid (show BoxT w5 w4.heap.size 24 cap1 A1 n1 c1 sure1 from (after_one hbx).2.2)
       have HD1w5 := Lib.hid (HD1w4.out.below hX)
       clear s0 s1 s2
       obtain ⟨s0, s1, s2⟩ := HXsw5.out.cells
       clear hbx hX)
    | (go_at_call 11
       (with_reducible refine (stwrite_at cap data sure A n c _ b B m d (HA.out.below HBw3.out) (by omega) (HE.out.below HBw3.out)).mono ?_)
       rintro e w4 ⟨A1, n1, c1, he, hbt0, -, hbx⟩
       obtain ⟨⟨⟨cap1, data1, sure1⟩, e1⟩, hr1⟩ : ∃ r, writeP ⟨cap, data, sure⟩ b = r := ⟨_, rfl⟩
       rw [hr1] at he hbt0
       have he2 : e = .returned (.tuple #[.agg #[.int .i64 cap1, .slice A1 n1 c1, .int .i64 sure1], .int .i64 e1]) := he
       clear he
       subst he2
       have hbt : Bts w4 A1 n1 c1 data1 := hbt0
       have HR1 := Lib.hid hr1
       have hz := HR1.out
       rw [HW.out] at hz
       injection hz with hz1 hz2
       subst hz2
       have hst := write_may HMP.out HR1.out
       have hc1 : cap1 = cap := hst.2.1
       have hs1 : sure1 = sure := hst.2.2.1
       have hd1 : data ++ b = data1 := (Sp.mk.inj hz1).2.1
       have hn1 : n + m = n1 := by rw [← hbt.len, ← hd1, List.length_append, HLL.out, HLB.out]
       have HLW := Lib.hid (show leftT cap1 n1 sure1 = LW from by
         have h := hst.1
         rw [mayP] at h
         simp only [hbt.len] at h
         rw [left_may h, hc1, ← hn1, ← HLWE.out, ← HLFE.out]
         omega)
       have HS1 := Lib.hid (show (sure1 == sure) = true from by rw [beq_iff_eq]; exact hs1)
       clear hst hc1 hs1 hd1 hn1 hz1 HR1
       have hX : Below w3.heap.size w3 w4 := hbx
       have HBw4 := Lib.hid (HBw3.out.trans (hX.mono HBw3.out.size))
       have HXsw4 := Lib.hid (HXsw3.out.below hX)
       have HD1w4 := Lib.hid hbt
       clear s0 s1 s2
       obtain ⟨s0, s1, s2⟩ := (HXsw4.out.below (one_alloc w4 (.cells #[.int .i64 cap1, .slice A1 n1 c1, .int .i64 sure1] 24))).cells
       clear hbx hX hbt0 hbt hr1))
  have hBn := one_alloc w6 (.cells #[.int .i64 cap, .slice A2 j c2, .int .i64 (j : Int)] 24)
  have hbn : BoxT (w6.alloc (.cells #[.int .i64 cap, .slice A2 j c2, .int .i64 (j : Int)] 24)) w6.heap.size 24 cap A2 j c2 (j : Int) := heap_alloc_new w6 _
  have HBW5 := Lib.hid (HBw6.out.trans (hBn.mono HBw6.out.size))
  obtain ⟨W5, hW5⟩ : ∃ W, w6.alloc (.cells #[.int .i64 cap, .slice A2 j c2, .int .i64 (j : Int)] 24) = W := ⟨_, rfl⟩
  rw [hW5] at hBn hbn HBW5  ⊢
  clear hW5
  have HN1 := Lib.hid (HD1w6.out.small)
  have hd0 : Below W5.heap.size W5 W5.drew := (Below.refl _ _).drew
  have V0 := (show RoomH W5 w.heap.size w4.heap.size w6.heap.size cap A n c sure cap1 A1 n1 c1 sure1 cap A2 j c2 (j : Int) from ⟨HXsw6.out.below hBn, HXb1w6.out.below hBn, hbn⟩).below hd0
  have hV0 : Below w.heap.size w W5.drew := HBW5.out.drew
  obtain ⟨Y0, hY0⟩ : ∃ Y, W5.drew = Y := ⟨_, rfl⟩
  refine wp_region_held_drew (S := (fun w' => RoomH w' w.heap.size w4.heap.size w6.heap.size cap A n c sure cap1 A1 n1 c1 sure1 cap A2 j c2 (j : Int))) (by kernel_rfl) V0 (fun hHeld => ?_)
  rw [hY0] at hV0 V0 hHeld ⊢
  clear hY0 hd0 hBn hbn
  refine take_move 0 (.tmp 12) (.int .i64 0) rfl rfl rfl (by kernel_rfl) (by kernel_rfl) (by kernel_rfl) (fun _ _ _ h => h) rfl hHeld ?_
  simp only [Act.put, List.setIfInBounds_toArray, List.set_cons_zero, List.set_cons_succ]
  refine take_run 1 (.bool true) rfl (by kernel_rfl) (by kernel_rfl) (by kernel_rfl) (fun _ _ _ h => h) rfl hHeld (fun w => ?_) ?_
  · go_simp
  simp only [Act.put, List.setIfInBounds_toArray, List.set_cons_zero, List.set_cons_succ]
  refine take_move 2 (.tmp 62) (.bool true) rfl rfl rfl (by kernel_rfl) (by kernel_rfl) (by kernel_rfl) (fun _ _ _ h => h) rfl hHeld ?_
  simp only [Act.put, List.setIfInBounds_toArray, List.set_cons_zero, List.set_cons_succ]
  refine take_run 3 (.pointer (some ⟨w6.heap.size, 1, none⟩)) rfl (by kernel_rfl) (by kernel_rfl) (by kernel_rfl) (fun _ _ _ h => h) rfl hHeld (fun w => ?_) ?_
  · go_simp
  simp only [Act.put, List.setIfInBounds_toArray, List.set_cons_zero, List.set_cons_succ]
  refine take_if 4 (.slice A2 j c2) rfl (by kernel_rfl) (by kernel_rfl) (by kernel_rfl) (fun _ _ _ h => h) rfl hHeld (fun w' hw' => ?_) ?_
  · obtain ⟨h1, h2, h3⟩ := hw'
    obtain ⟨x0, x1, x2⟩ := h1.cells
    obtain ⟨y0, y1, y2⟩ := h2.cells
    obtain ⟨z0, z1, z2⟩ := h3.cells
    go_simp
  simp only [Act.put, List.setIfInBounds_toArray, List.set_cons_zero, List.set_cons_succ]
  refine take_run 5 (.int .i64 j) rfl (by kernel_rfl) (by kernel_rfl) (by kernel_rfl) (fun _ _ _ h => h) rfl hHeld (fun w => ?_) ?_
  · go_simp
  simp only [Act.put, List.setIfInBounds_toArray, List.set_cons_zero, List.set_cons_succ]
  refine take_move 6 (.tmp 2) (.int .i64 j) rfl rfl rfl (by kernel_rfl) (by kernel_rfl) (by kernel_rfl) (fun _ _ _ h => h) rfl hHeld ?_
  simp only [Act.put, List.setIfInBounds_toArray, List.set_cons_zero, List.set_cons_succ]
  refine take_run 7 (.bool false) rfl (by kernel_rfl) (by kernel_rfl) (by kernel_rfl) (fun _ _ _ h => h) rfl hHeld (fun w => ?_) ?_
  · go_simp
  simp only [Act.put, List.setIfInBounds_toArray, List.set_cons_zero, List.set_cons_succ]
  refine take_move 8 (.tmp 68) (.bool false) rfl rfl rfl (by kernel_rfl) (by kernel_rfl) (by kernel_rfl) (fun _ _ _ h => h) rfl hHeld ?_
  simp only [Act.put, List.setIfInBounds_toArray, List.set_cons_zero, List.set_cons_succ]
  refine take_if 9 (.agg #[.int .i64 cap, .slice A2 j c2, .int .i64 (j : Int)]) rfl (by kernel_rfl) (by kernel_rfl) (by kernel_rfl) (fun _ _ _ h => h) rfl hHeld (fun w' hw' => ?_) ?_
  · obtain ⟨h1, h2, h3⟩ := hw'
    obtain ⟨x0, x1, x2⟩ := h1.cells
    obtain ⟨y0, y1, y2⟩ := h2.cells
    obtain ⟨z0, z1, z2⟩ := h3.cells
    go_simp
  simp only [Act.put, List.setIfInBounds_toArray, List.set_cons_zero, List.set_cons_succ]
  refine take_run 11 (.pointer (some ⟨w.heap.size, 0, none⟩)) rfl (by kernel_rfl) (by kernel_rfl) (by kernel_rfl) (fun _ _ _ h => h) rfl hHeld (fun w => ?_) ?_
  · go_simp
  simp only [Act.put, List.setIfInBounds_toArray, List.set_cons_zero, List.set_cons_succ]
  refine take_if 12 (.int .i64 cap) rfl (by kernel_rfl) (by kernel_rfl) (by kernel_rfl) (fun _ _ _ h => h) rfl hHeld (fun w' hw' => ?_) ?_
  · obtain ⟨h1, h2, h3⟩ := hw'
    obtain ⟨x0, x1, x2⟩ := h1.cells
    obtain ⟨y0, y1, y2⟩ := h2.cells
    obtain ⟨z0, z1, z2⟩ := h3.cells
    go_simp
  simp only [Act.put, List.setIfInBounds_toArray, List.set_cons_zero, List.set_cons_succ]
  refine take_move 13 (.tmp 2) (.int .i64 j) rfl rfl rfl (by kernel_rfl) (by kernel_rfl) (by kernel_rfl) (fun _ _ _ h => h) rfl hHeld ?_
  simp only [Act.put, List.setIfInBounds_toArray, List.set_cons_zero, List.set_cons_succ]
  refine take_run 14 (.int .i64 LC) rfl (by kernel_rfl) (by kernel_rfl) (by kernel_rfl) (fun _ _ _ h => h) rfl hHeld (fun w => ?_) ?_
  · go_simp
  simp only [Act.put, List.setIfInBounds_toArray, List.set_cons_zero, List.set_cons_succ]
  refine one_step 10 (by kernel_rfl) rfl (fun K hK => ?_)
  go_simp
  go_at_call 25
  refine (stleft_any _ A2 j c2 _ Y0 (by omega)).mono ?_
  rintro e v1 ⟨he, hb⟩
  rw [HLC.out] at he
  subst he
  have hVv1 : Below w.heap.size w v1 := hV0.trans (hb.mono hV0.size)
  have Vv1 := V0.below hb
  refine hK.out _ _ Vv1 (fun hHeld0 => ?_)
  clear hK K hHeld hb V0
  have hHeld := hHeld0
  clear hHeld0
  try simp only [Act.put, List.setIfInBounds_toArray, List.set_cons_zero, List.set_cons_succ]
  refine take_run 15 (.bool false) rfl (by kernel_rfl) (by kernel_rfl) (by kernel_rfl) (fun _ _ _ h => h) rfl hHeld (fun w => ?_) ?_
  · go_simp
  simp only [Act.put, List.setIfInBounds_toArray, List.set_cons_zero, List.set_cons_succ]
  refine take_run 16 (.bool false) rfl (by kernel_rfl) (by kernel_rfl) (by kernel_rfl) (fun _ _ _ h => h) rfl hHeld (fun w => ?_) ?_
  · go_simp
  simp only [Act.put, List.setIfInBounds_toArray, List.set_cons_zero, List.set_cons_succ]
  refine take_move 17 (.tmp 77) (.bool false) rfl rfl rfl (by kernel_rfl) (by kernel_rfl) (by kernel_rfl) (fun _ _ _ h => h) rfl hHeld ?_
  simp only [Act.put, List.setIfInBounds_toArray, List.set_cons_zero, List.set_cons_succ]
  refine take_run 18 (.pointer (some ⟨w6.heap.size, 2, none⟩)) rfl (by kernel_rfl) (by kernel_rfl) (by kernel_rfl) (fun _ _ _ h => h) rfl hHeld (fun w => ?_) ?_
  · go_simp
  simp only [Act.put, List.setIfInBounds_toArray, List.set_cons_zero, List.set_cons_succ]
  refine take_if 19 (.int .i64 j) rfl (by kernel_rfl) (by kernel_rfl) (by kernel_rfl) (fun _ _ _ h => h) rfl hHeld (fun w' hw' => ?_) ?_
  · obtain ⟨h1, h2, h3⟩ := hw'
    obtain ⟨x0, x1, x2⟩ := h1.cells
    obtain ⟨y0, y1, y2⟩ := h2.cells
    obtain ⟨z0, z1, z2⟩ := h3.cells
    go_simp
  simp only [Act.put, List.setIfInBounds_toArray, List.set_cons_zero, List.set_cons_succ]
  refine take_move 20 (.tmp 2) (.int .i64 j) rfl rfl rfl (by kernel_rfl) (by kernel_rfl) (by kernel_rfl) (fun _ _ _ h => h) rfl hHeld ?_
  simp only [Act.put, List.setIfInBounds_toArray, List.set_cons_zero, List.set_cons_succ]
  refine take_run 21 (.bool false) rfl (by kernel_rfl) (by kernel_rfl) (by kernel_rfl) (fun _ _ _ h => h) rfl hHeld (fun w => ?_) ?_
  · go_simp
  simp only [Act.put, List.setIfInBounds_toArray, List.set_cons_zero, List.set_cons_succ]
  refine take_run 22 (.bool false) rfl (by kernel_rfl) (by kernel_rfl) (by kernel_rfl) (fun _ _ _ h => h) rfl hHeld (fun w => ?_) ?_
  · go_simp
  simp only [Act.put, List.setIfInBounds_toArray, List.set_cons_zero, List.set_cons_succ]
  refine take_run 23 (.bool false) rfl (by kernel_rfl) (by kernel_rfl) (by kernel_rfl) (fun _ _ _ h => h) rfl hHeld (fun w => ?_) ?_
  · go_simp
  simp only [Act.put, List.setIfInBounds_toArray, List.set_cons_zero, List.set_cons_succ]
  refine wpAnyH_done (by kernel_rfl) ?_ _
  go_wp2
  clear hHeld
  have hd1 : Below v1.heap.size v1 v1.drew := (Below.refl _ _).drew
  have V5 := Vv1.below hd1
  have hV5 : Below w.heap.size w v1.drew := hVv1.drew
  obtain ⟨Y5, hY5⟩ : ∃ Y, v1.drew = Y := ⟨_, rfl⟩
  refine wp_region_held_drew (S := (fun w' => RoomH w' w.heap.size w4.heap.size w6.heap.size cap A n c sure cap1 A1 n1 c1 sure1 cap A2 j c2 (j : Int))) (by kernel_rfl) V5 (fun hHeld => ?_)
  rw [hY5] at hV5 V5 hHeld ⊢
  clear hY5 hd1 Vv1 hVv1
  refine take_move 0 (.tmp 10) (.int .i64 0) rfl rfl rfl (by kernel_rfl) (by kernel_rfl) (by kernel_rfl) (fun _ _ _ h => h) rfl hHeld ?_
  simp only [Act.put, List.setIfInBounds_toArray, List.set_cons_zero, List.set_cons_succ]
  refine take_run 1 (.bool false) rfl (by kernel_rfl) (by kernel_rfl) (by kernel_rfl) (fun _ _ _ h => h) rfl hHeld (fun w => ?_) ?_
  · go_simp
  simp only [Act.put, List.setIfInBounds_toArray, List.set_cons_zero, List.set_cons_succ]
  refine take_move 2 (.tmp 86) (.bool false) rfl rfl rfl (by kernel_rfl) (by kernel_rfl) (by kernel_rfl) (fun _ _ _ h => h) rfl hHeld ?_
  simp only [Act.put, List.setIfInBounds_toArray, List.set_cons_zero, List.set_cons_succ]
  refine take_if 3 (.agg #[.int .i64 cap1, .slice A1 n1 c1, .int .i64 sure1]) rfl (by kernel_rfl) (by kernel_rfl) (by kernel_rfl) (fun _ _ _ h => h) rfl hHeld (fun w' hw' => ?_) ?_
  · obtain ⟨h1, h2, h3⟩ := hw'
    obtain ⟨x0, x1, x2⟩ := h1.cells
    obtain ⟨y0, y1, y2⟩ := h2.cells
    obtain ⟨z0, z1, z2⟩ := h3.cells
    go_simp
  simp only [Act.put, List.setIfInBounds_toArray, List.set_cons_zero, List.set_cons_succ]
  refine take_if 5 (.agg #[.int .i64 cap, .slice A n c, .int .i64 sure]) rfl (by kernel_rfl) (by kernel_rfl) (by kernel_rfl) (fun _ _ _ h => h) rfl hHeld (fun w' hw' => ?_) ?_
  · obtain ⟨h1, h2, h3⟩ := hw'
    obtain ⟨x0, x1, x2⟩ := h1.cells
    obtain ⟨y0, y1, y2⟩ := h2.cells
    obtain ⟨z0, z1, z2⟩ := h3.cells
    go_simp
  simp only [Act.put, List.setIfInBounds_toArray, List.set_cons_zero, List.set_cons_succ]
  refine take_move 7 (.tmp 1) (.slice B m d) rfl rfl rfl (by kernel_rfl) (by kernel_rfl) (by kernel_rfl) (fun _ _ _ h => h) rfl hHeld ?_
  simp only [Act.put, List.setIfInBounds_toArray, List.set_cons_zero, List.set_cons_succ]
  refine take_run 8 (.int .i64 m) rfl (by kernel_rfl) (by kernel_rfl) (by kernel_rfl) (fun _ _ _ h => h) rfl hHeld (fun w => ?_) ?_
  · go_simp
  simp only [Act.put, List.setIfInBounds_toArray, List.set_cons_zero, List.set_cons_succ]
  refine one_step 4 (by kernel_rfl) rfl (fun K hK => ?_)
  go_simp
  go_at_call 25
  refine (stleft_any _ A1 n1 c1 _ Y5 HN1.out).mono ?_
  rintro e v6 ⟨he, hb⟩
  rw [HLW.out] at he
  subst he
  have hVv6 : Below w.heap.size w v6 := hV5.trans (hb.mono hV5.size)
  have Vv6 := V5.below hb
  refine hK.out _ _ Vv6 (fun hHeld0 => ?_)
  clear hK K hHeld hb V5
  have hHeld := hHeld0
  clear hHeld0
  try simp only [Act.put, List.setIfInBounds_toArray, List.set_cons_zero, List.set_cons_succ]
  refine one_step 6 (by kernel_rfl) rfl (fun K hK => ?_)
  go_simp
  go_at_call 25
  refine (stleft_any _ A n c _ v6 hn).mono ?_
  rintro e v7 ⟨he, hb⟩
  rw [HLF.out] at he
  subst he
  have hVv7 : Below w.heap.size w v7 := hVv6.trans (hb.mono hVv6.size)
  have Vv7 := Vv6.below hb
  refine hK.out _ _ Vv7 (fun hHeld0 => ?_)
  clear hK K hHeld hb Vv6
  have hHeld := hHeld0
  clear hHeld0
  try simp only [Act.put, List.setIfInBounds_toArray, List.set_cons_zero, List.set_cons_succ]
  refine take_run 9 (.int .i64 LW) rfl (by kernel_rfl) (by kernel_rfl) (by kernel_rfl) (fun _ _ _ h => h) rfl hHeld (fun w => ?_) ?_
  · go_simp
  simp only [Act.put, List.setIfInBounds_toArray, List.set_cons_zero, List.set_cons_succ]
  refine take_run 10 (.bool true) rfl (by kernel_rfl) (by kernel_rfl) (by kernel_rfl) (fun _ _ _ h => h) rfl hHeld (fun w => ?_) ?_
  · go_simp
  simp only [Act.put, List.setIfInBounds_toArray, List.set_cons_zero, List.set_cons_succ]
  refine take_move 11 (.tmp 95) (.bool true) rfl rfl rfl (by kernel_rfl) (by kernel_rfl) (by kernel_rfl) (fun _ _ _ h => h) rfl hHeld ?_
  simp only [Act.put, List.setIfInBounds_toArray, List.set_cons_zero, List.set_cons_succ]
  refine take_run 12 (.pointer (some ⟨w4.heap.size, 2, none⟩)) rfl (by kernel_rfl) (by kernel_rfl) (by kernel_rfl) (fun _ _ _ h => h) rfl hHeld (fun w => ?_) ?_
  · go_simp
  simp only [Act.put, List.setIfInBounds_toArray, List.set_cons_zero, List.set_cons_succ]
  refine take_if 13 (.int .i64 sure1) rfl (by kernel_rfl) (by kernel_rfl) (by kernel_rfl) (fun _ _ _ h => h) rfl hHeld (fun w' hw' => ?_) ?_
  · obtain ⟨h1, h2, h3⟩ := hw'
    obtain ⟨x0, x1, x2⟩ := h1.cells
    obtain ⟨y0, y1, y2⟩ := h2.cells
    obtain ⟨z0, z1, z2⟩ := h3.cells
    go_simp
  simp only [Act.put, List.setIfInBounds_toArray, List.set_cons_zero, List.set_cons_succ]
  refine take_run 14 (.pointer (some ⟨w.heap.size, 2, none⟩)) rfl (by kernel_rfl) (by kernel_rfl) (by kernel_rfl) (fun _ _ _ h => h) rfl hHeld (fun w => ?_) ?_
  · go_simp
  simp only [Act.put, List.setIfInBounds_toArray, List.set_cons_zero, List.set_cons_succ]
  refine take_if 15 (.int .i64 sure) rfl (by kernel_rfl) (by kernel_rfl) (by kernel_rfl) (fun _ _ _ h => h) rfl hHeld (fun w' hw' => ?_) ?_
  · obtain ⟨h1, h2, h3⟩ := hw'
    obtain ⟨x0, x1, x2⟩ := h1.cells
    obtain ⟨y0, y1, y2⟩ := h2.cells
    obtain ⟨z0, z1, z2⟩ := h3.cells
    go_simp
  simp only [Act.put, List.setIfInBounds_toArray, List.set_cons_zero, List.set_cons_succ]
  have hs1 := HS1.out
  refine take_run 16 (.bool true) rfl (by kernel_rfl) (by kernel_rfl) (by kernel_rfl) (fun _ _ _ h => h) rfl hHeld (fun w => ?_) ?_
  · go_simp
  simp only [Act.put, List.setIfInBounds_toArray, List.set_cons_zero, List.set_cons_succ]
  refine take_run 17 (.bool true) rfl (by kernel_rfl) (by kernel_rfl) (by kernel_rfl) (fun _ _ _ h => h) rfl hHeld (fun w => ?_) ?_
  · go_simp
  simp only [Act.put, List.setIfInBounds_toArray, List.set_cons_zero, List.set_cons_succ]
  refine take_run 18 (.bool true) rfl (by kernel_rfl) (by kernel_rfl) (by kernel_rfl) (fun _ _ _ h => h) rfl hHeld (fun w => ?_) ?_
  · go_simp
  simp only [Act.put, List.setIfInBounds_toArray, List.set_cons_zero, List.set_cons_succ]
  refine take_run 19 (.bool true) rfl (by kernel_rfl) (by kernel_rfl) (by kernel_rfl) (fun _ _ _ h => h) rfl hHeld (fun w => ?_) ?_
  · go_simp
  simp only [Act.put, List.setIfInBounds_toArray, List.set_cons_zero, List.set_cons_succ]
  refine wpAnyH_done (by kernel_rfl) ?_ _
  go_wp2
  go_ret
  exact ⟨by simp, hVv7⟩
set_option maxRecDepth 100000 in
set_option maxHeartbeats 4000000 in
theorem sroomw_1_0 (s : Sp) (A B : Option Addr) (n c m d : Nat) (b : List Int) (k : Int) (w : World) (hb : Bts w A n c s.data) (h2 : Bts w B m d b) (h5 : n ≤ 5000) (h6 : m ≤ 5000) (hm : mayP s = true) (hw : writeP s b = (⟨s.cap, s.data ++ b, s.sure⟩, 0)) (hl1 : (m : Int) ≤ s.cap - n) (hc : cutP s k = (s, 1)) :
    Calls Try.prog 8 #[s.val A n c, .slice B m d, .int .i64 k] w (GBool true w) := by
  have hl := hb.len
  obtain ⟨cap, data, sure⟩ := s
  simp only at hb
  unfold Sp.val
  simp only
  have hn := hb.small
  have HT := Lib.hid (rfl : true = true)
  have HBw := Lib.hid (Below.refl w.heap.size w)
  have hmm : mayP ⟨cap, data, sure⟩ = mayT cap n sure := by rw [mayP]; simp only at hl; rw [hl]
  have h6' : (m : Int) ≤ 5000 := by omega
  have hq := mayT_iff.1 (hmm.symm.trans hm)
  obtain ⟨LF, hLF⟩ : ∃ x, cap - (n : Int) = x := ⟨_, rfl⟩
  simp only at hl1
  rw [hLF] at hl1
  have hLFd : decide ((m : Int) ≤ LF) = true := decide_eq_true hl1
  have HLF := Lib.hid (show leftT cap n sure = LF from (left_may (hmm.symm.trans hm)).trans hLF)
  have HLFE := Lib.hid hLF
  obtain ⟨LW, hLW⟩ : ∃ x, LF - (m : Int) = x := ⟨_, rfl⟩
  have hwr : IntKind.i64.wrap (LF - (m : Int)) = LW := by rw [IntKind.wrap_i64, ← hLW]; omega
  have HLWE := Lib.hid hLW
  have FN := Lib.hid (show decide (n ≤ 5000) = true from decide_eq_true h5)
  have HMP := Lib.hid hm
  have HM := Lib.hid (hmm.symm.trans hm)
  have HA := Lib.hid hb
  have HE := Lib.hid h2
  have HLL := Lib.hid (show data.length = n from hl)
  have HLB := Lib.hid h2.len
  have HW := Lib.hid hw
  have HC := Lib.hid hc
  clear hmm hm hb h2 hl hw hc hq hLF hLW 
  go_enter Try.func8, Try.ntmps8
  go_wp2_with (first
    | (go_at_call 9
       refine (sawake_any _).mono ?_
       rintro e w1 ⟨he, hbx⟩
       rw [HT.out] at he
       subst he
       have hX : Below w.heap.size w w1 := (after_one hbx).1
       have HBw1 := Lib.hid (HBw.out.trans (hX.mono HBw.out.size))
       have HXsw1 := Lib.hid (show BoxT w1 w.heap.size 24 cap A n c sure from (after_one hbx).2.2)
       obtain ⟨s0, s1, s2⟩ := HXsw1.out.cells
       clear hbx hX)
    | (go_at_call 10
       (with_reducible refine (few_any _ A n c _ _ hn).mono ?_)
       rintro e w2 ⟨he, hbx⟩
       rw [FN.out] at he
       subst he
       have hX : Below w1.heap.size w1 w2 := hbx
       have HBw2 := Lib.hid (HBw1.out.trans (hX.mono HBw1.out.size))
       have HXsw2 := Lib.hid (HXsw1.out.below hX)
       clear s0 s1 s2
       obtain ⟨s0, s1, s2⟩ := HXsw2.out.cells
       clear hbx hX)
    | (go_at_call 23
       (with_reducible refine (stmay_any _ A n c _ _ hn).mono ?_)
       rintro e w3 ⟨he, hbx⟩
       rw [HM.out] at he
       subst he
       have hX : Below w2.heap.size w2 w3 := hbx
       have HBw3 := Lib.hid (HBw2.out.trans (hX.mono HBw2.out.size))
       have HXsw3 := Lib.hid (HXsw2.out.below hX)
       clear s0 s1 s2
       obtain ⟨s0, s1, s2⟩ := HXsw3.out.cells
       clear hbx hX)
    | (go_at_call 15
       (with_reducible refine (stcut_at cap data sure A n c _ k (HA.out.below HBw5.out) (by omega)).mono ?_)
       rintro e w6 ⟨A2, n2, c2, he, hbt0, -, hbx⟩
       obtain ⟨⟨⟨cap2, data2, sure2⟩, e2⟩, hr2⟩ : ∃ r, cutP ⟨cap, data, sure⟩ k = r := ⟨_, rfl⟩
       rw [hr2] at he hbt0
       have he2 : e = .returned (.tuple #[.agg #[.int .i64 cap2, .slice A2 n2 c2, .int .i64 sure2], .int .i64 e2]) := he
       clear he
       subst he2
       have hbt : Bts w6 A2 n2 c2 data2 := hbt0
       have HR2 := Lib.hid hr2
       have hz := HR2.out
       rw [HC.out] at hz
       injection hz with hz1 hz2
       subst hz2
       clear hz1 HR2
       have hX : Below w5.heap.size w5 w6 := hbx
       have HBw6 := Lib.hid (HBw5.out.trans (hX.mono HBw5.out.size))
       have HXsw6 := Lib.hid (HXsw5.out.below hX)
       have HXb1w6 := Lib.hid (HXb1w5.out.below hX)
       have HD1w6 := Lib.hid (HD1w5.out.below hX)
       have HD2w6 := Lib.hid hbt
       clear s0 s1 s2
       clear hbx hX hbt0 hbt hr2)
    | (go_at_call 25
       (with_reducible refine (stleft_any _ A n c _ _ hn).mono ?_)
       rintro e w5 ⟨he, hbx⟩
       rw [HLF.out] at he
       subst he
       have hX : Below w4.heap.size w4 w5 := (after_one hbx).1
       have HBw5 := Lib.hid (HBw4.out.trans (hX.mono HBw4.out.size))
       have HXsw5 := Lib.hid (HXsw4.out.below hX)
       have HXb1w5 := Lib.hid (show BoxT w5 w4.heap.size 24 cap1 A1 n1 c1 sure1 from (after_one hbx).2.2)
       have HD1w5 := Lib.hid (HD1w4.out.below hX)
       clear s0 s1 s2
       obtain ⟨s0, s1, s2⟩ := HXsw5.out.cells
       clear hbx hX)
    | (go_at_call 11
       (with_reducible refine (stwrite_at cap data sure A n c _ b B m d (HA.out.below HBw3.out) (by omega) (HE.out.below HBw3.out)).mono ?_)
       rintro e w4 ⟨A1, n1, c1, he, hbt0, -, hbx⟩
       obtain ⟨⟨⟨cap1, data1, sure1⟩, e1⟩, hr1⟩ : ∃ r, writeP ⟨cap, data, sure⟩ b = r := ⟨_, rfl⟩
       rw [hr1] at he hbt0
       have he2 : e = .returned (.tuple #[.agg #[.int .i64 cap1, .slice A1 n1 c1, .int .i64 sure1], .int .i64 e1]) := he
       clear he
       subst he2
       have hbt : Bts w4 A1 n1 c1 data1 := hbt0
       have HR1 := Lib.hid hr1
       have hz := HR1.out
       rw [HW.out] at hz
       injection hz with hz1 hz2
       subst hz2
       have hst := write_may HMP.out HR1.out
       have hc1 : cap1 = cap := hst.2.1
       have hs1 : sure1 = sure := hst.2.2.1
       have hd1 : data ++ b = data1 := (Sp.mk.inj hz1).2.1
       have hn1 : n + m = n1 := by rw [← hbt.len, ← hd1, List.length_append, HLL.out, HLB.out]
       have HLW := Lib.hid (show leftT cap1 n1 sure1 = LW from by
         have h := hst.1
         rw [mayP] at h
         simp only [hbt.len] at h
         rw [left_may h, hc1, ← hn1, ← HLWE.out, ← HLFE.out]
         omega)
       have HS1 := Lib.hid (show (sure1 == sure) = true from by rw [beq_iff_eq]; exact hs1)
       clear hst hc1 hs1 hd1 hn1 hz1 HR1
       have hX : Below w3.heap.size w3 w4 := hbx
       have HBw4 := Lib.hid (HBw3.out.trans (hX.mono HBw3.out.size))
       have HXsw4 := Lib.hid (HXsw3.out.below hX)
       have HD1w4 := Lib.hid hbt
       clear s0 s1 s2
       obtain ⟨s0, s1, s2⟩ := (HXsw4.out.below (one_alloc w4 (.cells #[.int .i64 cap1, .slice A1 n1 c1, .int .i64 sure1] 24))).cells
       clear hbx hX hbt0 hbt hr1))
  have hBn := one_alloc w6 (.cells #[.int .i64 cap2, .slice A2 n2 c2, .int .i64 sure2] 24)
  have hbn : BoxT (w6.alloc (.cells #[.int .i64 cap2, .slice A2 n2 c2, .int .i64 sure2] 24)) w6.heap.size 24 cap2 A2 n2 c2 sure2 := heap_alloc_new w6 _
  have HBW5 := Lib.hid (HBw6.out.trans (hBn.mono HBw6.out.size))
  obtain ⟨W5, hW5⟩ : ∃ W, w6.alloc (.cells #[.int .i64 cap2, .slice A2 n2 c2, .int .i64 sure2] 24) = W := ⟨_, rfl⟩
  rw [hW5] at hBn hbn HBW5  ⊢
  clear hW5
  have HN1 := Lib.hid (HD1w6.out.small)
  have hd0 : Below W5.heap.size W5 W5.drew := (Below.refl _ _).drew
  have V0 := (show RoomH W5 w.heap.size w4.heap.size w6.heap.size cap A n c sure cap1 A1 n1 c1 sure1 cap2 A2 n2 c2 sure2 from ⟨HXsw6.out.below hBn, HXb1w6.out.below hBn, hbn⟩).below hd0
  have hV0 : Below w.heap.size w W5.drew := HBW5.out.drew
  obtain ⟨Y0, hY0⟩ : ∃ Y, W5.drew = Y := ⟨_, rfl⟩
  refine wp_region_held_drew (S := (fun w' => RoomH w' w.heap.size w4.heap.size w6.heap.size cap A n c sure cap1 A1 n1 c1 sure1 cap2 A2 n2 c2 sure2)) (by kernel_rfl) V0 (fun hHeld => ?_)
  rw [hY0] at hV0 V0 hHeld ⊢
  clear hY0 hd0 hBn hbn
  refine take_move 0 (.tmp 12) (.int .i64 1) rfl rfl rfl (by kernel_rfl) (by kernel_rfl) (by kernel_rfl) (fun _ _ _ h => h) rfl hHeld ?_
  simp only [Act.put, List.setIfInBounds_toArray, List.set_cons_zero, List.set_cons_succ]
  refine take_run 1 (.bool false) rfl (by kernel_rfl) (by kernel_rfl) (by kernel_rfl) (fun _ _ _ h => h) rfl hHeld (fun w => ?_) ?_
  · go_simp
  simp only [Act.put, List.setIfInBounds_toArray, List.set_cons_zero, List.set_cons_succ]
  refine take_move 2 (.tmp 62) (.bool false) rfl rfl rfl (by kernel_rfl) (by kernel_rfl) (by kernel_rfl) (fun _ _ _ h => h) rfl hHeld ?_
  simp only [Act.put, List.setIfInBounds_toArray, List.set_cons_zero, List.set_cons_succ]
  refine take_off 3 rfl (by kernel_rfl) (by kernel_rfl) (by kernel_rfl) (fun _ _ _ h => h) rfl hHeld ?_
  simp only [Act.put, List.setIfInBounds_toArray, List.set_cons_zero, List.set_cons_succ]
  refine take_off 4 rfl (by kernel_rfl) (by kernel_rfl) (by kernel_rfl) (fun _ _ _ h => h) rfl hHeld ?_
  simp only [Act.put, List.setIfInBounds_toArray, List.set_cons_zero, List.set_cons_succ]
  refine take_off 5 rfl (by kernel_rfl) (by kernel_rfl) (by kernel_rfl) (fun _ _ _ h => h) rfl hHeld ?_
  simp only [Act.put, List.setIfInBounds_toArray, List.set_cons_zero, List.set_cons_succ]
  refine take_off 6 rfl (by kernel_rfl) (by kernel_rfl) (by kernel_rfl) (fun _ _ _ h => h) rfl hHeld ?_
  simp only [Act.put, List.setIfInBounds_toArray, List.set_cons_zero, List.set_cons_succ]
  refine take_off 7 rfl (by kernel_rfl) (by kernel_rfl) (by kernel_rfl) (fun _ _ _ h => h) rfl hHeld ?_
  simp only [Act.put, List.setIfInBounds_toArray, List.set_cons_zero, List.set_cons_succ]
  refine take_off 8 rfl (by kernel_rfl) (by kernel_rfl) (by kernel_rfl) (fun _ _ _ h => h) rfl hHeld ?_
  simp only [Act.put, List.setIfInBounds_toArray, List.set_cons_zero, List.set_cons_succ]
  refine take_off 9 rfl (by kernel_rfl) (by kernel_rfl) (by kernel_rfl) (fun _ _ _ h => h) rfl hHeld ?_
  simp only [Act.put, List.setIfInBounds_toArray, List.set_cons_zero, List.set_cons_succ]
  refine take_off 10 rfl (by kernel_rfl) (by kernel_rfl) (by kernel_rfl) (fun _ _ _ h => h) rfl hHeld ?_
  simp only [Act.put, List.setIfInBounds_toArray, List.set_cons_zero, List.set_cons_succ]
  refine take_off 11 rfl (by kernel_rfl) (by kernel_rfl) (by kernel_rfl) (fun _ _ _ h => h) rfl hHeld ?_
  simp only [Act.put, List.setIfInBounds_toArray, List.set_cons_zero, List.set_cons_succ]
  refine take_off 12 rfl (by kernel_rfl) (by kernel_rfl) (by kernel_rfl) (fun _ _ _ h => h) rfl hHeld ?_
  simp only [Act.put, List.setIfInBounds_toArray, List.set_cons_zero, List.set_cons_succ]
  refine take_off 13 rfl (by kernel_rfl) (by kernel_rfl) (by kernel_rfl) (fun _ _ _ h => h) rfl hHeld ?_
  simp only [Act.put, List.setIfInBounds_toArray, List.set_cons_zero, List.set_cons_succ]
  refine take_off 14 rfl (by kernel_rfl) (by kernel_rfl) (by kernel_rfl) (fun _ _ _ h => h) rfl hHeld ?_
  simp only [Act.put, List.setIfInBounds_toArray, List.set_cons_zero, List.set_cons_succ]
  refine take_off 15 rfl (by kernel_rfl) (by kernel_rfl) (by kernel_rfl) (fun _ _ _ h => h) rfl hHeld ?_
  simp only [Act.put, List.setIfInBounds_toArray, List.set_cons_zero, List.set_cons_succ]
  refine take_off 16 rfl (by kernel_rfl) (by kernel_rfl) (by kernel_rfl) (fun _ _ _ h => h) rfl hHeld ?_
  simp only [Act.put, List.setIfInBounds_toArray, List.set_cons_zero, List.set_cons_succ]
  refine take_off 17 rfl (by kernel_rfl) (by kernel_rfl) (by kernel_rfl) (fun _ _ _ h => h) rfl hHeld ?_
  simp only [Act.put, List.setIfInBounds_toArray, List.set_cons_zero, List.set_cons_succ]
  refine take_off 18 rfl (by kernel_rfl) (by kernel_rfl) (by kernel_rfl) (fun _ _ _ h => h) rfl hHeld ?_
  simp only [Act.put, List.setIfInBounds_toArray, List.set_cons_zero, List.set_cons_succ]
  refine take_off 19 rfl (by kernel_rfl) (by kernel_rfl) (by kernel_rfl) (fun _ _ _ h => h) rfl hHeld ?_
  simp only [Act.put, List.setIfInBounds_toArray, List.set_cons_zero, List.set_cons_succ]
  refine take_off 20 rfl (by kernel_rfl) (by kernel_rfl) (by kernel_rfl) (fun _ _ _ h => h) rfl hHeld ?_
  simp only [Act.put, List.setIfInBounds_toArray, List.set_cons_zero, List.set_cons_succ]
  refine take_off 21 rfl (by kernel_rfl) (by kernel_rfl) (by kernel_rfl) (fun _ _ _ h => h) rfl hHeld ?_
  simp only [Act.put, List.setIfInBounds_toArray, List.set_cons_zero, List.set_cons_succ]
  refine take_off 22 rfl (by kernel_rfl) (by kernel_rfl) (by kernel_rfl) (fun _ _ _ h => h) rfl hHeld ?_
  simp only [Act.put, List.setIfInBounds_toArray, List.set_cons_zero, List.set_cons_succ]
  refine take_run 23 (.bool false) rfl (by kernel_rfl) (by kernel_rfl) (by kernel_rfl) (fun _ _ _ h => h) rfl hHeld (fun w => ?_) ?_
  · go_simp
  simp only [Act.put, List.setIfInBounds_toArray, List.set_cons_zero, List.set_cons_succ]
  refine wpAnyH_done (by kernel_rfl) ?_ _
  go_wp2
  clear hHeld
  have hd1 : Below Y0.heap.size Y0 Y0.drew := (Below.refl _ _).drew
  have V5 := V0.below hd1
  have hV5 : Below w.heap.size w Y0.drew := hV0.drew
  obtain ⟨Y5, hY5⟩ : ∃ Y, Y0.drew = Y := ⟨_, rfl⟩
  refine wp_region_held_drew (S := (fun w' => RoomH w' w.heap.size w4.heap.size w6.heap.size cap A n c sure cap1 A1 n1 c1 sure1 cap2 A2 n2 c2 sure2)) (by kernel_rfl) V5 (fun hHeld => ?_)
  rw [hY5] at hV5 V5 hHeld ⊢
  clear hY5 hd1 V0 hV0
  refine take_move 0 (.tmp 10) (.int .i64 0) rfl rfl rfl (by kernel_rfl) (by kernel_rfl) (by kernel_rfl) (fun _ _ _ h => h) rfl hHeld ?_
  simp only [Act.put, List.setIfInBounds_toArray, List.set_cons_zero, List.set_cons_succ]
  refine take_run 1 (.bool false) rfl (by kernel_rfl) (by kernel_rfl) (by kernel_rfl) (fun _ _ _ h => h) rfl hHeld (fun w => ?_) ?_
  · go_simp
  simp only [Act.put, List.setIfInBounds_toArray, List.set_cons_zero, List.set_cons_succ]
  refine take_move 2 (.tmp 86) (.bool false) rfl rfl rfl (by kernel_rfl) (by kernel_rfl) (by kernel_rfl) (fun _ _ _ h => h) rfl hHeld ?_
  simp only [Act.put, List.setIfInBounds_toArray, List.set_cons_zero, List.set_cons_succ]
  refine take_if 3 (.agg #[.int .i64 cap1, .slice A1 n1 c1, .int .i64 sure1]) rfl (by kernel_rfl) (by kernel_rfl) (by kernel_rfl) (fun _ _ _ h => h) rfl hHeld (fun w' hw' => ?_) ?_
  · obtain ⟨h1, h2, h3⟩ := hw'
    obtain ⟨x0, x1, x2⟩ := h1.cells
    obtain ⟨y0, y1, y2⟩ := h2.cells
    obtain ⟨z0, z1, z2⟩ := h3.cells
    go_simp
  simp only [Act.put, List.setIfInBounds_toArray, List.set_cons_zero, List.set_cons_succ]
  refine take_if 5 (.agg #[.int .i64 cap, .slice A n c, .int .i64 sure]) rfl (by kernel_rfl) (by kernel_rfl) (by kernel_rfl) (fun _ _ _ h => h) rfl hHeld (fun w' hw' => ?_) ?_
  · obtain ⟨h1, h2, h3⟩ := hw'
    obtain ⟨x0, x1, x2⟩ := h1.cells
    obtain ⟨y0, y1, y2⟩ := h2.cells
    obtain ⟨z0, z1, z2⟩ := h3.cells
    go_simp
  simp only [Act.put, List.setIfInBounds_toArray, List.set_cons_zero, List.set_cons_succ]
  refine take_move 7 (.tmp 1) (.slice B m d) rfl rfl rfl (by kernel_rfl) (by kernel_rfl) (by kernel_rfl) (fun _ _ _ h => h) rfl hHeld ?_
  simp only [Act.put, List.setIfInBounds_toArray, List.set_cons_zero, List.set_cons_succ]
  refine take_run 8 (.int .i64 m) rfl (by kernel_rfl) (by kernel_rfl) (by kernel_rfl) (fun _ _ _ h => h) rfl hHeld (fun w => ?_) ?_
  · go_simp
  simp only [Act.put, List.setIfInBounds_toArray, List.set_cons_zero, List.set_cons_succ]
  refine one_step 4 (by kernel_rfl) rfl (fun K hK => ?_)
  go_simp
  go_at_call 25
  refine (stleft_any _ A1 n1 c1 _ Y5 HN1.out).mono ?_
  rintro e v6 ⟨he, hb⟩
  rw [HLW.out] at he
  subst he
  have hVv6 : Below w.heap.size w v6 := hV5.trans (hb.mono hV5.size)
  have Vv6 := V5.below hb
  refine hK.out _ _ Vv6 (fun hHeld0 => ?_)
  clear hK K hHeld hb V5
  have hHeld := hHeld0
  clear hHeld0
  try simp only [Act.put, List.setIfInBounds_toArray, List.set_cons_zero, List.set_cons_succ]
  refine one_step 6 (by kernel_rfl) rfl (fun K hK => ?_)
  go_simp
  go_at_call 25
  refine (stleft_any _ A n c _ v6 hn).mono ?_
  rintro e v7 ⟨he, hb⟩
  rw [HLF.out] at he
  subst he
  have hVv7 : Below w.heap.size w v7 := hVv6.trans (hb.mono hVv6.size)
  have Vv7 := Vv6.below hb
  refine hK.out _ _ Vv7 (fun hHeld0 => ?_)
  clear hK K hHeld hb Vv6
  have hHeld := hHeld0
  clear hHeld0
  try simp only [Act.put, List.setIfInBounds_toArray, List.set_cons_zero, List.set_cons_succ]
  refine take_run 9 (.int .i64 LW) rfl (by kernel_rfl) (by kernel_rfl) (by kernel_rfl) (fun _ _ _ h => h) rfl hHeld (fun w => ?_) ?_
  · go_simp
  simp only [Act.put, List.setIfInBounds_toArray, List.set_cons_zero, List.set_cons_succ]
  refine take_run 10 (.bool true) rfl (by kernel_rfl) (by kernel_rfl) (by kernel_rfl) (fun _ _ _ h => h) rfl hHeld (fun w => ?_) ?_
  · go_simp
  simp only [Act.put, List.setIfInBounds_toArray, List.set_cons_zero, List.set_cons_succ]
  refine take_move 11 (.tmp 95) (.bool true) rfl rfl rfl (by kernel_rfl) (by kernel_rfl) (by kernel_rfl) (fun _ _ _ h => h) rfl hHeld ?_
  simp only [Act.put, List.setIfInBounds_toArray, List.set_cons_zero, List.set_cons_succ]
  refine take_run 12 (.pointer (some ⟨w4.heap.size, 2, none⟩)) rfl (by kernel_rfl) (by kernel_rfl) (by kernel_rfl) (fun _ _ _ h => h) rfl hHeld (fun w => ?_) ?_
  · go_simp
  simp only [Act.put, List.setIfInBounds_toArray, List.set_cons_zero, List.set_cons_succ]
  refine take_if 13 (.int .i64 sure1) rfl (by kernel_rfl) (by kernel_rfl) (by kernel_rfl) (fun _ _ _ h => h) rfl hHeld (fun w' hw' => ?_) ?_
  · obtain ⟨h1, h2, h3⟩ := hw'
    obtain ⟨x0, x1, x2⟩ := h1.cells
    obtain ⟨y0, y1, y2⟩ := h2.cells
    obtain ⟨z0, z1, z2⟩ := h3.cells
    go_simp
  simp only [Act.put, List.setIfInBounds_toArray, List.set_cons_zero, List.set_cons_succ]
  refine take_run 14 (.pointer (some ⟨w.heap.size, 2, none⟩)) rfl (by kernel_rfl) (by kernel_rfl) (by kernel_rfl) (fun _ _ _ h => h) rfl hHeld (fun w => ?_) ?_
  · go_simp
  simp only [Act.put, List.setIfInBounds_toArray, List.set_cons_zero, List.set_cons_succ]
  refine take_if 15 (.int .i64 sure) rfl (by kernel_rfl) (by kernel_rfl) (by kernel_rfl) (fun _ _ _ h => h) rfl hHeld (fun w' hw' => ?_) ?_
  · obtain ⟨h1, h2, h3⟩ := hw'
    obtain ⟨x0, x1, x2⟩ := h1.cells
    obtain ⟨y0, y1, y2⟩ := h2.cells
    obtain ⟨z0, z1, z2⟩ := h3.cells
    go_simp
  simp only [Act.put, List.setIfInBounds_toArray, List.set_cons_zero, List.set_cons_succ]
  have hs1 := HS1.out
  refine take_run 16 (.bool true) rfl (by kernel_rfl) (by kernel_rfl) (by kernel_rfl) (fun _ _ _ h => h) rfl hHeld (fun w => ?_) ?_
  · go_simp
  simp only [Act.put, List.setIfInBounds_toArray, List.set_cons_zero, List.set_cons_succ]
  refine take_run 17 (.bool true) rfl (by kernel_rfl) (by kernel_rfl) (by kernel_rfl) (fun _ _ _ h => h) rfl hHeld (fun w => ?_) ?_
  · go_simp
  simp only [Act.put, List.setIfInBounds_toArray, List.set_cons_zero, List.set_cons_succ]
  refine take_run 18 (.bool true) rfl (by kernel_rfl) (by kernel_rfl) (by kernel_rfl) (fun _ _ _ h => h) rfl hHeld (fun w => ?_) ?_
  · go_simp
  simp only [Act.put, List.setIfInBounds_toArray, List.set_cons_zero, List.set_cons_succ]
  refine take_run 19 (.bool true) rfl (by kernel_rfl) (by kernel_rfl) (by kernel_rfl) (fun _ _ _ h => h) rfl hHeld (fun w => ?_) ?_
  · go_simp
  simp only [Act.put, List.setIfInBounds_toArray, List.set_cons_zero, List.set_cons_succ]
  refine wpAnyH_done (by kernel_rfl) ?_ _
  go_wp2
  go_ret
  exact ⟨by simp, hVv7⟩
set_option maxRecDepth 100000 in
set_option maxHeartbeats 4000000 in
theorem sroomw_0_1 (s : Sp) (A B : Option Addr) (n c m d : Nat) (b : List Int) (j : Nat) (w : World) (hb : Bts w A n c s.data) (h2 : Bts w B m d b) (h5 : n ≤ 5000) (h6 : m ≤ 5000) (hm : mayP s = true) (hw : writeP s b = (s, 12)) (hl1 : ¬ (m : Int) ≤ s.cap - n) (hj : j ≤ n) (hc : cutP s j = (⟨s.cap, s.data.take j, j⟩, 0)) :
    Calls Try.prog 8 #[s.val A n c, .slice B m d, .int .i64 (j : Int)] w (GBool true w) := by
  have hl := hb.len
  obtain ⟨cap, data, sure⟩ := s
  simp only at hb
  unfold Sp.val
  simp only
  have hn := hb.small
  have HT := Lib.hid (rfl : true = true)
  have HBw := Lib.hid (Below.refl w.heap.size w)
  have hmm : mayP ⟨cap, data, sure⟩ = mayT cap n sure := by rw [mayP]; simp only at hl; rw [hl]
  have h6' : (m : Int) ≤ 5000 := by omega
  have hq := mayT_iff.1 (hmm.symm.trans hm)
  obtain ⟨LF, hLF⟩ : ∃ x, cap - (n : Int) = x := ⟨_, rfl⟩
  simp only at hl1
  rw [hLF] at hl1
  have hLFd : decide ((m : Int) ≤ LF) = false := decide_eq_false hl1
  have HLF := Lib.hid (show leftT cap n sure = LF from (left_may (hmm.symm.trans hm)).trans hLF)
  have HLFE := Lib.hid hLF
  obtain ⟨LC, hLC⟩ : ∃ x, cap - (j : Int) = x := ⟨_, rfl⟩
  have hwc : IntKind.i64.wrap (cap - (j : Int)) = LC := by rw [IntKind.wrap_i64, ← hLC]; omega
  have HLC := Lib.hid (show leftT cap j j = LC from (left_may (mayT_iff.2 (by omega))).trans hLC)
  have FN := Lib.hid (show decide (n ≤ 5000) = true from decide_eq_true h5)
  have HMP := Lib.hid hm
  have HM := Lib.hid (hmm.symm.trans hm)
  have HA := Lib.hid hb
  have HE := Lib.hid h2
  have HLL := Lib.hid (show data.length = n from hl)
  have HLB := Lib.hid h2.len
  have HW := Lib.hid hw
  have HC := Lib.hid hc
  clear hmm hm hb h2 hl hw hc hq hLF  hLC
  go_enter Try.func8, Try.ntmps8
  go_wp2_with (first
    | (go_at_call 9
       refine (sawake_any _).mono ?_
       rintro e w1 ⟨he, hbx⟩
       rw [HT.out] at he
       subst he
       have hX : Below w.heap.size w w1 := (after_one hbx).1
       have HBw1 := Lib.hid (HBw.out.trans (hX.mono HBw.out.size))
       have HXsw1 := Lib.hid (show BoxT w1 w.heap.size 24 cap A n c sure from (after_one hbx).2.2)
       obtain ⟨s0, s1, s2⟩ := HXsw1.out.cells
       clear hbx hX)
    | (go_at_call 10
       (with_reducible refine (few_any _ A n c _ _ hn).mono ?_)
       rintro e w2 ⟨he, hbx⟩
       rw [FN.out] at he
       subst he
       have hX : Below w1.heap.size w1 w2 := hbx
       have HBw2 := Lib.hid (HBw1.out.trans (hX.mono HBw1.out.size))
       have HXsw2 := Lib.hid (HXsw1.out.below hX)
       clear s0 s1 s2
       obtain ⟨s0, s1, s2⟩ := HXsw2.out.cells
       clear hbx hX)
    | (go_at_call 23
       (with_reducible refine (stmay_any _ A n c _ _ hn).mono ?_)
       rintro e w3 ⟨he, hbx⟩
       rw [HM.out] at he
       subst he
       have hX : Below w2.heap.size w2 w3 := hbx
       have HBw3 := Lib.hid (HBw2.out.trans (hX.mono HBw2.out.size))
       have HXsw3 := Lib.hid (HXsw2.out.below hX)
       clear s0 s1 s2
       obtain ⟨s0, s1, s2⟩ := HXsw3.out.cells
       clear hbx hX)
    | (go_at_call 15
       (with_reducible refine (stcut_at cap data sure A n c _ (j : Int) (HA.out.below HBw5.out) (by omega)).mono ?_)
       rintro e w6 ⟨A2, n2, c2, he, hbt0, -, hbx⟩
       rw [HC.out] at he hbt0
       have he2 : e = .returned (.tuple #[.agg #[.int .i64 cap, .slice A2 n2 c2, .int .i64 (j : Int)], .int .i64 0]) := he
       clear he
       have hnj : j = n2 := by rw [← hbt0.len, List.length_take, HLL.out]; omega
       subst hnj
       subst he2
       have hX : Below w5.heap.size w5 w6 := hbx
       have HBw6 := Lib.hid (HBw5.out.trans (hX.mono HBw5.out.size))
       have HXsw6 := Lib.hid (HXsw5.out.below hX)
       have HXb1w6 := Lib.hid (HXb1w5.out.below hX)
       have HD1w6 := Lib.hid (HD1w5.out.below hX)
       have HD2w6 := Lib.hid hbt0
       clear s0 s1 s2
       clear hbx hX hbt0)
    | (go_at_call 25
       (with_reducible refine (stleft_any _ A n c _ _ hn).mono ?_)
       rintro e w5 ⟨he, hbx⟩
       rw [HLF.out] at he
       subst he
       have hX : Below w4.heap.size w4 w5 := (after_one hbx).1
       have HBw5 := Lib.hid (HBw4.out.trans (hX.mono HBw4.out.size))
       have HXsw5 := Lib.hid (HXsw4.out.below hX)
       have HXb1w5 := Lib.hid (show BoxT w5 w4.heap.size 24 cap1 A1 n1 c1 sure1 from (after_one hbx).2.2)
       have HD1w5 := Lib.hid (HD1w4.out.below hX)
       clear s0 s1 s2
       obtain ⟨s0, s1, s2⟩ := HXsw5.out.cells
       clear hbx hX)
    | (go_at_call 11
       (with_reducible refine (stwrite_at cap data sure A n c _ b B m d (HA.out.below HBw3.out) (by omega) (HE.out.below HBw3.out)).mono ?_)
       rintro e w4 ⟨A1, n1, c1, he, hbt0, -, hbx⟩
       obtain ⟨⟨⟨cap1, data1, sure1⟩, e1⟩, hr1⟩ : ∃ r, writeP ⟨cap, data, sure⟩ b = r := ⟨_, rfl⟩
       rw [hr1] at he hbt0
       have he2 : e = .returned (.tuple #[.agg #[.int .i64 cap1, .slice A1 n1 c1, .int .i64 sure1], .int .i64 e1]) := he
       clear he
       subst he2
       have hbt : Bts w4 A1 n1 c1 data1 := hbt0
       have HR1 := Lib.hid hr1
       have hz := HR1.out
       rw [HW.out] at hz
       injection hz with hz1 hz2
       subst hz2
       clear hz1 HR1
       have hX : Below w3.heap.size w3 w4 := hbx
       have HBw4 := Lib.hid (HBw3.out.trans (hX.mono HBw3.out.size))
       have HXsw4 := Lib.hid (HXsw3.out.below hX)
       have HD1w4 := Lib.hid hbt
       clear s0 s1 s2
       obtain ⟨s0, s1, s2⟩ := (HXsw4.out.below (one_alloc w4 (.cells #[.int .i64 cap1, .slice A1 n1 c1, .int .i64 sure1] 24))).cells
       clear hbx hX hbt0 hbt hr1))
  have hBn := one_alloc w6 (.cells #[.int .i64 cap, .slice A2 j c2, .int .i64 (j : Int)] 24)
  have hbn : BoxT (w6.alloc (.cells #[.int .i64 cap, .slice A2 j c2, .int .i64 (j : Int)] 24)) w6.heap.size 24 cap A2 j c2 (j : Int) := heap_alloc_new w6 _
  have HBW5 := Lib.hid (HBw6.out.trans (hBn.mono HBw6.out.size))
  obtain ⟨W5, hW5⟩ : ∃ W, w6.alloc (.cells #[.int .i64 cap, .slice A2 j c2, .int .i64 (j : Int)] 24) = W := ⟨_, rfl⟩
  rw [hW5] at hBn hbn HBW5  ⊢
  clear hW5

  have hd0 : Below W5.heap.size W5 W5.drew := (Below.refl _ _).drew
  have V0 := (show RoomH W5 w.heap.size w4.heap.size w6.heap.size cap A n c sure cap1 A1 n1 c1 sure1 cap A2 j c2 (j : Int) from ⟨HXsw6.out.below hBn, HXb1w6.out.below hBn, hbn⟩).below hd0
  have hV0 : Below w.heap.size w W5.drew := HBW5.out.drew
  obtain ⟨Y0, hY0⟩ : ∃ Y, W5.drew = Y := ⟨_, rfl⟩
  refine wp_region_held_drew (S := (fun w' => RoomH w' w.heap.size w4.heap.size w6.heap.size cap A n c sure cap1 A1 n1 c1 sure1 cap A2 j c2 (j : Int))) (by kernel_rfl) V0 (fun hHeld => ?_)
  rw [hY0] at hV0 V0 hHeld ⊢
  clear hY0 hd0 hBn hbn
  refine take_move 0 (.tmp 12) (.int .i64 0) rfl rfl rfl (by kernel_rfl) (by kernel_rfl) (by kernel_rfl) (fun _ _ _ h => h) rfl hHeld ?_
  simp only [Act.put, List.setIfInBounds_toArray, List.set_cons_zero, List.set_cons_succ]
  refine take_run 1 (.bool true) rfl (by kernel_rfl) (by kernel_rfl) (by kernel_rfl) (fun _ _ _ h => h) rfl hHeld (fun w => ?_) ?_
  · go_simp
  simp only [Act.put, List.setIfInBounds_toArray, List.set_cons_zero, List.set_cons_succ]
  refine take_move 2 (.tmp 62) (.bool true) rfl rfl rfl (by kernel_rfl) (by kernel_rfl) (by kernel_rfl) (fun _ _ _ h => h) rfl hHeld ?_
  simp only [Act.put, List.setIfInBounds_toArray, List.set_cons_zero, List.set_cons_succ]
  refine take_run 3 (.pointer (some ⟨w6.heap.size, 1, none⟩)) rfl (by kernel_rfl) (by kernel_rfl) (by kernel_rfl) (fun _ _ _ h => h) rfl hHeld (fun w => ?_) ?_
  · go_simp
  simp only [Act.put, List.setIfInBounds_toArray, List.set_cons_zero, List.set_cons_succ]
  refine take_if 4 (.slice A2 j c2) rfl (by kernel_rfl) (by kernel_rfl) (by kernel_rfl) (fun _ _ _ h => h) rfl hHeld (fun w' hw' => ?_) ?_
  · obtain ⟨h1, h2, h3⟩ := hw'
    obtain ⟨x0, x1, x2⟩ := h1.cells
    obtain ⟨y0, y1, y2⟩ := h2.cells
    obtain ⟨z0, z1, z2⟩ := h3.cells
    go_simp
  simp only [Act.put, List.setIfInBounds_toArray, List.set_cons_zero, List.set_cons_succ]
  refine take_run 5 (.int .i64 j) rfl (by kernel_rfl) (by kernel_rfl) (by kernel_rfl) (fun _ _ _ h => h) rfl hHeld (fun w => ?_) ?_
  · go_simp
  simp only [Act.put, List.setIfInBounds_toArray, List.set_cons_zero, List.set_cons_succ]
  refine take_move 6 (.tmp 2) (.int .i64 j) rfl rfl rfl (by kernel_rfl) (by kernel_rfl) (by kernel_rfl) (fun _ _ _ h => h) rfl hHeld ?_
  simp only [Act.put, List.setIfInBounds_toArray, List.set_cons_zero, List.set_cons_succ]
  refine take_run 7 (.bool false) rfl (by kernel_rfl) (by kernel_rfl) (by kernel_rfl) (fun _ _ _ h => h) rfl hHeld (fun w => ?_) ?_
  · go_simp
  simp only [Act.put, List.setIfInBounds_toArray, List.set_cons_zero, List.set_cons_succ]
  refine take_move 8 (.tmp 68) (.bool false) rfl rfl rfl (by kernel_rfl) (by kernel_rfl) (by kernel_rfl) (fun _ _ _ h => h) rfl hHeld ?_
  simp only [Act.put, List.setIfInBounds_toArray, List.set_cons_zero, List.set_cons_succ]
  refine take_if 9 (.agg #[.int .i64 cap, .slice A2 j c2, .int .i64 (j : Int)]) rfl (by kernel_rfl) (by kernel_rfl) (by kernel_rfl) (fun _ _ _ h => h) rfl hHeld (fun w' hw' => ?_) ?_
  · obtain ⟨h1, h2, h3⟩ := hw'
    obtain ⟨x0, x1, x2⟩ := h1.cells
    obtain ⟨y0, y1, y2⟩ := h2.cells
    obtain ⟨z0, z1, z2⟩ := h3.cells
    go_simp
  simp only [Act.put, List.setIfInBounds_toArray, List.set_cons_zero, List.set_cons_succ]
  refine take_run 11 (.pointer (some ⟨w.heap.size, 0, none⟩)) rfl (by kernel_rfl) (by kernel_rfl) (by kernel_rfl) (fun _ _ _ h => h) rfl hHeld (fun w => ?_) ?_
  · go_simp
  simp only [Act.put, List.setIfInBounds_toArray, List.set_cons_zero, List.set_cons_succ]
  refine take_if 12 (.int .i64 cap) rfl (by kernel_rfl) (by kernel_rfl) (by kernel_rfl) (fun _ _ _ h => h) rfl hHeld (fun w' hw' => ?_) ?_
  · obtain ⟨h1, h2, h3⟩ := hw'
    obtain ⟨x0, x1, x2⟩ := h1.cells
    obtain ⟨y0, y1, y2⟩ := h2.cells
    obtain ⟨z0, z1, z2⟩ := h3.cells
    go_simp
  simp only [Act.put, List.setIfInBounds_toArray, List.set_cons_zero, List.set_cons_succ]
  refine take_move 13 (.tmp 2) (.int .i64 j) rfl rfl rfl (by kernel_rfl) (by kernel_rfl) (by kernel_rfl) (fun _ _ _ h => h) rfl hHeld ?_
  simp only [Act.put, List.setIfInBounds_toArray, List.set_cons_zero, List.set_cons_succ]
  refine take_run 14 (.int .i64 LC) rfl (by kernel_rfl) (by kernel_rfl) (by kernel_rfl) (fun _ _ _ h => h) rfl hHeld (fun w => ?_) ?_
  · go_simp
  simp only [Act.put, List.setIfInBounds_toArray, List.set_cons_zero, List.set_cons_succ]
  refine one_step 10 (by kernel_rfl) rfl (fun K hK => ?_)
  go_simp
  go_at_call 25
  refine (stleft_any _ A2 j c2 _ Y0 (by omega)).mono ?_
  rintro e v1 ⟨he, hb⟩
  rw [HLC.out] at he
  subst he
  have hVv1 : Below w.heap.size w v1 := hV0.trans (hb.mono hV0.size)
  have Vv1 := V0.below hb
  refine hK.out _ _ Vv1 (fun hHeld0 => ?_)
  clear hK K hHeld hb V0
  have hHeld := hHeld0
  clear hHeld0
  try simp only [Act.put, List.setIfInBounds_toArray, List.set_cons_zero, List.set_cons_succ]
  refine take_run 15 (.bool false) rfl (by kernel_rfl) (by kernel_rfl) (by kernel_rfl) (fun _ _ _ h => h) rfl hHeld (fun w => ?_) ?_
  · go_simp
  simp only [Act.put, List.setIfInBounds_toArray, List.set_cons_zero, List.set_cons_succ]
  refine take_run 16 (.bool false) rfl (by kernel_rfl) (by kernel_rfl) (by kernel_rfl) (fun _ _ _ h => h) rfl hHeld (fun w => ?_) ?_
  · go_simp
  simp only [Act.put, List.setIfInBounds_toArray, List.set_cons_zero, List.set_cons_succ]
  refine take_move 17 (.tmp 77) (.bool false) rfl rfl rfl (by kernel_rfl) (by kernel_rfl) (by kernel_rfl) (fun _ _ _ h => h) rfl hHeld ?_
  simp only [Act.put, List.setIfInBounds_toArray, List.set_cons_zero, List.set_cons_succ]
  refine take_run 18 (.pointer (some ⟨w6.heap.size, 2, none⟩)) rfl (by kernel_rfl) (by kernel_rfl) (by kernel_rfl) (fun _ _ _ h => h) rfl hHeld (fun w => ?_) ?_
  · go_simp
  simp only [Act.put, List.setIfInBounds_toArray, List.set_cons_zero, List.set_cons_succ]
  refine take_if 19 (.int .i64 j) rfl (by kernel_rfl) (by kernel_rfl) (by kernel_rfl) (fun _ _ _ h => h) rfl hHeld (fun w' hw' => ?_) ?_
  · obtain ⟨h1, h2, h3⟩ := hw'
    obtain ⟨x0, x1, x2⟩ := h1.cells
    obtain ⟨y0, y1, y2⟩ := h2.cells
    obtain ⟨z0, z1, z2⟩ := h3.cells
    go_simp
  simp only [Act.put, List.setIfInBounds_toArray, List.set_cons_zero, List.set_cons_succ]
  refine take_move 20 (.tmp 2) (.int .i64 j) rfl rfl rfl (by kernel_rfl) (by kernel_rfl) (by kernel_rfl) (fun _ _ _ h => h) rfl hHeld ?_
  simp only [Act.put, List.setIfInBounds_toArray, List.set_cons_zero, List.set_cons_succ]
  refine take_run 21 (.bool false) rfl (by kernel_rfl) (by kernel_rfl) (by kernel_rfl) (fun _ _ _ h => h) rfl hHeld (fun w => ?_) ?_
  · go_simp
  simp only [Act.put, List.setIfInBounds_toArray, List.set_cons_zero, List.set_cons_succ]
  refine take_run 22 (.bool false) rfl (by kernel_rfl) (by kernel_rfl) (by kernel_rfl) (fun _ _ _ h => h) rfl hHeld (fun w => ?_) ?_
  · go_simp
  simp only [Act.put, List.setIfInBounds_toArray, List.set_cons_zero, List.set_cons_succ]
  refine take_run 23 (.bool false) rfl (by kernel_rfl) (by kernel_rfl) (by kernel_rfl) (fun _ _ _ h => h) rfl hHeld (fun w => ?_) ?_
  · go_simp
  simp only [Act.put, List.setIfInBounds_toArray, List.set_cons_zero, List.set_cons_succ]
  refine wpAnyH_done (by kernel_rfl) ?_ _
  go_wp2
  clear hHeld
  have hd1 : Below v1.heap.size v1 v1.drew := (Below.refl _ _).drew
  have V5 := Vv1.below hd1
  have hV5 : Below w.heap.size w v1.drew := hVv1.drew
  obtain ⟨Y5, hY5⟩ : ∃ Y, v1.drew = Y := ⟨_, rfl⟩
  refine wp_region_held_drew (S := (fun w' => RoomH w' w.heap.size w4.heap.size w6.heap.size cap A n c sure cap1 A1 n1 c1 sure1 cap A2 j c2 (j : Int))) (by kernel_rfl) V5 (fun hHeld => ?_)
  rw [hY5] at hV5 V5 hHeld ⊢
  clear hY5 hd1 Vv1 hVv1
  refine take_move 0 (.tmp 10) (.int .i64 12) rfl rfl rfl (by kernel_rfl) (by kernel_rfl) (by kernel_rfl) (fun _ _ _ h => h) rfl hHeld ?_
  simp only [Act.put, List.setIfInBounds_toArray, List.set_cons_zero, List.set_cons_succ]
  refine take_run 1 (.bool true) rfl (by kernel_rfl) (by kernel_rfl) (by kernel_rfl) (fun _ _ _ h => h) rfl hHeld (fun w => ?_) ?_
  · go_simp
  simp only [Act.put, List.setIfInBounds_toArray, List.set_cons_zero, List.set_cons_succ]
  refine take_move 2 (.tmp 86) (.bool true) rfl rfl rfl (by kernel_rfl) (by kernel_rfl) (by kernel_rfl) (fun _ _ _ h => h) rfl hHeld ?_
  simp only [Act.put, List.setIfInBounds_toArray, List.set_cons_zero, List.set_cons_succ]
  refine take_off 3 rfl (by kernel_rfl) (by kernel_rfl) (by kernel_rfl) (fun _ _ _ h => h) rfl hHeld ?_
  simp only [Act.put, List.setIfInBounds_toArray, List.set_cons_zero, List.set_cons_succ]
  refine take_off 4 rfl (by kernel_rfl) (by kernel_rfl) (by kernel_rfl) (fun _ _ _ h => h) rfl hHeld ?_
  simp only [Act.put, List.setIfInBounds_toArray, List.set_cons_zero, List.set_cons_succ]
  refine take_off 5 rfl (by kernel_rfl) (by kernel_rfl) (by kernel_rfl) (fun _ _ _ h => h) rfl hHeld ?_
  simp only [Act.put, List.setIfInBounds_toArray, List.set_cons_zero, List.set_cons_succ]
  refine take_off 6 rfl (by kernel_rfl) (by kernel_rfl) (by kernel_rfl) (fun _ _ _ h => h) rfl hHeld ?_
  simp only [Act.put, List.setIfInBounds_toArray, List.set_cons_zero, List.set_cons_succ]
  refine take_off 7 rfl (by kernel_rfl) (by kernel_rfl) (by kernel_rfl) (fun _ _ _ h => h) rfl hHeld ?_
  simp only [Act.put, List.setIfInBounds_toArray, List.set_cons_zero, List.set_cons_succ]
  refine take_off 8 rfl (by kernel_rfl) (by kernel_rfl) (by kernel_rfl) (fun _ _ _ h => h) rfl hHeld ?_
  simp only [Act.put, List.setIfInBounds_toArray, List.set_cons_zero, List.set_cons_succ]
  refine take_off 9 rfl (by kernel_rfl) (by kernel_rfl) (by kernel_rfl) (fun _ _ _ h => h) rfl hHeld ?_
  simp only [Act.put, List.setIfInBounds_toArray, List.set_cons_zero, List.set_cons_succ]
  refine take_off 10 rfl (by kernel_rfl) (by kernel_rfl) (by kernel_rfl) (fun _ _ _ h => h) rfl hHeld ?_
  simp only [Act.put, List.setIfInBounds_toArray, List.set_cons_zero, List.set_cons_succ]
  refine take_off 11 rfl (by kernel_rfl) (by kernel_rfl) (by kernel_rfl) (fun _ _ _ h => h) rfl hHeld ?_
  simp only [Act.put, List.setIfInBounds_toArray, List.set_cons_zero, List.set_cons_succ]
  refine take_off 12 rfl (by kernel_rfl) (by kernel_rfl) (by kernel_rfl) (fun _ _ _ h => h) rfl hHeld ?_
  simp only [Act.put, List.setIfInBounds_toArray, List.set_cons_zero, List.set_cons_succ]
  refine take_off 13 rfl (by kernel_rfl) (by kernel_rfl) (by kernel_rfl) (fun _ _ _ h => h) rfl hHeld ?_
  simp only [Act.put, List.setIfInBounds_toArray, List.set_cons_zero, List.set_cons_succ]
  refine take_off 14 rfl (by kernel_rfl) (by kernel_rfl) (by kernel_rfl) (fun _ _ _ h => h) rfl hHeld ?_
  simp only [Act.put, List.setIfInBounds_toArray, List.set_cons_zero, List.set_cons_succ]
  refine take_off 15 rfl (by kernel_rfl) (by kernel_rfl) (by kernel_rfl) (fun _ _ _ h => h) rfl hHeld ?_
  simp only [Act.put, List.setIfInBounds_toArray, List.set_cons_zero, List.set_cons_succ]
  refine take_off 16 rfl (by kernel_rfl) (by kernel_rfl) (by kernel_rfl) (fun _ _ _ h => h) rfl hHeld ?_
  simp only [Act.put, List.setIfInBounds_toArray, List.set_cons_zero, List.set_cons_succ]
  refine take_off 17 rfl (by kernel_rfl) (by kernel_rfl) (by kernel_rfl) (fun _ _ _ h => h) rfl hHeld ?_
  simp only [Act.put, List.setIfInBounds_toArray, List.set_cons_zero, List.set_cons_succ]
  refine take_run 18 (.bool true) rfl (by kernel_rfl) (by kernel_rfl) (by kernel_rfl) (fun _ _ _ h => h) rfl hHeld (fun w => ?_) ?_
  · go_simp
  simp only [Act.put, List.setIfInBounds_toArray, List.set_cons_zero, List.set_cons_succ]
  refine take_run 19 (.bool true) rfl (by kernel_rfl) (by kernel_rfl) (by kernel_rfl) (fun _ _ _ h => h) rfl hHeld (fun w => ?_) ?_
  · go_simp
  simp only [Act.put, List.setIfInBounds_toArray, List.set_cons_zero, List.set_cons_succ]
  refine wpAnyH_done (by kernel_rfl) ?_ _
  go_wp2
  go_ret
  exact ⟨by simp, hV5⟩
set_option maxRecDepth 100000 in
set_option maxHeartbeats 4000000 in
theorem sroomw_0_0 (s : Sp) (A B : Option Addr) (n c m d : Nat) (b : List Int) (k : Int) (w : World) (hb : Bts w A n c s.data) (h2 : Bts w B m d b) (h5 : n ≤ 5000) (h6 : m ≤ 5000) (hm : mayP s = true) (hw : writeP s b = (s, 12)) (hl1 : ¬ (m : Int) ≤ s.cap - n) (hc : cutP s k = (s, 1)) :
    Calls Try.prog 8 #[s.val A n c, .slice B m d, .int .i64 k] w (GBool true w) := by
  have hl := hb.len
  obtain ⟨cap, data, sure⟩ := s
  simp only at hb
  unfold Sp.val
  simp only
  have hn := hb.small
  have HT := Lib.hid (rfl : true = true)
  have HBw := Lib.hid (Below.refl w.heap.size w)
  have hmm : mayP ⟨cap, data, sure⟩ = mayT cap n sure := by rw [mayP]; simp only at hl; rw [hl]
  have h6' : (m : Int) ≤ 5000 := by omega
  have hq := mayT_iff.1 (hmm.symm.trans hm)
  obtain ⟨LF, hLF⟩ : ∃ x, cap - (n : Int) = x := ⟨_, rfl⟩
  simp only at hl1
  rw [hLF] at hl1
  have hLFd : decide ((m : Int) ≤ LF) = false := decide_eq_false hl1
  have HLF := Lib.hid (show leftT cap n sure = LF from (left_may (hmm.symm.trans hm)).trans hLF)
  have HLFE := Lib.hid hLF
  have FN := Lib.hid (show decide (n ≤ 5000) = true from decide_eq_true h5)
  have HMP := Lib.hid hm
  have HM := Lib.hid (hmm.symm.trans hm)
  have HA := Lib.hid hb
  have HE := Lib.hid h2
  have HLL := Lib.hid (show data.length = n from hl)
  have HLB := Lib.hid h2.len
  have HW := Lib.hid hw
  have HC := Lib.hid hc
  clear hmm hm hb h2 hl hw hc hq hLF  
  go_enter Try.func8, Try.ntmps8
  go_wp2_with (first
    | (go_at_call 9
       refine (sawake_any _).mono ?_
       rintro e w1 ⟨he, hbx⟩
       rw [HT.out] at he
       subst he
       have hX : Below w.heap.size w w1 := (after_one hbx).1
       have HBw1 := Lib.hid (HBw.out.trans (hX.mono HBw.out.size))
       have HXsw1 := Lib.hid (show BoxT w1 w.heap.size 24 cap A n c sure from (after_one hbx).2.2)
       obtain ⟨s0, s1, s2⟩ := HXsw1.out.cells
       clear hbx hX)
    | (go_at_call 10
       (with_reducible refine (few_any _ A n c _ _ hn).mono ?_)
       rintro e w2 ⟨he, hbx⟩
       rw [FN.out] at he
       subst he
       have hX : Below w1.heap.size w1 w2 := hbx
       have HBw2 := Lib.hid (HBw1.out.trans (hX.mono HBw1.out.size))
       have HXsw2 := Lib.hid (HXsw1.out.below hX)
       clear s0 s1 s2
       obtain ⟨s0, s1, s2⟩ := HXsw2.out.cells
       clear hbx hX)
    | (go_at_call 23
       (with_reducible refine (stmay_any _ A n c _ _ hn).mono ?_)
       rintro e w3 ⟨he, hbx⟩
       rw [HM.out] at he
       subst he
       have hX : Below w2.heap.size w2 w3 := hbx
       have HBw3 := Lib.hid (HBw2.out.trans (hX.mono HBw2.out.size))
       have HXsw3 := Lib.hid (HXsw2.out.below hX)
       clear s0 s1 s2
       obtain ⟨s0, s1, s2⟩ := HXsw3.out.cells
       clear hbx hX)
    | (go_at_call 15
       (with_reducible refine (stcut_at cap data sure A n c _ k (HA.out.below HBw5.out) (by omega)).mono ?_)
       rintro e w6 ⟨A2, n2, c2, he, hbt0, -, hbx⟩
       obtain ⟨⟨⟨cap2, data2, sure2⟩, e2⟩, hr2⟩ : ∃ r, cutP ⟨cap, data, sure⟩ k = r := ⟨_, rfl⟩
       rw [hr2] at he hbt0
       have he2 : e = .returned (.tuple #[.agg #[.int .i64 cap2, .slice A2 n2 c2, .int .i64 sure2], .int .i64 e2]) := he
       clear he
       subst he2
       have hbt : Bts w6 A2 n2 c2 data2 := hbt0
       have HR2 := Lib.hid hr2
       have hz := HR2.out
       rw [HC.out] at hz
       injection hz with hz1 hz2
       subst hz2
       clear hz1 HR2
       have hX : Below w5.heap.size w5 w6 := hbx
       have HBw6 := Lib.hid (HBw5.out.trans (hX.mono HBw5.out.size))
       have HXsw6 := Lib.hid (HXsw5.out.below hX)
       have HXb1w6 := Lib.hid (HXb1w5.out.below hX)
       have HD1w6 := Lib.hid (HD1w5.out.below hX)
       have HD2w6 := Lib.hid hbt
       clear s0 s1 s2
       clear hbx hX hbt0 hbt hr2)
    | (go_at_call 25
       (with_reducible refine (stleft_any _ A n c _ _ hn).mono ?_)
       rintro e w5 ⟨he, hbx⟩
       rw [HLF.out] at he
       subst he
       have hX : Below w4.heap.size w4 w5 := (after_one hbx).1
       have HBw5 := Lib.hid (HBw4.out.trans (hX.mono HBw4.out.size))
       have HXsw5 := Lib.hid (HXsw4.out.below hX)
       have HXb1w5 := Lib.hid (show BoxT w5 w4.heap.size 24 cap1 A1 n1 c1 sure1 from (after_one hbx).2.2)
       have HD1w5 := Lib.hid (HD1w4.out.below hX)
       clear s0 s1 s2
       obtain ⟨s0, s1, s2⟩ := HXsw5.out.cells
       clear hbx hX)
    | (go_at_call 11
       (with_reducible refine (stwrite_at cap data sure A n c _ b B m d (HA.out.below HBw3.out) (by omega) (HE.out.below HBw3.out)).mono ?_)
       rintro e w4 ⟨A1, n1, c1, he, hbt0, -, hbx⟩
       obtain ⟨⟨⟨cap1, data1, sure1⟩, e1⟩, hr1⟩ : ∃ r, writeP ⟨cap, data, sure⟩ b = r := ⟨_, rfl⟩
       rw [hr1] at he hbt0
       have he2 : e = .returned (.tuple #[.agg #[.int .i64 cap1, .slice A1 n1 c1, .int .i64 sure1], .int .i64 e1]) := he
       clear he
       subst he2
       have hbt : Bts w4 A1 n1 c1 data1 := hbt0
       have HR1 := Lib.hid hr1
       have hz := HR1.out
       rw [HW.out] at hz
       injection hz with hz1 hz2
       subst hz2
       clear hz1 HR1
       have hX : Below w3.heap.size w3 w4 := hbx
       have HBw4 := Lib.hid (HBw3.out.trans (hX.mono HBw3.out.size))
       have HXsw4 := Lib.hid (HXsw3.out.below hX)
       have HD1w4 := Lib.hid hbt
       clear s0 s1 s2
       obtain ⟨s0, s1, s2⟩ := (HXsw4.out.below (one_alloc w4 (.cells #[.int .i64 cap1, .slice A1 n1 c1, .int .i64 sure1] 24))).cells
       clear hbx hX hbt0 hbt hr1))
  have hBn := one_alloc w6 (.cells #[.int .i64 cap2, .slice A2 n2 c2, .int .i64 sure2] 24)
  have hbn : BoxT (w6.alloc (.cells #[.int .i64 cap2, .slice A2 n2 c2, .int .i64 sure2] 24)) w6.heap.size 24 cap2 A2 n2 c2 sure2 := heap_alloc_new w6 _
  have HBW5 := Lib.hid (HBw6.out.trans (hBn.mono HBw6.out.size))
  obtain ⟨W5, hW5⟩ : ∃ W, w6.alloc (.cells #[.int .i64 cap2, .slice A2 n2 c2, .int .i64 sure2] 24) = W := ⟨_, rfl⟩
  rw [hW5] at hBn hbn HBW5  ⊢
  clear hW5

  have hd0 : Below W5.heap.size W5 W5.drew := (Below.refl _ _).drew
  have V0 := (show RoomH W5 w.heap.size w4.heap.size w6.heap.size cap A n c sure cap1 A1 n1 c1 sure1 cap2 A2 n2 c2 sure2 from ⟨HXsw6.out.below hBn, HXb1w6.out.below hBn, hbn⟩).below hd0
  have hV0 : Below w.heap.size w W5.drew := HBW5.out.drew
  obtain ⟨Y0, hY0⟩ : ∃ Y, W5.drew = Y := ⟨_, rfl⟩
  refine wp_region_held_drew (S := (fun w' => RoomH w' w.heap.size w4.heap.size w6.heap.size cap A n c sure cap1 A1 n1 c1 sure1 cap2 A2 n2 c2 sure2)) (by kernel_rfl) V0 (fun hHeld => ?_)
  rw [hY0] at hV0 V0 hHeld ⊢
  clear hY0 hd0 hBn hbn
  refine take_move 0 (.tmp 12) (.int .i64 1) rfl rfl rfl (by kernel_rfl) (by kernel_rfl) (by kernel_rfl) (fun _ _ _ h => h) rfl hHeld ?_
  simp only [Act.put, List.setIfInBounds_toArray, List.set_cons_zero, List.set_cons_succ]
  refine take_run 1 (.bool false) rfl (by kernel_rfl) (by kernel_rfl) (by kernel_rfl) (fun _ _ _ h => h) rfl hHeld (fun w => ?_) ?_
  · go_simp
  simp only [Act.put, List.setIfInBounds_toArray, List.set_cons_zero, List.set_cons_succ]
  refine take_move 2 (.tmp 62) (.bool false) rfl rfl rfl (by kernel_rfl) (by kernel_rfl) (by kernel_rfl) (fun _ _ _ h => h) rfl hHeld ?_
  simp only [Act.put, List.setIfInBounds_toArray, List.set_cons_zero, List.set_cons_succ]
  refine take_off 3 rfl (by kernel_rfl) (by kernel_rfl) (by kernel_rfl) (fun _ _ _ h => h) rfl hHeld ?_
  simp only [Act.put, List.setIfInBounds_toArray, List.set_cons_zero, List.set_cons_succ]
  refine take_off 4 rfl (by kernel_rfl) (by kernel_rfl) (by kernel_rfl) (fun _ _ _ h => h) rfl hHeld ?_
  simp only [Act.put, List.setIfInBounds_toArray, List.set_cons_zero, List.set_cons_succ]
  refine take_off 5 rfl (by kernel_rfl) (by kernel_rfl) (by kernel_rfl) (fun _ _ _ h => h) rfl hHeld ?_
  simp only [Act.put, List.setIfInBounds_toArray, List.set_cons_zero, List.set_cons_succ]
  refine take_off 6 rfl (by kernel_rfl) (by kernel_rfl) (by kernel_rfl) (fun _ _ _ h => h) rfl hHeld ?_
  simp only [Act.put, List.setIfInBounds_toArray, List.set_cons_zero, List.set_cons_succ]
  refine take_off 7 rfl (by kernel_rfl) (by kernel_rfl) (by kernel_rfl) (fun _ _ _ h => h) rfl hHeld ?_
  simp only [Act.put, List.setIfInBounds_toArray, List.set_cons_zero, List.set_cons_succ]
  refine take_off 8 rfl (by kernel_rfl) (by kernel_rfl) (by kernel_rfl) (fun _ _ _ h => h) rfl hHeld ?_
  simp only [Act.put, List.setIfInBounds_toArray, List.set_cons_zero, List.set_cons_succ]
  refine take_off 9 rfl (by kernel_rfl) (by kernel_rfl) (by kernel_rfl) (fun _ _ _ h => h) rfl hHeld ?_
  simp only [Act.put, List.setIfInBounds_toArray, List.set_cons_zero, List.set_cons_succ]
  refine take_off 10 rfl (by kernel_rfl) (by kernel_rfl) (by kernel_rfl) (fun _ _ _ h => h) rfl hHeld ?_
  simp only [Act.put, List.setIfInBounds_toArray, List.set_cons_zero, List.set_cons_succ]
  refine take_off 11 rfl (by kernel_rfl) (by kernel_rfl) (by kernel_rfl) (fun _ _ _ h => h) rfl hHeld ?_
  simp only [Act.put, List.setIfInBounds_toArray, List.set_cons_zero, List.set_cons_succ]
  refine take_off 12 rfl (by kernel_rfl) (by kernel_rfl) (by kernel_rfl) (fun _ _ _ h => h) rfl hHeld ?_
  simp only [Act.put, List.setIfInBounds_toArray, List.set_cons_zero, List.set_cons_succ]
  refine take_off 13 rfl (by kernel_rfl) (by kernel_rfl) (by kernel_rfl) (fun _ _ _ h => h) rfl hHeld ?_
  simp only [Act.put, List.setIfInBounds_toArray, List.set_cons_zero, List.set_cons_succ]
  refine take_off 14 rfl (by kernel_rfl) (by kernel_rfl) (by kernel_rfl) (fun _ _ _ h => h) rfl hHeld ?_
  simp only [Act.put, List.setIfInBounds_toArray, List.set_cons_zero, List.set_cons_succ]
  refine take_off 15 rfl (by kernel_rfl) (by kernel_rfl) (by kernel_rfl) (fun _ _ _ h => h) rfl hHeld ?_
  simp only [Act.put, List.setIfInBounds_toArray, List.set_cons_zero, List.set_cons_succ]
  refine take_off 16 rfl (by kernel_rfl) (by kernel_rfl) (by kernel_rfl) (fun _ _ _ h => h) rfl hHeld ?_
  simp only [Act.put, List.setIfInBounds_toArray, List.set_cons_zero, List.set_cons_succ]
  refine take_off 17 rfl (by kernel_rfl) (by kernel_rfl) (by kernel_rfl) (fun _ _ _ h => h) rfl hHeld ?_
  simp only [Act.put, List.setIfInBounds_toArray, List.set_cons_zero, List.set_cons_succ]
  refine take_off 18 rfl (by kernel_rfl) (by kernel_rfl) (by kernel_rfl) (fun _ _ _ h => h) rfl hHeld ?_
  simp only [Act.put, List.setIfInBounds_toArray, List.set_cons_zero, List.set_cons_succ]
  refine take_off 19 rfl (by kernel_rfl) (by kernel_rfl) (by kernel_rfl) (fun _ _ _ h => h) rfl hHeld ?_
  simp only [Act.put, List.setIfInBounds_toArray, List.set_cons_zero, List.set_cons_succ]
  refine take_off 20 rfl (by kernel_rfl) (by kernel_rfl) (by kernel_rfl) (fun _ _ _ h => h) rfl hHeld ?_
  simp only [Act.put, List.setIfInBounds_toArray, List.set_cons_zero, List.set_cons_succ]
  refine take_off 21 rfl (by kernel_rfl) (by kernel_rfl) (by kernel_rfl) (fun _ _ _ h => h) rfl hHeld ?_
  simp only [Act.put, List.setIfInBounds_toArray, List.set_cons_zero, List.set_cons_succ]
  refine take_off 22 rfl (by kernel_rfl) (by kernel_rfl) (by kernel_rfl) (fun _ _ _ h => h) rfl hHeld ?_
  simp only [Act.put, List.setIfInBounds_toArray, List.set_cons_zero, List.set_cons_succ]
  refine take_run 23 (.bool false) rfl (by kernel_rfl) (by kernel_rfl) (by kernel_rfl) (fun _ _ _ h => h) rfl hHeld (fun w => ?_) ?_
  · go_simp
  simp only [Act.put, List.setIfInBounds_toArray, List.set_cons_zero, List.set_cons_succ]
  refine wpAnyH_done (by kernel_rfl) ?_ _
  go_wp2
  clear hHeld
  have hd1 : Below Y0.heap.size Y0 Y0.drew := (Below.refl _ _).drew
  have V5 := V0.below hd1
  have hV5 : Below w.heap.size w Y0.drew := hV0.drew
  obtain ⟨Y5, hY5⟩ : ∃ Y, Y0.drew = Y := ⟨_, rfl⟩
  refine wp_region_held_drew (S := (fun w' => RoomH w' w.heap.size w4.heap.size w6.heap.size cap A n c sure cap1 A1 n1 c1 sure1 cap2 A2 n2 c2 sure2)) (by kernel_rfl) V5 (fun hHeld => ?_)
  rw [hY5] at hV5 V5 hHeld ⊢
  clear hY5 hd1 V0 hV0
  refine take_move 0 (.tmp 10) (.int .i64 12) rfl rfl rfl (by kernel_rfl) (by kernel_rfl) (by kernel_rfl) (fun _ _ _ h => h) rfl hHeld ?_
  simp only [Act.put, List.setIfInBounds_toArray, List.set_cons_zero, List.set_cons_succ]
  refine take_run 1 (.bool true) rfl (by kernel_rfl) (by kernel_rfl) (by kernel_rfl) (fun _ _ _ h => h) rfl hHeld (fun w => ?_) ?_
  · go_simp
  simp only [Act.put, List.setIfInBounds_toArray, List.set_cons_zero, List.set_cons_succ]
  refine take_move 2 (.tmp 86) (.bool true) rfl rfl rfl (by kernel_rfl) (by kernel_rfl) (by kernel_rfl) (fun _ _ _ h => h) rfl hHeld ?_
  simp only [Act.put, List.setIfInBounds_toArray, List.set_cons_zero, List.set_cons_succ]
  refine take_off 3 rfl (by kernel_rfl) (by kernel_rfl) (by kernel_rfl) (fun _ _ _ h => h) rfl hHeld ?_
  simp only [Act.put, List.setIfInBounds_toArray, List.set_cons_zero, List.set_cons_succ]
  refine take_off 4 rfl (by kernel_rfl) (by kernel_rfl) (by kernel_rfl) (fun _ _ _ h => h) rfl hHeld ?_
  simp only [Act.put, List.setIfInBounds_toArray, List.set_cons_zero, List.set_cons_succ]
  refine take_off 5 rfl (by kernel_rfl) (by kernel_rfl) (by kernel_rfl) (fun _ _ _ h => h) rfl hHeld ?_
  simp only [Act.put, List.setIfInBounds_toArray, List.set_cons_zero, List.set_cons_succ]
  refine take_off 6 rfl (by kernel_rfl) (by kernel_rfl) (by kernel_rfl) (fun _ _ _ h => h) rfl hHeld ?_
  simp only [Act.put, List.setIfInBounds_toArray, List.set_cons_zero, List.set_cons_succ]
  refine take_off 7 rfl (by kernel_rfl) (by kernel_rfl) (by kernel_rfl) (fun _ _ _ h => h) rfl hHeld ?_
  simp only [Act.put, List.setIfInBounds_toArray, List.set_cons_zero, List.set_cons_succ]
  refine take_off 8 rfl (by kernel_rfl) (by kernel_rfl) (by kernel_rfl) (fun _ _ _ h => h) rfl hHeld ?_
  simp only [Act.put, List.setIfInBounds_toArray, List.set_cons_zero, List.set_cons_succ]
  refine take_off 9 rfl (by kernel_rfl) (by kernel_rfl) (by kernel_rfl) (fun _ _ _ h => h) rfl hHeld ?_
  simp only [Act.put, List.setIfInBounds_toArray, List.set_cons_zero, List.set_cons_succ]
  refine take_off 10 rfl (by kernel_rfl) (by kernel_rfl) (by kernel_rfl) (fun _ _ _ h => h) rfl hHeld ?_
  simp only [Act.put, List.setIfInBounds_toArray, List.set_cons_zero, List.set_cons_succ]
  refine take_off 11 rfl (by kernel_rfl) (by kernel_rfl) (by kernel_rfl) (fun _ _ _ h => h) rfl hHeld ?_
  simp only [Act.put, List.setIfInBounds_toArray, List.set_cons_zero, List.set_cons_succ]
  refine take_off 12 rfl (by kernel_rfl) (by kernel_rfl) (by kernel_rfl) (fun _ _ _ h => h) rfl hHeld ?_
  simp only [Act.put, List.setIfInBounds_toArray, List.set_cons_zero, List.set_cons_succ]
  refine take_off 13 rfl (by kernel_rfl) (by kernel_rfl) (by kernel_rfl) (fun _ _ _ h => h) rfl hHeld ?_
  simp only [Act.put, List.setIfInBounds_toArray, List.set_cons_zero, List.set_cons_succ]
  refine take_off 14 rfl (by kernel_rfl) (by kernel_rfl) (by kernel_rfl) (fun _ _ _ h => h) rfl hHeld ?_
  simp only [Act.put, List.setIfInBounds_toArray, List.set_cons_zero, List.set_cons_succ]
  refine take_off 15 rfl (by kernel_rfl) (by kernel_rfl) (by kernel_rfl) (fun _ _ _ h => h) rfl hHeld ?_
  simp only [Act.put, List.setIfInBounds_toArray, List.set_cons_zero, List.set_cons_succ]
  refine take_off 16 rfl (by kernel_rfl) (by kernel_rfl) (by kernel_rfl) (fun _ _ _ h => h) rfl hHeld ?_
  simp only [Act.put, List.setIfInBounds_toArray, List.set_cons_zero, List.set_cons_succ]
  refine take_off 17 rfl (by kernel_rfl) (by kernel_rfl) (by kernel_rfl) (fun _ _ _ h => h) rfl hHeld ?_
  simp only [Act.put, List.setIfInBounds_toArray, List.set_cons_zero, List.set_cons_succ]
  refine take_run 18 (.bool true) rfl (by kernel_rfl) (by kernel_rfl) (by kernel_rfl) (fun _ _ _ h => h) rfl hHeld (fun w => ?_) ?_
  · go_simp
  simp only [Act.put, List.setIfInBounds_toArray, List.set_cons_zero, List.set_cons_succ]
  refine take_run 19 (.bool true) rfl (by kernel_rfl) (by kernel_rfl) (by kernel_rfl) (fun _ _ _ h => h) rfl hHeld (fun w => ?_) ?_
  · go_simp
  simp only [Act.put, List.setIfInBounds_toArray, List.set_cons_zero, List.set_cons_succ]
  refine wpAnyH_done (by kernel_rfl) ?_ _
  go_wp2
  go_ret
  exact ⟨by simp, hV5⟩
theorem sroomw_any (s : Sp) (A B : Option Addr) (n c m d : Nat) (b : List Int) (k : Int) (w : World) (hb : Bts w A n c s.data) (h2 : Bts w B m d b) :
    Calls Try.prog 8 #[s.val A n c, .slice B m d, .int .i64 k] w (GBool true w) := by
  by_cases h5 : n ≤ 5000
  · by_cases h6 : m ≤ 5000
    · cases hm : mayP s with
      | true =>
        have hl := hb.len
        have hl2 := h2.len
        rcases write_cases (b := b) hm with ⟨hw, h1⟩ | ⟨hw, h1⟩
        · rcases cut_cases (k := k) hm with ⟨hc, -⟩ | ⟨j, rfl, hj, hc⟩
          · exact sroomw_0_0 s A B n c m d b k w hb h2 h5 h6 hm hw (by omega) hc
          · exact sroomw_0_1 s A B n c m d b j w hb h2 h5 h6 hm hw (by omega) (by omega) hc
        · rcases cut_cases (k := k) hm with ⟨hc, -⟩ | ⟨j, rfl, hj, hc⟩
          · exact sroomw_1_0 s A B n c m d b k w hb h2 h5 h6 hm hw (by omega) hc
          · exact sroomw_1_1 s A B n c m d b j w hb h2 h5 h6 hm hw (by omega) (by omega) hc
      | false => exact sroomw_no s A B n c m d b k w hb h2 (.inr (.inr hm))
    · exact sroomw_no s A B n c m d b k w hb h2 (.inr (.inl (by omega)))
  · exact sroomw_no s A B n c m d b k w hb h2 (.inl (by omega))
end Go.Proofs.Ytoohcpckdkbngaa
