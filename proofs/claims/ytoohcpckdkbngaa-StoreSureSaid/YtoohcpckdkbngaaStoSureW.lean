/- The walk over the law StoreSure. -/
import Derived.Test.YtoohcpckdkbngaaStoPure
import Derived.Test.YtoohcpckdkbngaaStoAwake
namespace Go.Proofs.Ytoohcpckdkbngaa
set_option linter.unusedVariables false
set_option linter.unusedSimpArgs false
open Go.RowKit

set_option maxHeartbeats 1000000 in
theorem ssurew_no (s : Sp) (A B : Option Addr) (n c m d : Nat) (b : List Int) (keep : Int) (w : World) (hb : Bts w A n c s.data) (h2 : Bts w B m d b) (h : 5000 < n ∨ 5000 < m ∨ mayP s = false) :
    Calls Try.prog 5 #[s.val A n c, .slice B m d, .int .i64 keep] w (GBool true w) := by
  have hl := hb.len
  obtain ⟨cap, data, sure⟩ := s
  simp only at hb
  unfold Sp.val
  simp only
  have hn := hb.small
  have HT := Lib.hid (rfl : true = true)
  have HBw := Lib.hid (Below.refl w.heap.size w)
  have hmm : mayP ⟨cap, data, sure⟩ = mayT cap n sure := by rw [mayP]; simp only at hl; rw [hl]
  rw [hmm] at h
  by_cases h5 : n ≤ 5000
  · have FN := Lib.hid (show decide (n ≤ 5000) = true from decide_eq_true h5)
    by_cases h6 : m ≤ 5000
    · have h6' : (m : Int) ≤ 5000 := by omega
      have h7 : mayT cap n sure = false := by
        rcases h with h | h | h
        · omega
        · omega
        · exact h
      have HM := Lib.hid h7
      clear h h7 hmm hb h2
      go_enter Try.func5, Try.ntmps5
      go_wp2_with (first
        | (go_at_call 9
           refine (sawake_any _).mono ?_
           rintro e w1 ⟨he, hbx⟩
           rw [HT.out] at he
           subst he
           have hX : Below w.heap.size w w1 := (after_one hbx).1
           have HBw1 := Lib.hid (HBw.out.trans (hX.mono HBw.out.size))
           have HXsw1 := Lib.hid (show BoxT w1 w.heap.size 24 cap A n c sure from (after_one hbx).2.2)
           obtain ⟨s0, s1, s2⟩ := HXsw1.out.cells
           clear hbx hX)
        | (go_at_call 10
           (with_reducible refine (few_any _ A n c _ _ hn).mono ?_)
           rintro e w2 ⟨he, hbx⟩
           rw [FN.out] at he
           subst he
           have hX : Below w1.heap.size w1 w2 := hbx
           have HBw2 := Lib.hid (HBw1.out.trans (hX.mono HBw1.out.size))
           have HXsw2 := Lib.hid (HXsw1.out.below hX)
           clear s0 s1 s2
           obtain ⟨s0, s1, s2⟩ := HXsw2.out.cells
           clear hbx hX)
        | (go_at_call 23
           (with_reducible refine (stmay_any _ A n c _ _ hn).mono ?_)
           rintro e w3 ⟨he, hbx⟩
           rw [HM.out] at he
           subst he
           have hX : Below w2.heap.size w2 w3 := hbx
           have HBw3 := Lib.hid (HBw2.out.trans (hX.mono HBw2.out.size))
           have HXsw3 := Lib.hid (HXsw2.out.below hX)
           clear s0 s1 s2
           obtain ⟨s0, s1, s2⟩ := HXsw3.out.cells
           clear hbx hX)
        | (go_at_call 11; trace_state; sorry)
        | (go_at_call 13; trace_state; sorry)
        | (go_at_call 15; trace_state; sorry)
        | (go_at_call 20; trace_state; sorry)
        | (go_at_call 24; trace_state; sorry)
        | (go_at_call 23; trace_state; sorry)
        | (go_at_call 25; trace_state; sorry)
        | (go_at_call 19; trace_state; sorry))
      go_ret
      exact ⟨rfl, HBw3.out⟩
    · have h6' : (5000 : Int) < m := by omega
      clear h hmm hb h2
      go_enter Try.func5, Try.ntmps5
      go_wp2_with (first
        | (go_at_call 9
           refine (sawake_any _).mono ?_
           rintro e w1 ⟨he, hbx⟩
           rw [HT.out] at he
           subst he
           have hX : Below w.heap.size w w1 := (after_one hbx).1
           have HBw1 := Lib.hid (HBw.out.trans (hX.mono HBw.out.size))
           have HXsw1 := Lib.hid (show BoxT w1 w.heap.size 24 cap A n c sure from (after_one hbx).2.2)
           obtain ⟨s0, s1, s2⟩ := HXsw1.out.cells
           clear hbx hX)
        | (go_at_call 10
           (with_reducible refine (few_any _ A n c _ _ hn).mono ?_)
           rintro e w2 ⟨he, hbx⟩
           rw [FN.out] at he
           subst he
           have hX : Below w1.heap.size w1 w2 := hbx
           have HBw2 := Lib.hid (HBw1.out.trans (hX.mono HBw1.out.size))
           have HXsw2 := Lib.hid (HXsw1.out.below hX)
           clear s0 s1 s2
           obtain ⟨s0, s1, s2⟩ := HXsw2.out.cells
           clear hbx hX)
        | (go_at_call 11; trace_state; sorry)
        | (go_at_call 13; trace_state; sorry)
        | (go_at_call 15; trace_state; sorry)
        | (go_at_call 20; trace_state; sorry)
        | (go_at_call 24; trace_state; sorry)
        | (go_at_call 23; trace_state; sorry)
        | (go_at_call 25; trace_state; sorry)
        | (go_at_call 19; trace_state; sorry))
      go_ret
      exact ⟨rfl, HBw2.out⟩
  · have FN := Lib.hid (show decide (n ≤ 5000) = false from decide_eq_false h5)
    clear h hmm hb h2
    go_enter Try.func5, Try.ntmps5
    go_wp2_with (first
      | (go_at_call 9
         refine (sawake_any _).mono ?_
         rintro e w1 ⟨he, hbx⟩
         rw [HT.out] at he
         subst he
         have hX : Below w.heap.size w w1 := (after_one hbx).1
         have HBw1 := Lib.hid (HBw.out.trans (hX.mono HBw.out.size))
         have HXsw1 := Lib.hid (show BoxT w1 w.heap.size 24 cap A n c sure from (after_one hbx).2.2)
         obtain ⟨s0, s1, s2⟩ := HXsw1.out.cells
         clear hbx hX)
      | (go_at_call 10
         (with_reducible refine (few_any _ A n c _ _ hn).mono ?_)
         rintro e w2 ⟨he, hbx⟩
         rw [FN.out] at he
         subst he
         have hX : Below w1.heap.size w1 w2 := hbx
         have HBw2 := Lib.hid (HBw1.out.trans (hX.mono HBw1.out.size))
         have HXsw2 := Lib.hid (HXsw1.out.below hX)
         clear s0 s1 s2
         obtain ⟨s0, s1, s2⟩ := HXsw2.out.cells
         clear hbx hX)
      | (go_at_call 11; trace_state; sorry)
      | (go_at_call 13; trace_state; sorry)
      | (go_at_call 15; trace_state; sorry)
      | (go_at_call 20; trace_state; sorry)
      | (go_at_call 24; trace_state; sorry)
      | (go_at_call 23; trace_state; sorry)
      | (go_at_call 25; trace_state; sorry)
      | (go_at_call 19; trace_state; sorry))
    go_ret
    exact ⟨rfl, HBw2.out⟩
set_option maxRecDepth 100000 in
set_option maxHeartbeats 4000000 in
theorem ssurew_core (s : Sp) (A B : Option Addr) (n c m d : Nat) (b : List Int) (keep : Int) (w : World) (hb : Bts w A n c s.data) (h2 : Bts w B m d b) (h5 : n ≤ 5000) (h6 : m ≤ 5000) (hm : mayP s = true) :
    Calls Try.prog 5 #[s.val A n c, .slice B m d, .int .i64 keep] w (GBool true w) := by
  have hl := hb.len
  obtain ⟨cap, data, sure⟩ := s
  simp only at hb
  unfold Sp.val
  simp only
  have hn := hb.small
  have HT := Lib.hid (rfl : true = true)
  have HBw := Lib.hid (Below.refl w.heap.size w)
  have hmm : mayP ⟨cap, data, sure⟩ = mayT cap n sure := by rw [mayP]; simp only at hl; rw [hl]
  have h6' : (m : Int) ≤ 5000 := by omega
  have FN := Lib.hid (show decide (n ≤ 5000) = true from decide_eq_true h5)
  have HMP := Lib.hid hm
  have HM := Lib.hid (hmm.symm.trans hm)
  have HA := Lib.hid hb
  have HE := Lib.hid h2
  have HLL := Lib.hid hl
  clear hmm hm hb h2 hl
  go_enter Try.func5, Try.ntmps5
  go_wp2_with (first
    | (go_at_call 9
       refine (sawake_any _).mono ?_
       rintro e w1 ⟨he, hbx⟩
       rw [HT.out] at he
       subst he
       have hX : Below w.heap.size w w1 := (after_one hbx).1
       have HBw1 := Lib.hid (HBw.out.trans (hX.mono HBw.out.size))
       have HXsw1 := Lib.hid (show BoxT w1 w.heap.size 24 cap A n c sure from (after_one hbx).2.2)
       obtain ⟨s0, s1, s2⟩ := HXsw1.out.cells
       clear hbx hX)
    | (go_at_call 10
       (with_reducible refine (few_any _ A n c _ _ hn).mono ?_)
       rintro e w2 ⟨he, hbx⟩
       rw [FN.out] at he
       subst he
       have hX : Below w1.heap.size w1 w2 := hbx
       have HBw2 := Lib.hid (HBw1.out.trans (hX.mono HBw1.out.size))
       have HXsw2 := Lib.hid (HXsw1.out.below hX)
       clear s0 s1 s2
       obtain ⟨s0, s1, s2⟩ := HXsw2.out.cells
       clear hbx hX)
    | (go_at_call 23
       (with_reducible refine (stmay_any _ A n c _ _ hn).mono ?_)
       rintro e w3 ⟨he, hbx⟩
       rw [HM.out] at he
       subst he
       have hX : Below w2.heap.size w2 w3 := hbx
       have HBw3 := Lib.hid (HBw2.out.trans (hX.mono HBw2.out.size))
       have HXsw3 := Lib.hid (HXsw2.out.below hX)
       clear s0 s1 s2
       obtain ⟨s0, s1, s2⟩ := HXsw3.out.cells
       clear hbx hX)
    | (go_at_call 11
       refine (stwrite_any ⟨cap, data, sure⟩ b A B n c m d _ (HA.out.below HBw3.out) (by omega) (HE.out.below HBw3.out)).mono ?_
       rintro e w4 ⟨A1, n1, c1, he, hbt0, -, hbx⟩
       obtain ⟨⟨⟨cap1, data1, sure1⟩, e1⟩, hr1⟩ : ∃ r, writeP ⟨cap, data, sure⟩ b = r := ⟨_, rfl⟩
       rw [hr1] at he hbt0
       have he2 : e = .returned (.tuple #[.agg #[.int .i64 cap1, .slice A1 n1 c1, .int .i64 sure1], .int .i64 e1]) := he
       clear he
       subst he2
       have hbt : Bts w4 A1 n1 c1 data1 := hbt0
       have HR1 := Lib.hid hr1
       have HN1 := Lib.hid (show n1 ≤ 16384 from by have h := write_few HMP.out hr1; simp only [hbt.len] at h; exact h)
       have hX : Below w3.heap.size w3 w4 := hbx
       have HBw4 := Lib.hid (HBw3.out.trans (hX.mono HBw3.out.size))
       have HXsw4 := Lib.hid (HXsw3.out.below hX)
       have HD1w4 := Lib.hid hbt
       clear s0 s1 s2
       obtain ⟨s0, s1, s2⟩ := (HXsw4.out.below (one_alloc w4 (.cells #[.int .i64 cap1, .slice A1 n1 c1, .int .i64 sure1] 24))).cells
       clear hbx hX hbt0 hbt hr1)
    | (go_at_call 20
       refine (stcrash_any ⟨cap1, data1, sure1⟩ keep A1 n1 c1 _ (HD1w4.out.more (.cells #[.int .i64 cap1, .slice A1 n1 c1, .int .i64 sure1] 24)) (by have := HN1.out; omega)).mono ?_
       rintro e w5 ⟨A2, n2, c2, he, hbt0, -, hbx⟩
       obtain ⟨⟨cap2, data2, sure2⟩, hr2⟩ : ∃ r, crashP ⟨cap1, data1, sure1⟩ keep = r := ⟨_, rfl⟩
       rw [hr2] at he hbt0
       have he2 : e = .returned (.agg #[.int .i64 cap2, .slice A2 n2 c2, .int .i64 sure2]) := he
       clear he
       subst he2
       have hbt : Bts w5 A2 n2 c2 data2 := hbt0
       have HR2 := Lib.hid hr2
       have hX : Below w4.heap.size w4 w5 := (after_one hbx).1
       have HBw5 := Lib.hid (HBw4.out.trans (hX.mono HBw4.out.size))
       have HXsw5 := Lib.hid (HXsw4.out.below hX)
       have HXb1w5 := Lib.hid (show BoxT w5 w4.heap.size 24 cap1 A1 n1 c1 sure1 from (after_one hbx).2.2)
       have HD1w5 := Lib.hid (HD1w4.out.below hX)
       have HD2w5 := Lib.hid hbt
       clear s0 s1 s2
       obtain ⟨s0, s1, s2⟩ := (HXsw5.out.below (one_alloc w5 (.cells #[.int .i64 cap2, .slice A2 n2 c2, .int .i64 sure2] 24))).cells
       obtain ⟨b10, b11, b12⟩ := (HXb1w5.out.below (one_alloc w5 (.cells #[.int .i64 cap2, .slice A2 n2 c2, .int .i64 sure2] 24))).cells
       clear hbx hX hbt0 hbt hr2)
    | (go_at_call 11; trace_state; sorry)
    | (go_at_call 13; trace_state; sorry)
    | (go_at_call 15; trace_state; sorry)
    | (go_at_call 20; trace_state; sorry)
    | (go_at_call 24; trace_state; sorry)
    | (go_at_call 23; trace_state; sorry)
    | (go_at_call 25; trace_state; sorry)
    | (go_at_call 19; trace_state; sorry))
  have hBn := one_alloc w5 (.cells #[.int .i64 cap2, .slice A2 n2 c2, .int .i64 sure2] 24)
  have hbn : BoxT (w5.alloc (.cells #[.int .i64 cap2, .slice A2 n2 c2, .int .i64 sure2] 24)) w5.heap.size 24 cap2 A2 n2 c2 sure2 := heap_alloc_new w5 _
  have HBW5 := Lib.hid (HBw5.out.trans (hBn.mono HBw5.out.size))
  obtain ⟨W5, hW5⟩ : ∃ W, w5.alloc (.cells #[.int .i64 cap2, .slice A2 n2 c2, .int .i64 sure2] 24) = W := ⟨_, rfl⟩
  rw [hW5] at hBn hbn HBW5 s0 s1 s2 b10 b11 b12 ⊢
  obtain ⟨z0, z1, z2⟩ := hbn.cells
  clear hW5 hbn
  have hw := write_may HMP.out HR1.out
  have hc := crash_may hw.1 HR2.out
  have L1 := HD1w5.out.len
  have L2 := HD2w5.out.len
  have L0 := HLL.out
  simp only [L0, L1, L2] at hw hc
  obtain ⟨hw1, hw2, hw3, hw4, hw5⟩ := hw
  obtain ⟨hc1, hc2, hc3, hc4, hc5, hc6⟩ := hc
  have p2 : sure ≤ (n2 : Int) := by omega
  have p3 : (n2 : Int) ≤ n1 := by omega
  have p4 : (n : Int) ≤ n1 := by omega
  have r0 : 0 ≤ (n : Int) := by omega
  have r2 : 0 ≤ (n2 : Int) := by omega
  have hB1 := HD1w5.out.below hBn
  have hB2 := HD2w5.out.below hBn
  have hB0 := HA.out.below HBW5.out
  obtain ⟨t1, u1⟩ := run_to hB1 (n2 : Int) (hi := n2) rfl (by omega)
  obtain ⟨t2, u2⟩ := run_to hB1 (n : Int) (hi := n) rfl (by omega)
  rw [← hc6] at u1
  rw [hw5] at u2
  obtain ⟨S2, hS2⟩ : ∃ S, bstr data2 = S := ⟨_, rfl⟩
  obtain ⟨S0, hS0⟩ : ∃ S, bstr data = S := ⟨_, rfl⟩
  have k1 : ∀ q, (convert 22 9 (.slice A2 n2 c2)).run Try.prog (W5.drewN q) = .ok (.string S2) (W5.drewN q) := fun q => by rw [← hS2]; exact conv_bts (hB2.draw q)
  have k2 : ∀ q, (convert 22 9 (.slice A1 n2 c1)).run Try.prog (W5.drewN q) = .ok (.string S2) (W5.drewN q) := fun q => by rw [← hS2]; exact conv_bts (u1.draw q)
  have k3 : ∀ q, (convert 22 9 (.slice A1 n c1)).run Try.prog (W5.drewN q) = .ok (.string S0) (W5.drewN q) := fun q => by rw [← hS0]; exact conv_bts (u2.draw q)
  have k4 : ∀ q, (convert 22 9 (.slice A n c)).run Try.prog (W5.drewN q) = .ok (.string S0) (W5.drewN q) := fun q => by rw [← hS0]; exact conv_bts (hB0.draw q)
  clear u1 u2 hS2 hS0 hB1 hB2 hB0 hw1 hw2 hw3 hw4 hw5 hc1 hc2 hc4 hc5 hc6 L0 L1 L2 hBn
  subst hc3
  go_quiet (fail)
  go_wp2
  go_ret
  exact ⟨by simp, below_drewN HBW5.out _⟩
theorem ssurew_any (s : Sp) (A B : Option Addr) (n c m d : Nat) (b : List Int) (keep : Int) (w : World) (hb : Bts w A n c s.data) (h2 : Bts w B m d b) :
    Calls Try.prog 5 #[s.val A n c, .slice B m d, .int .i64 keep] w (GBool true w) := by
  by_cases h5 : n ≤ 5000
  · by_cases h6 : m ≤ 5000
    · cases hm : mayP s with
      | true => exact ssurew_core s A B n c m d b keep w hb h2 h5 h6 hm
      | false => exact ssurew_no s A B n c m d b keep w hb h2 (.inr (.inr hm))
    · exact ssurew_no s A B n c m d b keep w hb h2 (.inr (.inl (by omega)))
  · exact ssurew_no s A B n c m d b keep w hb h2 (.inl (by omega))
end Go.Proofs.Ytoohcpckdkbngaa
