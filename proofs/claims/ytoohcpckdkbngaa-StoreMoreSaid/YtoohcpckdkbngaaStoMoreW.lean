/- The walk over the law StoreMore. -/
import Derived.Test.YtoohcpckdkbngaaStoPure
import Derived.Test.YtoohcpckdkbngaaStoAwake
namespace Go.Proofs.Ytoohcpckdkbngaa
set_option linter.unusedVariables false
set_option linter.unusedSimpArgs false
open Go.RowKit

set_option maxHeartbeats 1000000 in
theorem smorew_no (s : Sp) (A : Option Addr) (n c : Nat) (a b : Int) (w : World) (hb : Bts w A n c s.data) (h : 5000 < n ∨ mayP s = false ∨ b < a) :
    Calls Try.prog 7 #[s.val A n c, .int .i64 a, .int .i64 b] w (GBool true w) := by
  have hl := hb.len
  obtain ⟨cap, data, sure⟩ := s
  simp only at hb
  unfold Sp.val
  simp only
  have hn := hb.small
  have HT := Lib.hid (rfl : true = true)
  have HBw := Lib.hid (Below.refl w.heap.size w)
  have hmm : mayP ⟨cap, data, sure⟩ = mayT cap n sure := by rw [mayP]; simp only at hl; rw [hl]
  rw [hmm] at h
  by_cases h5 : n ≤ 5000
  · have FN := Lib.hid (show decide (n ≤ 5000) = true from decide_eq_true h5)
    cases hm : mayT cap n sure
    case true =>
      have h6' : b < a := by
        rcases h with h | h | h
        · omega
        · rw [hm] at h; cases h
        · exact h
      have HM := Lib.hid hm
      clear h hm hmm hb
      go_enter Try.func7, Try.ntmps7
      go_wp2_with (first
        | (go_at_call 9
           refine (sawake_any _).mono ?_
           rintro e w1 ⟨he, hbx⟩
           rw [HT.out] at he
           subst he
           have hX : Below w.heap.size w w1 := (after_one hbx).1
           have HBw1 := Lib.hid (HBw.out.trans (hX.mono HBw.out.size))
           have HXsw1 := Lib.hid (show BoxT w1 w.heap.size 24 cap A n c sure from (after_one hbx).2.2)
           obtain ⟨s0, s1, s2⟩ := HXsw1.out.cells
           clear hbx hX)
        | (go_at_call 10
           (with_reducible refine (few_any _ A n c _ _ hn).mono ?_)
           rintro e w2 ⟨he, hbx⟩
           rw [FN.out] at he
           subst he
           have hX : Below w1.heap.size w1 w2 := hbx
           have HBw2 := Lib.hid (HBw1.out.trans (hX.mono HBw1.out.size))
           have HXsw2 := Lib.hid (HXsw1.out.below hX)
           clear s0 s1 s2
           obtain ⟨s0, s1, s2⟩ := HXsw2.out.cells
           clear hbx hX)
        | (go_at_call 23
           (with_reducible refine (stmay_any _ A n c _ _ hn).mono ?_)
           rintro e w3 ⟨he, hbx⟩
           rw [HM.out] at he
           subst he
           have hX : Below w2.heap.size w2 w3 := hbx
           have HBw3 := Lib.hid (HBw2.out.trans (hX.mono HBw2.out.size))
           have HXsw3 := Lib.hid (HXsw2.out.below hX)
           clear s0 s1 s2
           obtain ⟨s0, s1, s2⟩ := HXsw3.out.cells
           clear hbx hX)
        | (go_at_call 11; trace_state; sorry)
        | (go_at_call 13; trace_state; sorry)
        | (go_at_call 15; trace_state; sorry)
        | (go_at_call 20; trace_state; sorry)
        | (go_at_call 24; trace_state; sorry)
        | (go_at_call 23; trace_state; sorry)
        | (go_at_call 25; trace_state; sorry)
        | (go_at_call 19; trace_state; sorry))
      go_ret
      exact ⟨rfl, HBw3.out⟩
    case false =>
      have HM := Lib.hid hm
      clear h hm hmm hb
      go_enter Try.func7, Try.ntmps7
      go_wp2_with (first
        | (go_at_call 9
           refine (sawake_any _).mono ?_
           rintro e w1 ⟨he, hbx⟩
           rw [HT.out] at he
           subst he
           have hX : Below w.heap.size w w1 := (after_one hbx).1
           have HBw1 := Lib.hid (HBw.out.trans (hX.mono HBw.out.size))
           have HXsw1 := Lib.hid (show BoxT w1 w.heap.size 24 cap A n c sure from (after_one hbx).2.2)
           obtain ⟨s0, s1, s2⟩ := HXsw1.out.cells
           clear hbx hX)
        | (go_at_call 10
           (with_reducible refine (few_any _ A n c _ _ hn).mono ?_)
           rintro e w2 ⟨he, hbx⟩
           rw [FN.out] at he
           subst he
           have hX : Below w1.heap.size w1 w2 := hbx
           have HBw2 := Lib.hid (HBw1.out.trans (hX.mono HBw1.out.size))
           have HXsw2 := Lib.hid (HXsw1.out.below hX)
           clear s0 s1 s2
           obtain ⟨s0, s1, s2⟩ := HXsw2.out.cells
           clear hbx hX)
        | (go_at_call 23
           (with_reducible refine (stmay_any _ A n c _ _ hn).mono ?_)
           rintro e w3 ⟨he, hbx⟩
           rw [HM.out] at he
           subst he
           have hX : Below w2.heap.size w2 w3 := hbx
           have HBw3 := Lib.hid (HBw2.out.trans (hX.mono HBw2.out.size))
           have HXsw3 := Lib.hid (HXsw2.out.below hX)
           clear s0 s1 s2
           obtain ⟨s0, s1, s2⟩ := HXsw3.out.cells
           clear hbx hX)
        | (go_at_call 11; trace_state; sorry)
        | (go_at_call 13; trace_state; sorry)
        | (go_at_call 15; trace_state; sorry)
        | (go_at_call 20; trace_state; sorry)
        | (go_at_call 24; trace_state; sorry)
        | (go_at_call 23; trace_state; sorry)
        | (go_at_call 25; trace_state; sorry)
        | (go_at_call 19; trace_state; sorry))
      go_ret
      exact ⟨rfl, HBw3.out⟩
  · have FN := Lib.hid (show decide (n ≤ 5000) = false from decide_eq_false h5)
    clear h hmm hb
    go_enter Try.func7, Try.ntmps7
    go_wp2_with (first
      | (go_at_call 9
         refine (sawake_any _).mono ?_
         rintro e w1 ⟨he, hbx⟩
         rw [HT.out] at he
         subst he
         have hX : Below w.heap.size w w1 := (after_one hbx).1
         have HBw1 := Lib.hid (HBw.out.trans (hX.mono HBw.out.size))
         have HXsw1 := Lib.hid (show BoxT w1 w.heap.size 24 cap A n c sure from (after_one hbx).2.2)
         obtain ⟨s0, s1, s2⟩ := HXsw1.out.cells
         clear hbx hX)
      | (go_at_call 10
         (with_reducible refine (few_any _ A n c _ _ hn).mono ?_)
         rintro e w2 ⟨he, hbx⟩
         rw [FN.out] at he
         subst he
         have hX : Below w1.heap.size w1 w2 := hbx
         have HBw2 := Lib.hid (HBw1.out.trans (hX.mono HBw1.out.size))
         have HXsw2 := Lib.hid (HXsw1.out.below hX)
         clear s0 s1 s2
         obtain ⟨s0, s1, s2⟩ := HXsw2.out.cells
         clear hbx hX)
      | (go_at_call 11; trace_state; sorry)
      | (go_at_call 13; trace_state; sorry)
      | (go_at_call 15; trace_state; sorry)
      | (go_at_call 20; trace_state; sorry)
      | (go_at_call 24; trace_state; sorry)
      | (go_at_call 23; trace_state; sorry)
      | (go_at_call 25; trace_state; sorry)
      | (go_at_call 19; trace_state; sorry))
    go_ret
    exact ⟨rfl, HBw2.out⟩
set_option maxRecDepth 100000 in
set_option maxHeartbeats 4000000 in
theorem smorew_core (s : Sp) (A : Option Addr) (n c : Nat) (a b : Int) (w : World) (hb : Bts w A n c s.data) (h5 : n ≤ 5000) (h6 : a ≤ b) (hm : mayP s = true) :
    Calls Try.prog 7 #[s.val A n c, .int .i64 a, .int .i64 b] w (GBool true w) := by
  have hl := hb.len
  obtain ⟨cap, data, sure⟩ := s
  simp only at hb
  unfold Sp.val
  simp only
  have hn := hb.small
  have HT := Lib.hid (rfl : true = true)
  have HBw := Lib.hid (Below.refl w.heap.size w)
  have hmm : mayP ⟨cap, data, sure⟩ = mayT cap n sure := by rw [mayP]; simp only at hl; rw [hl]
  have FN := Lib.hid (show decide (n ≤ 5000) = true from decide_eq_true h5)
  have HMP := Lib.hid hm
  have HM := Lib.hid (hmm.symm.trans hm)
  have HA := Lib.hid hb
  have HLL := Lib.hid hl
  clear hmm hm hb hl
  go_enter Try.func7, Try.ntmps7
  go_wp2_with (first
    | (go_at_call 9
       refine (sawake_any _).mono ?_
       rintro e w1 ⟨he, hbx⟩
       rw [HT.out] at he
       subst he
       have hX : Below w.heap.size w w1 := (after_one hbx).1
       have HBw1 := Lib.hid (HBw.out.trans (hX.mono HBw.out.size))
       have HXsw1 := Lib.hid (show BoxT w1 w.heap.size 24 cap A n c sure from (after_one hbx).2.2)
       obtain ⟨s0, s1, s2⟩ := HXsw1.out.cells
       clear hbx hX)
    | (go_at_call 10
       (with_reducible refine (few_any _ A n c _ _ hn).mono ?_)
       rintro e w2 ⟨he, hbx⟩
       rw [FN.out] at he
       subst he
       have hX : Below w1.heap.size w1 w2 := hbx
       have HBw2 := Lib.hid (HBw1.out.trans (hX.mono HBw1.out.size))
       have HXsw2 := Lib.hid (HXsw1.out.below hX)
       clear s0 s1 s2
       obtain ⟨s0, s1, s2⟩ := HXsw2.out.cells
       clear hbx hX)
    | (go_at_call 23
       (with_reducible refine (stmay_any _ A n c _ _ hn).mono ?_)
       rintro e w3 ⟨he, hbx⟩
       rw [HM.out] at he
       subst he
       have hX : Below w2.heap.size w2 w3 := hbx
       have HBw3 := Lib.hid (HBw2.out.trans (hX.mono HBw2.out.size))
       have HXsw3 := Lib.hid (HXsw2.out.below hX)
       clear s0 s1 s2
       obtain ⟨s0, s1, s2⟩ := HXsw3.out.cells
       clear hbx hX)
    | (go_at_call 20
       refine (stcrash_any ⟨cap, data, sure⟩ (n : Int) A n c _ (HA.out.below (HBw5.out.trans ((one_alloc w5 (.cells #[.int .i64 cap2, .slice A2 n2 c2, .int .i64 sure2] 24)).mono HBw5.out.size))) (by omega)).mono ?_
       rintro e w6 ⟨A3, n3, c3, he, hbt0, -, hbx⟩
       obtain ⟨⟨cap3, data3, sure3⟩, hr3⟩ : ∃ r, crashP ⟨cap, data, sure⟩ (n : Int) = r := ⟨_, rfl⟩
       rw [hr3] at he hbt0
       have he2 : e = .returned (.agg #[.int .i64 cap3, .slice A3 n3 c3, .int .i64 sure3]) := he
       clear he
       subst he2
       have hbt : Bts w6 A3 n3 c3 data3 := hbt0
       have HR3 := Lib.hid hr3
       have hX : Below w5.heap.size w5 w6 := (after_one hbx).1
       have HBw6 := Lib.hid (HBw5.out.trans (hX.mono HBw5.out.size))
       have HXsw6 := Lib.hid (HXsw5.out.below hX)
       have HXb1w6 := Lib.hid (HXb1w5.out.below hX)
       have HXb2w6 := Lib.hid (show BoxT w6 w5.heap.size 24 cap2 A2 n2 c2 sure2 from (after_one hbx).2.2)
       have HD1w6 := Lib.hid (HD1w5.out.below hX)
       have HD2w6 := Lib.hid (HD2w5.out.below hX)
       have HD3w6 := Lib.hid hbt
       clear s0 s1 s2 b10 b11 b12
       obtain ⟨s0, s1, s2⟩ := (HXsw6.out.below (one_alloc w6 (.cells #[.int .i64 cap3, .slice A3 n3 c3, .int .i64 sure3] 24))).cells
       obtain ⟨b10, b11, b12⟩ := (HXb1w6.out.below (one_alloc w6 (.cells #[.int .i64 cap3, .slice A3 n3 c3, .int .i64 sure3] 24))).cells
       obtain ⟨b20, b21, b22⟩ := (HXb2w6.out.below (one_alloc w6 (.cells #[.int .i64 cap3, .slice A3 n3 c3, .int .i64 sure3] 24))).cells
       clear hbx hX hbt0 hbt hr3)
    | (go_at_call 20
       refine (stcrash_any ⟨cap, data, sure⟩ b A n c _ (HA.out.below (HBw4.out.trans ((one_alloc w4 (.cells #[.int .i64 cap1, .slice A1 n1 c1, .int .i64 sure1] 24)).mono HBw4.out.size))) (by omega)).mono ?_
       rintro e w5 ⟨A2, n2, c2, he, hbt0, -, hbx⟩
       obtain ⟨⟨cap2, data2, sure2⟩, hr2⟩ : ∃ r, crashP ⟨cap, data, sure⟩ b = r := ⟨_, rfl⟩
       rw [hr2] at he hbt0
       have he2 : e = .returned (.agg #[.int .i64 cap2, .slice A2 n2 c2, .int .i64 sure2]) := he
       clear he
       subst he2
       have hbt : Bts w5 A2 n2 c2 data2 := hbt0
       have HR2 := Lib.hid hr2
       have hX : Below w4.heap.size w4 w5 := (after_one hbx).1
       have HBw5 := Lib.hid (HBw4.out.trans (hX.mono HBw4.out.size))
       have HXsw5 := Lib.hid (HXsw4.out.below hX)
       have HXb1w5 := Lib.hid (show BoxT w5 w4.heap.size 24 cap1 A1 n1 c1 sure1 from (after_one hbx).2.2)
       have HD1w5 := Lib.hid (HD1w4.out.below hX)
       have HD2w5 := Lib.hid hbt
       clear s0 s1 s2
       obtain ⟨s0, s1, s2⟩ := (HXsw5.out.below (one_alloc w5 (.cells #[.int .i64 cap2, .slice A2 n2 c2, .int .i64 sure2] 24))).cells
       obtain ⟨b10, b11, b12⟩ := (HXb1w5.out.below (one_alloc w5 (.cells #[.int .i64 cap2, .slice A2 n2 c2, .int .i64 sure2] 24))).cells
       clear hbx hX hbt0 hbt hr2)
    | (go_at_call 20
       refine (stcrash_any ⟨cap, data, sure⟩ a A n c _ (HA.out.below HBw3.out) (by omega)).mono ?_
       rintro e w4 ⟨A1, n1, c1, he, hbt0, -, hbx⟩
       obtain ⟨⟨cap1, data1, sure1⟩, hr1⟩ : ∃ r, crashP ⟨cap, data, sure⟩ a = r := ⟨_, rfl⟩
       rw [hr1] at he hbt0
       have he2 : e = .returned (.agg #[.int .i64 cap1, .slice A1 n1 c1, .int .i64 sure1]) := he
       clear he
       subst he2
       have hbt : Bts w4 A1 n1 c1 data1 := hbt0
       have HR1 := Lib.hid hr1
       have hX : Below w3.heap.size w3 w4 := hbx
       have HBw4 := Lib.hid (HBw3.out.trans (hX.mono HBw3.out.size))
       have HXsw4 := Lib.hid (HXsw3.out.below hX)
       have HD1w4 := Lib.hid hbt
       clear s0 s1 s2
       obtain ⟨s0, s1, s2⟩ := (HXsw4.out.below (one_alloc w4 (.cells #[.int .i64 cap1, .slice A1 n1 c1, .int .i64 sure1] 24))).cells
       clear hbx hX hbt0 hbt hr1)
    | (go_at_call 11; trace_state; sorry)
    | (go_at_call 13; trace_state; sorry)
    | (go_at_call 15; trace_state; sorry)
    | (go_at_call 20; trace_state; sorry)
    | (go_at_call 24; trace_state; sorry)
    | (go_at_call 23; trace_state; sorry)
    | (go_at_call 25; trace_state; sorry)
    | (go_at_call 19; trace_state; sorry))
  have hBn := one_alloc w6 (.cells #[.int .i64 cap3, .slice A3 n3 c3, .int .i64 sure3] 24)
  have hbn : BoxT (w6.alloc (.cells #[.int .i64 cap3, .slice A3 n3 c3, .int .i64 sure3] 24)) w6.heap.size 24 cap3 A3 n3 c3 sure3 := heap_alloc_new w6 _
  have HBW6 := Lib.hid (HBw6.out.trans (hBn.mono HBw6.out.size))
  obtain ⟨W6, hW6⟩ : ∃ W, w6.alloc (.cells #[.int .i64 cap3, .slice A3 n3 c3, .int .i64 sure3] 24) = W := ⟨_, rfl⟩
  rw [hW6] at hBn hbn HBW6 s0 s1 s2 b10 b11 b12 b20 b21 b22 ⊢
  obtain ⟨z0, z1, z2⟩ := hbn.cells
  clear hW6 hbn
  have hc := crash_more HMP.out h6 HR1.out HR2.out
  have L0 := HLL.out
  have h3 := HR3.out
  rw [← L0] at h3
  have hd := crash_all HMP.out h3
  have L1 := HD1w6.out.len
  have L2 := HD2w6.out.len
  have L3 := HD3w6.out.len
  simp only [L1, L2] at hc
  simp only at hd
  obtain ⟨hc1, hc2⟩ := hc
  have p3 : (n1 : Int) ≤ n2 := by omega
  have r0 : 0 ≤ (n1 : Int) := by omega
  have hB1 := HD1w6.out.below hBn
  have hB2 := HD2w6.out.below hBn
  have hB3 := HD3w6.out.below hBn
  have hB0 := HA.out.below HBW6.out
  obtain ⟨t1, u1⟩ := run_to hB2 (n1 : Int) (hi := n1) rfl hc1
  rw [← hc2] at u1
  rw [hd] at hB3
  obtain ⟨S1, hS1⟩ : ∃ S, bstr data1 = S := ⟨_, rfl⟩
  obtain ⟨S0, hS0⟩ : ∃ S, bstr data = S := ⟨_, rfl⟩
  have k1 : ∀ q, (convert 22 9 (.slice A1 n1 c1)).run Try.prog (W6.drewN q) = .ok (.string S1) (W6.drewN q) := fun q => by rw [← hS1]; exact conv_bts (hB1.draw q)
  have k2 : ∀ q, (convert 22 9 (.slice A2 n1 c2)).run Try.prog (W6.drewN q) = .ok (.string S1) (W6.drewN q) := fun q => by rw [← hS1]; exact conv_bts (u1.draw q)
  have k3 : ∀ q, (convert 22 9 (.slice A3 n3 c3)).run Try.prog (W6.drewN q) = .ok (.string S0) (W6.drewN q) := fun q => by rw [← hS0]; exact conv_bts (hB3.draw q)
  have k4 : ∀ q, (convert 22 9 (.slice A n c)).run Try.prog (W6.drewN q) = .ok (.string S0) (W6.drewN q) := fun q => by rw [← hS0]; exact conv_bts (hB0.draw q)
  clear u1 hS1 hS0 hB1 hB2 hB0 hB3 hc1 hc2 hd h3 L0 L1 L2 L3 hBn
  go_quiet (fail)
  go_wp2
  go_ret
  exact ⟨by simp, below_drewN HBW6.out _⟩
theorem smorew_any (s : Sp) (A : Option Addr) (n c : Nat) (a b : Int) (w : World) (hb : Bts w A n c s.data) :
    Calls Try.prog 7 #[s.val A n c, .int .i64 a, .int .i64 b] w (GBool true w) := by
  by_cases h5 : n ≤ 5000
  · by_cases h6 : a ≤ b
    · cases hm : mayP s with
      | true => exact smorew_core s A n c a b w hb h5 h6 hm
      | false => exact smorew_no s A n c a b w hb (.inr (.inl hm))
    · exact smorew_no s A n c a b w hb (.inr (.inr (by omega)))
  · exact smorew_no s A n c a b w hb (.inl (by omega))
end Go.Proofs.Ytoohcpckdkbngaa
