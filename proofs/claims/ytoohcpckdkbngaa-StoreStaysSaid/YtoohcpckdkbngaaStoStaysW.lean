/- The walk over the law StoreStays. -/
import Derived.Test.YtoohcpckdkbngaaStoAt
import Derived.Test.YtoohcpckdkbngaaStoAwake
namespace Go.Proofs.Ytoohcpckdkbngaa
set_option linter.unusedVariables false
set_option linter.unusedSimpArgs false
open Go.RowKit

set_option maxHeartbeats 1000000 in
theorem sstaysw_no (s : Sp) (A B : Option Addr) (n c m d : Nat) (b : List Int) (k : Int) (w : World) (hb : Bts w A n c s.data) (h2 : Bts w B m d b) (h : 5000 < n ∨ 5000 < m) :
    Calls Try.prog 4 #[s.val A n c, .slice B m d, .int .i64 k] w (GBool true w) := by
  obtain ⟨cap, data, sure⟩ := s
  simp only at hb
  unfold Sp.val
  simp only
  have hn := hb.small
  have HT := Lib.hid (rfl : true = true)
  have HBw := Lib.hid (Below.refl w.heap.size w)
  by_cases h5 : n ≤ 5000
  · have FN := Lib.hid (show decide (n ≤ 5000) = true from decide_eq_true h5)
    have h6' : (5000 : Int) < m := by omega
    clear h hb h2
    go_enter Try.func4, Try.ntmps4
    go_wp2_with (first
      | (go_at_call 9
         refine (sawake_any _).mono ?_
         rintro e w1 ⟨he, hbx⟩
         rw [HT.out] at he
         subst he
         have hX : Below w.heap.size w w1 := (after_one hbx).1
         have HBw1 := Lib.hid (HBw.out.trans (hX.mono HBw.out.size))
         have HXsw1 := Lib.hid (show BoxT w1 w.heap.size 24 cap A n c sure from (after_one hbx).2.2)
         obtain ⟨s0, s1, s2⟩ := HXsw1.out.cells
         clear hbx hX)
      | (go_at_call 10
         (with_reducible refine (few_any _ A n c _ _ hn).mono ?_)
         rintro e w2 ⟨he, hbx⟩
         rw [FN.out] at he
         subst he
         have hX : Below w1.heap.size w1 w2 := hbx
         have HBw2 := Lib.hid (HBw1.out.trans (hX.mono HBw1.out.size))
         have HXsw2 := Lib.hid (HXsw1.out.below hX)
         clear s0 s1 s2
         obtain ⟨s0, s1, s2⟩ := HXsw2.out.cells
         clear hbx hX))
    go_ret
    exact ⟨rfl, HBw2.out⟩
  · have FN := Lib.hid (show decide (n ≤ 5000) = false from decide_eq_false h5)
    clear h hb h2
    go_enter Try.func4, Try.ntmps4
    go_wp2_with (first
      | (go_at_call 9
         refine (sawake_any _).mono ?_
         rintro e w1 ⟨he, hbx⟩
         rw [HT.out] at he
         subst he
         have hX : Below w.heap.size w w1 := (after_one hbx).1
         have HBw1 := Lib.hid (HBw.out.trans (hX.mono HBw.out.size))
         have HXsw1 := Lib.hid (show BoxT w1 w.heap.size 24 cap A n c sure from (after_one hbx).2.2)
         obtain ⟨s0, s1, s2⟩ := HXsw1.out.cells
         clear hbx hX)
      | (go_at_call 10
         (with_reducible refine (few_any _ A n c _ _ hn).mono ?_)
         rintro e w2 ⟨he, hbx⟩
         rw [FN.out] at he
         subst he
         have hX : Below w1.heap.size w1 w2 := hbx
         have HBw2 := Lib.hid (HBw1.out.trans (hX.mono HBw1.out.size))
         have HXsw2 := Lib.hid (HXsw1.out.below hX)
         clear s0 s1 s2
         obtain ⟨s0, s1, s2⟩ := HXsw2.out.cells
         clear hbx hX))
    go_ret
    exact ⟨rfl, HBw2.out⟩
set_option maxRecDepth 100000 in
set_option maxHeartbeats 4000000 in
theorem sstaysw_1_1_1 (s : Sp) (A B : Option Addr) (n c m d : Nat) (b : List Int) (k : Int) (w : World) (hb : Bts w A n c s.data) (h2 : Bts w B m d b) (h5 : n ≤ 5000) (h6 : m ≤ 5000) (hm : mayP s = false) (z1 : (writeP s b).2 = 1) (z2 : (syncP s).2 = 1) (z3 : (cutP s k).2 = 1) :
    Calls Try.prog 4 #[s.val A n c, .slice B m d, .int .i64 k] w (GBool true w) := by
  have hl := hb.len
  obtain ⟨cap, data, sure⟩ := s
  simp only at hb
  unfold Sp.val
  simp only
  have hn := hb.small
  have HT := Lib.hid (rfl : true = true)
  have HBw := Lib.hid (Below.refl w.heap.size w)
  have hmm : mayP ⟨cap, data, sure⟩ = mayT cap n sure := by rw [mayP]; simp only at hl; rw [hl]
  have h6' : (m : Int) ≤ 5000 := by omega
  have FN := Lib.hid (show decide (n ≤ 5000) = true from decide_eq_true h5)
  have HMP := Lib.hid hm
  have HM := Lib.hid (hmm.symm.trans hm)
  have HA := Lib.hid hb
  have HE := Lib.hid h2
  have HZ1 := Lib.hid z1
  have HZ2 := Lib.hid z2
  have HZ3 := Lib.hid z3
  clear hmm hm hb h2 hl z1 z2 z3
  go_enter Try.func4, Try.ntmps4
  go_wp2_with (first
    | (go_at_call 9
       refine (sawake_any _).mono ?_
       rintro e w1 ⟨he, hbx⟩
       rw [HT.out] at he
       subst he
       have hX : Below w.heap.size w w1 := (after_one hbx).1
       have HBw1 := Lib.hid (HBw.out.trans (hX.mono HBw.out.size))
       have HXsw1 := Lib.hid (show BoxT w1 w.heap.size 24 cap A n c sure from (after_one hbx).2.2)
       obtain ⟨s0, s1, s2⟩ := HXsw1.out.cells
       clear hbx hX)
    | (go_at_call 10
       (with_reducible refine (few_any _ A n c _ _ hn).mono ?_)
       rintro e w2 ⟨he, hbx⟩
       rw [FN.out] at he
       subst he
       have hX : Below w1.heap.size w1 w2 := hbx
       have HBw2 := Lib.hid (HBw1.out.trans (hX.mono HBw1.out.size))
       have HXsw2 := Lib.hid (HXsw1.out.below hX)
       clear s0 s1 s2
       obtain ⟨s0, s1, s2⟩ := HXsw2.out.cells
       clear hbx hX)
    | (go_at_call 23
       (with_reducible refine (stmay_any cap4 A4 n4 c4 sure4 _ HD4w13.out.small).mono ?_)
       rintro e w14 ⟨he, hbx⟩
       rw [HM4.out] at he
       subst he
       have hX : Below w13.heap.size w13 w14 := hbx
       have HBw14 := Lib.hid (HBw13.out.trans (hX.mono HBw13.out.size))
       have HXsw14 := Lib.hid (HXsw13.out.below hX)
       have HXb1w14 := Lib.hid (HXb1w13.out.below hX)
       have HXb2w14 := Lib.hid (HXb2w13.out.below hX)
       have HXb3w14 := Lib.hid (HXb3w13.out.below hX)
       have HXb4w14 := Lib.hid (HXb4w13.out.below hX)
       have HD1w14 := Lib.hid (HD1w13.out.below hX)
       have HD2w14 := Lib.hid (HD2w13.out.below hX)
       have HD3w14 := Lib.hid (HD3w13.out.below hX)
       have HD4w14 := Lib.hid (HD4w13.out.below hX)
       clear s0 s1 s2 b10 b11 b12 b20 b21 b22 b30 b31 b32 b40 b41 b42
       obtain ⟨s0, s1, s2⟩ := HXsw14.out.cells
       obtain ⟨b10, b11, b12⟩ := HXb1w14.out.cells
       obtain ⟨b20, b21, b22⟩ := HXb2w14.out.cells
       obtain ⟨b30, b31, b32⟩ := HXb3w14.out.cells
       obtain ⟨b40, b41, b42⟩ := HXb4w14.out.cells
       clear hbx hX)
    | (go_at_call 23
       (with_reducible refine (stmay_any cap3 A3 n3 c3 sure3 _ HD3w12.out.small).mono ?_)
       rintro e w13 ⟨he, hbx⟩
       rw [HM3.out] at he
       subst he
       have hX : Below w12.heap.size w12 w13 := hbx
       have HBw13 := Lib.hid (HBw12.out.trans (hX.mono HBw12.out.size))
       have HXsw13 := Lib.hid (HXsw12.out.below hX)
       have HXb1w13 := Lib.hid (HXb1w12.out.below hX)
       have HXb2w13 := Lib.hid (HXb2w12.out.below hX)
       have HXb3w13 := Lib.hid (HXb3w12.out.below hX)
       have HXb4w13 := Lib.hid (HXb4w12.out.below hX)
       have HD1w13 := Lib.hid (HD1w12.out.below hX)
       have HD2w13 := Lib.hid (HD2w12.out.below hX)
       have HD3w13 := Lib.hid (HD3w12.out.below hX)
       have HD4w13 := Lib.hid (HD4w12.out.below hX)
       clear s0 s1 s2 b10 b11 b12 b20 b21 b22 b30 b31 b32 b40 b41 b42
       obtain ⟨s0, s1, s2⟩ := HXsw13.out.cells
       obtain ⟨b10, b11, b12⟩ := HXb1w13.out.cells
       obtain ⟨b20, b21, b22⟩ := HXb2w13.out.cells
       obtain ⟨b30, b31, b32⟩ := HXb3w13.out.cells
       obtain ⟨b40, b41, b42⟩ := HXb4w13.out.cells
       clear hbx hX)
    | (go_at_call 23
       (with_reducible refine (stmay_any cap2 A2 n2 c2 sure2 _ HD2w11.out.small).mono ?_)
       rintro e w12 ⟨he, hbx⟩
       rw [HM2.out] at he
       subst he
       have hX : Below w11.heap.size w11 w12 := hbx
       have HBw12 := Lib.hid (HBw11.out.trans (hX.mono HBw11.out.size))
       have HXsw12 := Lib.hid (HXsw11.out.below hX)
       have HXb1w12 := Lib.hid (HXb1w11.out.below hX)
       have HXb2w12 := Lib.hid (HXb2w11.out.below hX)
       have HXb3w12 := Lib.hid (HXb3w11.out.below hX)
       have HXb4w12 := Lib.hid (HXb4w11.out.below hX)
       have HD1w12 := Lib.hid (HD1w11.out.below hX)
       have HD2w12 := Lib.hid (HD2w11.out.below hX)
       have HD3w12 := Lib.hid (HD3w11.out.below hX)
       have HD4w12 := Lib.hid (HD4w11.out.below hX)
       clear s0 s1 s2 b10 b11 b12 b20 b21 b22 b30 b31 b32 b40 b41 b42
       obtain ⟨s0, s1, s2⟩ := HXsw12.out.cells
       obtain ⟨b10, b11, b12⟩ := HXb1w12.out.cells
       obtain ⟨b20, b21, b22⟩ := HXb2w12.out.cells
       obtain ⟨b30, b31, b32⟩ := HXb3w12.out.cells
       obtain ⟨b40, b41, b42⟩ := HXb4w12.out.cells
       clear hbx hX)
    | (go_at_call 23
       (with_reducible refine (stmay_any cap1 A1 n1 c1 sure1 _ HD1w10.out.small).mono ?_)
       rintro e w11 ⟨he, hbx⟩
       rw [HM1.out] at he
       subst he
       have hX : Below w10.heap.size w10 w11 := hbx
       have HBw11 := Lib.hid (HBw10.out.trans (hX.mono HBw10.out.size))
       have HXsw11 := Lib.hid (HXsw10.out.below hX)
       have HXb1w11 := Lib.hid (HXb1w10.out.below hX)
       have HXb2w11 := Lib.hid (HXb2w10.out.below hX)
       have HXb3w11 := Lib.hid (HXb3w10.out.below hX)
       have HXb4w11 := Lib.hid (HXb4w10.out.below hX)
       have HD1w11 := Lib.hid (HD1w10.out.below hX)
       have HD2w11 := Lib.hid (HD2w10.out.below hX)
       have HD3w11 := Lib.hid (HD3w10.out.below hX)
       have HD4w11 := Lib.hid (HD4w10.out.below hX)
       clear s0 s1 s2 b10 b11 b12 b20 b21 b22 b30 b31 b32 b40 b41 b42
       obtain ⟨s0, s1, s2⟩ := HXsw11.out.cells
       obtain ⟨b10, b11, b12⟩ := HXb1w11.out.cells
       obtain ⟨b20, b21, b22⟩ := HXb2w11.out.cells
       obtain ⟨b30, b31, b32⟩ := HXb3w11.out.cells
       obtain ⟨b40, b41, b42⟩ := HXb4w11.out.cells
       clear hbx hX)
    | (go_at_call 23
       (with_reducible refine (stmay_any cap A n c sure _ hn).mono ?_)
       rintro e w10 ⟨he, hbx⟩
       rw [HM.out] at he
       subst he
       have hX : Below w9.heap.size w9 w10 := hbx
       have HBw10 := Lib.hid (HBw9.out.trans (hX.mono HBw9.out.size))
       have HXsw10 := Lib.hid (HXsw9.out.below hX)
       have HXb1w10 := Lib.hid (HXb1w9.out.below hX)
       have HXb2w10 := Lib.hid (HXb2w9.out.below hX)
       have HXb3w10 := Lib.hid (HXb3w9.out.below hX)
       have HXb4w10 := Lib.hid (HXb4w9.out.below hX)
       have HD1w10 := Lib.hid (HD1w9.out.below hX)
       have HD2w10 := Lib.hid (HD2w9.out.below hX)
       have HD3w10 := Lib.hid (HD3w9.out.below hX)
       have HD4w10 := Lib.hid (HD4w9.out.below hX)
       clear s0 s1 s2 b10 b11 b12 b20 b21 b22 b30 b31 b32 b40 b41 b42
       obtain ⟨s0, s1, s2⟩ := HXsw10.out.cells
       obtain ⟨b10, b11, b12⟩ := HXb1w10.out.cells
       obtain ⟨b20, b21, b22⟩ := HXb2w10.out.cells
       obtain ⟨b30, b31, b32⟩ := HXb3w10.out.cells
       obtain ⟨b40, b41, b42⟩ := HXb4w10.out.cells
       clear hbx hX)
    | (go_at_call 24
       (with_reducible refine (stsame_at cap3 data3 sure3 A3 n3 c3 _ cap data sure A n c HD3w8.out (HA.out.below HBw8.out)).mono ?_)
       rintro e w9 ⟨he, hbx⟩
       rw [HS3.out] at he
       subst he
       have hX : Below w8.heap.size w8 w9 := hbx
       have HBw9 := Lib.hid (HBw8.out.trans (hX.mono HBw8.out.size))
       have HXsw9 := Lib.hid (HXsw8.out.below hX)
       have HXb1w9 := Lib.hid (HXb1w8.out.below hX)
       have HXb2w9 := Lib.hid (HXb2w8.out.below hX)
       have HXb3w9 := Lib.hid (HXb3w8.out.below hX)
       have HXb4w9 := Lib.hid (HXb4w8.out.below hX)
       have HD1w9 := Lib.hid (HD1w8.out.below hX)
       have HD2w9 := Lib.hid (HD2w8.out.below hX)
       have HD3w9 := Lib.hid (HD3w8.out.below hX)
       have HD4w9 := Lib.hid (HD4w8.out.below hX)
       clear s0 s1 s2 b10 b11 b12 b20 b21 b22 b30 b31 b32 b40 b41 b42
       obtain ⟨s0, s1, s2⟩ := HXsw9.out.cells
       obtain ⟨b10, b11, b12⟩ := HXb1w9.out.cells
       obtain ⟨b20, b21, b22⟩ := HXb2w9.out.cells
       obtain ⟨b30, b31, b32⟩ := HXb3w9.out.cells
       obtain ⟨b40, b41, b42⟩ := HXb4w9.out.cells
       clear hbx hX)
    | (go_at_call 24
       (with_reducible refine (stsame_at cap2 data2 sure2 A2 n2 c2 _ cap data sure A n c HD2w7.out (HA.out.below HBw7.out)).mono ?_)
       rintro e w8 ⟨he, hbx⟩
       rw [HS2.out] at he
       subst he
       have hX : Below w7.heap.size w7 w8 := hbx
       have HBw8 := Lib.hid (HBw7.out.trans (hX.mono HBw7.out.size))
       have HXsw8 := Lib.hid (HXsw7.out.below hX)
       have HXb1w8 := Lib.hid (HXb1w7.out.below hX)
       have HXb2w8 := Lib.hid (HXb2w7.out.below hX)
       have HXb3w8 := Lib.hid (HXb3w7.out.below hX)
       have HXb4w8 := Lib.hid (HXb4w7.out.below hX)
       have HD1w8 := Lib.hid (HD1w7.out.below hX)
       have HD2w8 := Lib.hid (HD2w7.out.below hX)
       have HD3w8 := Lib.hid (HD3w7.out.below hX)
       have HD4w8 := Lib.hid (HD4w7.out.below hX)
       clear s0 s1 s2 b10 b11 b12 b20 b21 b22 b30 b31 b32 b40 b41 b42
       obtain ⟨s0, s1, s2⟩ := HXsw8.out.cells
       obtain ⟨b10, b11, b12⟩ := HXb1w8.out.cells
       obtain ⟨b20, b21, b22⟩ := HXb2w8.out.cells
       obtain ⟨b30, b31, b32⟩ := HXb3w8.out.cells
       obtain ⟨b40, b41, b42⟩ := HXb4w8.out.cells
       clear hbx hX)
    | (go_at_call 24
       (with_reducible refine (stsame_at cap1 data1 sure1 A1 n1 c1 _ cap data sure A n c (HD1w6.out.more (.cells #[.int .i64 cap4, .slice A4 n4 c4, .int .i64 sure4] 24)) (HA.out.below (HBw6.out.trans ((one_alloc w6 (.cells #[.int .i64 cap4, .slice A4 n4 c4, .int .i64 sure4] 24)).mono HBw6.out.size)))).mono ?_)
       rintro e w7 ⟨he, hbx⟩
       rw [HS1.out] at he
       subst he
       have hX : Below w6.heap.size w6 w7 := (after_one hbx).1
       have HBw7 := Lib.hid (HBw6.out.trans (hX.mono HBw6.out.size))
       have HXsw7 := Lib.hid (HXsw6.out.below hX)
       have HXb1w7 := Lib.hid (HXb1w6.out.below hX)
       have HXb2w7 := Lib.hid (HXb2w6.out.below hX)
       have HXb3w7 := Lib.hid (HXb3w6.out.below hX)
       have HXb4w7 := Lib.hid (show BoxT w7 w6.heap.size 24 cap4 A4 n4 c4 sure4 from (after_one hbx).2.2)
       have HD1w7 := Lib.hid (HD1w6.out.below hX)
       have HD2w7 := Lib.hid (HD2w6.out.below hX)
       have HD3w7 := Lib.hid (HD3w6.out.below hX)
       have HD4w7 := Lib.hid (HD4w6.out.below hX)
       clear s0 s1 s2 b10 b11 b12 b20 b21 b22 b30 b31 b32
       obtain ⟨s0, s1, s2⟩ := HXsw7.out.cells
       obtain ⟨b10, b11, b12⟩ := HXb1w7.out.cells
       obtain ⟨b20, b21, b22⟩ := HXb2w7.out.cells
       obtain ⟨b30, b31, b32⟩ := HXb3w7.out.cells
       obtain ⟨b40, b41, b42⟩ := HXb4w7.out.cells
       clear hbx hX)
    | (go_at_call 20
       (with_reducible refine (stcrash_at cap data sure A n c _ k (HA.out.below (HBw5.out.trans ((one_alloc w5 (.cells #[.int .i64 cap3, .slice A3 n3 c3, .int .i64 sure3] 24)).mono HBw5.out.size))) (by omega)).mono ?_)
       rintro e w6 ⟨A4, n4, c4, he, hbt0, -, hbx⟩
       obtain ⟨⟨cap4, data4, sure4⟩, hr4⟩ : ∃ r, crashP ⟨cap, data, sure⟩ k = r := ⟨_, rfl⟩
       rw [hr4] at he hbt0
       have he2 : e = .returned (.agg #[.int .i64 cap4, .slice A4 n4 c4, .int .i64 sure4]) := he
       clear he
       subst he2
       have hbt : Bts w6 A4 n4 c4 data4 := hbt0
       have HR4 := Lib.hid hr4
       have hst4 := crash_stays HR4.out
       have HM4 := Lib.hid (show mayT cap4 n4 sure4 = false from by have h := hst4.1; rw [mayP] at h; simp only [hbt.len] at h; exact h.trans HMP.out)
       have q4 : (cap4 == cap) = true := by rw [beq_iff_eq]; exact hst4.2
       clear hst4
       have hX : Below w5.heap.size w5 w6 := (after_one hbx).1
       have HBw6 := Lib.hid (HBw5.out.trans (hX.mono HBw5.out.size))
       have HXsw6 := Lib.hid (HXsw5.out.below hX)
       have HXb1w6 := Lib.hid (HXb1w5.out.below hX)
       have HXb2w6 := Lib.hid (HXb2w5.out.below hX)
       have HXb3w6 := Lib.hid (show BoxT w6 w5.heap.size 24 cap3 A3 n3 c3 sure3 from (after_one hbx).2.2)
       have HD1w6 := Lib.hid (HD1w5.out.below hX)
       have HD2w6 := Lib.hid (HD2w5.out.below hX)
       have HD3w6 := Lib.hid (HD3w5.out.below hX)
       have HD4w6 := Lib.hid hbt
       clear s0 s1 s2 b10 b11 b12 b20 b21 b22
       obtain ⟨s0, s1, s2⟩ := (HXsw6.out.below (one_alloc w6 (.cells #[.int .i64 cap4, .slice A4 n4 c4, .int .i64 sure4] 24))).cells
       obtain ⟨b10, b11, b12⟩ := (HXb1w6.out.below (one_alloc w6 (.cells #[.int .i64 cap4, .slice A4 n4 c4, .int .i64 sure4] 24))).cells
       obtain ⟨b20, b21, b22⟩ := (HXb2w6.out.below (one_alloc w6 (.cells #[.int .i64 cap4, .slice A4 n4 c4, .int .i64 sure4] 24))).cells
       obtain ⟨b30, b31, b32⟩ := (HXb3w6.out.below (one_alloc w6 (.cells #[.int .i64 cap4, .slice A4 n4 c4, .int .i64 sure4] 24))).cells
       clear hbx hX hbt0 hbt hr4)
    | (go_at_call 15
       (with_reducible refine (stcut_at cap data sure A n c _ k (HA.out.below (HBw4.out.trans ((one_alloc w4 (.cells #[.int .i64 cap2, .slice A2 n2 c2, .int .i64 sure2] 24)).mono HBw4.out.size))) (by omega)).mono ?_)
       rintro e w5 ⟨A3, n3, c3, he, hbt0, -, hbx⟩
       obtain ⟨⟨⟨cap3, data3, sure3⟩, e3⟩, hr3⟩ : ∃ r, cutP ⟨cap, data, sure⟩ k = r := ⟨_, rfl⟩
       rw [hr3] at he hbt0
       have he2 : e = .returned (.tuple #[.agg #[.int .i64 cap3, .slice A3 n3 c3, .int .i64 sure3], .int .i64 e3]) := he
       clear he
       subst he2
       have hbt : Bts w5 A3 n3 c3 data3 := hbt0
       have HR3 := Lib.hid hr3
       have hz3 : 1 = e3 := by have h := HZ3.out; rw [hr3] at h; exact h.symm
       subst hz3
       have hst3 := cut_stays HR3.out
       have HM3 := Lib.hid (show mayT cap3 n3 sure3 = false from by have h := hst3.1; rw [mayP] at h; simp only [hbt.len] at h; exact h.trans HMP.out)
       have q3 : (cap3 == cap) = true := by rw [beq_iff_eq]; exact hst3.2.1
       have HS3 := Lib.hid (show sameP ⟨cap3, data3, sure3⟩ ⟨cap, data, sure⟩ = true from sameP_iff.2 (hst3.2.2 (by decide)))
       clear hst3
       have hX : Below w4.heap.size w4 w5 := (after_one hbx).1
       have HBw5 := Lib.hid (HBw4.out.trans (hX.mono HBw4.out.size))
       have HXsw5 := Lib.hid (HXsw4.out.below hX)
       have HXb1w5 := Lib.hid (HXb1w4.out.below hX)
       have HXb2w5 := Lib.hid (show BoxT w5 w4.heap.size 24 cap2 A2 n2 c2 sure2 from (after_one hbx).2.2)
       have HD1w5 := Lib.hid (HD1w4.out.below hX)
       have HD2w5 := Lib.hid (HD2w4.out.below hX)
       have HD3w5 := Lib.hid hbt
       clear s0 s1 s2 b10 b11 b12
       obtain ⟨s0, s1, s2⟩ := (HXsw5.out.below (one_alloc w5 (.cells #[.int .i64 cap3, .slice A3 n3 c3, .int .i64 sure3] 24))).cells
       obtain ⟨b10, b11, b12⟩ := (HXb1w5.out.below (one_alloc w5 (.cells #[.int .i64 cap3, .slice A3 n3 c3, .int .i64 sure3] 24))).cells
       obtain ⟨b20, b21, b22⟩ := (HXb2w5.out.below (one_alloc w5 (.cells #[.int .i64 cap3, .slice A3 n3 c3, .int .i64 sure3] 24))).cells
       clear hbx hX hbt0 hbt hr3)
    | (go_at_call 13
       (with_reducible refine (stsync_at cap data sure A n c _ (HA.out.below (HBw3.out.trans ((one_alloc w3 (.cells #[.int .i64 cap1, .slice A1 n1 c1, .int .i64 sure1] 24)).mono HBw3.out.size))) (by omega)).mono ?_)
       rintro e w4 ⟨A2, n2, c2, he, hbt0, -, hbx⟩
       obtain ⟨⟨⟨cap2, data2, sure2⟩, e2⟩, hr2⟩ : ∃ r, syncP ⟨cap, data, sure⟩ = r := ⟨_, rfl⟩
       rw [hr2] at he hbt0
       have he2 : e = .returned (.tuple #[.agg #[.int .i64 cap2, .slice A2 n2 c2, .int .i64 sure2], .int .i64 e2]) := he
       clear he
       subst he2
       have hbt : Bts w4 A2 n2 c2 data2 := hbt0
       have HR2 := Lib.hid hr2
       have hz2 : 1 = e2 := by have h := HZ2.out; rw [hr2] at h; exact h.symm
       subst hz2
       have hst2 := cut_stays HR2.out
       have HM2 := Lib.hid (show mayT cap2 n2 sure2 = false from by have h := hst2.1; rw [mayP] at h; simp only [hbt.len] at h; exact h.trans HMP.out)
       have q2 : (cap2 == cap) = true := by rw [beq_iff_eq]; exact hst2.2.1
       have HS2 := Lib.hid (show sameP ⟨cap2, data2, sure2⟩ ⟨cap, data, sure⟩ = true from sameP_iff.2 (hst2.2.2 (by decide)))
       clear hst2
       have hX : Below w3.heap.size w3 w4 := (after_one hbx).1
       have HBw4 := Lib.hid (HBw3.out.trans (hX.mono HBw3.out.size))
       have HXsw4 := Lib.hid (HXsw3.out.below hX)
       have HXb1w4 := Lib.hid (show BoxT w4 w3.heap.size 24 cap1 A1 n1 c1 sure1 from (after_one hbx).2.2)
       have HD1w4 := Lib.hid (HD1w3.out.below hX)
       have HD2w4 := Lib.hid hbt
       clear s0 s1 s2
       obtain ⟨s0, s1, s2⟩ := (HXsw4.out.below (one_alloc w4 (.cells #[.int .i64 cap2, .slice A2 n2 c2, .int .i64 sure2] 24))).cells
       obtain ⟨b10, b11, b12⟩ := (HXb1w4.out.below (one_alloc w4 (.cells #[.int .i64 cap2, .slice A2 n2 c2, .int .i64 sure2] 24))).cells
       clear hbx hX hbt0 hbt hr2)
    | (go_at_call 11
       (with_reducible refine (stwrite_at cap data sure A n c _ b B m d (HA.out.below HBw2.out) (by omega) (HE.out.below HBw2.out)).mono ?_)
       rintro e w3 ⟨A1, n1, c1, he, hbt0, -, hbx⟩
       obtain ⟨⟨⟨cap1, data1, sure1⟩, e1⟩, hr1⟩ : ∃ r, writeP ⟨cap, data, sure⟩ b = r := ⟨_, rfl⟩
       rw [hr1] at he hbt0
       have he2 : e = .returned (.tuple #[.agg #[.int .i64 cap1, .slice A1 n1 c1, .int .i64 sure1], .int .i64 e1]) := he
       clear he
       subst he2
       have hbt : Bts w3 A1 n1 c1 data1 := hbt0
       have HR1 := Lib.hid hr1
       have hz1 : 1 = e1 := by have h := HZ1.out; rw [hr1] at h; exact h.symm
       subst hz1
       have hst1 := write_stays HR1.out
       have HM1 := Lib.hid (show mayT cap1 n1 sure1 = false from by have h := hst1.1; rw [mayP] at h; simp only [hbt.len] at h; exact h.trans HMP.out)
       have q1 : (cap1 == cap) = true := by rw [beq_iff_eq]; exact hst1.2.1
       have HS1 := Lib.hid (show sameP ⟨cap1, data1, sure1⟩ ⟨cap, data, sure⟩ = true from sameP_iff.2 (hst1.2.2 (by decide)))
       clear hst1
       have hX : Below w2.heap.size w2 w3 := hbx
       have HBw3 := Lib.hid (HBw2.out.trans (hX.mono HBw2.out.size))
       have HXsw3 := Lib.hid (HXsw2.out.below hX)
       have HD1w3 := Lib.hid hbt
       clear s0 s1 s2
       obtain ⟨s0, s1, s2⟩ := (HXsw3.out.below (one_alloc w3 (.cells #[.int .i64 cap1, .slice A1 n1 c1, .int .i64 sure1] 24))).cells
       clear hbx hX hbt0 hbt hr1))
  go_ret
  exact ⟨ret_bool (by simp [*]), HBw14.out⟩
set_option maxRecDepth 100000 in
set_option maxHeartbeats 4000000 in
theorem sstaysw_0_0_0 (s : Sp) (A B : Option Addr) (n c m d : Nat) (b : List Int) (k : Int) (w : World) (hb : Bts w A n c s.data) (h2 : Bts w B m d b) (h5 : n ≤ 5000) (h6 : m ≤ 5000) (hm : mayP s = true) (z1 : (writeP s b).2 = 0) (z2 : (syncP s).2 = 0) (z3 : (cutP s k).2 = 0) :
    Calls Try.prog 4 #[s.val A n c, .slice B m d, .int .i64 k] w (GBool true w) := by
  have hl := hb.len
  obtain ⟨cap, data, sure⟩ := s
  simp only at hb
  unfold Sp.val
  simp only
  have hn := hb.small
  have HT := Lib.hid (rfl : true = true)
  have HBw := Lib.hid (Below.refl w.heap.size w)
  have hmm : mayP ⟨cap, data, sure⟩ = mayT cap n sure := by rw [mayP]; simp only at hl; rw [hl]
  have h6' : (m : Int) ≤ 5000 := by omega
  have FN := Lib.hid (show decide (n ≤ 5000) = true from decide_eq_true h5)
  have HMP := Lib.hid hm
  have HM := Lib.hid (hmm.symm.trans hm)
  have HA := Lib.hid hb
  have HE := Lib.hid h2
  have HZ1 := Lib.hid z1
  have HZ2 := Lib.hid z2
  have HZ3 := Lib.hid z3
  clear hmm hm hb h2 hl z1 z2 z3
  go_enter Try.func4, Try.ntmps4
  go_wp2_with (first
    | (go_at_call 9
       refine (sawake_any _).mono ?_
       rintro e w1 ⟨he, hbx⟩
       rw [HT.out] at he
       subst he
       have hX : Below w.heap.size w w1 := (after_one hbx).1
       have HBw1 := Lib.hid (HBw.out.trans (hX.mono HBw.out.size))
       have HXsw1 := Lib.hid (show BoxT w1 w.heap.size 24 cap A n c sure from (after_one hbx).2.2)
       obtain ⟨s0, s1, s2⟩ := HXsw1.out.cells
       clear hbx hX)
    | (go_at_call 10
       (with_reducible refine (few_any _ A n c _ _ hn).mono ?_)
       rintro e w2 ⟨he, hbx⟩
       rw [FN.out] at he
       subst he
       have hX : Below w1.heap.size w1 w2 := hbx
       have HBw2 := Lib.hid (HBw1.out.trans (hX.mono HBw1.out.size))
       have HXsw2 := Lib.hid (HXsw1.out.below hX)
       clear s0 s1 s2
       obtain ⟨s0, s1, s2⟩ := HXsw2.out.cells
       clear hbx hX)
    | (go_at_call 23
       (with_reducible refine (stmay_any cap4 A4 n4 c4 sure4 _ HD4w10.out.small).mono ?_)
       rintro e w11 ⟨he, hbx⟩
       rw [HM4.out] at he
       subst he
       have hX : Below w10.heap.size w10 w11 := hbx
       have HBw11 := Lib.hid (HBw10.out.trans (hX.mono HBw10.out.size))
       have HXsw11 := Lib.hid (HXsw10.out.below hX)
       have HXb1w11 := Lib.hid (HXb1w10.out.below hX)
       have HXb2w11 := Lib.hid (HXb2w10.out.below hX)
       have HXb3w11 := Lib.hid (HXb3w10.out.below hX)
       have HXb4w11 := Lib.hid (HXb4w10.out.below hX)
       have HD1w11 := Lib.hid (HD1w10.out.below hX)
       have HD2w11 := Lib.hid (HD2w10.out.below hX)
       have HD3w11 := Lib.hid (HD3w10.out.below hX)
       have HD4w11 := Lib.hid (HD4w10.out.below hX)
       clear s0 s1 s2 b10 b11 b12 b20 b21 b22 b30 b31 b32 b40 b41 b42
       obtain ⟨s0, s1, s2⟩ := HXsw11.out.cells
       obtain ⟨b10, b11, b12⟩ := HXb1w11.out.cells
       obtain ⟨b20, b21, b22⟩ := HXb2w11.out.cells
       obtain ⟨b30, b31, b32⟩ := HXb3w11.out.cells
       obtain ⟨b40, b41, b42⟩ := HXb4w11.out.cells
       clear hbx hX)
    | (go_at_call 23
       (with_reducible refine (stmay_any cap3 A3 n3 c3 sure3 _ HD3w9.out.small).mono ?_)
       rintro e w10 ⟨he, hbx⟩
       rw [HM3.out] at he
       subst he
       have hX : Below w9.heap.size w9 w10 := hbx
       have HBw10 := Lib.hid (HBw9.out.trans (hX.mono HBw9.out.size))
       have HXsw10 := Lib.hid (HXsw9.out.below hX)
       have HXb1w10 := Lib.hid (HXb1w9.out.below hX)
       have HXb2w10 := Lib.hid (HXb2w9.out.below hX)
       have HXb3w10 := Lib.hid (HXb3w9.out.below hX)
       have HXb4w10 := Lib.hid (HXb4w9.out.below hX)
       have HD1w10 := Lib.hid (HD1w9.out.below hX)
       have HD2w10 := Lib.hid (HD2w9.out.below hX)
       have HD3w10 := Lib.hid (HD3w9.out.below hX)
       have HD4w10 := Lib.hid (HD4w9.out.below hX)
       clear s0 s1 s2 b10 b11 b12 b20 b21 b22 b30 b31 b32 b40 b41 b42
       obtain ⟨s0, s1, s2⟩ := HXsw10.out.cells
       obtain ⟨b10, b11, b12⟩ := HXb1w10.out.cells
       obtain ⟨b20, b21, b22⟩ := HXb2w10.out.cells
       obtain ⟨b30, b31, b32⟩ := HXb3w10.out.cells
       obtain ⟨b40, b41, b42⟩ := HXb4w10.out.cells
       clear hbx hX)
    | (go_at_call 23
       (with_reducible refine (stmay_any cap2 A2 n2 c2 sure2 _ HD2w8.out.small).mono ?_)
       rintro e w9 ⟨he, hbx⟩
       rw [HM2.out] at he
       subst he
       have hX : Below w8.heap.size w8 w9 := hbx
       have HBw9 := Lib.hid (HBw8.out.trans (hX.mono HBw8.out.size))
       have HXsw9 := Lib.hid (HXsw8.out.below hX)
       have HXb1w9 := Lib.hid (HXb1w8.out.below hX)
       have HXb2w9 := Lib.hid (HXb2w8.out.below hX)
       have HXb3w9 := Lib.hid (HXb3w8.out.below hX)
       have HXb4w9 := Lib.hid (HXb4w8.out.below hX)
       have HD1w9 := Lib.hid (HD1w8.out.below hX)
       have HD2w9 := Lib.hid (HD2w8.out.below hX)
       have HD3w9 := Lib.hid (HD3w8.out.below hX)
       have HD4w9 := Lib.hid (HD4w8.out.below hX)
       clear s0 s1 s2 b10 b11 b12 b20 b21 b22 b30 b31 b32 b40 b41 b42
       obtain ⟨s0, s1, s2⟩ := HXsw9.out.cells
       obtain ⟨b10, b11, b12⟩ := HXb1w9.out.cells
       obtain ⟨b20, b21, b22⟩ := HXb2w9.out.cells
       obtain ⟨b30, b31, b32⟩ := HXb3w9.out.cells
       obtain ⟨b40, b41, b42⟩ := HXb4w9.out.cells
       clear hbx hX)
    | (go_at_call 23
       (with_reducible refine (stmay_any cap1 A1 n1 c1 sure1 _ HD1w7.out.small).mono ?_)
       rintro e w8 ⟨he, hbx⟩
       rw [HM1.out] at he
       subst he
       have hX : Below w7.heap.size w7 w8 := hbx
       have HBw8 := Lib.hid (HBw7.out.trans (hX.mono HBw7.out.size))
       have HXsw8 := Lib.hid (HXsw7.out.below hX)
       have HXb1w8 := Lib.hid (HXb1w7.out.below hX)
       have HXb2w8 := Lib.hid (HXb2w7.out.below hX)
       have HXb3w8 := Lib.hid (HXb3w7.out.below hX)
       have HXb4w8 := Lib.hid (HXb4w7.out.below hX)
       have HD1w8 := Lib.hid (HD1w7.out.below hX)
       have HD2w8 := Lib.hid (HD2w7.out.below hX)
       have HD3w8 := Lib.hid (HD3w7.out.below hX)
       have HD4w8 := Lib.hid (HD4w7.out.below hX)
       clear s0 s1 s2 b10 b11 b12 b20 b21 b22 b30 b31 b32 b40 b41 b42
       obtain ⟨s0, s1, s2⟩ := HXsw8.out.cells
       obtain ⟨b10, b11, b12⟩ := HXb1w8.out.cells
       obtain ⟨b20, b21, b22⟩ := HXb2w8.out.cells
       obtain ⟨b30, b31, b32⟩ := HXb3w8.out.cells
       obtain ⟨b40, b41, b42⟩ := HXb4w8.out.cells
       clear hbx hX)
    | (go_at_call 23
       (with_reducible refine (stmay_any cap A n c sure _ hn).mono ?_)
       rintro e w7 ⟨he, hbx⟩
       rw [HM.out] at he
       subst he
       have hX : Below w6.heap.size w6 w7 := (after_one hbx).1
       have HBw7 := Lib.hid (HBw6.out.trans (hX.mono HBw6.out.size))
       have HXsw7 := Lib.hid (HXsw6.out.below hX)
       have HXb1w7 := Lib.hid (HXb1w6.out.below hX)
       have HXb2w7 := Lib.hid (HXb2w6.out.below hX)
       have HXb3w7 := Lib.hid (HXb3w6.out.below hX)
       have HXb4w7 := Lib.hid (show BoxT w7 w6.heap.size 24 cap4 A4 n4 c4 sure4 from (after_one hbx).2.2)
       have HD1w7 := Lib.hid (HD1w6.out.below hX)
       have HD2w7 := Lib.hid (HD2w6.out.below hX)
       have HD3w7 := Lib.hid (HD3w6.out.below hX)
       have HD4w7 := Lib.hid (HD4w6.out.below hX)
       clear s0 s1 s2 b10 b11 b12 b20 b21 b22 b30 b31 b32
       obtain ⟨s0, s1, s2⟩ := HXsw7.out.cells
       obtain ⟨b10, b11, b12⟩ := HXb1w7.out.cells
       obtain ⟨b20, b21, b22⟩ := HXb2w7.out.cells
       obtain ⟨b30, b31, b32⟩ := HXb3w7.out.cells
       obtain ⟨b40, b41, b42⟩ := HXb4w7.out.cells
       clear hbx hX)
    | (go_at_call 20
       (with_reducible refine (stcrash_at cap data sure A n c _ k (HA.out.below (HBw5.out.trans ((one_alloc w5 (.cells #[.int .i64 cap3, .slice A3 n3 c3, .int .i64 sure3] 24)).mono HBw5.out.size))) (by omega)).mono ?_)
       rintro e w6 ⟨A4, n4, c4, he, hbt0, -, hbx⟩
       obtain ⟨⟨cap4, data4, sure4⟩, hr4⟩ : ∃ r, crashP ⟨cap, data, sure⟩ k = r := ⟨_, rfl⟩
       rw [hr4] at he hbt0
       have he2 : e = .returned (.agg #[.int .i64 cap4, .slice A4 n4 c4, .int .i64 sure4]) := he
       clear he
       subst he2
       have hbt : Bts w6 A4 n4 c4 data4 := hbt0
       have HR4 := Lib.hid hr4
       have hst4 := crash_stays HR4.out
       have HM4 := Lib.hid (show mayT cap4 n4 sure4 = true from by have h := hst4.1; rw [mayP] at h; simp only [hbt.len] at h; exact h.trans HMP.out)
       have q4 : (cap4 == cap) = true := by rw [beq_iff_eq]; exact hst4.2
       clear hst4
       have hX : Below w5.heap.size w5 w6 := (after_one hbx).1
       have HBw6 := Lib.hid (HBw5.out.trans (hX.mono HBw5.out.size))
       have HXsw6 := Lib.hid (HXsw5.out.below hX)
       have HXb1w6 := Lib.hid (HXb1w5.out.below hX)
       have HXb2w6 := Lib.hid (HXb2w5.out.below hX)
       have HXb3w6 := Lib.hid (show BoxT w6 w5.heap.size 24 cap3 A3 n3 c3 sure3 from (after_one hbx).2.2)
       have HD1w6 := Lib.hid (HD1w5.out.below hX)
       have HD2w6 := Lib.hid (HD2w5.out.below hX)
       have HD3w6 := Lib.hid (HD3w5.out.below hX)
       have HD4w6 := Lib.hid hbt
       clear s0 s1 s2 b10 b11 b12 b20 b21 b22
       obtain ⟨s0, s1, s2⟩ := (HXsw6.out.below (one_alloc w6 (.cells #[.int .i64 cap4, .slice A4 n4 c4, .int .i64 sure4] 24))).cells
       obtain ⟨b10, b11, b12⟩ := (HXb1w6.out.below (one_alloc w6 (.cells #[.int .i64 cap4, .slice A4 n4 c4, .int .i64 sure4] 24))).cells
       obtain ⟨b20, b21, b22⟩ := (HXb2w6.out.below (one_alloc w6 (.cells #[.int .i64 cap4, .slice A4 n4 c4, .int .i64 sure4] 24))).cells
       obtain ⟨b30, b31, b32⟩ := (HXb3w6.out.below (one_alloc w6 (.cells #[.int .i64 cap4, .slice A4 n4 c4, .int .i64 sure4] 24))).cells
       clear hbx hX hbt0 hbt hr4)
    | (go_at_call 15
       (with_reducible refine (stcut_at cap data sure A n c _ k (HA.out.below (HBw4.out.trans ((one_alloc w4 (.cells #[.int .i64 cap2, .slice A2 n2 c2, .int .i64 sure2] 24)).mono HBw4.out.size))) (by omega)).mono ?_)
       rintro e w5 ⟨A3, n3, c3, he, hbt0, -, hbx⟩
       obtain ⟨⟨⟨cap3, data3, sure3⟩, e3⟩, hr3⟩ : ∃ r, cutP ⟨cap, data, sure⟩ k = r := ⟨_, rfl⟩
       rw [hr3] at he hbt0
       have he2 : e = .returned (.tuple #[.agg #[.int .i64 cap3, .slice A3 n3 c3, .int .i64 sure3], .int .i64 e3]) := he
       clear he
       subst he2
       have hbt : Bts w5 A3 n3 c3 data3 := hbt0
       have HR3 := Lib.hid hr3
       have hz3 : 0 = e3 := by have h := HZ3.out; rw [hr3] at h; exact h.symm
       subst hz3
       have hst3 := cut_stays HR3.out
       have HM3 := Lib.hid (show mayT cap3 n3 sure3 = true from by have h := hst3.1; rw [mayP] at h; simp only [hbt.len] at h; exact h.trans HMP.out)
       have q3 : (cap3 == cap) = true := by rw [beq_iff_eq]; exact hst3.2.1
       clear hst3
       have hX : Below w4.heap.size w4 w5 := (after_one hbx).1
       have HBw5 := Lib.hid (HBw4.out.trans (hX.mono HBw4.out.size))
       have HXsw5 := Lib.hid (HXsw4.out.below hX)
       have HXb1w5 := Lib.hid (HXb1w4.out.below hX)
       have HXb2w5 := Lib.hid (show BoxT w5 w4.heap.size 24 cap2 A2 n2 c2 sure2 from (after_one hbx).2.2)
       have HD1w5 := Lib.hid (HD1w4.out.below hX)
       have HD2w5 := Lib.hid (HD2w4.out.below hX)
       have HD3w5 := Lib.hid hbt
       clear s0 s1 s2 b10 b11 b12
       obtain ⟨s0, s1, s2⟩ := (HXsw5.out.below (one_alloc w5 (.cells #[.int .i64 cap3, .slice A3 n3 c3, .int .i64 sure3] 24))).cells
       obtain ⟨b10, b11, b12⟩ := (HXb1w5.out.below (one_alloc w5 (.cells #[.int .i64 cap3, .slice A3 n3 c3, .int .i64 sure3] 24))).cells
       obtain ⟨b20, b21, b22⟩ := (HXb2w5.out.below (one_alloc w5 (.cells #[.int .i64 cap3, .slice A3 n3 c3, .int .i64 sure3] 24))).cells
       clear hbx hX hbt0 hbt hr3)
    | (go_at_call 13
       (with_reducible refine (stsync_at cap data sure A n c _ (HA.out.below (HBw3.out.trans ((one_alloc w3 (.cells #[.int .i64 cap1, .slice A1 n1 c1, .int .i64 sure1] 24)).mono HBw3.out.size))) (by omega)).mono ?_)
       rintro e w4 ⟨A2, n2, c2, he, hbt0, -, hbx⟩
       obtain ⟨⟨⟨cap2, data2, sure2⟩, e2⟩, hr2⟩ : ∃ r, syncP ⟨cap, data, sure⟩ = r := ⟨_, rfl⟩
       rw [hr2] at he hbt0
       have he2 : e = .returned (.tuple #[.agg #[.int .i64 cap2, .slice A2 n2 c2, .int .i64 sure2], .int .i64 e2]) := he
       clear he
       subst he2
       have hbt : Bts w4 A2 n2 c2 data2 := hbt0
       have HR2 := Lib.hid hr2
       have hz2 : 0 = e2 := by have h := HZ2.out; rw [hr2] at h; exact h.symm
       subst hz2
       have hst2 := cut_stays HR2.out
       have HM2 := Lib.hid (show mayT cap2 n2 sure2 = true from by have h := hst2.1; rw [mayP] at h; simp only [hbt.len] at h; exact h.trans HMP.out)
       have q2 : (cap2 == cap) = true := by rw [beq_iff_eq]; exact hst2.2.1
       clear hst2
       have hX : Below w3.heap.size w3 w4 := (after_one hbx).1
       have HBw4 := Lib.hid (HBw3.out.trans (hX.mono HBw3.out.size))
       have HXsw4 := Lib.hid (HXsw3.out.below hX)
       have HXb1w4 := Lib.hid (show BoxT w4 w3.heap.size 24 cap1 A1 n1 c1 sure1 from (after_one hbx).2.2)
       have HD1w4 := Lib.hid (HD1w3.out.below hX)
       have HD2w4 := Lib.hid hbt
       clear s0 s1 s2
       obtain ⟨s0, s1, s2⟩ := (HXsw4.out.below (one_alloc w4 (.cells #[.int .i64 cap2, .slice A2 n2 c2, .int .i64 sure2] 24))).cells
       obtain ⟨b10, b11, b12⟩ := (HXb1w4.out.below (one_alloc w4 (.cells #[.int .i64 cap2, .slice A2 n2 c2, .int .i64 sure2] 24))).cells
       clear hbx hX hbt0 hbt hr2)
    | (go_at_call 11
       (with_reducible refine (stwrite_at cap data sure A n c _ b B m d (HA.out.below HBw2.out) (by omega) (HE.out.below HBw2.out)).mono ?_)
       rintro e w3 ⟨A1, n1, c1, he, hbt0, -, hbx⟩
       obtain ⟨⟨⟨cap1, data1, sure1⟩, e1⟩, hr1⟩ : ∃ r, writeP ⟨cap, data, sure⟩ b = r := ⟨_, rfl⟩
       rw [hr1] at he hbt0
       have he2 : e = .returned (.tuple #[.agg #[.int .i64 cap1, .slice A1 n1 c1, .int .i64 sure1], .int .i64 e1]) := he
       clear he
       subst he2
       have hbt : Bts w3 A1 n1 c1 data1 := hbt0
       have HR1 := Lib.hid hr1
       have hz1 : 0 = e1 := by have h := HZ1.out; rw [hr1] at h; exact h.symm
       subst hz1
       have hst1 := write_stays HR1.out
       have HM1 := Lib.hid (show mayT cap1 n1 sure1 = true from by have h := hst1.1; rw [mayP] at h; simp only [hbt.len] at h; exact h.trans HMP.out)
       have q1 : (cap1 == cap) = true := by rw [beq_iff_eq]; exact hst1.2.1
       clear hst1
       have hX : Below w2.heap.size w2 w3 := hbx
       have HBw3 := Lib.hid (HBw2.out.trans (hX.mono HBw2.out.size))
       have HXsw3 := Lib.hid (HXsw2.out.below hX)
       have HD1w3 := Lib.hid hbt
       clear s0 s1 s2
       obtain ⟨s0, s1, s2⟩ := (HXsw3.out.below (one_alloc w3 (.cells #[.int .i64 cap1, .slice A1 n1 c1, .int .i64 sure1] 24))).cells
       clear hbx hX hbt0 hbt hr1))
  go_ret
  exact ⟨ret_bool (by simp [*]), HBw11.out⟩
set_option maxRecDepth 100000 in
set_option maxHeartbeats 4000000 in
theorem sstaysw_0_0_1 (s : Sp) (A B : Option Addr) (n c m d : Nat) (b : List Int) (k : Int) (w : World) (hb : Bts w A n c s.data) (h2 : Bts w B m d b) (h5 : n ≤ 5000) (h6 : m ≤ 5000) (hm : mayP s = true) (z1 : (writeP s b).2 = 0) (z2 : (syncP s).2 = 0) (z3 : (cutP s k).2 = 1) :
    Calls Try.prog 4 #[s.val A n c, .slice B m d, .int .i64 k] w (GBool true w) := by
  have hl := hb.len
  obtain ⟨cap, data, sure⟩ := s
  simp only at hb
  unfold Sp.val
  simp only
  have hn := hb.small
  have HT := Lib.hid (rfl : true = true)
  have HBw := Lib.hid (Below.refl w.heap.size w)
  have hmm : mayP ⟨cap, data, sure⟩ = mayT cap n sure := by rw [mayP]; simp only at hl; rw [hl]
  have h6' : (m : Int) ≤ 5000 := by omega
  have FN := Lib.hid (show decide (n ≤ 5000) = true from decide_eq_true h5)
  have HMP := Lib.hid hm
  have HM := Lib.hid (hmm.symm.trans hm)
  have HA := Lib.hid hb
  have HE := Lib.hid h2
  have HZ1 := Lib.hid z1
  have HZ2 := Lib.hid z2
  have HZ3 := Lib.hid z3
  clear hmm hm hb h2 hl z1 z2 z3
  go_enter Try.func4, Try.ntmps4
  go_wp2_with (first
    | (go_at_call 9
       refine (sawake_any _).mono ?_
       rintro e w1 ⟨he, hbx⟩
       rw [HT.out] at he
       subst he
       have hX : Below w.heap.size w w1 := (after_one hbx).1
       have HBw1 := Lib.hid (HBw.out.trans (hX.mono HBw.out.size))
       have HXsw1 := Lib.hid (show BoxT w1 w.heap.size 24 cap A n c sure from (after_one hbx).2.2)
       obtain ⟨s0, s1, s2⟩ := HXsw1.out.cells
       clear hbx hX)
    | (go_at_call 10
       (with_reducible refine (few_any _ A n c _ _ hn).mono ?_)
       rintro e w2 ⟨he, hbx⟩
       rw [FN.out] at he
       subst he
       have hX : Below w1.heap.size w1 w2 := hbx
       have HBw2 := Lib.hid (HBw1.out.trans (hX.mono HBw1.out.size))
       have HXsw2 := Lib.hid (HXsw1.out.below hX)
       clear s0 s1 s2
       obtain ⟨s0, s1, s2⟩ := HXsw2.out.cells
       clear hbx hX)
    | (go_at_call 23
       (with_reducible refine (stmay_any cap4 A4 n4 c4 sure4 _ HD4w11.out.small).mono ?_)
       rintro e w12 ⟨he, hbx⟩
       rw [HM4.out] at he
       subst he
       have hX : Below w11.heap.size w11 w12 := hbx
       have HBw12 := Lib.hid (HBw11.out.trans (hX.mono HBw11.out.size))
       have HXsw12 := Lib.hid (HXsw11.out.below hX)
       have HXb1w12 := Lib.hid (HXb1w11.out.below hX)
       have HXb2w12 := Lib.hid (HXb2w11.out.below hX)
       have HXb3w12 := Lib.hid (HXb3w11.out.below hX)
       have HXb4w12 := Lib.hid (HXb4w11.out.below hX)
       have HD1w12 := Lib.hid (HD1w11.out.below hX)
       have HD2w12 := Lib.hid (HD2w11.out.below hX)
       have HD3w12 := Lib.hid (HD3w11.out.below hX)
       have HD4w12 := Lib.hid (HD4w11.out.below hX)
       clear s0 s1 s2 b10 b11 b12 b20 b21 b22 b30 b31 b32 b40 b41 b42
       obtain ⟨s0, s1, s2⟩ := HXsw12.out.cells
       obtain ⟨b10, b11, b12⟩ := HXb1w12.out.cells
       obtain ⟨b20, b21, b22⟩ := HXb2w12.out.cells
       obtain ⟨b30, b31, b32⟩ := HXb3w12.out.cells
       obtain ⟨b40, b41, b42⟩ := HXb4w12.out.cells
       clear hbx hX)
    | (go_at_call 23
       (with_reducible refine (stmay_any cap3 A3 n3 c3 sure3 _ HD3w10.out.small).mono ?_)
       rintro e w11 ⟨he, hbx⟩
       rw [HM3.out] at he
       subst he
       have hX : Below w10.heap.size w10 w11 := hbx
       have HBw11 := Lib.hid (HBw10.out.trans (hX.mono HBw10.out.size))
       have HXsw11 := Lib.hid (HXsw10.out.below hX)
       have HXb1w11 := Lib.hid (HXb1w10.out.below hX)
       have HXb2w11 := Lib.hid (HXb2w10.out.below hX)
       have HXb3w11 := Lib.hid (HXb3w10.out.below hX)
       have HXb4w11 := Lib.hid (HXb4w10.out.below hX)
       have HD1w11 := Lib.hid (HD1w10.out.below hX)
       have HD2w11 := Lib.hid (HD2w10.out.below hX)
       have HD3w11 := Lib.hid (HD3w10.out.below hX)
       have HD4w11 := Lib.hid (HD4w10.out.below hX)
       clear s0 s1 s2 b10 b11 b12 b20 b21 b22 b30 b31 b32 b40 b41 b42
       obtain ⟨s0, s1, s2⟩ := HXsw11.out.cells
       obtain ⟨b10, b11, b12⟩ := HXb1w11.out.cells
       obtain ⟨b20, b21, b22⟩ := HXb2w11.out.cells
       obtain ⟨b30, b31, b32⟩ := HXb3w11.out.cells
       obtain ⟨b40, b41, b42⟩ := HXb4w11.out.cells
       clear hbx hX)
    | (go_at_call 23
       (with_reducible refine (stmay_any cap2 A2 n2 c2 sure2 _ HD2w9.out.small).mono ?_)
       rintro e w10 ⟨he, hbx⟩
       rw [HM2.out] at he
       subst he
       have hX : Below w9.heap.size w9 w10 := hbx
       have HBw10 := Lib.hid (HBw9.out.trans (hX.mono HBw9.out.size))
       have HXsw10 := Lib.hid (HXsw9.out.below hX)
       have HXb1w10 := Lib.hid (HXb1w9.out.below hX)
       have HXb2w10 := Lib.hid (HXb2w9.out.below hX)
       have HXb3w10 := Lib.hid (HXb3w9.out.below hX)
       have HXb4w10 := Lib.hid (HXb4w9.out.below hX)
       have HD1w10 := Lib.hid (HD1w9.out.below hX)
       have HD2w10 := Lib.hid (HD2w9.out.below hX)
       have HD3w10 := Lib.hid (HD3w9.out.below hX)
       have HD4w10 := Lib.hid (HD4w9.out.below hX)
       clear s0 s1 s2 b10 b11 b12 b20 b21 b22 b30 b31 b32 b40 b41 b42
       obtain ⟨s0, s1, s2⟩ := HXsw10.out.cells
       obtain ⟨b10, b11, b12⟩ := HXb1w10.out.cells
       obtain ⟨b20, b21, b22⟩ := HXb2w10.out.cells
       obtain ⟨b30, b31, b32⟩ := HXb3w10.out.cells
       obtain ⟨b40, b41, b42⟩ := HXb4w10.out.cells
       clear hbx hX)
    | (go_at_call 23
       (with_reducible refine (stmay_any cap1 A1 n1 c1 sure1 _ HD1w8.out.small).mono ?_)
       rintro e w9 ⟨he, hbx⟩
       rw [HM1.out] at he
       subst he
       have hX : Below w8.heap.size w8 w9 := hbx
       have HBw9 := Lib.hid (HBw8.out.trans (hX.mono HBw8.out.size))
       have HXsw9 := Lib.hid (HXsw8.out.below hX)
       have HXb1w9 := Lib.hid (HXb1w8.out.below hX)
       have HXb2w9 := Lib.hid (HXb2w8.out.below hX)
       have HXb3w9 := Lib.hid (HXb3w8.out.below hX)
       have HXb4w9 := Lib.hid (HXb4w8.out.below hX)
       have HD1w9 := Lib.hid (HD1w8.out.below hX)
       have HD2w9 := Lib.hid (HD2w8.out.below hX)
       have HD3w9 := Lib.hid (HD3w8.out.below hX)
       have HD4w9 := Lib.hid (HD4w8.out.below hX)
       clear s0 s1 s2 b10 b11 b12 b20 b21 b22 b30 b31 b32 b40 b41 b42
       obtain ⟨s0, s1, s2⟩ := HXsw9.out.cells
       obtain ⟨b10, b11, b12⟩ := HXb1w9.out.cells
       obtain ⟨b20, b21, b22⟩ := HXb2w9.out.cells
       obtain ⟨b30, b31, b32⟩ := HXb3w9.out.cells
       obtain ⟨b40, b41, b42⟩ := HXb4w9.out.cells
       clear hbx hX)
    | (go_at_call 23
       (with_reducible refine (stmay_any cap A n c sure _ hn).mono ?_)
       rintro e w8 ⟨he, hbx⟩
       rw [HM.out] at he
       subst he
       have hX : Below w7.heap.size w7 w8 := hbx
       have HBw8 := Lib.hid (HBw7.out.trans (hX.mono HBw7.out.size))
       have HXsw8 := Lib.hid (HXsw7.out.below hX)
       have HXb1w8 := Lib.hid (HXb1w7.out.below hX)
       have HXb2w8 := Lib.hid (HXb2w7.out.below hX)
       have HXb3w8 := Lib.hid (HXb3w7.out.below hX)
       have HXb4w8 := Lib.hid (HXb4w7.out.below hX)
       have HD1w8 := Lib.hid (HD1w7.out.below hX)
       have HD2w8 := Lib.hid (HD2w7.out.below hX)
       have HD3w8 := Lib.hid (HD3w7.out.below hX)
       have HD4w8 := Lib.hid (HD4w7.out.below hX)
       clear s0 s1 s2 b10 b11 b12 b20 b21 b22 b30 b31 b32 b40 b41 b42
       obtain ⟨s0, s1, s2⟩ := HXsw8.out.cells
       obtain ⟨b10, b11, b12⟩ := HXb1w8.out.cells
       obtain ⟨b20, b21, b22⟩ := HXb2w8.out.cells
       obtain ⟨b30, b31, b32⟩ := HXb3w8.out.cells
       obtain ⟨b40, b41, b42⟩ := HXb4w8.out.cells
       clear hbx hX)
    | (go_at_call 24
       (with_reducible refine (stsame_at cap3 data3 sure3 A3 n3 c3 _ cap data sure A n c (HD3w6.out.more (.cells #[.int .i64 cap4, .slice A4 n4 c4, .int .i64 sure4] 24)) (HA.out.below (HBw6.out.trans ((one_alloc w6 (.cells #[.int .i64 cap4, .slice A4 n4 c4, .int .i64 sure4] 24)).mono HBw6.out.size)))).mono ?_)
       rintro e w7 ⟨he, hbx⟩
       rw [HS3.out] at he
       subst he
       have hX : Below w6.heap.size w6 w7 := (after_one hbx).1
       have HBw7 := Lib.hid (HBw6.out.trans (hX.mono HBw6.out.size))
       have HXsw7 := Lib.hid (HXsw6.out.below hX)
       have HXb1w7 := Lib.hid (HXb1w6.out.below hX)
       have HXb2w7 := Lib.hid (HXb2w6.out.below hX)
       have HXb3w7 := Lib.hid (HXb3w6.out.below hX)
       have HXb4w7 := Lib.hid (show BoxT w7 w6.heap.size 24 cap4 A4 n4 c4 sure4 from (after_one hbx).2.2)
       have HD1w7 := Lib.hid (HD1w6.out.below hX)
       have HD2w7 := Lib.hid (HD2w6.out.below hX)
       have HD3w7 := Lib.hid (HD3w6.out.below hX)
       have HD4w7 := Lib.hid (HD4w6.out.below hX)
       clear s0 s1 s2 b10 b11 b12 b20 b21 b22 b30 b31 b32
       obtain ⟨s0, s1, s2⟩ := HXsw7.out.cells
       obtain ⟨b10, b11, b12⟩ := HXb1w7.out.cells
       obtain ⟨b20, b21, b22⟩ := HXb2w7.out.cells
       obtain ⟨b30, b31, b32⟩ := HXb3w7.out.cells
       obtain ⟨b40, b41, b42⟩ := HXb4w7.out.cells
       clear hbx hX)
    | (go_at_call 20
       (with_reducible refine (stcrash_at cap data sure A n c _ k (HA.out.below (HBw5.out.trans ((one_alloc w5 (.cells #[.int .i64 cap3, .slice A3 n3 c3, .int .i64 sure3] 24)).mono HBw5.out.size))) (by omega)).mono ?_)
       rintro e w6 ⟨A4, n4, c4, he, hbt0, -, hbx⟩
       obtain ⟨⟨cap4, data4, sure4⟩, hr4⟩ : ∃ r, crashP ⟨cap, data, sure⟩ k = r := ⟨_, rfl⟩
       rw [hr4] at he hbt0
       have he2 : e = .returned (.agg #[.int .i64 cap4, .slice A4 n4 c4, .int .i64 sure4]) := he
       clear he
       subst he2
       have hbt : Bts w6 A4 n4 c4 data4 := hbt0
       have HR4 := Lib.hid hr4
       have hst4 := crash_stays HR4.out
       have HM4 := Lib.hid (show mayT cap4 n4 sure4 = true from by have h := hst4.1; rw [mayP] at h; simp only [hbt.len] at h; exact h.trans HMP.out)
       have q4 : (cap4 == cap) = true := by rw [beq_iff_eq]; exact hst4.2
       clear hst4
       have hX : Below w5.heap.size w5 w6 := (after_one hbx).1
       have HBw6 := Lib.hid (HBw5.out.trans (hX.mono HBw5.out.size))
       have HXsw6 := Lib.hid (HXsw5.out.below hX)
       have HXb1w6 := Lib.hid (HXb1w5.out.below hX)
       have HXb2w6 := Lib.hid (HXb2w5.out.below hX)
       have HXb3w6 := Lib.hid (show BoxT w6 w5.heap.size 24 cap3 A3 n3 c3 sure3 from (after_one hbx).2.2)
       have HD1w6 := Lib.hid (HD1w5.out.below hX)
       have HD2w6 := Lib.hid (HD2w5.out.below hX)
       have HD3w6 := Lib.hid (HD3w5.out.below hX)
       have HD4w6 := Lib.hid hbt
       clear s0 s1 s2 b10 b11 b12 b20 b21 b22
       obtain ⟨s0, s1, s2⟩ := (HXsw6.out.below (one_alloc w6 (.cells #[.int .i64 cap4, .slice A4 n4 c4, .int .i64 sure4] 24))).cells
       obtain ⟨b10, b11, b12⟩ := (HXb1w6.out.below (one_alloc w6 (.cells #[.int .i64 cap4, .slice A4 n4 c4, .int .i64 sure4] 24))).cells
       obtain ⟨b20, b21, b22⟩ := (HXb2w6.out.below (one_alloc w6 (.cells #[.int .i64 cap4, .slice A4 n4 c4, .int .i64 sure4] 24))).cells
       obtain ⟨b30, b31, b32⟩ := (HXb3w6.out.below (one_alloc w6 (.cells #[.int .i64 cap4, .slice A4 n4 c4, .int .i64 sure4] 24))).cells
       clear hbx hX hbt0 hbt hr4)
    | (go_at_call 15
       (with_reducible refine (stcut_at cap data sure A n c _ k (HA.out.below (HBw4.out.trans ((one_alloc w4 (.cells #[.int .i64 cap2, .slice A2 n2 c2, .int .i64 sure2] 24)).mono HBw4.out.size))) (by omega)).mono ?_)
       rintro e w5 ⟨A3, n3, c3, he, hbt0, -, hbx⟩
       obtain ⟨⟨⟨cap3, data3, sure3⟩, e3⟩, hr3⟩ : ∃ r, cutP ⟨cap, data, sure⟩ k = r := ⟨_, rfl⟩
       rw [hr3] at he hbt0
       have he2 : e = .returned (.tuple #[.agg #[.int .i64 cap3, .slice A3 n3 c3, .int .i64 sure3], .int .i64 e3]) := he
       clear he
       subst he2
       have hbt : Bts w5 A3 n3 c3 data3 := hbt0
       have HR3 := Lib.hid hr3
       have hz3 : 1 = e3 := by have h := HZ3.out; rw [hr3] at h; exact h.symm
       subst hz3
       have hst3 := cut_stays HR3.out
       have HM3 := Lib.hid (show mayT cap3 n3 sure3 = true from by have h := hst3.1; rw [mayP] at h; simp only [hbt.len] at h; exact h.trans HMP.out)
       have q3 : (cap3 == cap) = true := by rw [beq_iff_eq]; exact hst3.2.1
       have HS3 := Lib.hid (show sameP ⟨cap3, data3, sure3⟩ ⟨cap, data, sure⟩ = true from sameP_iff.2 (hst3.2.2 (by decide)))
       clear hst3
       have hX : Below w4.heap.size w4 w5 := (after_one hbx).1
       have HBw5 := Lib.hid (HBw4.out.trans (hX.mono HBw4.out.size))
       have HXsw5 := Lib.hid (HXsw4.out.below hX)
       have HXb1w5 := Lib.hid (HXb1w4.out.below hX)
       have HXb2w5 := Lib.hid (show BoxT w5 w4.heap.size 24 cap2 A2 n2 c2 sure2 from (after_one hbx).2.2)
       have HD1w5 := Lib.hid (HD1w4.out.below hX)
       have HD2w5 := Lib.hid (HD2w4.out.below hX)
       have HD3w5 := Lib.hid hbt
       clear s0 s1 s2 b10 b11 b12
       obtain ⟨s0, s1, s2⟩ := (HXsw5.out.below (one_alloc w5 (.cells #[.int .i64 cap3, .slice A3 n3 c3, .int .i64 sure3] 24))).cells
       obtain ⟨b10, b11, b12⟩ := (HXb1w5.out.below (one_alloc w5 (.cells #[.int .i64 cap3, .slice A3 n3 c3, .int .i64 sure3] 24))).cells
       obtain ⟨b20, b21, b22⟩ := (HXb2w5.out.below (one_alloc w5 (.cells #[.int .i64 cap3, .slice A3 n3 c3, .int .i64 sure3] 24))).cells
       clear hbx hX hbt0 hbt hr3)
    | (go_at_call 13
       (with_reducible refine (stsync_at cap data sure A n c _ (HA.out.below (HBw3.out.trans ((one_alloc w3 (.cells #[.int .i64 cap1, .slice A1 n1 c1, .int .i64 sure1] 24)).mono HBw3.out.size))) (by omega)).mono ?_)
       rintro e w4 ⟨A2, n2, c2, he, hbt0, -, hbx⟩
       obtain ⟨⟨⟨cap2, data2, sure2⟩, e2⟩, hr2⟩ : ∃ r, syncP ⟨cap, data, sure⟩ = r := ⟨_, rfl⟩
       rw [hr2] at he hbt0
       have he2 : e = .returned (.tuple #[.agg #[.int .i64 cap2, .slice A2 n2 c2, .int .i64 sure2], .int .i64 e2]) := he
       clear he
       subst he2
       have hbt : Bts w4 A2 n2 c2 data2 := hbt0
       have HR2 := Lib.hid hr2
       have hz2 : 0 = e2 := by have h := HZ2.out; rw [hr2] at h; exact h.symm
       subst hz2
       have hst2 := cut_stays HR2.out
       have HM2 := Lib.hid (show mayT cap2 n2 sure2 = true from by have h := hst2.1; rw [mayP] at h; simp only [hbt.len] at h; exact h.trans HMP.out)
       have q2 : (cap2 == cap) = true := by rw [beq_iff_eq]; exact hst2.2.1
       clear hst2
       have hX : Below w3.heap.size w3 w4 := (after_one hbx).1
       have HBw4 := Lib.hid (HBw3.out.trans (hX.mono HBw3.out.size))
       have HXsw4 := Lib.hid (HXsw3.out.below hX)
       have HXb1w4 := Lib.hid (show BoxT w4 w3.heap.size 24 cap1 A1 n1 c1 sure1 from (after_one hbx).2.2)
       have HD1w4 := Lib.hid (HD1w3.out.below hX)
       have HD2w4 := Lib.hid hbt
       clear s0 s1 s2
       obtain ⟨s0, s1, s2⟩ := (HXsw4.out.below (one_alloc w4 (.cells #[.int .i64 cap2, .slice A2 n2 c2, .int .i64 sure2] 24))).cells
       obtain ⟨b10, b11, b12⟩ := (HXb1w4.out.below (one_alloc w4 (.cells #[.int .i64 cap2, .slice A2 n2 c2, .int .i64 sure2] 24))).cells
       clear hbx hX hbt0 hbt hr2)
    | (go_at_call 11
       (with_reducible refine (stwrite_at cap data sure A n c _ b B m d (HA.out.below HBw2.out) (by omega) (HE.out.below HBw2.out)).mono ?_)
       rintro e w3 ⟨A1, n1, c1, he, hbt0, -, hbx⟩
       obtain ⟨⟨⟨cap1, data1, sure1⟩, e1⟩, hr1⟩ : ∃ r, writeP ⟨cap, data, sure⟩ b = r := ⟨_, rfl⟩
       rw [hr1] at he hbt0
       have he2 : e = .returned (.tuple #[.agg #[.int .i64 cap1, .slice A1 n1 c1, .int .i64 sure1], .int .i64 e1]) := he
       clear he
       subst he2
       have hbt : Bts w3 A1 n1 c1 data1 := hbt0
       have HR1 := Lib.hid hr1
       have hz1 : 0 = e1 := by have h := HZ1.out; rw [hr1] at h; exact h.symm
       subst hz1
       have hst1 := write_stays HR1.out
       have HM1 := Lib.hid (show mayT cap1 n1 sure1 = true from by have h := hst1.1; rw [mayP] at h; simp only [hbt.len] at h; exact h.trans HMP.out)
       have q1 : (cap1 == cap) = true := by rw [beq_iff_eq]; exact hst1.2.1
       clear hst1
       have hX : Below w2.heap.size w2 w3 := hbx
       have HBw3 := Lib.hid (HBw2.out.trans (hX.mono HBw2.out.size))
       have HXsw3 := Lib.hid (HXsw2.out.below hX)
       have HD1w3 := Lib.hid hbt
       clear s0 s1 s2
       obtain ⟨s0, s1, s2⟩ := (HXsw3.out.below (one_alloc w3 (.cells #[.int .i64 cap1, .slice A1 n1 c1, .int .i64 sure1] 24))).cells
       clear hbx hX hbt0 hbt hr1))
  go_ret
  exact ⟨ret_bool (by simp [*]), HBw12.out⟩
set_option maxRecDepth 100000 in
set_option maxHeartbeats 4000000 in
theorem sstaysw_12_0_0 (s : Sp) (A B : Option Addr) (n c m d : Nat) (b : List Int) (k : Int) (w : World) (hb : Bts w A n c s.data) (h2 : Bts w B m d b) (h5 : n ≤ 5000) (h6 : m ≤ 5000) (hm : mayP s = true) (z1 : (writeP s b).2 = 12) (z2 : (syncP s).2 = 0) (z3 : (cutP s k).2 = 0) :
    Calls Try.prog 4 #[s.val A n c, .slice B m d, .int .i64 k] w (GBool true w) := by
  have hl := hb.len
  obtain ⟨cap, data, sure⟩ := s
  simp only at hb
  unfold Sp.val
  simp only
  have hn := hb.small
  have HT := Lib.hid (rfl : true = true)
  have HBw := Lib.hid (Below.refl w.heap.size w)
  have hmm : mayP ⟨cap, data, sure⟩ = mayT cap n sure := by rw [mayP]; simp only at hl; rw [hl]
  have h6' : (m : Int) ≤ 5000 := by omega
  have FN := Lib.hid (show decide (n ≤ 5000) = true from decide_eq_true h5)
  have HMP := Lib.hid hm
  have HM := Lib.hid (hmm.symm.trans hm)
  have HA := Lib.hid hb
  have HE := Lib.hid h2
  have HZ1 := Lib.hid z1
  have HZ2 := Lib.hid z2
  have HZ3 := Lib.hid z3
  clear hmm hm hb h2 hl z1 z2 z3
  go_enter Try.func4, Try.ntmps4
  go_wp2_with (first
    | (go_at_call 9
       refine (sawake_any _).mono ?_
       rintro e w1 ⟨he, hbx⟩
       rw [HT.out] at he
       subst he
       have hX : Below w.heap.size w w1 := (after_one hbx).1
       have HBw1 := Lib.hid (HBw.out.trans (hX.mono HBw.out.size))
       have HXsw1 := Lib.hid (show BoxT w1 w.heap.size 24 cap A n c sure from (after_one hbx).2.2)
       obtain ⟨s0, s1, s2⟩ := HXsw1.out.cells
       clear hbx hX)
    | (go_at_call 10
       (with_reducible refine (few_any _ A n c _ _ hn).mono ?_)
       rintro e w2 ⟨he, hbx⟩
       rw [FN.out] at he
       subst he
       have hX : Below w1.heap.size w1 w2 := hbx
       have HBw2 := Lib.hid (HBw1.out.trans (hX.mono HBw1.out.size))
       have HXsw2 := Lib.hid (HXsw1.out.below hX)
       clear s0 s1 s2
       obtain ⟨s0, s1, s2⟩ := HXsw2.out.cells
       clear hbx hX)
    | (go_at_call 23
       (with_reducible refine (stmay_any cap4 A4 n4 c4 sure4 _ HD4w11.out.small).mono ?_)
       rintro e w12 ⟨he, hbx⟩
       rw [HM4.out] at he
       subst he
       have hX : Below w11.heap.size w11 w12 := hbx
       have HBw12 := Lib.hid (HBw11.out.trans (hX.mono HBw11.out.size))
       have HXsw12 := Lib.hid (HXsw11.out.below hX)
       have HXb1w12 := Lib.hid (HXb1w11.out.below hX)
       have HXb2w12 := Lib.hid (HXb2w11.out.below hX)
       have HXb3w12 := Lib.hid (HXb3w11.out.below hX)
       have HXb4w12 := Lib.hid (HXb4w11.out.below hX)
       have HD1w12 := Lib.hid (HD1w11.out.below hX)
       have HD2w12 := Lib.hid (HD2w11.out.below hX)
       have HD3w12 := Lib.hid (HD3w11.out.below hX)
       have HD4w12 := Lib.hid (HD4w11.out.below hX)
       clear s0 s1 s2 b10 b11 b12 b20 b21 b22 b30 b31 b32 b40 b41 b42
       obtain ⟨s0, s1, s2⟩ := HXsw12.out.cells
       obtain ⟨b10, b11, b12⟩ := HXb1w12.out.cells
       obtain ⟨b20, b21, b22⟩ := HXb2w12.out.cells
       obtain ⟨b30, b31, b32⟩ := HXb3w12.out.cells
       obtain ⟨b40, b41, b42⟩ := HXb4w12.out.cells
       clear hbx hX)
    | (go_at_call 23
       (with_reducible refine (stmay_any cap3 A3 n3 c3 sure3 _ HD3w10.out.small).mono ?_)
       rintro e w11 ⟨he, hbx⟩
       rw [HM3.out] at he
       subst he
       have hX : Below w10.heap.size w10 w11 := hbx
       have HBw11 := Lib.hid (HBw10.out.trans (hX.mono HBw10.out.size))
       have HXsw11 := Lib.hid (HXsw10.out.below hX)
       have HXb1w11 := Lib.hid (HXb1w10.out.below hX)
       have HXb2w11 := Lib.hid (HXb2w10.out.below hX)
       have HXb3w11 := Lib.hid (HXb3w10.out.below hX)
       have HXb4w11 := Lib.hid (HXb4w10.out.below hX)
       have HD1w11 := Lib.hid (HD1w10.out.below hX)
       have HD2w11 := Lib.hid (HD2w10.out.below hX)
       have HD3w11 := Lib.hid (HD3w10.out.below hX)
       have HD4w11 := Lib.hid (HD4w10.out.below hX)
       clear s0 s1 s2 b10 b11 b12 b20 b21 b22 b30 b31 b32 b40 b41 b42
       obtain ⟨s0, s1, s2⟩ := HXsw11.out.cells
       obtain ⟨b10, b11, b12⟩ := HXb1w11.out.cells
       obtain ⟨b20, b21, b22⟩ := HXb2w11.out.cells
       obtain ⟨b30, b31, b32⟩ := HXb3w11.out.cells
       obtain ⟨b40, b41, b42⟩ := HXb4w11.out.cells
       clear hbx hX)
    | (go_at_call 23
       (with_reducible refine (stmay_any cap2 A2 n2 c2 sure2 _ HD2w9.out.small).mono ?_)
       rintro e w10 ⟨he, hbx⟩
       rw [HM2.out] at he
       subst he
       have hX : Below w9.heap.size w9 w10 := hbx
       have HBw10 := Lib.hid (HBw9.out.trans (hX.mono HBw9.out.size))
       have HXsw10 := Lib.hid (HXsw9.out.below hX)
       have HXb1w10 := Lib.hid (HXb1w9.out.below hX)
       have HXb2w10 := Lib.hid (HXb2w9.out.below hX)
       have HXb3w10 := Lib.hid (HXb3w9.out.below hX)
       have HXb4w10 := Lib.hid (HXb4w9.out.below hX)
       have HD1w10 := Lib.hid (HD1w9.out.below hX)
       have HD2w10 := Lib.hid (HD2w9.out.below hX)
       have HD3w10 := Lib.hid (HD3w9.out.below hX)
       have HD4w10 := Lib.hid (HD4w9.out.below hX)
       clear s0 s1 s2 b10 b11 b12 b20 b21 b22 b30 b31 b32 b40 b41 b42
       obtain ⟨s0, s1, s2⟩ := HXsw10.out.cells
       obtain ⟨b10, b11, b12⟩ := HXb1w10.out.cells
       obtain ⟨b20, b21, b22⟩ := HXb2w10.out.cells
       obtain ⟨b30, b31, b32⟩ := HXb3w10.out.cells
       obtain ⟨b40, b41, b42⟩ := HXb4w10.out.cells
       clear hbx hX)
    | (go_at_call 23
       (with_reducible refine (stmay_any cap1 A1 n1 c1 sure1 _ HD1w8.out.small).mono ?_)
       rintro e w9 ⟨he, hbx⟩
       rw [HM1.out] at he
       subst he
       have hX : Below w8.heap.size w8 w9 := hbx
       have HBw9 := Lib.hid (HBw8.out.trans (hX.mono HBw8.out.size))
       have HXsw9 := Lib.hid (HXsw8.out.below hX)
       have HXb1w9 := Lib.hid (HXb1w8.out.below hX)
       have HXb2w9 := Lib.hid (HXb2w8.out.below hX)
       have HXb3w9 := Lib.hid (HXb3w8.out.below hX)
       have HXb4w9 := Lib.hid (HXb4w8.out.below hX)
       have HD1w9 := Lib.hid (HD1w8.out.below hX)
       have HD2w9 := Lib.hid (HD2w8.out.below hX)
       have HD3w9 := Lib.hid (HD3w8.out.below hX)
       have HD4w9 := Lib.hid (HD4w8.out.below hX)
       clear s0 s1 s2 b10 b11 b12 b20 b21 b22 b30 b31 b32 b40 b41 b42
       obtain ⟨s0, s1, s2⟩ := HXsw9.out.cells
       obtain ⟨b10, b11, b12⟩ := HXb1w9.out.cells
       obtain ⟨b20, b21, b22⟩ := HXb2w9.out.cells
       obtain ⟨b30, b31, b32⟩ := HXb3w9.out.cells
       obtain ⟨b40, b41, b42⟩ := HXb4w9.out.cells
       clear hbx hX)
    | (go_at_call 23
       (with_reducible refine (stmay_any cap A n c sure _ hn).mono ?_)
       rintro e w8 ⟨he, hbx⟩
       rw [HM.out] at he
       subst he
       have hX : Below w7.heap.size w7 w8 := hbx
       have HBw8 := Lib.hid (HBw7.out.trans (hX.mono HBw7.out.size))
       have HXsw8 := Lib.hid (HXsw7.out.below hX)
       have HXb1w8 := Lib.hid (HXb1w7.out.below hX)
       have HXb2w8 := Lib.hid (HXb2w7.out.below hX)
       have HXb3w8 := Lib.hid (HXb3w7.out.below hX)
       have HXb4w8 := Lib.hid (HXb4w7.out.below hX)
       have HD1w8 := Lib.hid (HD1w7.out.below hX)
       have HD2w8 := Lib.hid (HD2w7.out.below hX)
       have HD3w8 := Lib.hid (HD3w7.out.below hX)
       have HD4w8 := Lib.hid (HD4w7.out.below hX)
       clear s0 s1 s2 b10 b11 b12 b20 b21 b22 b30 b31 b32 b40 b41 b42
       obtain ⟨s0, s1, s2⟩ := HXsw8.out.cells
       obtain ⟨b10, b11, b12⟩ := HXb1w8.out.cells
       obtain ⟨b20, b21, b22⟩ := HXb2w8.out.cells
       obtain ⟨b30, b31, b32⟩ := HXb3w8.out.cells
       obtain ⟨b40, b41, b42⟩ := HXb4w8.out.cells
       clear hbx hX)
    | (go_at_call 24
       (with_reducible refine (stsame_at cap1 data1 sure1 A1 n1 c1 _ cap data sure A n c (HD1w6.out.more (.cells #[.int .i64 cap4, .slice A4 n4 c4, .int .i64 sure4] 24)) (HA.out.below (HBw6.out.trans ((one_alloc w6 (.cells #[.int .i64 cap4, .slice A4 n4 c4, .int .i64 sure4] 24)).mono HBw6.out.size)))).mono ?_)
       rintro e w7 ⟨he, hbx⟩
       rw [HS1.out] at he
       subst he
       have hX : Below w6.heap.size w6 w7 := (after_one hbx).1
       have HBw7 := Lib.hid (HBw6.out.trans (hX.mono HBw6.out.size))
       have HXsw7 := Lib.hid (HXsw6.out.below hX)
       have HXb1w7 := Lib.hid (HXb1w6.out.below hX)
       have HXb2w7 := Lib.hid (HXb2w6.out.below hX)
       have HXb3w7 := Lib.hid (HXb3w6.out.below hX)
       have HXb4w7 := Lib.hid (show BoxT w7 w6.heap.size 24 cap4 A4 n4 c4 sure4 from (after_one hbx).2.2)
       have HD1w7 := Lib.hid (HD1w6.out.below hX)
       have HD2w7 := Lib.hid (HD2w6.out.below hX)
       have HD3w7 := Lib.hid (HD3w6.out.below hX)
       have HD4w7 := Lib.hid (HD4w6.out.below hX)
       clear s0 s1 s2 b10 b11 b12 b20 b21 b22 b30 b31 b32
       obtain ⟨s0, s1, s2⟩ := HXsw7.out.cells
       obtain ⟨b10, b11, b12⟩ := HXb1w7.out.cells
       obtain ⟨b20, b21, b22⟩ := HXb2w7.out.cells
       obtain ⟨b30, b31, b32⟩ := HXb3w7.out.cells
       obtain ⟨b40, b41, b42⟩ := HXb4w7.out.cells
       clear hbx hX)
    | (go_at_call 20
       (with_reducible refine (stcrash_at cap data sure A n c _ k (HA.out.below (HBw5.out.trans ((one_alloc w5 (.cells #[.int .i64 cap3, .slice A3 n3 c3, .int .i64 sure3] 24)).mono HBw5.out.size))) (by omega)).mono ?_)
       rintro e w6 ⟨A4, n4, c4, he, hbt0, -, hbx⟩
       obtain ⟨⟨cap4, data4, sure4⟩, hr4⟩ : ∃ r, crashP ⟨cap, data, sure⟩ k = r := ⟨_, rfl⟩
       rw [hr4] at he hbt0
       have he2 : e = .returned (.agg #[.int .i64 cap4, .slice A4 n4 c4, .int .i64 sure4]) := he
       clear he
       subst he2
       have hbt : Bts w6 A4 n4 c4 data4 := hbt0
       have HR4 := Lib.hid hr4
       have hst4 := crash_stays HR4.out
       have HM4 := Lib.hid (show mayT cap4 n4 sure4 = true from by have h := hst4.1; rw [mayP] at h; simp only [hbt.len] at h; exact h.trans HMP.out)
       have q4 : (cap4 == cap) = true := by rw [beq_iff_eq]; exact hst4.2
       clear hst4
       have hX : Below w5.heap.size w5 w6 := (after_one hbx).1
       have HBw6 := Lib.hid (HBw5.out.trans (hX.mono HBw5.out.size))
       have HXsw6 := Lib.hid (HXsw5.out.below hX)
       have HXb1w6 := Lib.hid (HXb1w5.out.below hX)
       have HXb2w6 := Lib.hid (HXb2w5.out.below hX)
       have HXb3w6 := Lib.hid (show BoxT w6 w5.heap.size 24 cap3 A3 n3 c3 sure3 from (after_one hbx).2.2)
       have HD1w6 := Lib.hid (HD1w5.out.below hX)
       have HD2w6 := Lib.hid (HD2w5.out.below hX)
       have HD3w6 := Lib.hid (HD3w5.out.below hX)
       have HD4w6 := Lib.hid hbt
       clear s0 s1 s2 b10 b11 b12 b20 b21 b22
       obtain ⟨s0, s1, s2⟩ := (HXsw6.out.below (one_alloc w6 (.cells #[.int .i64 cap4, .slice A4 n4 c4, .int .i64 sure4] 24))).cells
       obtain ⟨b10, b11, b12⟩ := (HXb1w6.out.below (one_alloc w6 (.cells #[.int .i64 cap4, .slice A4 n4 c4, .int .i64 sure4] 24))).cells
       obtain ⟨b20, b21, b22⟩ := (HXb2w6.out.below (one_alloc w6 (.cells #[.int .i64 cap4, .slice A4 n4 c4, .int .i64 sure4] 24))).cells
       obtain ⟨b30, b31, b32⟩ := (HXb3w6.out.below (one_alloc w6 (.cells #[.int .i64 cap4, .slice A4 n4 c4, .int .i64 sure4] 24))).cells
       clear hbx hX hbt0 hbt hr4)
    | (go_at_call 15
       (with_reducible refine (stcut_at cap data sure A n c _ k (HA.out.below (HBw4.out.trans ((one_alloc w4 (.cells #[.int .i64 cap2, .slice A2 n2 c2, .int .i64 sure2] 24)).mono HBw4.out.size))) (by omega)).mono ?_)
       rintro e w5 ⟨A3, n3, c3, he, hbt0, -, hbx⟩
       obtain ⟨⟨⟨cap3, data3, sure3⟩, e3⟩, hr3⟩ : ∃ r, cutP ⟨cap, data, sure⟩ k = r := ⟨_, rfl⟩
       rw [hr3] at he hbt0
       have he2 : e = .returned (.tuple #[.agg #[.int .i64 cap3, .slice A3 n3 c3, .int .i64 sure3], .int .i64 e3]) := he
       clear he
       subst he2
       have hbt : Bts w5 A3 n3 c3 data3 := hbt0
       have HR3 := Lib.hid hr3
       have hz3 : 0 = e3 := by have h := HZ3.out; rw [hr3] at h; exact h.symm
       subst hz3
       have hst3 := cut_stays HR3.out
       have HM3 := Lib.hid (show mayT cap3 n3 sure3 = true from by have h := hst3.1; rw [mayP] at h; simp only [hbt.len] at h; exact h.trans HMP.out)
       have q3 : (cap3 == cap) = true := by rw [beq_iff_eq]; exact hst3.2.1
       clear hst3
       have hX : Below w4.heap.size w4 w5 := (after_one hbx).1
       have HBw5 := Lib.hid (HBw4.out.trans (hX.mono HBw4.out.size))
       have HXsw5 := Lib.hid (HXsw4.out.below hX)
       have HXb1w5 := Lib.hid (HXb1w4.out.below hX)
       have HXb2w5 := Lib.hid (show BoxT w5 w4.heap.size 24 cap2 A2 n2 c2 sure2 from (after_one hbx).2.2)
       have HD1w5 := Lib.hid (HD1w4.out.below hX)
       have HD2w5 := Lib.hid (HD2w4.out.below hX)
       have HD3w5 := Lib.hid hbt
       clear s0 s1 s2 b10 b11 b12
       obtain ⟨s0, s1, s2⟩ := (HXsw5.out.below (one_alloc w5 (.cells #[.int .i64 cap3, .slice A3 n3 c3, .int .i64 sure3] 24))).cells
       obtain ⟨b10, b11, b12⟩ := (HXb1w5.out.below (one_alloc w5 (.cells #[.int .i64 cap3, .slice A3 n3 c3, .int .i64 sure3] 24))).cells
       obtain ⟨b20, b21, b22⟩ := (HXb2w5.out.below (one_alloc w5 (.cells #[.int .i64 cap3, .slice A3 n3 c3, .int .i64 sure3] 24))).cells
       clear hbx hX hbt0 hbt hr3)
    | (go_at_call 13
       (with_reducible refine (stsync_at cap data sure A n c _ (HA.out.below (HBw3.out.trans ((one_alloc w3 (.cells #[.int .i64 cap1, .slice A1 n1 c1, .int .i64 sure1] 24)).mono HBw3.out.size))) (by omega)).mono ?_)
       rintro e w4 ⟨A2, n2, c2, he, hbt0, -, hbx⟩
       obtain ⟨⟨⟨cap2, data2, sure2⟩, e2⟩, hr2⟩ : ∃ r, syncP ⟨cap, data, sure⟩ = r := ⟨_, rfl⟩
       rw [hr2] at he hbt0
       have he2 : e = .returned (.tuple #[.agg #[.int .i64 cap2, .slice A2 n2 c2, .int .i64 sure2], .int .i64 e2]) := he
       clear he
       subst he2
       have hbt : Bts w4 A2 n2 c2 data2 := hbt0
       have HR2 := Lib.hid hr2
       have hz2 : 0 = e2 := by have h := HZ2.out; rw [hr2] at h; exact h.symm
       subst hz2
       have hst2 := cut_stays HR2.out
       have HM2 := Lib.hid (show mayT cap2 n2 sure2 = true from by have h := hst2.1; rw [mayP] at h; simp only [hbt.len] at h; exact h.trans HMP.out)
       have q2 : (cap2 == cap) = true := by rw [beq_iff_eq]; exact hst2.2.1
       clear hst2
       have hX : Below w3.heap.size w3 w4 := (after_one hbx).1
       have HBw4 := Lib.hid (HBw3.out.trans (hX.mono HBw3.out.size))
       have HXsw4 := Lib.hid (HXsw3.out.below hX)
       have HXb1w4 := Lib.hid (show BoxT w4 w3.heap.size 24 cap1 A1 n1 c1 sure1 from (after_one hbx).2.2)
       have HD1w4 := Lib.hid (HD1w3.out.below hX)
       have HD2w4 := Lib.hid hbt
       clear s0 s1 s2
       obtain ⟨s0, s1, s2⟩ := (HXsw4.out.below (one_alloc w4 (.cells #[.int .i64 cap2, .slice A2 n2 c2, .int .i64 sure2] 24))).cells
       obtain ⟨b10, b11, b12⟩ := (HXb1w4.out.below (one_alloc w4 (.cells #[.int .i64 cap2, .slice A2 n2 c2, .int .i64 sure2] 24))).cells
       clear hbx hX hbt0 hbt hr2)
    | (go_at_call 11
       (with_reducible refine (stwrite_at cap data sure A n c _ b B m d (HA.out.below HBw2.out) (by omega) (HE.out.below HBw2.out)).mono ?_)
       rintro e w3 ⟨A1, n1, c1, he, hbt0, -, hbx⟩
       obtain ⟨⟨⟨cap1, data1, sure1⟩, e1⟩, hr1⟩ : ∃ r, writeP ⟨cap, data, sure⟩ b = r := ⟨_, rfl⟩
       rw [hr1] at he hbt0
       have he2 : e = .returned (.tuple #[.agg #[.int .i64 cap1, .slice A1 n1 c1, .int .i64 sure1], .int .i64 e1]) := he
       clear he
       subst he2
       have hbt : Bts w3 A1 n1 c1 data1 := hbt0
       have HR1 := Lib.hid hr1
       have hz1 : 12 = e1 := by have h := HZ1.out; rw [hr1] at h; exact h.symm
       subst hz1
       have hst1 := write_stays HR1.out
       have HM1 := Lib.hid (show mayT cap1 n1 sure1 = true from by have h := hst1.1; rw [mayP] at h; simp only [hbt.len] at h; exact h.trans HMP.out)
       have q1 : (cap1 == cap) = true := by rw [beq_iff_eq]; exact hst1.2.1
       have HS1 := Lib.hid (show sameP ⟨cap1, data1, sure1⟩ ⟨cap, data, sure⟩ = true from sameP_iff.2 (hst1.2.2 (by decide)))
       clear hst1
       have hX : Below w2.heap.size w2 w3 := hbx
       have HBw3 := Lib.hid (HBw2.out.trans (hX.mono HBw2.out.size))
       have HXsw3 := Lib.hid (HXsw2.out.below hX)
       have HD1w3 := Lib.hid hbt
       clear s0 s1 s2
       obtain ⟨s0, s1, s2⟩ := (HXsw3.out.below (one_alloc w3 (.cells #[.int .i64 cap1, .slice A1 n1 c1, .int .i64 sure1] 24))).cells
       clear hbx hX hbt0 hbt hr1))
  go_ret
  exact ⟨ret_bool (by simp [*]), HBw12.out⟩
set_option maxRecDepth 100000 in
set_option maxHeartbeats 4000000 in
theorem sstaysw_12_0_1 (s : Sp) (A B : Option Addr) (n c m d : Nat) (b : List Int) (k : Int) (w : World) (hb : Bts w A n c s.data) (h2 : Bts w B m d b) (h5 : n ≤ 5000) (h6 : m ≤ 5000) (hm : mayP s = true) (z1 : (writeP s b).2 = 12) (z2 : (syncP s).2 = 0) (z3 : (cutP s k).2 = 1) :
    Calls Try.prog 4 #[s.val A n c, .slice B m d, .int .i64 k] w (GBool true w) := by
  have hl := hb.len
  obtain ⟨cap, data, sure⟩ := s
  simp only at hb
  unfold Sp.val
  simp only
  have hn := hb.small
  have HT := Lib.hid (rfl : true = true)
  have HBw := Lib.hid (Below.refl w.heap.size w)
  have hmm : mayP ⟨cap, data, sure⟩ = mayT cap n sure := by rw [mayP]; simp only at hl; rw [hl]
  have h6' : (m : Int) ≤ 5000 := by omega
  have FN := Lib.hid (show decide (n ≤ 5000) = true from decide_eq_true h5)
  have HMP := Lib.hid hm
  have HM := Lib.hid (hmm.symm.trans hm)
  have HA := Lib.hid hb
  have HE := Lib.hid h2
  have HZ1 := Lib.hid z1
  have HZ2 := Lib.hid z2
  have HZ3 := Lib.hid z3
  clear hmm hm hb h2 hl z1 z2 z3
  go_enter Try.func4, Try.ntmps4
  go_wp2_with (first
    | (go_at_call 9
       refine (sawake_any _).mono ?_
       rintro e w1 ⟨he, hbx⟩
       rw [HT.out] at he
       subst he
       have hX : Below w.heap.size w w1 := (after_one hbx).1
       have HBw1 := Lib.hid (HBw.out.trans (hX.mono HBw.out.size))
       have HXsw1 := Lib.hid (show BoxT w1 w.heap.size 24 cap A n c sure from (after_one hbx).2.2)
       obtain ⟨s0, s1, s2⟩ := HXsw1.out.cells
       clear hbx hX)
    | (go_at_call 10
       (with_reducible refine (few_any _ A n c _ _ hn).mono ?_)
       rintro e w2 ⟨he, hbx⟩
       rw [FN.out] at he
       subst he
       have hX : Below w1.heap.size w1 w2 := hbx
       have HBw2 := Lib.hid (HBw1.out.trans (hX.mono HBw1.out.size))
       have HXsw2 := Lib.hid (HXsw1.out.below hX)
       clear s0 s1 s2
       obtain ⟨s0, s1, s2⟩ := HXsw2.out.cells
       clear hbx hX)
    | (go_at_call 23
       (with_reducible refine (stmay_any cap4 A4 n4 c4 sure4 _ HD4w12.out.small).mono ?_)
       rintro e w13 ⟨he, hbx⟩
       rw [HM4.out] at he
       subst he
       have hX : Below w12.heap.size w12 w13 := hbx
       have HBw13 := Lib.hid (HBw12.out.trans (hX.mono HBw12.out.size))
       have HXsw13 := Lib.hid (HXsw12.out.below hX)
       have HXb1w13 := Lib.hid (HXb1w12.out.below hX)
       have HXb2w13 := Lib.hid (HXb2w12.out.below hX)
       have HXb3w13 := Lib.hid (HXb3w12.out.below hX)
       have HXb4w13 := Lib.hid (HXb4w12.out.below hX)
       have HD1w13 := Lib.hid (HD1w12.out.below hX)
       have HD2w13 := Lib.hid (HD2w12.out.below hX)
       have HD3w13 := Lib.hid (HD3w12.out.below hX)
       have HD4w13 := Lib.hid (HD4w12.out.below hX)
       clear s0 s1 s2 b10 b11 b12 b20 b21 b22 b30 b31 b32 b40 b41 b42
       obtain ⟨s0, s1, s2⟩ := HXsw13.out.cells
       obtain ⟨b10, b11, b12⟩ := HXb1w13.out.cells
       obtain ⟨b20, b21, b22⟩ := HXb2w13.out.cells
       obtain ⟨b30, b31, b32⟩ := HXb3w13.out.cells
       obtain ⟨b40, b41, b42⟩ := HXb4w13.out.cells
       clear hbx hX)
    | (go_at_call 23
       (with_reducible refine (stmay_any cap3 A3 n3 c3 sure3 _ HD3w11.out.small).mono ?_)
       rintro e w12 ⟨he, hbx⟩
       rw [HM3.out] at he
       subst he
       have hX : Below w11.heap.size w11 w12 := hbx
       have HBw12 := Lib.hid (HBw11.out.trans (hX.mono HBw11.out.size))
       have HXsw12 := Lib.hid (HXsw11.out.below hX)
       have HXb1w12 := Lib.hid (HXb1w11.out.below hX)
       have HXb2w12 := Lib.hid (HXb2w11.out.below hX)
       have HXb3w12 := Lib.hid (HXb3w11.out.below hX)
       have HXb4w12 := Lib.hid (HXb4w11.out.below hX)
       have HD1w12 := Lib.hid (HD1w11.out.below hX)
       have HD2w12 := Lib.hid (HD2w11.out.below hX)
       have HD3w12 := Lib.hid (HD3w11.out.below hX)
       have HD4w12 := Lib.hid (HD4w11.out.below hX)
       clear s0 s1 s2 b10 b11 b12 b20 b21 b22 b30 b31 b32 b40 b41 b42
       obtain ⟨s0, s1, s2⟩ := HXsw12.out.cells
       obtain ⟨b10, b11, b12⟩ := HXb1w12.out.cells
       obtain ⟨b20, b21, b22⟩ := HXb2w12.out.cells
       obtain ⟨b30, b31, b32⟩ := HXb3w12.out.cells
       obtain ⟨b40, b41, b42⟩ := HXb4w12.out.cells
       clear hbx hX)
    | (go_at_call 23
       (with_reducible refine (stmay_any cap2 A2 n2 c2 sure2 _ HD2w10.out.small).mono ?_)
       rintro e w11 ⟨he, hbx⟩
       rw [HM2.out] at he
       subst he
       have hX : Below w10.heap.size w10 w11 := hbx
       have HBw11 := Lib.hid (HBw10.out.trans (hX.mono HBw10.out.size))
       have HXsw11 := Lib.hid (HXsw10.out.below hX)
       have HXb1w11 := Lib.hid (HXb1w10.out.below hX)
       have HXb2w11 := Lib.hid (HXb2w10.out.below hX)
       have HXb3w11 := Lib.hid (HXb3w10.out.below hX)
       have HXb4w11 := Lib.hid (HXb4w10.out.below hX)
       have HD1w11 := Lib.hid (HD1w10.out.below hX)
       have HD2w11 := Lib.hid (HD2w10.out.below hX)
       have HD3w11 := Lib.hid (HD3w10.out.below hX)
       have HD4w11 := Lib.hid (HD4w10.out.below hX)
       clear s0 s1 s2 b10 b11 b12 b20 b21 b22 b30 b31 b32 b40 b41 b42
       obtain ⟨s0, s1, s2⟩ := HXsw11.out.cells
       obtain ⟨b10, b11, b12⟩ := HXb1w11.out.cells
       obtain ⟨b20, b21, b22⟩ := HXb2w11.out.cells
       obtain ⟨b30, b31, b32⟩ := HXb3w11.out.cells
       obtain ⟨b40, b41, b42⟩ := HXb4w11.out.cells
       clear hbx hX)
    | (go_at_call 23
       (with_reducible refine (stmay_any cap1 A1 n1 c1 sure1 _ HD1w9.out.small).mono ?_)
       rintro e w10 ⟨he, hbx⟩
       rw [HM1.out] at he
       subst he
       have hX : Below w9.heap.size w9 w10 := hbx
       have HBw10 := Lib.hid (HBw9.out.trans (hX.mono HBw9.out.size))
       have HXsw10 := Lib.hid (HXsw9.out.below hX)
       have HXb1w10 := Lib.hid (HXb1w9.out.below hX)
       have HXb2w10 := Lib.hid (HXb2w9.out.below hX)
       have HXb3w10 := Lib.hid (HXb3w9.out.below hX)
       have HXb4w10 := Lib.hid (HXb4w9.out.below hX)
       have HD1w10 := Lib.hid (HD1w9.out.below hX)
       have HD2w10 := Lib.hid (HD2w9.out.below hX)
       have HD3w10 := Lib.hid (HD3w9.out.below hX)
       have HD4w10 := Lib.hid (HD4w9.out.below hX)
       clear s0 s1 s2 b10 b11 b12 b20 b21 b22 b30 b31 b32 b40 b41 b42
       obtain ⟨s0, s1, s2⟩ := HXsw10.out.cells
       obtain ⟨b10, b11, b12⟩ := HXb1w10.out.cells
       obtain ⟨b20, b21, b22⟩ := HXb2w10.out.cells
       obtain ⟨b30, b31, b32⟩ := HXb3w10.out.cells
       obtain ⟨b40, b41, b42⟩ := HXb4w10.out.cells
       clear hbx hX)
    | (go_at_call 23
       (with_reducible refine (stmay_any cap A n c sure _ hn).mono ?_)
       rintro e w9 ⟨he, hbx⟩
       rw [HM.out] at he
       subst he
       have hX : Below w8.heap.size w8 w9 := hbx
       have HBw9 := Lib.hid (HBw8.out.trans (hX.mono HBw8.out.size))
       have HXsw9 := Lib.hid (HXsw8.out.below hX)
       have HXb1w9 := Lib.hid (HXb1w8.out.below hX)
       have HXb2w9 := Lib.hid (HXb2w8.out.below hX)
       have HXb3w9 := Lib.hid (HXb3w8.out.below hX)
       have HXb4w9 := Lib.hid (HXb4w8.out.below hX)
       have HD1w9 := Lib.hid (HD1w8.out.below hX)
       have HD2w9 := Lib.hid (HD2w8.out.below hX)
       have HD3w9 := Lib.hid (HD3w8.out.below hX)
       have HD4w9 := Lib.hid (HD4w8.out.below hX)
       clear s0 s1 s2 b10 b11 b12 b20 b21 b22 b30 b31 b32 b40 b41 b42
       obtain ⟨s0, s1, s2⟩ := HXsw9.out.cells
       obtain ⟨b10, b11, b12⟩ := HXb1w9.out.cells
       obtain ⟨b20, b21, b22⟩ := HXb2w9.out.cells
       obtain ⟨b30, b31, b32⟩ := HXb3w9.out.cells
       obtain ⟨b40, b41, b42⟩ := HXb4w9.out.cells
       clear hbx hX)
    | (go_at_call 24
       (with_reducible refine (stsame_at cap3 data3 sure3 A3 n3 c3 _ cap data sure A n c HD3w7.out (HA.out.below HBw7.out)).mono ?_)
       rintro e w8 ⟨he, hbx⟩
       rw [HS3.out] at he
       subst he
       have hX : Below w7.heap.size w7 w8 := hbx
       have HBw8 := Lib.hid (HBw7.out.trans (hX.mono HBw7.out.size))
       have HXsw8 := Lib.hid (HXsw7.out.below hX)
       have HXb1w8 := Lib.hid (HXb1w7.out.below hX)
       have HXb2w8 := Lib.hid (HXb2w7.out.below hX)
       have HXb3w8 := Lib.hid (HXb3w7.out.below hX)
       have HXb4w8 := Lib.hid (HXb4w7.out.below hX)
       have HD1w8 := Lib.hid (HD1w7.out.below hX)
       have HD2w8 := Lib.hid (HD2w7.out.below hX)
       have HD3w8 := Lib.hid (HD3w7.out.below hX)
       have HD4w8 := Lib.hid (HD4w7.out.below hX)
       clear s0 s1 s2 b10 b11 b12 b20 b21 b22 b30 b31 b32 b40 b41 b42
       obtain ⟨s0, s1, s2⟩ := HXsw8.out.cells
       obtain ⟨b10, b11, b12⟩ := HXb1w8.out.cells
       obtain ⟨b20, b21, b22⟩ := HXb2w8.out.cells
       obtain ⟨b30, b31, b32⟩ := HXb3w8.out.cells
       obtain ⟨b40, b41, b42⟩ := HXb4w8.out.cells
       clear hbx hX)
    | (go_at_call 24
       (with_reducible refine (stsame_at cap1 data1 sure1 A1 n1 c1 _ cap data sure A n c (HD1w6.out.more (.cells #[.int .i64 cap4, .slice A4 n4 c4, .int .i64 sure4] 24)) (HA.out.below (HBw6.out.trans ((one_alloc w6 (.cells #[.int .i64 cap4, .slice A4 n4 c4, .int .i64 sure4] 24)).mono HBw6.out.size)))).mono ?_)
       rintro e w7 ⟨he, hbx⟩
       rw [HS1.out] at he
       subst he
       have hX : Below w6.heap.size w6 w7 := (after_one hbx).1
       have HBw7 := Lib.hid (HBw6.out.trans (hX.mono HBw6.out.size))
       have HXsw7 := Lib.hid (HXsw6.out.below hX)
       have HXb1w7 := Lib.hid (HXb1w6.out.below hX)
       have HXb2w7 := Lib.hid (HXb2w6.out.below hX)
       have HXb3w7 := Lib.hid (HXb3w6.out.below hX)
       have HXb4w7 := Lib.hid (show BoxT w7 w6.heap.size 24 cap4 A4 n4 c4 sure4 from (after_one hbx).2.2)
       have HD1w7 := Lib.hid (HD1w6.out.below hX)
       have HD2w7 := Lib.hid (HD2w6.out.below hX)
       have HD3w7 := Lib.hid (HD3w6.out.below hX)
       have HD4w7 := Lib.hid (HD4w6.out.below hX)
       clear s0 s1 s2 b10 b11 b12 b20 b21 b22 b30 b31 b32
       obtain ⟨s0, s1, s2⟩ := HXsw7.out.cells
       obtain ⟨b10, b11, b12⟩ := HXb1w7.out.cells
       obtain ⟨b20, b21, b22⟩ := HXb2w7.out.cells
       obtain ⟨b30, b31, b32⟩ := HXb3w7.out.cells
       obtain ⟨b40, b41, b42⟩ := HXb4w7.out.cells
       clear hbx hX)
    | (go_at_call 20
       (with_reducible refine (stcrash_at cap data sure A n c _ k (HA.out.below (HBw5.out.trans ((one_alloc w5 (.cells #[.int .i64 cap3, .slice A3 n3 c3, .int .i64 sure3] 24)).mono HBw5.out.size))) (by omega)).mono ?_)
       rintro e w6 ⟨A4, n4, c4, he, hbt0, -, hbx⟩
       obtain ⟨⟨cap4, data4, sure4⟩, hr4⟩ : ∃ r, crashP ⟨cap, data, sure⟩ k = r := ⟨_, rfl⟩
       rw [hr4] at he hbt0
       have he2 : e = .returned (.agg #[.int .i64 cap4, .slice A4 n4 c4, .int .i64 sure4]) := he
       clear he
       subst he2
       have hbt : Bts w6 A4 n4 c4 data4 := hbt0
       have HR4 := Lib.hid hr4
       have hst4 := crash_stays HR4.out
       have HM4 := Lib.hid (show mayT cap4 n4 sure4 = true from by have h := hst4.1; rw [mayP] at h; simp only [hbt.len] at h; exact h.trans HMP.out)
       have q4 : (cap4 == cap) = true := by rw [beq_iff_eq]; exact hst4.2
       clear hst4
       have hX : Below w5.heap.size w5 w6 := (after_one hbx).1
       have HBw6 := Lib.hid (HBw5.out.trans (hX.mono HBw5.out.size))
       have HXsw6 := Lib.hid (HXsw5.out.below hX)
       have HXb1w6 := Lib.hid (HXb1w5.out.below hX)
       have HXb2w6 := Lib.hid (HXb2w5.out.below hX)
       have HXb3w6 := Lib.hid (show BoxT w6 w5.heap.size 24 cap3 A3 n3 c3 sure3 from (after_one hbx).2.2)
       have HD1w6 := Lib.hid (HD1w5.out.below hX)
       have HD2w6 := Lib.hid (HD2w5.out.below hX)
       have HD3w6 := Lib.hid (HD3w5.out.below hX)
       have HD4w6 := Lib.hid hbt
       clear s0 s1 s2 b10 b11 b12 b20 b21 b22
       obtain ⟨s0, s1, s2⟩ := (HXsw6.out.below (one_alloc w6 (.cells #[.int .i64 cap4, .slice A4 n4 c4, .int .i64 sure4] 24))).cells
       obtain ⟨b10, b11, b12⟩ := (HXb1w6.out.below (one_alloc w6 (.cells #[.int .i64 cap4, .slice A4 n4 c4, .int .i64 sure4] 24))).cells
       obtain ⟨b20, b21, b22⟩ := (HXb2w6.out.below (one_alloc w6 (.cells #[.int .i64 cap4, .slice A4 n4 c4, .int .i64 sure4] 24))).cells
       obtain ⟨b30, b31, b32⟩ := (HXb3w6.out.below (one_alloc w6 (.cells #[.int .i64 cap4, .slice A4 n4 c4, .int .i64 sure4] 24))).cells
       clear hbx hX hbt0 hbt hr4)
    | (go_at_call 15
       (with_reducible refine (stcut_at cap data sure A n c _ k (HA.out.below (HBw4.out.trans ((one_alloc w4 (.cells #[.int .i64 cap2, .slice A2 n2 c2, .int .i64 sure2] 24)).mono HBw4.out.size))) (by omega)).mono ?_)
       rintro e w5 ⟨A3, n3, c3, he, hbt0, -, hbx⟩
       obtain ⟨⟨⟨cap3, data3, sure3⟩, e3⟩, hr3⟩ : ∃ r, cutP ⟨cap, data, sure⟩ k = r := ⟨_, rfl⟩
       rw [hr3] at he hbt0
       have he2 : e = .returned (.tuple #[.agg #[.int .i64 cap3, .slice A3 n3 c3, .int .i64 sure3], .int .i64 e3]) := he
       clear he
       subst he2
       have hbt : Bts w5 A3 n3 c3 data3 := hbt0
       have HR3 := Lib.hid hr3
       have hz3 : 1 = e3 := by have h := HZ3.out; rw [hr3] at h; exact h.symm
       subst hz3
       have hst3 := cut_stays HR3.out
       have HM3 := Lib.hid (show mayT cap3 n3 sure3 = true from by have h := hst3.1; rw [mayP] at h; simp only [hbt.len] at h; exact h.trans HMP.out)
       have q3 : (cap3 == cap) = true := by rw [beq_iff_eq]; exact hst3.2.1
       have HS3 := Lib.hid (show sameP ⟨cap3, data3, sure3⟩ ⟨cap, data, sure⟩ = true from sameP_iff.2 (hst3.2.2 (by decide)))
       clear hst3
       have hX : Below w4.heap.size w4 w5 := (after_one hbx).1
       have HBw5 := Lib.hid (HBw4.out.trans (hX.mono HBw4.out.size))
       have HXsw5 := Lib.hid (HXsw4.out.below hX)
       have HXb1w5 := Lib.hid (HXb1w4.out.below hX)
       have HXb2w5 := Lib.hid (show BoxT w5 w4.heap.size 24 cap2 A2 n2 c2 sure2 from (after_one hbx).2.2)
       have HD1w5 := Lib.hid (HD1w4.out.below hX)
       have HD2w5 := Lib.hid (HD2w4.out.below hX)
       have HD3w5 := Lib.hid hbt
       clear s0 s1 s2 b10 b11 b12
       obtain ⟨s0, s1, s2⟩ := (HXsw5.out.below (one_alloc w5 (.cells #[.int .i64 cap3, .slice A3 n3 c3, .int .i64 sure3] 24))).cells
       obtain ⟨b10, b11, b12⟩ := (HXb1w5.out.below (one_alloc w5 (.cells #[.int .i64 cap3, .slice A3 n3 c3, .int .i64 sure3] 24))).cells
       obtain ⟨b20, b21, b22⟩ := (HXb2w5.out.below (one_alloc w5 (.cells #[.int .i64 cap3, .slice A3 n3 c3, .int .i64 sure3] 24))).cells
       clear hbx hX hbt0 hbt hr3)
    | (go_at_call 13
       (with_reducible refine (stsync_at cap data sure A n c _ (HA.out.below (HBw3.out.trans ((one_alloc w3 (.cells #[.int .i64 cap1, .slice A1 n1 c1, .int .i64 sure1] 24)).mono HBw3.out.size))) (by omega)).mono ?_)
       rintro e w4 ⟨A2, n2, c2, he, hbt0, -, hbx⟩
       obtain ⟨⟨⟨cap2, data2, sure2⟩, e2⟩, hr2⟩ : ∃ r, syncP ⟨cap, data, sure⟩ = r := ⟨_, rfl⟩
       rw [hr2] at he hbt0
       have he2 : e = .returned (.tuple #[.agg #[.int .i64 cap2, .slice A2 n2 c2, .int .i64 sure2], .int .i64 e2]) := he
       clear he
       subst he2
       have hbt : Bts w4 A2 n2 c2 data2 := hbt0
       have HR2 := Lib.hid hr2
       have hz2 : 0 = e2 := by have h := HZ2.out; rw [hr2] at h; exact h.symm
       subst hz2
       have hst2 := cut_stays HR2.out
       have HM2 := Lib.hid (show mayT cap2 n2 sure2 = true from by have h := hst2.1; rw [mayP] at h; simp only [hbt.len] at h; exact h.trans HMP.out)
       have q2 : (cap2 == cap) = true := by rw [beq_iff_eq]; exact hst2.2.1
       clear hst2
       have hX : Below w3.heap.size w3 w4 := (after_one hbx).1
       have HBw4 := Lib.hid (HBw3.out.trans (hX.mono HBw3.out.size))
       have HXsw4 := Lib.hid (HXsw3.out.below hX)
       have HXb1w4 := Lib.hid (show BoxT w4 w3.heap.size 24 cap1 A1 n1 c1 sure1 from (after_one hbx).2.2)
       have HD1w4 := Lib.hid (HD1w3.out.below hX)
       have HD2w4 := Lib.hid hbt
       clear s0 s1 s2
       obtain ⟨s0, s1, s2⟩ := (HXsw4.out.below (one_alloc w4 (.cells #[.int .i64 cap2, .slice A2 n2 c2, .int .i64 sure2] 24))).cells
       obtain ⟨b10, b11, b12⟩ := (HXb1w4.out.below (one_alloc w4 (.cells #[.int .i64 cap2, .slice A2 n2 c2, .int .i64 sure2] 24))).cells
       clear hbx hX hbt0 hbt hr2)
    | (go_at_call 11
       (with_reducible refine (stwrite_at cap data sure A n c _ b B m d (HA.out.below HBw2.out) (by omega) (HE.out.below HBw2.out)).mono ?_)
       rintro e w3 ⟨A1, n1, c1, he, hbt0, -, hbx⟩
       obtain ⟨⟨⟨cap1, data1, sure1⟩, e1⟩, hr1⟩ : ∃ r, writeP ⟨cap, data, sure⟩ b = r := ⟨_, rfl⟩
       rw [hr1] at he hbt0
       have he2 : e = .returned (.tuple #[.agg #[.int .i64 cap1, .slice A1 n1 c1, .int .i64 sure1], .int .i64 e1]) := he
       clear he
       subst he2
       have hbt : Bts w3 A1 n1 c1 data1 := hbt0
       have HR1 := Lib.hid hr1
       have hz1 : 12 = e1 := by have h := HZ1.out; rw [hr1] at h; exact h.symm
       subst hz1
       have hst1 := write_stays HR1.out
       have HM1 := Lib.hid (show mayT cap1 n1 sure1 = true from by have h := hst1.1; rw [mayP] at h; simp only [hbt.len] at h; exact h.trans HMP.out)
       have q1 : (cap1 == cap) = true := by rw [beq_iff_eq]; exact hst1.2.1
       have HS1 := Lib.hid (show sameP ⟨cap1, data1, sure1⟩ ⟨cap, data, sure⟩ = true from sameP_iff.2 (hst1.2.2 (by decide)))
       clear hst1
       have hX : Below w2.heap.size w2 w3 := hbx
       have HBw3 := Lib.hid (HBw2.out.trans (hX.mono HBw2.out.size))
       have HXsw3 := Lib.hid (HXsw2.out.below hX)
       have HD1w3 := Lib.hid hbt
       clear s0 s1 s2
       obtain ⟨s0, s1, s2⟩ := (HXsw3.out.below (one_alloc w3 (.cells #[.int .i64 cap1, .slice A1 n1 c1, .int .i64 sure1] 24))).cells
       clear hbx hX hbt0 hbt hr1))
  go_ret
  exact ⟨ret_bool (by simp [*]), HBw13.out⟩
theorem sstaysw_any (s : Sp) (A B : Option Addr) (n c m d : Nat) (b : List Int) (k : Int) (w : World) (hb : Bts w A n c s.data) (h2 : Bts w B m d b) :
    Calls Try.prog 4 #[s.val A n c, .slice B m d, .int .i64 k] w (GBool true w) := by
  by_cases h5 : n ≤ 5000
  · by_cases h6 : m ≤ 5000
    · rcases three_ways s b k with ⟨hm, z1, z2, z3⟩ | ⟨hm, z2, z1 | z1, z3 | z3⟩
      · exact sstaysw_1_1_1 s A B n c m d b k w hb h2 h5 h6 hm z1 z2 z3
      · exact sstaysw_0_0_0 s A B n c m d b k w hb h2 h5 h6 hm z1 z2 z3
      · exact sstaysw_0_0_1 s A B n c m d b k w hb h2 h5 h6 hm z1 z2 z3
      · exact sstaysw_12_0_0 s A B n c m d b k w hb h2 h5 h6 hm z1 z2 z3
      · exact sstaysw_12_0_1 s A B n c m d b k w hb h2 h5 h6 hm z1 z2 z3
    · exact sstaysw_no s A B n c m d b k w hb h2 (.inr (by omega))
  · exact sstaysw_no s A B n c m d b k w hb h2 (.inl (by omega))
end Go.Proofs.Ytoohcpckdkbngaa
