/- The walks over the document's Sync, Cut, Crash and New of stores. -/
import Derived.Test.YtoohcpckdkbngaaStoFile
import Derived.RegionTactic
namespace Go.Proofs.Ytoohcpckdkbngaa
set_option linter.unusedVariables false
set_option linter.unusedSimpArgs false
open Go.RowKit

set_option maxHeartbeats 1000000 in
theorem rsync_any (s : Sp) (A : Option Addr) (n c : Nat) (w : World) (hb : Bts w A n c s.data) :
    Calls Try.prog 14 #[s.val A n c] w (GSE (syncP s) A n w) := by
  obtain ⟨cap, data, sure⟩ := s
  simp only at hb
  unfold Sp.val
  simp only
  have hn := hb.small
  have HLL := Lib.hid hb.len
  cases hm : mayT cap n sure with
  | false =>
    have hmp : mayP ⟨cap, data, sure⟩ = false := by rw [mayP]; simp only [hb.len]; exact hm
    have HR := Lib.hid (show syncP ⟨cap, data, sure⟩ = (⟨cap, data, sure⟩, 1) from by rw [syncP, cutP, hmp]; rfl)
    have HM := Lib.hid hm
    have HB := Lib.hid hb
    clear hb hm
    · go_enter Try.func14, Try.ntmps14
      go_wp2_with (go_at_call 22
                   (with_reducible refine (rstmay_any _ A n c _ _ hn).mono ?_)
                   rintro e w2 ⟨he, hb2⟩
                   rw [HM.out] at he
                   subst he
                   obtain ⟨hB2, hs2, y1, y2⟩ := after_two hb2
                   have HF2 := Lib.hid (show BoxT w2 w.heap.size 24 cap A n c sure from y1)
                   have HX2 := Lib.hid (show BoxT w2 (w.heap.size + 1) 24 0 none 0 0 0 from y2)
                   obtain ⟨x0, x1, x2⟩ := HF2.out.cells
                   obtain ⟨z0, z1, z2⟩ := HX2.out.cells
                   have g0 := HX2.out.free 0
                   have g1 := HX2.out.free 1
                   have g2 := HX2.out.free 2
                   have HB2 := Lib.hid hB2
                   have HS2 := Lib.hid hs2
                   clear hb2 hB2 hs2 y1 y2)
      refine bodyPost_ret (v := .tuple #[.agg #[.int .i64 cap, .slice A n c, .int .i64 sure], .int .i64 1]) ?_ ?_ ?_
      · exact ret_store Try.results14 _ _ (w.heap.size + 1) 24 _ _ _ _ rfl (set3_heap _ _ _ HX2.out) rfl
      · rfl
      · rw [HR.out]
        exact ⟨A, n, c, rfl, (HB.out.below HB2.out).set3 (HB.out.far (w.heap.size + 2)) (Nat.le_succ _) (Nat.lt_succ_self _) _ _ _, .inl ⟨rfl, Nat.le_refl _⟩, set3_below HB2.out (Nat.le_succ _) _ _ _⟩
  | true =>
    obtain ⟨q1, q2, q3, q4, q5⟩ := mayT_iff.1 hm
    have hmp : mayP ⟨cap, data, sure⟩ = true := by rw [mayP]; simp only [hb.len]; exact hm
    have HR := Lib.hid (show syncP ⟨cap, data, sure⟩ = (⟨cap, data, (n : Int)⟩, 0) from by rw [syncP, cutP, hmp, if_pos rfl, fcutP, if_neg (by simp only [hb.len]; omega)]; simp only [Sp.upto, hb.len, Int.toNat_natCast]; rw [← hb.len, List.take_length])
    have HM := Lib.hid hm
    have HB := Lib.hid hb
    clear hb hm
    · go_enter Try.func14, Try.ntmps14
      go_wp2_with (go_at_call 22
                   (with_reducible refine (rstmay_any _ A n c _ _ hn).mono ?_)
                   rintro e w2 ⟨he, hb2⟩
                   rw [HM.out] at he
                   subst he
                   obtain ⟨hB2, hs2, y1, y2⟩ := after_two hb2
                   have HF2 := Lib.hid (show BoxT w2 w.heap.size 24 cap A n c sure from y1)
                   have HX2 := Lib.hid (show BoxT w2 (w.heap.size + 1) 24 0 none 0 0 0 from y2)
                   obtain ⟨x0, x1, x2⟩ := HF2.out.cells
                   obtain ⟨z0, z1, z2⟩ := HX2.out.cells
                   have g0 := HX2.out.free 0
                   have g1 := HX2.out.free 1
                   have g2 := HX2.out.free 2
                   have HB2 := Lib.hid hB2
                   have HS2 := Lib.hid hs2
                   clear hb2 hB2 hs2 y1 y2)
      refine bodyPost_ret (v := .tuple #[.agg #[.int .i64 cap, .slice A n c, .int .i64 n], .int .i64 0]) ?_ ?_ ?_
      · exact ret_store Try.results14 _ _ (w.heap.size + 1) 24 _ _ _ _ rfl (set3_heap _ _ _ HX2.out) rfl
      · rfl
      · rw [HR.out]
        exact ⟨A, n, c, rfl, (HB.out.below HB2.out).set3 (HB.out.far (w.heap.size + 2)) (Nat.le_succ _) (Nat.lt_succ_self _) _ _ _, .inl ⟨rfl, Nat.le_refl _⟩, set3_below HB2.out (Nat.le_succ _) _ _ _⟩
set_option maxHeartbeats 1000000 in
theorem rcut_any (s : Sp) (A : Option Addr) (n c : Nat) (k : Int) (w : World) (hb : Bts w A n c s.data) :
    Calls Try.prog 16 #[s.val A n c, .int .i64 k] w (GSE (cutP s k) A n w) := by
  obtain ⟨cap, data, sure⟩ := s
  simp only at hb
  unfold Sp.val
  simp only
  have hn := hb.small
  have HLL := Lib.hid hb.len
  cases hm : mayT cap n sure with
  | false =>
    have hmp : mayP ⟨cap, data, sure⟩ = false := by rw [mayP]; simp only [hb.len]; exact hm
    have HR := Lib.hid (show cutP ⟨cap, data, sure⟩ k = (⟨cap, data, sure⟩, 1) from by rw [cutP, hmp]; rfl)
    have HM := Lib.hid hm
    have HB := Lib.hid hb
    clear hb hm
    · go_enter Try.func16, Try.ntmps16
      go_wp2_with (go_at_call 22
                   (with_reducible refine (rstmay_any _ A n c _ _ hn).mono ?_)
                   rintro e w2 ⟨he, hb2⟩
                   rw [HM.out] at he
                   subst he
                   obtain ⟨hB2, hs2, y1, y2⟩ := after_two hb2
                   have HF2 := Lib.hid (show BoxT w2 w.heap.size 24 cap A n c sure from y1)
                   have HX2 := Lib.hid (show BoxT w2 (w.heap.size + 1) 24 0 none 0 0 0 from y2)
                   obtain ⟨x0, x1, x2⟩ := HF2.out.cells
                   obtain ⟨z0, z1, z2⟩ := HX2.out.cells
                   have g0 := HX2.out.free 0
                   have g1 := HX2.out.free 1
                   have g2 := HX2.out.free 2
                   have HB2 := Lib.hid hB2
                   have HS2 := Lib.hid hs2
                   clear hb2 hB2 hs2 y1 y2)
      refine bodyPost_ret (v := .tuple #[.agg #[.int .i64 cap, .slice A n c, .int .i64 sure], .int .i64 1]) ?_ ?_ ?_
      · exact ret_store Try.results16 _ _ (w.heap.size + 1) 24 _ _ _ _ rfl (set3_heap _ _ _ HX2.out) rfl
      · rfl
      · rw [HR.out]
        exact ⟨A, n, c, rfl, (HB.out.below HB2.out).set3 (HB.out.far (w.heap.size + 2)) (Nat.le_succ _) (Nat.lt_succ_self _) _ _ _, .inl ⟨rfl, Nat.le_refl _⟩, set3_below HB2.out (Nat.le_succ _) _ _ _⟩
  | true =>
    obtain ⟨q1, q2, q3, q4, q5⟩ := mayT_iff.1 hm
    have hmp : mayP ⟨cap, data, sure⟩ = true := by rw [mayP]; simp only [hb.len]; exact hm
    by_cases h1 : k < 0
    · have HR := Lib.hid (show cutP ⟨cap, data, sure⟩ k = (⟨cap, data, sure⟩, 1) from by rw [cutP, hmp, if_pos rfl, fcutP, if_pos (.inl h1)])
      have HM := Lib.hid hm
      have HB := Lib.hid hb
      clear hb hm
      go_enter Try.func16, Try.ntmps16
      go_wp2_with (go_at_call 22
                   (with_reducible refine (rstmay_any _ A n c _ _ hn).mono ?_)
                   rintro e w2 ⟨he, hb2⟩
                   rw [HM.out] at he
                   subst he
                   obtain ⟨hB2, hs2, y1, y2⟩ := after_two hb2
                   have HF2 := Lib.hid (show BoxT w2 w.heap.size 24 cap A n c sure from y1)
                   have HX2 := Lib.hid (show BoxT w2 (w.heap.size + 1) 24 0 none 0 0 0 from y2)
                   obtain ⟨x0, x1, x2⟩ := HF2.out.cells
                   obtain ⟨z0, z1, z2⟩ := HX2.out.cells
                   have g0 := HX2.out.free 0
                   have g1 := HX2.out.free 1
                   have g2 := HX2.out.free 2
                   have HB2 := Lib.hid hB2
                   have HS2 := Lib.hid hs2
                   clear hb2 hB2 hs2 y1 y2)
      refine bodyPost_ret (v := .tuple #[.agg #[.int .i64 cap, .slice A n c, .int .i64 sure], .int .i64 1]) ?_ ?_ ?_
      · exact ret_store Try.results16 _ _ (w.heap.size + 1) 24 _ _ _ _ rfl (set3_heap _ _ _ HX2.out) rfl
      · rfl
      · rw [HR.out]
        exact ⟨A, n, c, rfl, (HB.out.below HB2.out).set3 (HB.out.far (w.heap.size + 2)) (Nat.le_succ _) (Nat.lt_succ_self _) _ _ _, .inl ⟨rfl, Nat.le_refl _⟩, set3_below HB2.out (Nat.le_succ _) _ _ _⟩
    · by_cases h2 : (n : Int) < k
      · have HR := Lib.hid (show cutP ⟨cap, data, sure⟩ k = (⟨cap, data, sure⟩, 1) from by rw [cutP, hmp, if_pos rfl, fcutP, if_pos (.inr (by simp only [hb.len]; exact h2))])
        have HM := Lib.hid hm
        have HB := Lib.hid hb
        clear hb hm
        go_enter Try.func16, Try.ntmps16
        go_wp2_with (go_at_call 22
                     (with_reducible refine (rstmay_any _ A n c _ _ hn).mono ?_)
                     rintro e w2 ⟨he, hb2⟩
                     rw [HM.out] at he
                     subst he
                     obtain ⟨hB2, hs2, y1, y2⟩ := after_two hb2
                     have HF2 := Lib.hid (show BoxT w2 w.heap.size 24 cap A n c sure from y1)
                     have HX2 := Lib.hid (show BoxT w2 (w.heap.size + 1) 24 0 none 0 0 0 from y2)
                     obtain ⟨x0, x1, x2⟩ := HF2.out.cells
                     obtain ⟨z0, z1, z2⟩ := HX2.out.cells
                     have g0 := HX2.out.free 0
                     have g1 := HX2.out.free 1
                     have g2 := HX2.out.free 2
                     have HB2 := Lib.hid hB2
                     have HS2 := Lib.hid hs2
                     clear hb2 hB2 hs2 y1 y2)
        refine bodyPost_ret (v := .tuple #[.agg #[.int .i64 cap, .slice A n c, .int .i64 sure], .int .i64 1]) ?_ ?_ ?_
        · exact ret_store Try.results16 _ _ (w.heap.size + 1) 24 _ _ _ _ rfl (set3_heap _ _ _ HX2.out) rfl
        · rfl
        · rw [HR.out]
          exact ⟨A, n, c, rfl, (HB.out.below HB2.out).set3 (HB.out.far (w.heap.size + 2)) (Nat.le_succ _) (Nat.lt_succ_self _) _ _ _, .inl ⟨rfl, Nat.le_refl _⟩, set3_below HB2.out (Nat.le_succ _) _ _ _⟩
      · obtain ⟨j, rfl⟩ := Int.eq_ofNat_of_zero_le (show 0 ≤ k by omega)
        have hj : j ≤ n := by omega
        obtain ⟨hto, hbt⟩ := run_to hb (j : Int) (hi := j) rfl hj
        have HR := Lib.hid (show cutP ⟨cap, data, sure⟩ (j : Int) = (⟨cap, data.take j, (j : Int)⟩, 0) from by rw [cutP, hmp, if_pos rfl, fcutP, if_neg (by simp only [hb.len]; omega)]; rfl)
        have HM := Lib.hid hm
        have HB0 := Lib.hid hb
        have HB := Lib.hid hbt
        clear hb hm hbt
        go_enter Try.func16, Try.ntmps16
        go_wp2_with (go_at_call 22
                     (with_reducible refine (rstmay_any _ A n c _ _ hn).mono ?_)
                     rintro e w2 ⟨he, hb2⟩
                     rw [HM.out] at he
                     subst he
                     obtain ⟨hB2, hs2, y1, y2⟩ := after_two hb2
                     have HF2 := Lib.hid (show BoxT w2 w.heap.size 24 cap A n c sure from y1)
                     have HX2 := Lib.hid (show BoxT w2 (w.heap.size + 1) 24 0 none 0 0 0 from y2)
                     obtain ⟨x0, x1, x2⟩ := HF2.out.cells
                     obtain ⟨z0, z1, z2⟩ := HX2.out.cells
                     have g0 := HX2.out.free 0
                     have g1 := HX2.out.free 1
                     have g2 := HX2.out.free 2
                     have HB2 := Lib.hid hB2
                     have HS2 := Lib.hid hs2
                     clear hb2 hB2 hs2 y1 y2)
        go_region
        go_wp2
        refine bodyPost_ret (v := .tuple #[.agg #[.int .i64 cap, .slice A j c, .int .i64 (j : Int)], .int .i64 0]) ?_ ?_ ?_
        · exact ret_store Try.results16 _ _ (w.heap.size + 1) 24 _ _ _ _ rfl (set3_heap _ _ _ HX2.out) rfl
        · rfl
        · rw [HR.out]
          exact ⟨A, j, c, rfl, ((HB.out.below HB2.out).set3 (HB.out.far (w.heap.size + 2)) (Nat.le_succ _) (Nat.lt_succ_self _) _ _ _).draw1, .inl ⟨rfl, hj⟩, (set3_below HB2.out (Nat.le_succ _) _ _ _).drew⟩
set_option maxHeartbeats 1000000 in
theorem rcrash_any (s : Sp) (A : Option Addr) (n c : Nat) (keep : Int) (w : World) (hb : Bts w A n c s.data) :
    Calls Try.prog 21 #[s.val A n c, .int .i64 keep] w (GS (crashP s keep) A n w) := by
  obtain ⟨cap, data, sure⟩ := s
  simp only at hb
  unfold Sp.val
  simp only
  have hn := hb.small
  have HLL := Lib.hid hb.len
  cases hm : mayT cap n sure with
  | false =>
    have hmp : mayP ⟨cap, data, sure⟩ = false := by rw [mayP]; simp only [hb.len]; exact hm
    have HR := Lib.hid (show crashP ⟨cap, data, sure⟩ keep = ⟨cap, data, sure⟩ from by rw [crashP, hmp]; rfl)
    have HM := Lib.hid hm
    have HB := Lib.hid hb
    clear hb hm
    · go_enter Try.func21, Try.ntmps21
      go_wp2_with (go_at_call 22
                   (with_reducible refine (rstmay_any _ A n c _ _ hn).mono ?_)
                   rintro e w2 ⟨he, hb2⟩
                   rw [HM.out] at he
                   subst he
                   obtain ⟨hB2, hs2, y1, y2⟩ := after_two hb2
                   have HF2 := Lib.hid (show BoxT w2 w.heap.size 24 cap A n c sure from y1)
                   have HX2 := Lib.hid (show BoxT w2 (w.heap.size + 1) 24 0 none 0 0 0 from y2)
                   obtain ⟨x0, x1, x2⟩ := HF2.out.cells
                   obtain ⟨z0, z1, z2⟩ := HX2.out.cells
                   have g0 := HX2.out.free 0
                   have g1 := HX2.out.free 1
                   have g2 := HX2.out.free 2
                   have HB2 := Lib.hid hB2
                   have HS2 := Lib.hid hs2
                   clear hb2 hB2 hs2 y1 y2)
      refine bodyPost_ret (v := .agg #[.int .i64 cap, .slice A n c, .int .i64 sure]) ?_ ?_ ?_
      · exact ret_store1 Try.results21 _ _ (w.heap.size + 1) 24 _ _ _ rfl (set3_heap _ _ _ HX2.out)
      · rfl
      · rw [HR.out]
        exact ⟨A, n, c, rfl, (HB.out.below HB2.out).set3 (HB.out.far (w.heap.size + 2)) (Nat.le_succ _) (Nat.lt_succ_self _) _ _ _, .inl ⟨rfl, Nat.le_refl _⟩, set3_below HB2.out (Nat.le_succ _) _ _ _⟩
  | true =>
    obtain ⟨q1, q2, q3, q4, q5⟩ := mayT_iff.1 hm
    have hmp : mayP ⟨cap, data, sure⟩ = true := by rw [mayP]; simp only [hb.len]; exact hm
    by_cases h1 : keep < 0
    · obtain ⟨j, hj⟩ := Int.eq_ofNat_of_zero_le (show 0 ≤ sure by omega)
      have hjn : j ≤ n := by omega
      obtain ⟨hto, hbt⟩ := run_to hb (sure) (hi := j) hj hjn
      have HR := Lib.hid (show crashP ⟨cap, data, sure⟩ keep = ⟨cap, data.take j, sure⟩ from by
        rw [crashP, hmp, if_pos rfl]
        have e : (keptP ⟨cap, data, sure⟩ keep).toNat = j := by simp only [keptP, hb.len]; omega
        rw [e]
        show Sp.mk cap (data.take j) (j : Int) = Sp.mk cap (data.take j) (sure)
        rw [hj])
      have HM := Lib.hid hm
      have HB0 := Lib.hid hb
      have HB := Lib.hid hbt
      clear hb hm hbt hj
      go_enter Try.func21, Try.ntmps21
      go_wp2_with (go_at_call 22
                   (with_reducible refine (rstmay_any _ A n c _ _ hn).mono ?_)
                   rintro e w2 ⟨he, hb2⟩
                   rw [HM.out] at he
                   subst he
                   obtain ⟨hB2, hs2, y1, y2⟩ := after_two hb2
                   have HF2 := Lib.hid (show BoxT w2 w.heap.size 24 cap A n c sure from y1)
                   have HX2 := Lib.hid (show BoxT w2 (w.heap.size + 1) 24 0 none 0 0 0 from y2)
                   obtain ⟨x0, x1, x2⟩ := HF2.out.cells
                   obtain ⟨z0, z1, z2⟩ := HX2.out.cells
                   have g0 := HX2.out.free 0
                   have g1 := HX2.out.free 1
                   have g2 := HX2.out.free 2
                   have HB2 := Lib.hid hB2
                   have HS2 := Lib.hid hs2
                   clear hb2 hB2 hs2 y1 y2)
      go_region
      go_wp2
      refine bodyPost_ret (v := .agg #[.int .i64 cap, .slice A j c, .int .i64 (sure)]) ?_ ?_ ?_
      · exact ret_store1 Try.results21 _ _ (w.heap.size + 1) 24 _ _ _ rfl (set3_heap _ _ _ HX2.out)
      · rfl
      · rw [HR.out]
        exact ⟨A, j, c, rfl, ((HB.out.below HB2.out).set3 (HB.out.far (w.heap.size + 2)) (Nat.le_succ _) (Nat.lt_succ_self _) _ _ _).draw1, .inl ⟨rfl, hjn⟩, (set3_below HB2.out (Nat.le_succ _) _ _ _).drew⟩
    · by_cases h2 : (n : Int) - sure < keep
      · obtain ⟨j, hj⟩ := Int.eq_ofNat_of_zero_le (show 0 ≤ sure + ((n : Int) - sure) by omega)
        have hjn : j ≤ n := by omega
        obtain ⟨hto, hbt⟩ := run_to hb (sure + ((n : Int) - sure)) (hi := j) hj hjn
        have HR := Lib.hid (show crashP ⟨cap, data, sure⟩ keep = ⟨cap, data.take j, sure + ((n : Int) - sure)⟩ from by
          rw [crashP, hmp, if_pos rfl]
          have e : (keptP ⟨cap, data, sure⟩ keep).toNat = j := by simp only [keptP, hb.len]; omega
          rw [e]
          show Sp.mk cap (data.take j) (j : Int) = Sp.mk cap (data.take j) (sure + ((n : Int) - sure))
          rw [hj])
        have HM := Lib.hid hm
        have HB0 := Lib.hid hb
        have HB := Lib.hid hbt
        clear hb hm hbt hj
        go_enter Try.func21, Try.ntmps21
        go_wp2_with (go_at_call 22
                     (with_reducible refine (rstmay_any _ A n c _ _ hn).mono ?_)
                     rintro e w2 ⟨he, hb2⟩
                     rw [HM.out] at he
                     subst he
                     obtain ⟨hB2, hs2, y1, y2⟩ := after_two hb2
                     have HF2 := Lib.hid (show BoxT w2 w.heap.size 24 cap A n c sure from y1)
                     have HX2 := Lib.hid (show BoxT w2 (w.heap.size + 1) 24 0 none 0 0 0 from y2)
                     obtain ⟨x0, x1, x2⟩ := HF2.out.cells
                     obtain ⟨z0, z1, z2⟩ := HX2.out.cells
                     have g0 := HX2.out.free 0
                     have g1 := HX2.out.free 1
                     have g2 := HX2.out.free 2
                     have HB2 := Lib.hid hB2
                     have HS2 := Lib.hid hs2
                     clear hb2 hB2 hs2 y1 y2)
        go_region
        go_wp2
        refine bodyPost_ret (v := .agg #[.int .i64 cap, .slice A j c, .int .i64 (sure + ((n : Int) - sure))]) ?_ ?_ ?_
        · exact ret_store1 Try.results21 _ _ (w.heap.size + 1) 24 _ _ _ rfl (set3_heap _ _ _ HX2.out)
        · rfl
        · rw [HR.out]
          exact ⟨A, j, c, rfl, ((HB.out.below HB2.out).set3 (HB.out.far (w.heap.size + 2)) (Nat.le_succ _) (Nat.lt_succ_self _) _ _ _).draw1, .inl ⟨rfl, hjn⟩, (set3_below HB2.out (Nat.le_succ _) _ _ _).drew⟩
      · obtain ⟨j, hj⟩ := Int.eq_ofNat_of_zero_le (show 0 ≤ sure + keep by omega)
        have hjn : j ≤ n := by omega
        obtain ⟨hto, hbt⟩ := run_to hb (sure + keep) (hi := j) hj hjn
        have HR := Lib.hid (show crashP ⟨cap, data, sure⟩ keep = ⟨cap, data.take j, sure + keep⟩ from by
          rw [crashP, hmp, if_pos rfl]
          have e : (keptP ⟨cap, data, sure⟩ keep).toNat = j := by simp only [keptP, hb.len]; omega
          rw [e]
          show Sp.mk cap (data.take j) (j : Int) = Sp.mk cap (data.take j) (sure + keep)
          rw [hj])
        have HM := Lib.hid hm
        have HB0 := Lib.hid hb
        have HB := Lib.hid hbt
        clear hb hm hbt hj
        go_enter Try.func21, Try.ntmps21
        go_wp2_with (go_at_call 22
                     (with_reducible refine (rstmay_any _ A n c _ _ hn).mono ?_)
                     rintro e w2 ⟨he, hb2⟩
                     rw [HM.out] at he
                     subst he
                     obtain ⟨hB2, hs2, y1, y2⟩ := after_two hb2
                     have HF2 := Lib.hid (show BoxT w2 w.heap.size 24 cap A n c sure from y1)
                     have HX2 := Lib.hid (show BoxT w2 (w.heap.size + 1) 24 0 none 0 0 0 from y2)
                     obtain ⟨x0, x1, x2⟩ := HF2.out.cells
                     obtain ⟨z0, z1, z2⟩ := HX2.out.cells
                     have g0 := HX2.out.free 0
                     have g1 := HX2.out.free 1
                     have g2 := HX2.out.free 2
                     have HB2 := Lib.hid hB2
                     have HS2 := Lib.hid hs2
                     clear hb2 hB2 hs2 y1 y2)
        go_region
        go_wp2
        refine bodyPost_ret (v := .agg #[.int .i64 cap, .slice A j c, .int .i64 (sure + keep)]) ?_ ?_ ?_
        · exact ret_store1 Try.results21 _ _ (w.heap.size + 1) 24 _ _ _ rfl (set3_heap _ _ _ HX2.out)
        · rfl
        · rw [HR.out]
          exact ⟨A, j, c, rfl, ((HB.out.below HB2.out).set3 (HB.out.far (w.heap.size + 2)) (Nat.le_succ _) (Nat.lt_succ_self _) _ _ _).draw1, .inl ⟨rfl, hjn⟩, (set3_below HB2.out (Nat.le_succ _) _ _ _).drew⟩
end Go.Proofs.Ytoohcpckdkbngaa
