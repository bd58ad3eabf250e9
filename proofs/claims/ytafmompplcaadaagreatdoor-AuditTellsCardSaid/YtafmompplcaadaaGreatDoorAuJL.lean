/- Joined texts: The walks over the document's Sync, Cut, Crash and New of stores. The walk over the document's Open of a store. The walk over the document's Write of stores. -/
import Derived.Test.YtafmompplcaadaaGreatDoorAuJK
import Derived.RegionTactic
import Derived.Test.YtafmompplcaadaaGreatDoorAuJI
import Derived.Test.YtafmompplcaadaaGreatDoorAuJJ
/- The walks over the document's Sync, Cut, Crash and New of stores. -/
namespace Go.Proofs.YtafmompplcaadaaGreatDoor
set_option maxRecDepth 100000
set_option linter.unusedVariables false
set_option linter.unusedSimpArgs false
open Go.RowKit

set_option maxHeartbeats 1000000 in
theorem rsync_any (s : Sp) (A : Option Addr) (n c : Nat) (w : World) (hb : Bts w A n c s.data) :
    Calls Tryz.prog 28 #[s.val A n c] w (GSE (syncP s) A n w) := by
  obtain ⟨cap, data, sure⟩ := s
  simp only at hb
  unfold Sp.val
  simp only
  have hn := hb.small
  have HLL := Lib.hid hb.len
  cases hm : mayT cap n sure with
  | false =>
    have hmp : mayP ⟨cap, data, sure⟩ = false := by rw [mayP]; simp only [hb.len]; exact hm
    have HR := Lib.hid (show syncP ⟨cap, data, sure⟩ = (⟨cap, data, sure⟩, 1) from by rw [syncP, cutP, hmp]; rfl)
    have HM := Lib.hid hm
    have HB := Lib.hid hb
    clear hb hm
    · go_enter Tryz.func28, Tryz.ntmps28
      go_wp2_with (go_at_call 31
                   (with_reducible refine (rstmay_any _ A n c _ _ hn).mono ?_)
                   rintro e w2 ⟨he, hb2⟩
                   rw [HM.out] at he
                   subst he
                   obtain ⟨hB2, hs2, y1, y2⟩ := after_two hb2
                   have HF2 := Lib.hid (show BoxT w2 w.heap.size 24 cap A n c sure from y1)
                   have HX2 := Lib.hid (show BoxT w2 (w.heap.size + 1) 24 0 none 0 0 0 from y2)
                   obtain ⟨x0, x1, x2⟩ := HF2.out.cells
                   obtain ⟨z0, z1, z2⟩ := HX2.out.cells
                   have g0 := HX2.out.free 0
                   have g1 := HX2.out.free 1
                   have g2 := HX2.out.free 2
                   have HB2 := Lib.hid hB2
                   have HS2 := Lib.hid hs2
                   clear hb2 hB2 hs2 y1 y2)
      refine bodyPost_ret (v := .tuple #[.agg #[.int .i64 cap, .slice A n c, .int .i64 sure], .int .i64 1]) ?_ ?_ ?_
      · exact ret_store Tryz.results28 _ _ (w.heap.size + 1) 24 _ _ _ _ rfl (set3_heap _ _ _ HX2.out) rfl
      · rfl
      · rw [HR.out]
        exact ⟨A, n, c, rfl, (HB.out.below HB2.out).set3 (HB.out.far (w.heap.size + 2)) (Nat.le_succ _) (Nat.lt_succ_self _) _ _ _, .inl ⟨rfl, Nat.le_refl _⟩, set3_below HB2.out (Nat.le_succ _) _ _ _⟩
  | true =>
    obtain ⟨q1, q2, q3, q4, q5⟩ := mayT_iff.1 hm
    have hmp : mayP ⟨cap, data, sure⟩ = true := by rw [mayP]; simp only [hb.len]; exact hm
    have HR := Lib.hid (show syncP ⟨cap, data, sure⟩ = (⟨cap, data, (n : Int)⟩, 0) from by rw [syncP, cutP, hmp, if_pos rfl, fcutP, if_neg (by simp only [hb.len]; omega)]; simp only [Sp.upto, hb.len, Int.toNat_natCast]; rw [← hb.len, List.take_length])
    have HM := Lib.hid hm
    have HB := Lib.hid hb
    clear hb hm
    · go_enter Tryz.func28, Tryz.ntmps28
      go_wp2_with (go_at_call 31
                   (with_reducible refine (rstmay_any _ A n c _ _ hn).mono ?_)
                   rintro e w2 ⟨he, hb2⟩
                   rw [HM.out] at he
                   subst he
                   obtain ⟨hB2, hs2, y1, y2⟩ := after_two hb2
                   have HF2 := Lib.hid (show BoxT w2 w.heap.size 24 cap A n c sure from y1)
                   have HX2 := Lib.hid (show BoxT w2 (w.heap.size + 1) 24 0 none 0 0 0 from y2)
                   obtain ⟨x0, x1, x2⟩ := HF2.out.cells
                   obtain ⟨z0, z1, z2⟩ := HX2.out.cells
                   have g0 := HX2.out.free 0
                   have g1 := HX2.out.free 1
                   have g2 := HX2.out.free 2
                   have HB2 := Lib.hid hB2
                   have HS2 := Lib.hid hs2
                   clear hb2 hB2 hs2 y1 y2)
      refine bodyPost_ret (v := .tuple #[.agg #[.int .i64 cap, .slice A n c, .int .i64 n], .int .i64 0]) ?_ ?_ ?_
      · exact ret_store Tryz.results28 _ _ (w.heap.size + 1) 24 _ _ _ _ rfl (set3_heap _ _ _ HX2.out) rfl
      · rfl
      · rw [HR.out]
        exact ⟨A, n, c, rfl, (HB.out.below HB2.out).set3 (HB.out.far (w.heap.size + 2)) (Nat.le_succ _) (Nat.lt_succ_self _) _ _ _, .inl ⟨rfl, Nat.le_refl _⟩, set3_below HB2.out (Nat.le_succ _) _ _ _⟩
set_option maxHeartbeats 1000000 in
theorem rcut_any (s : Sp) (A : Option Addr) (n c : Nat) (k : Int) (w : World) (hb : Bts w A n c s.data) :
    Calls Tryz.prog 33 #[s.val A n c, .int .i64 k] w (GSE (cutP s k) A n w) := by
  obtain ⟨cap, data, sure⟩ := s
  simp only at hb
  unfold Sp.val
  simp only
  have hn := hb.small
  have HLL := Lib.hid hb.len
  cases hm : mayT cap n sure with
  | false =>
    have hmp : mayP ⟨cap, data, sure⟩ = false := by rw [mayP]; simp only [hb.len]; exact hm
    have HR := Lib.hid (show cutP ⟨cap, data, sure⟩ k = (⟨cap, data, sure⟩, 1) from by rw [cutP, hmp]; rfl)
    have HM := Lib.hid hm
    have HB := Lib.hid hb
    clear hb hm
    · go_enter Tryz.func33, Tryz.ntmps33
      go_wp2_with (go_at_call 31
                   (with_reducible refine (rstmay_any _ A n c _ _ hn).mono ?_)
                   rintro e w2 ⟨he, hb2⟩
                   rw [HM.out] at he
                   subst he
                   obtain ⟨hB2, hs2, y1, y2⟩ := after_two hb2
                   have HF2 := Lib.hid (show BoxT w2 w.heap.size 24 cap A n c sure from y1)
                   have HX2 := Lib.hid (show BoxT w2 (w.heap.size + 1) 24 0 none 0 0 0 from y2)
                   obtain ⟨x0, x1, x2⟩ := HF2.out.cells
                   obtain ⟨z0, z1, z2⟩ := HX2.out.cells
                   have g0 := HX2.out.free 0
                   have g1 := HX2.out.free 1
                   have g2 := HX2.out.free 2
                   have HB2 := Lib.hid hB2
                   have HS2 := Lib.hid hs2
                   clear hb2 hB2 hs2 y1 y2)
      refine bodyPost_ret (v := .tuple #[.agg #[.int .i64 cap, .slice A n c, .int .i64 sure], .int .i64 1]) ?_ ?_ ?_
      · exact ret_store Tryz.results33 _ _ (w.heap.size + 1) 24 _ _ _ _ rfl (set3_heap _ _ _ HX2.out) rfl
      · rfl
      · rw [HR.out]
        exact ⟨A, n, c, rfl, (HB.out.below HB2.out).set3 (HB.out.far (w.heap.size + 2)) (Nat.le_succ _) (Nat.lt_succ_self _) _ _ _, .inl ⟨rfl, Nat.le_refl _⟩, set3_below HB2.out (Nat.le_succ _) _ _ _⟩
  | true =>
    obtain ⟨q1, q2, q3, q4, q5⟩ := mayT_iff.1 hm
    have hmp : mayP ⟨cap, data, sure⟩ = true := by rw [mayP]; simp only [hb.len]; exact hm
    by_cases h1 : k < 0
    · have HR := Lib.hid (show cutP ⟨cap, data, sure⟩ k = (⟨cap, data, sure⟩, 1) from by rw [cutP, hmp, if_pos rfl, fcutP, if_pos (.inl h1)])
      have HM := Lib.hid hm
      have HB := Lib.hid hb
      clear hb hm
      go_enter Tryz.func33, Tryz.ntmps33
      go_wp2_with (go_at_call 31
                   (with_reducible refine (rstmay_any _ A n c _ _ hn).mono ?_)
                   rintro e w2 ⟨he, hb2⟩
                   rw [HM.out] at he
                   subst he
                   obtain ⟨hB2, hs2, y1, y2⟩ := after_two hb2
                   have HF2 := Lib.hid (show BoxT w2 w.heap.size 24 cap A n c sure from y1)
                   have HX2 := Lib.hid (show BoxT w2 (w.heap.size + 1) 24 0 none 0 0 0 from y2)
                   obtain ⟨x0, x1, x2⟩ := HF2.out.cells
                   obtain ⟨z0, z1, z2⟩ := HX2.out.cells
                   have g0 := HX2.out.free 0
                   have g1 := HX2.out.free 1
                   have g2 := HX2.out.free 2
                   have HB2 := Lib.hid hB2
                   have HS2 := Lib.hid hs2
                   clear hb2 hB2 hs2 y1 y2)
      refine bodyPost_ret (v := .tuple #[.agg #[.int .i64 cap, .slice A n c, .int .i64 sure], .int .i64 1]) ?_ ?_ ?_
      · exact ret_store Tryz.results33 _ _ (w.heap.size + 1) 24 _ _ _ _ rfl (set3_heap _ _ _ HX2.out) rfl
      · rfl
      · rw [HR.out]
        exact ⟨A, n, c, rfl, (HB.out.below HB2.out).set3 (HB.out.far (w.heap.size + 2)) (Nat.le_succ _) (Nat.lt_succ_self _) _ _ _, .inl ⟨rfl, Nat.le_refl _⟩, set3_below HB2.out (Nat.le_succ _) _ _ _⟩
    · by_cases h2 : (n : Int) < k
      · have HR := Lib.hid (show cutP ⟨cap, data, sure⟩ k = (⟨cap, data, sure⟩, 1) from by rw [cutP, hmp, if_pos rfl, fcutP, if_pos (.inr (by simp only [hb.len]; exact h2))])
        have HM := Lib.hid hm
        have HB := Lib.hid hb
        clear hb hm
        go_enter Tryz.func33, Tryz.ntmps33
        go_wp2_with (go_at_call 31
                     (with_reducible refine (rstmay_any _ A n c _ _ hn).mono ?_)
                     rintro e w2 ⟨he, hb2⟩
                     rw [HM.out] at he
                     subst he
                     obtain ⟨hB2, hs2, y1, y2⟩ := after_two hb2
                     have HF2 := Lib.hid (show BoxT w2 w.heap.size 24 cap A n c sure from y1)
                     have HX2 := Lib.hid (show BoxT w2 (w.heap.size + 1) 24 0 none 0 0 0 from y2)
                     obtain ⟨x0, x1, x2⟩ := HF2.out.cells
                     obtain ⟨z0, z1, z2⟩ := HX2.out.cells
                     have g0 := HX2.out.free 0
                     have g1 := HX2.out.free 1
                     have g2 := HX2.out.free 2
                     have HB2 := Lib.hid hB2
                     have HS2 := Lib.hid hs2
                     clear hb2 hB2 hs2 y1 y2)
        refine bodyPost_ret (v := .tuple #[.agg #[.int .i64 cap, .slice A n c, .int .i64 sure], .int .i64 1]) ?_ ?_ ?_
        · exact ret_store Tryz.results33 _ _ (w.heap.size + 1) 24 _ _ _ _ rfl (set3_heap _ _ _ HX2.out) rfl
        · rfl
        · rw [HR.out]
          exact ⟨A, n, c, rfl, (HB.out.below HB2.out).set3 (HB.out.far (w.heap.size + 2)) (Nat.le_succ _) (Nat.lt_succ_self _) _ _ _, .inl ⟨rfl, Nat.le_refl _⟩, set3_below HB2.out (Nat.le_succ _) _ _ _⟩
      · obtain ⟨j, rfl⟩ := Int.eq_ofNat_of_zero_le (show 0 ≤ k by omega)
        have hj : j ≤ n := by omega
        obtain ⟨hto, hbt⟩ := run_to hb (j : Int) (hi := j) rfl hj
        have HR := Lib.hid (show cutP ⟨cap, data, sure⟩ (j : Int) = (⟨cap, data.take j, (j : Int)⟩, 0) from by rw [cutP, hmp, if_pos rfl, fcutP, if_neg (by simp only [hb.len]; omega)]; rfl)
        have HM := Lib.hid hm
        have HB0 := Lib.hid hb
        have HB := Lib.hid hbt
        clear hb hm hbt
        go_enter Tryz.func33, Tryz.ntmps33
        go_wp2_with (go_at_call 31
                     (with_reducible refine (rstmay_any _ A n c _ _ hn).mono ?_)
                     rintro e w2 ⟨he, hb2⟩
                     rw [HM.out] at he
                     subst he
                     obtain ⟨hB2, hs2, y1, y2⟩ := after_two hb2
                     have HF2 := Lib.hid (show BoxT w2 w.heap.size 24 cap A n c sure from y1)
                     have HX2 := Lib.hid (show BoxT w2 (w.heap.size + 1) 24 0 none 0 0 0 from y2)
                     obtain ⟨x0, x1, x2⟩ := HF2.out.cells
                     obtain ⟨z0, z1, z2⟩ := HX2.out.cells
                     have g0 := HX2.out.free 0
                     have g1 := HX2.out.free 1
                     have g2 := HX2.out.free 2
                     have HB2 := Lib.hid hB2
                     have HS2 := Lib.hid hs2
                     clear hb2 hB2 hs2 y1 y2)
        go_region
        go_wp2
        refine bodyPost_ret (v := .tuple #[.agg #[.int .i64 cap, .slice A j c, .int .i64 (j : Int)], .int .i64 0]) ?_ ?_ ?_
        · exact ret_store Tryz.results33 _ _ (w.heap.size + 1) 24 _ _ _ _ rfl (set3_heap _ _ _ HX2.out) rfl
        · rfl
        · rw [HR.out]
          exact ⟨A, j, c, rfl, ((HB.out.below HB2.out).set3 (HB.out.far (w.heap.size + 2)) (Nat.le_succ _) (Nat.lt_succ_self _) _ _ _).draw1, .inl ⟨rfl, hj⟩, (set3_below HB2.out (Nat.le_succ _) _ _ _).drew⟩
set_option maxHeartbeats 1000000 in
theorem rcrash_any (s : Sp) (A : Option Addr) (n c : Nat) (keep : Int) (w : World) (hb : Bts w A n c s.data) :
    Calls Tryz.prog 40 #[s.val A n c, .int .i64 keep] w (GS (crashP s keep) A n w) := by
  obtain ⟨cap, data, sure⟩ := s
  simp only at hb
  unfold Sp.val
  simp only
  have hn := hb.small
  have HLL := Lib.hid hb.len
  cases hm : mayT cap n sure with
  | false =>
    have hmp : mayP ⟨cap, data, sure⟩ = false := by rw [mayP]; simp only [hb.len]; exact hm
    have HR := Lib.hid (show crashP ⟨cap, data, sure⟩ keep = ⟨cap, data, sure⟩ from by rw [crashP, hmp]; rfl)
    have HM := Lib.hid hm
    have HB := Lib.hid hb
    clear hb hm
    · go_enter Tryz.func40, Tryz.ntmps40
      go_wp2_with (go_at_call 31
                   (with_reducible refine (rstmay_any _ A n c _ _ hn).mono ?_)
                   rintro e w2 ⟨he, hb2⟩
                   rw [HM.out] at he
                   subst he
                   obtain ⟨hB2, hs2, y1, y2⟩ := after_two hb2
                   have HF2 := Lib.hid (show BoxT w2 w.heap.size 24 cap A n c sure from y1)
                   have HX2 := Lib.hid (show BoxT w2 (w.heap.size + 1) 24 0 none 0 0 0 from y2)
                   obtain ⟨x0, x1, x2⟩ := HF2.out.cells
                   obtain ⟨z0, z1, z2⟩ := HX2.out.cells
                   have g0 := HX2.out.free 0
                   have g1 := HX2.out.free 1
                   have g2 := HX2.out.free 2
                   have HB2 := Lib.hid hB2
                   have HS2 := Lib.hid hs2
                   clear hb2 hB2 hs2 y1 y2)
      refine bodyPost_ret (v := .agg #[.int .i64 cap, .slice A n c, .int .i64 sure]) ?_ ?_ ?_
      · exact ret_store1 Tryz.results40 _ _ (w.heap.size + 1) 24 _ _ _ rfl (set3_heap _ _ _ HX2.out)
      · rfl
      · rw [HR.out]
        exact ⟨A, n, c, rfl, (HB.out.below HB2.out).set3 (HB.out.far (w.heap.size + 2)) (Nat.le_succ _) (Nat.lt_succ_self _) _ _ _, .inl ⟨rfl, Nat.le_refl _⟩, set3_below HB2.out (Nat.le_succ _) _ _ _⟩
  | true =>
    obtain ⟨q1, q2, q3, q4, q5⟩ := mayT_iff.1 hm
    have hmp : mayP ⟨cap, data, sure⟩ = true := by rw [mayP]; simp only [hb.len]; exact hm
    by_cases h1 : keep < 0
    · obtain ⟨j, hj⟩ := Int.eq_ofNat_of_zero_le (show 0 ≤ sure by omega)
      have hjn : j ≤ n := by omega
      obtain ⟨hto, hbt⟩ := run_to hb (sure) (hi := j) hj hjn
      have HR := Lib.hid (show crashP ⟨cap, data, sure⟩ keep = ⟨cap, data.take j, sure⟩ from by
        rw [crashP, hmp, if_pos rfl]
        have e : (keptP ⟨cap, data, sure⟩ keep).toNat = j := by simp only [keptP, hb.len]; omega
        rw [e]
        show Sp.mk cap (data.take j) (j : Int) = Sp.mk cap (data.take j) (sure)
        rw [hj])
      have HM := Lib.hid hm
      have HB0 := Lib.hid hb
      have HB := Lib.hid hbt
      clear hb hm hbt hj
      go_enter Tryz.func40, Tryz.ntmps40
      go_wp2_with (go_at_call 31
                   (with_reducible refine (rstmay_any _ A n c _ _ hn).mono ?_)
                   rintro e w2 ⟨he, hb2⟩
                   rw [HM.out] at he
                   subst he
                   obtain ⟨hB2, hs2, y1, y2⟩ := after_two hb2
                   have HF2 := Lib.hid (show BoxT w2 w.heap.size 24 cap A n c sure from y1)
                   have HX2 := Lib.hid (show BoxT w2 (w.heap.size + 1) 24 0 none 0 0 0 from y2)
                   obtain ⟨x0, x1, x2⟩ := HF2.out.cells
                   obtain ⟨z0, z1, z2⟩ := HX2.out.cells
                   have g0 := HX2.out.free 0
                   have g1 := HX2.out.free 1
                   have g2 := HX2.out.free 2
                   have HB2 := Lib.hid hB2
                   have HS2 := Lib.hid hs2
                   clear hb2 hB2 hs2 y1 y2)
      go_region
      go_wp2
      refine bodyPost_ret (v := .agg #[.int .i64 cap, .slice A j c, .int .i64 (sure)]) ?_ ?_ ?_
      · exact ret_store1 Tryz.results40 _ _ (w.heap.size + 1) 24 _ _ _ rfl (set3_heap _ _ _ HX2.out)
      · rfl
      · rw [HR.out]
        exact ⟨A, j, c, rfl, ((HB.out.below HB2.out).set3 (HB.out.far (w.heap.size + 2)) (Nat.le_succ _) (Nat.lt_succ_self _) _ _ _).draw1, .inl ⟨rfl, hjn⟩, (set3_below HB2.out (Nat.le_succ _) _ _ _).drew⟩
    · by_cases h2 : (n : Int) - sure < keep
      · obtain ⟨j, hj⟩ := Int.eq_ofNat_of_zero_le (show 0 ≤ sure + ((n : Int) - sure) by omega)
        have hjn : j ≤ n := by omega
        obtain ⟨hto, hbt⟩ := run_to hb (sure + ((n : Int) - sure)) (hi := j) hj hjn
        have HR := Lib.hid (show crashP ⟨cap, data, sure⟩ keep = ⟨cap, data.take j, sure + ((n : Int) - sure)⟩ from by
          rw [crashP, hmp, if_pos rfl]
          have e : (keptP ⟨cap, data, sure⟩ keep).toNat = j := by simp only [keptP, hb.len]; omega
          rw [e]
          show Sp.mk cap (data.take j) (j : Int) = Sp.mk cap (data.take j) (sure + ((n : Int) - sure))
          rw [hj])
        have HM := Lib.hid hm
        have HB0 := Lib.hid hb
        have HB := Lib.hid hbt
        clear hb hm hbt hj
        go_enter Tryz.func40, Tryz.ntmps40
        go_wp2_with (go_at_call 31
                     (with_reducible refine (rstmay_any _ A n c _ _ hn).mono ?_)
                     rintro e w2 ⟨he, hb2⟩
                     rw [HM.out] at he
                     subst he
                     obtain ⟨hB2, hs2, y1, y2⟩ := after_two hb2
                     have HF2 := Lib.hid (show BoxT w2 w.heap.size 24 cap A n c sure from y1)
                     have HX2 := Lib.hid (show BoxT w2 (w.heap.size + 1) 24 0 none 0 0 0 from y2)
                     obtain ⟨x0, x1, x2⟩ := HF2.out.cells
                     obtain ⟨z0, z1, z2⟩ := HX2.out.cells
                     have g0 := HX2.out.free 0
                     have g1 := HX2.out.free 1
                     have g2 := HX2.out.free 2
                     have HB2 := Lib.hid hB2
                     have HS2 := Lib.hid hs2
                     clear hb2 hB2 hs2 y1 y2)
        go_region
        go_wp2
        refine bodyPost_ret (v := .agg #[.int .i64 cap, .slice A j c, .int .i64 (sure + ((n : Int) - sure))]) ?_ ?_ ?_
        · exact ret_store1 Tryz.results40 _ _ (w.heap.size + 1) 24 _ _ _ rfl (set3_heap _ _ _ HX2.out)
        · rfl
        · rw [HR.out]
          exact ⟨A, j, c, rfl, ((HB.out.below HB2.out).set3 (HB.out.far (w.heap.size + 2)) (Nat.le_succ _) (Nat.lt_succ_self _) _ _ _).draw1, .inl ⟨rfl, hjn⟩, (set3_below HB2.out (Nat.le_succ _) _ _ _).drew⟩
      · obtain ⟨j, hj⟩ := Int.eq_ofNat_of_zero_le (show 0 ≤ sure + keep by omega)
        have hjn : j ≤ n := by omega
        obtain ⟨hto, hbt⟩ := run_to hb (sure + keep) (hi := j) hj hjn
        have HR := Lib.hid (show crashP ⟨cap, data, sure⟩ keep = ⟨cap, data.take j, sure + keep⟩ from by
          rw [crashP, hmp, if_pos rfl]
          have e : (keptP ⟨cap, data, sure⟩ keep).toNat = j := by simp only [keptP, hb.len]; omega
          rw [e]
          show Sp.mk cap (data.take j) (j : Int) = Sp.mk cap (data.take j) (sure + keep)
          rw [hj])
        have HM := Lib.hid hm
        have HB0 := Lib.hid hb
        have HB := Lib.hid hbt
        clear hb hm hbt hj
        go_enter Tryz.func40, Tryz.ntmps40
        go_wp2_with (go_at_call 31
                     (with_reducible refine (rstmay_any _ A n c _ _ hn).mono ?_)
                     rintro e w2 ⟨he, hb2⟩
                     rw [HM.out] at he
                     subst he
                     obtain ⟨hB2, hs2, y1, y2⟩ := after_two hb2
                     have HF2 := Lib.hid (show BoxT w2 w.heap.size 24 cap A n c sure from y1)
                     have HX2 := Lib.hid (show BoxT w2 (w.heap.size + 1) 24 0 none 0 0 0 from y2)
                     obtain ⟨x0, x1, x2⟩ := HF2.out.cells
                     obtain ⟨z0, z1, z2⟩ := HX2.out.cells
                     have g0 := HX2.out.free 0
                     have g1 := HX2.out.free 1
                     have g2 := HX2.out.free 2
                     have HB2 := Lib.hid hB2
                     have HS2 := Lib.hid hs2
                     clear hb2 hB2 hs2 y1 y2)
        go_region
        go_wp2
        refine bodyPost_ret (v := .agg #[.int .i64 cap, .slice A j c, .int .i64 (sure + keep)]) ?_ ?_ ?_
        · exact ret_store1 Tryz.results40 _ _ (w.heap.size + 1) 24 _ _ _ rfl (set3_heap _ _ _ HX2.out)
        · rfl
        · rw [HR.out]
          exact ⟨A, j, c, rfl, ((HB.out.below HB2.out).set3 (HB.out.far (w.heap.size + 2)) (Nat.le_succ _) (Nat.lt_succ_self _) _ _ _).draw1, .inl ⟨rfl, hjn⟩, (set3_below HB2.out (Nat.le_succ _) _ _ _).drew⟩
end Go.Proofs.YtafmompplcaadaaGreatDoor

/- The walk over the document's Open of a store. -/
namespace Go.Proofs.YtafmompplcaadaaGreatDoor
set_option maxRecDepth 100000
set_option linter.unusedVariables false
set_option linter.unusedSimpArgs false
open Go.RowKit

theorem loc_far {w X : World} {A A' : Option Addr} {n n' c hi : Nat} {l : List Int} (hb : Bts w A n c l) (h : Loc A n A' n' X) (hX : hi ≤ X.heap.size) : Far A' n' w.heap.size hi := by
  rcases h with ⟨rfl, hn⟩ | h
  · exact (hb.far hi).part hn
  · exact fun a ha _ => .inr (Nat.le_trans hX (h a ha))
theorem blk_far {A : Option Addr} {n lo hi : Nat} {X : World} (h : ∀ a, A = some a → X.heap.size ≤ a.block) (hX : hi ≤ X.heap.size) : Far A n lo hi := fun a ha _ => .inr (Nat.le_trans hX (h a ha))
set_option maxHeartbeats 2000000 in
theorem aropen_no (s : Sp) (A : Option Addr) (n c : Nat) (w : World) (hb : Bts w A n c s.data) (hm : mayP s = false) :
    Calls Tryz.prog 9 #[.agg #[.int .i64 s.cap, .slice A n c, .int .i64 s.sure]] w (GLE (zeroG, 1) w) := by
  have hns := hb.small
  have HMY := Lib.hid (fun X => rstmay_any s.cap A n c s.sure X (by omega))
  rw [show mayT s.cap n s.sure = false by rw [← hm, mayP, hb.len]] at HMY
  have HZS := Lib.hid (info_log (C := Lp.zero.arr) (lp_size rfl))
  obtain ⟨cap, hcap⟩ : ∃ x, s.cap = x := ⟨_, rfl⟩
  obtain ⟨sure, hsure⟩ : ∃ x, s.sure = x := ⟨_, rfl⟩
  rw [hcap, hsure] at HMY ⊢
  clear hb hm hcap hsure
  go_enter Tryz.func9, Tryz.ntmps9
  go_wp2_with (first
    | (go_at_call 31
       (with_reducible refine (HMY.out _).mono ?_)
       rintro e w1 ⟨rfl, hb1⟩
       obtain ⟨hB1, hs1, y1, y2⟩ := after_two hb1
       have hbox : w1.heap[w.heap.size + 1]? = some (.cells Lp.zero.arr 29 (0, 0)) := y2
       have HB1 := Lib.hid hB1
       clear hb1 hB1 y1 y2)
    | ((with_reducible refine wpList_build_to rfl 29 _ rfl [] _ rfl built_zero_g ?_))
    | ((with_reducible refine wpList_store_blk rfl 29 _ _ rfl (w.heap.size + 1) Lp.zero.arr ?hx3 ?hy3 29 _ hbox HZS.out ?hs3 (lp_one _) ?_); (case hx3 => rfl); (case hy3 => rfl); (case hs3 => rfl)
       intro w3 hg3 hX3 hs3
       have HB3 := Lib.hid (HB1.out.grown hg3 HB1.out.size (fun k e => by cases e; exact Nat.le_succ _))
       clear hg3 hs3))
  refine bodyPost_ret (v := .tuple #[.agg Lp.zero.arr, .int .i64 1]) ?_ rfl ⟨Lp.zero, rfl, zero_at _, HB3.out⟩
  exact results_blk_tmp Tryz.results9 _ _ _ (w.heap.size + 1) 29 _ (0, 0) _ rfl hX3 Tryz.underlying29 rfl HZS.out _ rfl
set_option maxHeartbeats 4000000 in
theorem aropen_yes (s : Sp) (A : Option Addr) (n c : Nat) (w : World) (hb : Bts w A n c s.data) (hm : mayP s = true) :
    Calls Tryz.prog 9 #[.agg #[.int .i64 s.cap, .slice A n c, .int .i64 s.sure]] w (GLE (openG s) w) := by
  have hns := hb.small
  have HMY := Lib.hid (fun X => rstmay_any s.cap A n c s.sure X (by omega))
  rw [show mayT s.cap n s.sure = true by rw [← hm, mayP, hb.len]] at HMY
  have HRD := Lib.hid (fun (X : World) (hX : Below w.heap.size w X) => rreadl_any A n c s.data X (hb.below hX))
  have HCU := Lib.hid (fun (X : World) (hX : Below w.heap.size w X) => rcut_any s A n c (62 * ((readC s.data).length : Int)) X (hb.below hX))
  obtain ⟨e0, -, hok⟩ := open_any hm (bytes_mem hb.ok)
  have hd := may_data hm
  rw [openG, if_pos hm] at e0 hok ⊢
  have hZL := headC_len (readC s.data)
  have hZB := headC_byte (readC s.data)
  obtain ⟨R, hR⟩ : ∃ R, readC s.data = R := ⟨_, rfl⟩
  rw [hR] at HRD HCU e0 hok hZL hZB ⊢
  obtain ⟨Z, hZ⟩ : ∃ Z, headC R = Z := ⟨_, rfl⟩
  rw [hZ] at HRD e0 hok hZL hZB ⊢
  obtain ⟨T, hT⟩ : ∃ T, cutP s (62 * (R.length : Int)) = T := ⟨_, rfl⟩
  rw [hT] at HCU e0 hok ⊢
  obtain ⟨⟨C1, D1, S1⟩, E1⟩ := T
  have hc1 : C1 = s.cap := by
    have := congrArg (fun q : Lg × Int => q.1.st.cap) e0
    exact this
  have hfit : -9223372036854775808 ≤ C1 ∧ C1 ≤ 9223372036854775807 := by rw [hc1]; omega
  have HOK := Lib.hid (show Lg.ok ⟨⟨C1, D1, S1⟩, R, Z⟩ from ⟨hok, hZL, hZB⟩)
  have HFT := Lib.hid hfit
  have HZL := Lib.hid hZL
  have HDT := Lib.hid hb
  have HCV := Lib.hid (show ∀ X, Below w.heap.size w X → Calls Tryz.prog 33 #[.agg #[.int .i64 s.cap, .slice A n c, .int .i64 s.sure], .int .i64 (62 * (R.length : Int))] X fun e w' => ∃ A' n' c', e = .returned (.tuple #[.agg #[.int .i64 C1, .slice A' n' c', .int .i64 S1], .int .i64 E1]) ∧ Bts w' A' n' c' D1 ∧ Loc A n A' n' X ∧ Below X.heap.size X w' from fun X hX => HCU.out X hX)
  obtain ⟨cap, hcap⟩ : ∃ x, s.cap = x := ⟨_, rfl⟩
  obtain ⟨sure, hsure⟩ : ∃ x, s.sure = x := ⟨_, rfl⟩
  rw [hcap, hsure] at HMY ⊢
  simp only [hcap, hsure] at HCV
  clear hb hm hcap hsure hT hZ hR hok hZL hZB e0 HCU hfit hc1 hd
  go_enter Tryz.func9, Tryz.ntmps9
  go_wp2_with (first
    | (go_at_call 31
       (with_reducible refine (HMY.out _).mono ?_)
       rintro e w1 ⟨rfl, hb1⟩
       obtain ⟨hB1, hs1, y1, y2⟩ := after_two hb1
       have hbox : w1.heap[w.heap.size + 1]? = some (.cells Lp.zero.arr 29 (0, 0)) := y2
       have hst : w1.heap[w.heap.size]? = some (.cells #[.int .i64 cap, .slice A n c, .int .i64 sure] 24 (0, 0)) := y1
       have x1 : w1.cell? ⟨w.heap.size, 1, none⟩ = some (.slice A n c) := (BoxT.cells (show BoxT w1 w.heap.size 24 cap A n c sure from y1)).2.1
       have HB1 := Lib.hid hB1
       have hz1 : w.heap.size + 2 ≤ w1.heap.size := hs1
       clear hb1 hB1 y1 y2 hs1)
    | (go_at_call 32
       (with_reducible refine (HRD.out _ HB1.out).mono ?_)
       rintro e w2 ⟨B, m, d, rfl, hen, hloc, hbx⟩
       have hfe := blk_far (n := m) (lo := w.heap.size) hloc hz1
       have HEN := Lib.hid hen
       have hbox := blk_below hbox hbx
       have hst := blk_below hst hbx
       have HB2 := Lib.hid (HB1.out.trans (hbx.mono HB1.out.size))
       have hz2 : w.heap.size + 2 ≤ w2.heap.size := Nat.le_trans hz1 hbx.size
       clear hbx hen hloc x1 hz1)
    | ((with_reducible refine wpList_store_blk rfl 27 _ _ rfl w2.heap.size (idv Z) ?hx2 ?hy2 27 _ (heap_alloc_new w2 _) (info32 HZL.out) ?hs2 (idv_one _) ?_); (case hx2 => rfl); (case hy2 => rfl); (case hs2 => rw [idv_size, HZL.out]; rfl)
       intro w3 hg2 hX hs2
       have hX : RowB w3 w2.heap.size 27 Z := hX
       have hbx : Below w2.heap.size w2 w3 := Below.grows (one_alloc w2 _) hg2 (size_le_alloc _ _) (Nat.le_refl _)
       have HB3 := Lib.hid (HB2.out.trans (hbx.mono HB2.out.size))
       have HEN := Lib.hid (HEN.out.below hbx)
       have hbox := blk_below hbox hbx
       have hst := blk_below hst hbx
       have hz3 : w.heap.size + 2 ≤ w3.heap.size := Nat.le_trans hz2 hbx.size
       clear hbx hg2 hs2 hz2)
    | ((with_reducible refine wpList_load_blk 24 _ rfl w.heap.size ?hx5 24 #[.int .i64 cap, .slice A n c, .int .i64 sure] (0, 0) _ hst Tryz.underlying24 ?hd5 (size_st3 _ _ _) ?_ ?hw5); (case hx5 => rfl); (case hd5 => rfl); (case hw5 => rfl))
    | (go_at_call 33
       (with_reducible refine (HCV.out _ HB3.out).mono ?_)
       rintro e w4 ⟨A', n', c', rfl, hbt, hloc, hbx⟩
       have hfd := loc_far HDT.out hloc hz3
       have HDA := Lib.hid hbt
       have HEN := Lib.hid (HEN.out.below hbx)
       have hX4 := hX.keep hbx
       have HLS := Lib.hid (show (Lp.arr ⟨C1, A', n', c', S1, B, m, d, Z⟩).size = 36 from lp_size HZL.out)
       have hbox := blk_below hbox hbx
       have HB4 := Lib.hid (HB3.out.trans (hbx.mono HB3.out.size))
       clear hbx hbt hloc hz3 hst hX)
    | ((with_reducible refine wpList_load_blk 27 _ rfl w2.heap.size ?hx6 27 (idv Z) (0, 0) _ (blk_below hX4.is (one_alloc w4 _)) Tryz.underlying27 ?hd6 (info32 HZL.out) ?_ ?hw6); (case hx6 => rfl); (case hd6 => rfl); (case hw6 => rfl))
    | ((with_reducible refine wpList_build_to rfl 29 _ rfl [(0, .agg #[.int .i64 C1, .slice A' n' c', .int .i64 S1]), (1, .slice B m d), (2, .agg (idv Z))] (Lp.arr ⟨C1, A', n', c', S1, B, m, d, Z⟩) ?hl8 ?hb8 ?_); (case hl8 => rfl); (case hb8 => exact built_log ⟨C1, A', n', c', S1, B, m, d, Z⟩ HZL.out))
    | ((with_reducible refine wpList_store_blk rfl 29 _ _ rfl (w.heap.size + 1) (Lp.arr ⟨C1, A', n', c', S1, B, m, d, Z⟩) ?hx7 ?hy7 29 _ (blk_below hbox (one_alloc w4 _)) (info_log HLS.out) ?hs7 (lp_one _) ?_); (case hx7 => rfl); (case hy7 => rfl); (case hs7 => exact (lp_size (p := Lp.zero) rfl).trans HLS.out.symm)
       intro w7 hg7 hX7 hs7))
  have hda7 := (HDA.out.below (one_alloc w4 (.cells #[.int .i64 C1, .slice A' n' c', .int .i64 S1] 24 (0, 0)))).kept hfd hg7 (Nat.le_succ _) (Nat.lt_succ_self _)
  have hen7 := ens_kept (HEN.out.below (one_alloc w4 (.cells #[.int .i64 C1, .slice A' n' c', .int .i64 S1] 24 (0, 0)))) hfe hg7 (Nat.le_succ _) (Nat.lt_succ_self _)
  have hb7 := (HB4.out.alloc HB4.out.size (.cells #[.int .i64 C1, .slice A' n' c', .int .i64 S1] 24 (0, 0))).grown hg7 (HB4.out.alloc HB4.out.size _).size (fun k e => by cases e; exact Nat.le_succ _)
  refine bodyPost_ret (v := .tuple #[.agg (Lp.arr ⟨C1, A', n', c', S1, B, m, d, Z⟩), .int .i64 0]) ?_ rfl ⟨_, rfl, ⟨rfl, rfl, rfl, hda7, hen7, HOK.out, HFT.out⟩, hb7⟩
  exact results_blk_tmp Tryz.results9 _ _ _ (w.heap.size + 1) 29 _ (0, 0) _ rfl hX7 Tryz.underlying29 rfl (info_log HLS.out) _ rfl
theorem aropen_any (s : Sp) (A : Option Addr) (n c : Nat) (w : World) (hb : Bts w A n c s.data) :
    Calls Tryz.prog 9 #[.agg #[.int .i64 s.cap, .slice A n c, .int .i64 s.sure]] w (GLE (openG s) w) := by
  cases hm : mayP s with
  | false => rw [openG, hm]; exact aropen_no s A n c w hb hm
  | true => exact aropen_yes s A n c w hb hm
end Go.Proofs.YtafmompplcaadaaGreatDoor

/- The walk over the document's Write of stores. -/
namespace Go.Proofs.YtafmompplcaadaaGreatDoor
set_option maxRecDepth 100000
set_option linter.unusedVariables false
set_option linter.unusedSimpArgs false
open Go.RowKit

theorem BoxT.grown {w w' : World} {g : Nat} {t : TypeId} {cap : Int} {A : Option Addr} {n c : Nat} {sure : Int} {row : Option Nat} (h : BoxT w g t cap A n c sure) (hb : w.grownBy w' row) (hg : some g ≠ row) : BoxT w' g t cap A n c sure := (hb.block g h.lt hg).trans h
set_option maxHeartbeats 1000000 in
theorem rwrite_any (s : Sp) (b : List Int) (A B : Option Addr) (n c m d : Nat) (w : World) (hb : Bts w A n c s.data) (h2 : Bts w B m d b) :
    Calls Tryz.prog 27 #[s.val A n c, .slice B m d] w (GSE (writeP s b) A n w) := by
  obtain ⟨cap, data, sure⟩ := s
  simp only at hb
  unfold Sp.val
  simp only
  have hn := hb.small
  have hn2 := h2.small
  have HLL := Lib.hid hb.len
  cases hm : mayT cap n sure with
  | false =>
    have hmp : mayP ⟨cap, data, sure⟩ = false := by rw [mayP]; simp only [hb.len]; exact hm
    have HR := Lib.hid (show writeP ⟨cap, data, sure⟩ b = (⟨cap, data, sure⟩, 1) from by rw [writeP, hmp]; rfl)
    have HM := Lib.hid hm
    have HB := Lib.hid hb
    clear hb hm h2
    go_enter Tryz.func27, Tryz.ntmps27
    go_wp2_with (go_at_call 31
                 (with_reducible refine (rstmay_any _ A n c _ _ hn).mono ?_)
                 rintro e w2 ⟨he, hb2⟩
                 rw [HM.out] at he
                 subst he
                 obtain ⟨hB2, hs2, y1, y2⟩ := after_two hb2
                 have HF2 := Lib.hid (show BoxT w2 w.heap.size 24 cap A n c sure from y1)
                 have HX2 := Lib.hid (show BoxT w2 (w.heap.size + 1) 24 0 none 0 0 0 from y2)
                 obtain ⟨x0, x1, x2⟩ := HF2.out.cells
                 obtain ⟨z0, z1, z2⟩ := HX2.out.cells
                 have g0 := HX2.out.free 0
                 have g1 := HX2.out.free 1
                 have g2 := HX2.out.free 2
                 have HB2 := Lib.hid hB2
                 have HS2 := Lib.hid hs2
                 clear hb2 hB2 hs2 y1 y2)
    refine bodyPost_ret (v := .tuple #[.agg #[.int .i64 cap, .slice A n c, .int .i64 sure], .int .i64 1]) ?_ ?_ ?_
    · exact ret_store Tryz.results27 _ _ (w.heap.size + 1) 24 _ _ _ _ rfl (set3_heap _ _ _ HX2.out) rfl
    · rfl
    · rw [HR.out]
      exact ⟨A, n, c, rfl, (HB.out.below HB2.out).set3 (HB.out.far (w.heap.size + 2)) (Nat.le_succ _) (Nat.lt_succ_self _) _ _ _, .inl ⟨rfl, Nat.le_refl _⟩, set3_below HB2.out (Nat.le_succ _) _ _ _⟩
  | true =>
    obtain ⟨q1, q2, q3, q4, q5⟩ := mayT_iff.1 hm
    have hmp : mayP ⟨cap, data, sure⟩ = true := by rw [mayP]; simp only [hb.len]; exact hm
    have HLB := Lib.hid h2.len
    by_cases h1 : cap - n < m
    · have HR := Lib.hid (show writeP ⟨cap, data, sure⟩ b = (⟨cap, data, sure⟩, 12) from by rw [writeP, hmp, if_pos rfl, fwriteP, if_pos (by simp only; rw [HLL.out, HLB.out]; exact h1)])
      have HM := Lib.hid hm
      have HB := Lib.hid hb
      clear hb hm h2
      go_enter Tryz.func27, Tryz.ntmps27
      go_wp2_with (go_at_call 31
                   (with_reducible refine (rstmay_any _ A n c _ _ hn).mono ?_)
                   rintro e w2 ⟨he, hb2⟩
                   rw [HM.out] at he
                   subst he
                   obtain ⟨hB2, hs2, y1, y2⟩ := after_two hb2
                   have HF2 := Lib.hid (show BoxT w2 w.heap.size 24 cap A n c sure from y1)
                   have HX2 := Lib.hid (show BoxT w2 (w.heap.size + 1) 24 0 none 0 0 0 from y2)
                   obtain ⟨x0, x1, x2⟩ := HF2.out.cells
                   obtain ⟨z0, z1, z2⟩ := HX2.out.cells
                   have g0 := HX2.out.free 0
                   have g1 := HX2.out.free 1
                   have g2 := HX2.out.free 2
                   have HB2 := Lib.hid hB2
                   have HS2 := Lib.hid hs2
                   clear hb2 hB2 hs2 y1 y2)
      refine bodyPost_ret (v := .tuple #[.agg #[.int .i64 cap, .slice A n c, .int .i64 sure], .int .i64 12]) ?_ ?_ ?_
      · exact ret_store Tryz.results27 _ _ (w.heap.size + 1) 24 _ _ _ _ rfl (set3_heap _ _ _ HX2.out) rfl
      · rfl
      · rw [HR.out]
        exact ⟨A, n, c, rfl, (HB.out.below HB2.out).set3 (HB.out.far (w.heap.size + 2)) (Nat.le_succ _) (Nat.lt_succ_self _) _ _ _, .inl ⟨rfl, Nat.le_refl _⟩, set3_below HB2.out (Nat.le_succ _) _ _ _⟩
    · have HR := Lib.hid (show writeP ⟨cap, data, sure⟩ b = (⟨cap, data ++ b, sure⟩, 0) from by rw [writeP, hmp, if_pos rfl, fwriteP, if_neg (by simp only; rw [HLL.out, HLB.out]; exact h1)])
      have HM := Lib.hid hm
      have HB := Lib.hid hb
      have HBB := Lib.hid h2
      clear hb hm h2
      go_enter Tryz.func27, Tryz.ntmps27
      go_wp2_with (first
        | (go_at_call 31
           (with_reducible refine (rstmay_any _ A n c _ _ hn).mono ?_)
           rintro e w2 ⟨he, hb2⟩
           rw [HM.out] at he
           subst he
           obtain ⟨hB2, hs2, y1, y2⟩ := after_two hb2
           have HF2 := Lib.hid (show BoxT w2 w.heap.size 24 cap A n c sure from y1)
           have HX2 := Lib.hid (show BoxT w2 (w.heap.size + 1) 24 0 none 0 0 0 from y2)
           obtain ⟨x0, x1, x2⟩ := HF2.out.cells
           obtain ⟨z0, z1, z2⟩ := HX2.out.cells
           have g0 := HX2.out.free 0
           have g1 := HX2.out.free 1
           have g2 := HX2.out.free 2
           have HB2 := Lib.hid hB2
           have HS2 := Lib.hid hs2
           clear hb2 hB2 hs2 y1 y2)
        | (at_builtin
           refine wpList_append_b rfl _ _ rfl w2.heap.size _ [] rfl (Own.nil _ _) A n c data rfl (HB.out.below HB2.out) (by simp only [List.length_nil]; omega) (Nat.le_refl _) ?_
           intro v3 w3 hown3 hg3
           rw [List.nil_append] at hown3
           have hbel3 : Below w2.heap.size w2 w3 := (Below.refl _ _).grown hg3 (Nat.le_refl _) (fun k hk => by cases hk)
           have HF3 := Lib.hid (HF2.out.below hbel3)
           have HX3 := Lib.hid (HX2.out.below hbel3)
           clear x0 x1 x2 z0 z1 z2 g0 g1 g2
           obtain ⟨x0, x1, x2⟩ := HF3.out.cells
           have HOWN3 := Lib.hid hown3
           have HB3 := Lib.hid (HB2.out.trans (hbel3.mono HB2.out.size))
           have HS23 := Lib.hid hbel3.size
           have HS3 := Lib.hid (show w.heap.size + 2 ≤ w3.heap.size from Nat.le_trans HS2.out hbel3.size)
           clear hown3 hg3 hbel3))
      have ha0 : some w.heap.size ≠ v3.ownBlock := fun e => by have := (HOWN3.out.size _ e.symm).1; have := HS2.out; omega
      have ha1 : some (w.heap.size + 1) ≠ v3.ownBlock := fun e => by have := (HOWN3.out.size _ e.symm).1; have := HS2.out; omega
      have HA0 := Lib.hid ha0
      have HA1 := Lib.hid ha1
      clear ha0 ha1
      go_region_law (first
        | (refine step_append_o (.tmp 28) (.tmp 29) rfl w2.heap.size v3 data ?_ ?_ B m d b ?_ ?_ (by have := HLL.out; omega) ?_ rfl ?_
           · rfl
           · first | exact HOWN3.out.draw1 | exact HOWN3.out
           · rfl
           · first | exact (HBB.out.below HB3.out).draw1 | exact HBB.out.below HB3.out
           · exact HS23.out
           intro v4 w4 hown4 hg4
           have hf4 : BoxT w4 w.heap.size 24 cap A n c sure := by first | exact BoxT.grown (w := w3.drew) HF3.out hg4 HA0.out | exact HF3.out.grown hg4 HA0.out
           have hx4 : BoxT w4 (w.heap.size + 1) 24 0 none 0 0 0 := by first | exact BoxT.grown (w := w3.drew) HX3.out hg4 HA1.out | exact HX3.out.grown hg4 HA1.out
           obtain ⟨y0, y1, y2⟩ := hf4.cells
           obtain ⟨z0, z1, z2⟩ := hx4.cells
           have g0 := hx4.free 0
           have g1 := hx4.free 1
           have g2 := hx4.free 2
           have hbel4 : Below w.heap.size w w4 := by first | exact (HB3.out.drew).grown hg4 HB3.out.size (fun g hg => Nat.le_trans HB2.out.size (HOWN3.out.size g hg).1) | exact HB3.out.grown hg4 HB3.out.size (fun g hg => Nat.le_trans HB2.out.size (HOWN3.out.size g hg).1)
           obtain ⟨A4, n4, c4, hv4, hb4⟩ := hown4.slice (ok_append HB.out.ok HBB.out.ok)
           subst hv4
           have HLO := Lib.hid (show ∀ a, A4 = some a → w.heap.size + 2 ≤ a.block from fun a ha => by subst ha; exact Nat.le_trans HS2.out (hown4.size _ rfl).1)
           have HB4 := Lib.hid hb4
           have HX4 := Lib.hid hx4
           have HBE4 := Lib.hid hbel4
           clear hown4 hg4 hf4 hx4 hbel4 hb4))
      all_goals
        go_wp2
      all_goals
        have hf : Far A4 n4 w.heap.size (w.heap.size + 2) := fun a ha _ => .inr (HLO.out a ha)
        have hlo : Loc A n A4 n4 w := .inr (fun a ha => Nat.le_trans (Nat.le_add_right _ 2) (HLO.out a ha))
        refine bodyPost_ret (v := .tuple #[.agg #[.int .i64 cap, .slice A4 n4 c4, .int .i64 sure], .int .i64 0]) ?_ ?_ ?_
        · exact ret_store Tryz.results27 _ _ (w.heap.size + 1) 24 _ _ _ _ rfl (set3_heap _ _ _ HX4.out) rfl
        · rfl
        · rw [HR.out]
          first
            | exact ⟨A4, n4, c4, rfl, HB4.out.set3 hf (Nat.le_succ _) (Nat.lt_succ_self _) _ _ _, hlo, set3_below HBE4.out (Nat.le_succ _) _ _ _⟩
            | exact ⟨A4, n4, c4, rfl, (HB4.out.set3 hf (Nat.le_succ _) (Nat.lt_succ_self _) _ _ _).draw1, hlo, (set3_below HBE4.out (Nat.le_succ _) _ _ _).drew⟩
end Go.Proofs.YtafmompplcaadaaGreatDoor
