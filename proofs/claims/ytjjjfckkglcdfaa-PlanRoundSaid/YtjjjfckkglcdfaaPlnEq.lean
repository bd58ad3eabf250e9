/- slices.Equal of numbers and of stages. -/
import Derived.Test.YtjjjfckkglcdfaaPlnRSame
import Derived.Test.YtjjjfckkglcdfaaBasTakeS
namespace Go.Proofs.Ytjjjfckkglcdfaa
set_option maxRecDepth 100000
set_option linter.unusedVariables false
set_option linter.unusedSimpArgs false
open Go.RowKit

set_option maxHeartbeats 1000000 in
theorem iequal_any (A B : Option Addr) (n c m d : Nat) (a b : List Int) (w : World) (ha : Its .i64 w A n c a) (hb : Its .i64 w B m d b) :
    Calls Try.prog 32 #[.slice A n c, .slice B m d] w fun e w' => e = .returned (.bool (a == b)) ∧ ∃ j, w' = w.drewN j := by
  have hna := ha.small
  have hmb := hb.small
  by_cases hnm : n = m
  · subst hnm
    have hne : ((n : Int) != (n : Int)) = false := by simp
    have HAL := Lib.hid ha.len
    have HBL := Lib.hid hb.len
    go_enter Try.func32, Try.ntmps32
    go_wp2
    go_loopw [5, 13] (fun x i wr => ∃ k : Nat, k ≤ n ∧ i = .int .i64 k ∧ (∀ j, j < k → a.getD j 0 = b.getD j 0) ∧ ∃ j, wr = w.drewN j) (fun x i _ => n - (intOf i).toNat)
    case atStart => exact ⟨0, by omega, rfl, (fun j hj => by omega), 0, rfl⟩
    case round =>
      obtain ⟨k, hk, rfl, hsame, j, rfl⟩ := hrel
      have HS := Lib.hid hsame
      clear hsame
      by_cases hlt : k < n
      · obtain ⟨ba, oa, rfl, hca⟩ := ha.at_ (by omega)
        obtain ⟨bb, ob, rfl, hcb⟩ := hb.at_ (by omega)
        have hxa := hca k hlt
        have hxb := hcb k hlt
        obtain ⟨x, hx⟩ : ∃ x, x = a.getD k 0 := ⟨_, rfl⟩
        obtain ⟨y, hy⟩ : ∃ y, y = b.getD k 0 := ⟨_, rfl⟩
        rw [← hx] at hxa
        rw [← hy] at hxb
        have hp0 : 0 ≤ (k : Int) := by omega
        have hp1 : (k : Int) < n := by omega
        by_cases hxy : x = y
        · subst hxy
          have hne2 : (x != x) = false := by simp
          have hnext : ∀ j, j < k + 1 → a.getD j 0 = b.getD j 0 := fun j hj => by
            by_cases e : j = k
            · rw [e, ← hx, ← hy]
            · exact HS.out j (by omega)
          have HN := Lib.hid hnext
          clear hx hy hnext hca hcb
          go_wp2
          go_quiet (fail)
          go_wp2
          go_roundw
          case rel => exact ⟨k + 1, by omega, by go_num, HN.out, _, rfl⟩
          case measure => simp [intOf]; omega
        · have hne2 : (x != y) = true := by rw [bne_iff_ne]; exact hxy
          have hres : false = (a == b) := (ints_differ a b k (by rw [← hx, ← hy]; exact hxy)).symm
          have HR := Lib.hid hres
          clear hx hy hres hxy hca hcb
          go_wp2
          go_quiet (fail)
          go_wp2
          go_ret
          exact ⟨congrArg (fun b => Ending.returned (Value.bool b)) HR.out, _, World.drewN_drewN _ _ _⟩
      · have hkn : k = n := by omega
        subst hkn
        have hge : ¬ ((k : Int) < k) := by omega
        have hres : true = (a == b) := (ints_same a b k HAL.out HBL.out HS.out).symm
        have HR := Lib.hid hres
        clear hres
        go_wp2
        go_ret
        exact ⟨congrArg (fun b => Ending.returned (Value.bool b)) HR.out, _, rfl⟩
  · have hne : ((n : Int) != (m : Int)) = true := by rw [bne_iff_ne]; omega
    have hres : false = (a == b) := by
      rw [eq_comm, beq_eq_false_iff_ne]
      rintro rfl
      exact hnm (ha.len.symm.trans hb.len)
    have HR := Lib.hid hres
    clear hres hnm
    go_enter Try.func32, Try.ntmps32
    go_wp2
    go_ret
    exact ⟨congrArg (fun b => Ending.returned (Value.bool b)) HR.out, 0, rfl⟩
set_option maxHeartbeats 4000000 in
theorem sequal_any (A B : Option Addr) (k d m d' : Nat) (s s' : List Stg) (w : World) (ha : Sts w A k d s) (hb : Sts w B m d' s') :
    Calls Try.prog 33 #[.slice A k d, .slice B m d'] w fun e w' => e = .returned (.bool (decide (s = s'))) ∧ Below w.heap.size w w' := by
  have hna := ha.small
  have hmb := hb.small
  have HSL := Lib.hid ha.len
  have HQL := Lib.hid hb.len
  by_cases hnm : k = m
  · subst hnm
    have hne : ((k : Int) != (k : Int)) = false := by simp
    have HP := Lib.hid ha
    have HQ := Lib.hid hb
    clear ha hb
    go_enter Try.func33, Try.ntmps33
    go_wp2
    go_loopw [5, 13] (fun x v wr => ∃ j : Nat, j ≤ k ∧ v = .int .i64 j ∧ s.take j = s'.take j ∧ Below w.heap.size w wr) (fun x v _ => k - (intOf v).toNat)
    case atStart => exact ⟨0, by omega, rfl, rfl, Below.refl _ _⟩
    case round =>
      obtain ⟨j, hj, rfl, htk, hbw⟩ := hrel
      have HBW := Lib.hid hbw
      have HTK := Lib.hid htk
      clear htk hbw
      by_cases hlt : j < k
      · have hlt2 : (j : Int) < k := by omega
        have q0 : 0 ≤ (j : Int) := by omega
        obtain ⟨b, off, x, hA, hx, -, -, -, -, -⟩ := HP.out.at_ j hlt
        obtain ⟨b', off', y, hA', hy, -, -, -, -, -⟩ := HQ.out.at_ j hlt
        subst hA
        subst hA'
        have HF := Lib.hid (show ∀ X, Below wr.heap.size wr X → X.cell? ⟨b, off + j * 3, none⟩ = some (.int .i64 x.g) ∧ X.cell? ⟨b, off + j * 3 + 1, none⟩ = some (.int .i64 x.mn) ∧ X.cell? ⟨b, off + j * 3 + 2, none⟩ = some (.int .i64 x.mx) ∧ X.cell? ⟨b', off' + j * 3, none⟩ = some (.int .i64 y.g) ∧ X.cell? ⟨b', off' + j * 3 + 1, none⟩ = some (.int .i64 y.mn) ∧ X.cell? ⟨b', off' + j * 3 + 2, none⟩ = some (.int .i64 y.mx) from fun X hX => by
          have hX0 := HBW.out.trans (hX.mono HBW.out.size)
          obtain ⟨b2, off2, x2, hA2, hx2, -, -, z0, z1, z2⟩ := (HP.out.below hX0).at_ j hlt
          obtain ⟨b3, off3, y2, hA3, hy3, -, -, v0, v1, v2⟩ := (HQ.out.below hX0).at_ j hlt
          cases hA2
          cases hA3
          obtain rfl := hx.symm.trans hx2
          obtain rfl := hy.symm.trans hy3
          exact ⟨z0, z1, z2, v0, v1, v2⟩)
        by_cases hxy : x = y
        · have HN := Lib.hid (take_same (by rw [HSL.out]; exact hlt) (by rw [HQL.out]; exact hlt) HTK.out (by rw [hx, hy]; exact hxy))
          have hd : (!decide (x = y)) = false := by simp [hxy]
          have HD := Lib.hid hd
          clear hx hy hxy hd
          go_wp2
          have hSd : Below wr.heap.size wr wr.drew := (Below.refl _ wr).drew
          refine wp_region_held_drew (S := fun X => Below wr.heap.size wr X) (by kernel_rfl) hSd (fun hHeld => ?_)
          refine tk 0 (.slice (some ⟨b, off, none⟩) k d) hHeld (fun w => ?_) ?_
          · go_simp
          simp only [PT]
          refine tk 1 (.int .i64 j) hHeld (fun w => ?_) ?_
          · go_simp
          simp only [PT]
          refine tk 2 (.pointer (some ⟨b, off + j * 3, none⟩)) hHeld (fun w => ?_) ?_
          · go_simp
          simp only [PT]
          refine tkS 3 (.agg #[.int .i64 x.g, .int .i64 x.mn, .int .i64 x.mx]) hHeld (fun w hq => ?_) ?_
          · obtain ⟨z0, z1, z2, y0, y1, y2⟩ := HF.out w hq
            go_simp
          simp only [PT]
          refine tk 4 (.slice (some ⟨b', off', none⟩) k d') hHeld (fun w => ?_) ?_
          · go_simp
          simp only [PT]
          refine tk 5 (.int .i64 j) hHeld (fun w => ?_) ?_
          · go_simp
          simp only [PT]
          refine tk 6 (.pointer (some ⟨b', off' + j * 3, none⟩)) hHeld (fun w => ?_) ?_
          · go_simp
          simp only [PT]
          refine tkS 7 (.agg #[.int .i64 y.g, .int .i64 y.mn, .int .i64 y.mx]) hHeld (fun w hq => ?_) ?_
          · obtain ⟨z0, z1, z2, y0, y1, y2⟩ := HF.out w hq
            go_simp
          simp only [PT]
          refine tk 8 (.bool (!decide (x = y))) hHeld (fun w => ?_) ?_
          · exact run_ne_stg rfl rfl rfl
          simp only [PT]
          refine wpAnyH_done (by kernel_rfl) ?_ _
          clear hHeld
          rw [HD.out]
          go_wp2
          go_roundw
          case rel => exact ⟨j + 1, by omega, by go_num, HN.out, HBW.out.drew⟩
          case measure => simp [intOf]; omega
        · have HRR := Lib.hid (show decide (s = s') = false from decide_eq_false (fun e => hxy (by rw [← hx, ← hy, e])))
          have hd : (!decide (x = y)) = true := by simp [hxy]
          have HD := Lib.hid hd
          clear hx hy hxy hd
          go_wp2
          have hSd : Below wr.heap.size wr wr.drew := (Below.refl _ wr).drew
          refine wp_region_held_drew (S := fun X => Below wr.heap.size wr X) (by kernel_rfl) hSd (fun hHeld => ?_)
          refine tk 0 (.slice (some ⟨b, off, none⟩) k d) hHeld (fun w => ?_) ?_
          · go_simp
          simp only [PT]
          refine tk 1 (.int .i64 j) hHeld (fun w => ?_) ?_
          · go_simp
          simp only [PT]
          refine tk 2 (.pointer (some ⟨b, off + j * 3, none⟩)) hHeld (fun w => ?_) ?_
          · go_simp
          simp only [PT]
          refine tkS 3 (.agg #[.int .i64 x.g, .int .i64 x.mn, .int .i64 x.mx]) hHeld (fun w hq => ?_) ?_
          · obtain ⟨z0, z1, z2, y0, y1, y2⟩ := HF.out w hq
            go_simp
          simp only [PT]
          refine tk 4 (.slice (some ⟨b', off', none⟩) k d') hHeld (fun w => ?_) ?_
          · go_simp
          simp only [PT]
          refine tk 5 (.int .i64 j) hHeld (fun w => ?_) ?_
          · go_simp
          simp only [PT]
          refine tk 6 (.pointer (some ⟨b', off' + j * 3, none⟩)) hHeld (fun w => ?_) ?_
          · go_simp
          simp only [PT]
          refine tkS 7 (.agg #[.int .i64 y.g, .int .i64 y.mn, .int .i64 y.mx]) hHeld (fun w hq => ?_) ?_
          · obtain ⟨z0, z1, z2, y0, y1, y2⟩ := HF.out w hq
            go_simp
          simp only [PT]
          refine tk 8 (.bool (!decide (x = y))) hHeld (fun w => ?_) ?_
          · exact run_ne_stg rfl rfl rfl
          simp only [PT]
          refine wpAnyH_done (by kernel_rfl) ?_ _
          clear hHeld
          rw [HD.out]
          go_wp2
          go_ret
          exact ⟨by rw [HRR.out]; rfl, HBW.out.drew⟩
      · obtain rfl : j = k := by omega
        have hge : ¬ ((j : Int) < j) := by omega
        have HRR := Lib.hid (show decide (s = s') = true from decide_eq_true (by have h := HTK.out; rw [List.take_of_length_le (by rw [HSL.out]; exact Nat.le_refl _), List.take_of_length_le (by rw [HQL.out]; exact Nat.le_refl _)] at h; exact h))
        go_wp2
        go_ret
        exact ⟨by rw [HRR.out]; rfl, HBW.out⟩
  · have hne : ((k : Int) != (m : Int)) = true := by rw [bne_iff_ne]; omega
    have HR := Lib.hid (show decide (s = s') = false from decide_eq_false (fun e => hnm (by rw [← HSL.out, e, HQL.out])))
    clear ha hb hnm
    go_enter Try.func33, Try.ntmps33
    go_wp2
    go_ret
    exact ⟨by rw [HR.out]; rfl, Below.refl _ _⟩
end Go.Proofs.Ytjjjfckkglcdfaa
