/- The walks over the document's Next and Cycle of a plan. -/
import Derived.Test.YtjjjfckkglcdfaaPlnRSame
namespace Go.Proofs.Ytjjjfckkglcdfaa
set_option maxRecDepth 100000
set_option linter.unusedVariables false
set_option linter.unusedSimpArgs false
open Go.RowKit

set_option maxHeartbeats 8000000 in
theorem rnext_any (p : Pl) (x : Int) (w : World) (hp : PlIn w p) : Calls Try.prog 19 #[plV p, .int .i64 x] w fun e w' => e = .returned (.int .i64 (nextP p x)) ∧ Below w.heap.size w w' := by
  have hsk := hp.s.small
  have hsm := hp.m.small
  have hSL := hp.s.len
  have hML := hp.m.len
  obtain ⟨W0, hW0⟩ : ∃ W0, w.alloc (.cells #[.slice p.A p.n p.c, .slice p.B p.k p.d, .int .i64 p.am, .int .i64 p.rd, .int .i64 p.hd] 25) = W0 := ⟨_, rfl⟩
  have hB0 : Below w.heap.size w W0 := by rw [← hW0]; exact one_alloc w _
  have hp0 : PlIn W0 p := hp.below hB0
  have hbp : BoxP W0 w.heap.size p := by rw [← hW0]; exact BoxP.new w p
  have HFT := Lib.hid (rfit_any p W0 hp0)
  simp only [plV] at HFT ⊢
  have HW := Lib.hid hW0
  have HB0 := Lib.hid hB0
  have HAC := Lib.hid (show ∀ X, Below W0.heap.size W0 X → X.cell? ⟨w.heap.size, 0, none⟩ = some (.slice p.A p.n p.c) ∧ X.cell? ⟨w.heap.size, 1, none⟩ = some (.slice p.B p.k p.d) ∧ X.cell? ⟨w.heap.size, 2, none⟩ = some (.int .i64 p.am) ∧ X.cell? ⟨w.heap.size, 3, none⟩ = some (.int .i64 p.rd) ∧ X.cell? ⟨w.heap.size, 4, none⟩ = some (.int .i64 p.hd) from fun X hX => (hbp.below hX).cells)
  have HSL := Lib.hid hSL
  have HML := Lib.hid hML
  have HP := Lib.hid hp0
  obtain ⟨a0, a1, a2, a3, a4⟩ := HAC.out W0 (Below.refl _ _)
  clear hW0 hB0 hbp hp hp0
  cases hf : fitP p with
  | false =>
    rw [hf] at HFT
    have HR := Lib.hid (show nextP p x = -1 from if_neg fun h => by rw [hf] at h; cases h.1)
    clear hf
    clear a0 a1 a2 a3 a4 hSL hML
    obtain ⟨A, n, c, m, B, k, d, s, am, rd, hd⟩ := p
    simp only at *
    go_enter Try.func19, Try.ntmps19
    go_wp2_with (go_at_call 12; rw [HW.out]; (with_reducible refine (HFT.out).mono ?_); rintro e w1 ⟨rfl, hb1⟩; obtain ⟨c0, c1, c2, c3, c4⟩ := HAC.out _ hb1; have HB1 := Lib.hid hb1; clear hb1)
    go_ret
    exact ⟨by rw [HR.out]; rfl, HB0.out.trans (HB1.out.mono HB0.out.size)⟩
  | true =>
    rw [hf] at HFT
    by_cases hac : x < 0
    · have HR := Lib.hid (show nextP p x = -1 from if_neg fun h => by omega)
      clear hf
      clear a0 a1 a2 a3 a4 hSL hML
      obtain ⟨A, n, c, m, B, k, d, s, am, rd, hd⟩ := p
      simp only at *
      go_enter Try.func19, Try.ntmps19
      go_wp2_with (go_at_call 12; rw [HW.out]; (with_reducible refine (HFT.out).mono ?_); rintro e w1 ⟨rfl, hb1⟩; obtain ⟨c0, c1, c2, c3, c4⟩ := HAC.out _ hb1; have HB1 := Lib.hid hb1; clear hb1)
      go_ret
      exact ⟨by rw [HR.out]; rfl, HB0.out.trans (HB1.out.mono HB0.out.size)⟩
    by_cases hbc : (p.k : Int) ≤ x
    · have HR := Lib.hid (show nextP p x = -1 from if_neg fun h => by have := HSL.out; omega)
      clear hf
      clear a0 a1 a2 a3 a4 hSL hML
      obtain ⟨A, n, c, m, B, k, d, s, am, rd, hd⟩ := p
      simp only at *
      go_enter Try.func19, Try.ntmps19
      go_wp2_with (go_at_call 12; rw [HW.out]; (with_reducible refine (HFT.out).mono ?_); rintro e w1 ⟨rfl, hb1⟩; obtain ⟨c0, c1, c2, c3, c4⟩ := HAC.out _ hb1; have HB1 := Lib.hid hb1; clear hb1)
      go_ret
      exact ⟨by rw [HR.out]; rfl, HB0.out.trans (HB1.out.mono HB0.out.size)⟩
    have hfx : fitP p = true ∧ 0 ≤ x ∧ x < p.s.length := ⟨hf, by omega, by omega⟩
    have hf2 := (fit_iff.1 hf).two
    by_cases hl : x = (p.k : Int) - 1
    · have HR := Lib.hid (show nextP p x = 0 by rw [nextP, if_pos hfx, if_pos (by omega)])
      clear hfx hf hf2
      have hl2 : (x == (p.k : Int) - 1) = true := by rw [beq_iff_eq]; exact hl
      clear a0 a1 a2 a3 a4 hSL hML
      obtain ⟨A, n, c, m, B, k, d, s, am, rd, hd⟩ := p
      simp only at *
      go_enter Try.func19, Try.ntmps19
      go_wp2_with (go_at_call 12; rw [HW.out]; (with_reducible refine (HFT.out).mono ?_); rintro e w1 ⟨rfl, hb1⟩; obtain ⟨c0, c1, c2, c3, c4⟩ := HAC.out _ hb1; have HB1 := Lib.hid hb1; clear hb1)
      go_ret
      exact ⟨by rw [HR.out]; rfl, HB0.out.trans (HB1.out.mono HB0.out.size)⟩
    · have HR := Lib.hid (show nextP p x = x + 1 by rw [nextP, if_pos hfx, if_neg (by omega)])
      have hl2 : (x == (p.k : Int) - 1) = false := by rw [beq_eq_false_iff_ne]; exact hl
      have hwx : wrap64 (x + 1) = x + 1 := by unfold wrap64; omega
      clear hfx hf hf2
      clear a0 a1 a2 a3 a4 hSL hML
      obtain ⟨A, n, c, m, B, k, d, s, am, rd, hd⟩ := p
      simp only at *
      go_enter Try.func19, Try.ntmps19
      go_wp2_with (go_at_call 12; rw [HW.out]; (with_reducible refine (HFT.out).mono ?_); rintro e w1 ⟨rfl, hb1⟩; obtain ⟨c0, c1, c2, c3, c4⟩ := HAC.out _ hb1; have HB1 := Lib.hid hb1; clear hb1)
      go_ret
      exact ⟨by rw [HR.out]; rfl, HB0.out.trans (HB1.out.mono HB0.out.size)⟩
theorem cyc_next {am rd : Int} {s : List Stg} {j : Nat} (o : Int) (hj : j < s.length) : cycF am rd (s.drop j) o = cycF am rd (s.drop (j + 1)) (o + (s.getD j Stg.zero).mn + am + rd) := by
  rw [List.drop_eq_getElem_cons hj, cycF]
  simp [List.getD_eq_getElem?_getD, hj]
set_option maxHeartbeats 8000000 in
theorem rcycle_any (p : Pl) (w : World) (hp : PlIn w p) : Calls Try.prog 23 #[plV p] w fun e w' => e = .returned (.int .i64 (cycP p)) ∧ Below w.heap.size w w' := by
  have hsk := hp.s.small
  have hsm := hp.m.small
  have hSL := hp.s.len
  have hML := hp.m.len
  obtain ⟨W0, hW0⟩ : ∃ W0, w.alloc (.cells #[.slice p.A p.n p.c, .slice p.B p.k p.d, .int .i64 p.am, .int .i64 p.rd, .int .i64 p.hd] 25) = W0 := ⟨_, rfl⟩
  have hB0 : Below w.heap.size w W0 := by rw [← hW0]; exact one_alloc w _
  have hp0 : PlIn W0 p := hp.below hB0
  have hbp : BoxP W0 w.heap.size p := by rw [← hW0]; exact BoxP.new w p
  have HFT := Lib.hid (rfit_any p W0 hp0)
  simp only [plV] at HFT ⊢
  have HW := Lib.hid hW0
  have HB0 := Lib.hid hB0
  have HAC := Lib.hid (show ∀ X, Below W0.heap.size W0 X → X.cell? ⟨w.heap.size, 0, none⟩ = some (.slice p.A p.n p.c) ∧ X.cell? ⟨w.heap.size, 1, none⟩ = some (.slice p.B p.k p.d) ∧ X.cell? ⟨w.heap.size, 2, none⟩ = some (.int .i64 p.am) ∧ X.cell? ⟨w.heap.size, 3, none⟩ = some (.int .i64 p.rd) ∧ X.cell? ⟨w.heap.size, 4, none⟩ = some (.int .i64 p.hd) from fun X hX => (hbp.below hX).cells)
  have HSL := Lib.hid hSL
  have HML := Lib.hid hML
  have HP := Lib.hid hp0
  obtain ⟨a0, a1, a2, a3, a4⟩ := HAC.out W0 (Below.refl _ _)
  clear hW0 hB0 hbp hp hp0
  cases hf : fitP p with
  | false =>
    rw [hf] at HFT
    have HR := Lib.hid (show cycP p = 0 from if_neg fun h => by rw [hf] at h; cases h)
    clear hf
    clear a0 a1 a2 a3 a4 hSL hML
    obtain ⟨A, n, c, m, B, k, d, s, am, rd, hd⟩ := p
    simp only at *
    go_enter Try.func23, Try.ntmps23
    go_wp2_with (go_at_call 12; rw [HW.out]; (with_reducible refine (HFT.out).mono ?_); rintro e w1 ⟨rfl, hb1⟩; obtain ⟨c0, c1, c2, c3, c4⟩ := HAC.out _ hb1; have HB1 := Lib.hid hb1; clear hb1)
    clear c0 c1 c2 c3 c4
    go_loopw [4, 5] (fun o v wr => o = .int .i64 0 ∧ v = .int .i64 0 ∧ Below W0.heap.size W0 wr) (fun _ _ _ => 0)
    case atStart => exact ⟨rfl, rfl, HB1.out⟩
    case round =>
      obtain ⟨rfl, rfl, hbw⟩ := hrel
      obtain ⟨-, a1, -, -, -⟩ := HAC.out wr hbw
      have HBW := Lib.hid hbw
      clear hbw
      go_wp2
      all_goals
        go_ret
        exact ⟨by rw [HR.out]; rfl, HB0.out.trans (HBW.out.mono HB0.out.size)⟩
  | true =>
    rw [hf] at HFT
    have hff := fit_iff.1 hf
    have HR := Lib.hid (show cycF p.am p.rd p.s 0 = cycP p by rw [cycP, if_pos hf])
    obtain ⟨R, hR⟩ : ∃ R, cycP p = R := ⟨_, rfl⟩
    rw [hR] at HR ⊢
    have hST := hff.stage
    have b1 := hff.am1
    have b2 := hff.am2
    have b3 := hff.rd1
    have b4 := hff.rd2
    have b6 := hff.six
    have b7 := hff.two
    have HST := Lib.hid hST
    clear hf hff hR hST
    clear a0 a1 a2 a3 a4 hSL hML
    obtain ⟨A, n, c, m, B, k, d, s, am, rd, hd⟩ := p
    simp only at *
    go_enter Try.func23, Try.ntmps23
    go_wp2_with (go_at_call 12; rw [HW.out]; (with_reducible refine (HFT.out).mono ?_); rintro e w1 ⟨rfl, hb1⟩; obtain ⟨c0, c1, c2, c3, c4⟩ := HAC.out _ hb1; have HB1 := Lib.hid hb1; clear hb1)
    clear c0 c1 c2 c3 c4
    go_loopw [4, 5] (fun ov v wr => ∃ (j : Nat) (o : Int), j ≤ k ∧ v = .int .i64 j ∧ ov = .int .i64 o ∧ 0 ≤ o ∧ o ≤ 600 * j ∧ cycF am rd (s.drop j) o = R ∧ Below W0.heap.size W0 wr) (fun _ v _ => k - (intOf v).toNat)
    case atStart => exact ⟨0, 0, by omega, rfl, rfl, by omega, by omega, by rw [List.drop_zero]; exact HR.out, HB1.out⟩
    case round =>
      obtain ⟨j, o, hj, rfl, rfl, ho0, ho1, hcy, hbw⟩ := hrel
      have HBW := Lib.hid hbw
      have HCY := Lib.hid hcy
      obtain ⟨-, a1, -, -, -⟩ := HAC.out wr hbw
      clear hcy hbw
      have hk6 : k ≤ 6 := by have := HSL.out; omega
      by_cases hlt : j < k
      · have hlt2 : (j : Int) < k := by omega
        have q0 : 0 ≤ (j : Int) := by omega
        have hnx := cyc_next (am := am) (rd := rd) o (show j < s.length by rw [HSL.out]; exact hlt)
        obtain ⟨b, off, x, hA, hx, hmem, -, -, -, -⟩ := HP.out.s.at_ j hlt
        simp only at hA hx hmem
        subst hA
        obtain ⟨-, -, m1, m2, -, -⟩ := HST.out x hmem
        have HF := Lib.hid (show ∀ X, Below wr.heap.size wr X → X.cell? ⟨w.heap.size, 1, none⟩ = some (.slice (some ⟨b, off, none⟩) k d) ∧ X.cell? ⟨w.heap.size, 2, none⟩ = some (.int .i64 am) ∧ X.cell? ⟨w.heap.size, 3, none⟩ = some (.int .i64 rd) ∧ X.cell? ⟨b, off + j * 3 + 1, none⟩ = some (.int .i64 x.mn) from fun X hX => by
          have hX0 := HBW.out.trans (hX.mono HBW.out.size)
          obtain ⟨-, a1, a2, a3, -⟩ := HAC.out X hX0
          obtain ⟨b2, off2, x2, hA2, hx2, -, -, -, z1, -⟩ := (HP.out.s.below hX0).at_ j hlt
          cases hA2
          simp only at hx2
          obtain rfl := hx.symm.trans hx2
          exact ⟨a1, a2, a3, z1⟩)
        rw [hx, HCY.out] at hnx
        obtain ⟨mn, hmn⟩ : ∃ mn, x.mn = mn := ⟨_, rfl⟩
        rw [hmn] at hnx m1 m2 HF
        have HN := Lib.hid hnx
        have v1 : IntKind.i64.wrap (o + mn) = o + mn := by rw [IntKind.wrap_i64]; omega
        have v2 : IntKind.i64.wrap (o + mn + am) = o + mn + am := by rw [IntKind.wrap_i64]; omega
        have v3 : IntKind.i64.wrap (o + mn + am + rd) = o + mn + am + rd := by rw [IntKind.wrap_i64]; omega
        clear hx hmem hnx hmn
        go_wp2
        clear a1
        have hSd : Below wr.heap.size wr wr.drew := (Below.refl _ wr).drew
        refine wp_region_held_drew (S := fun X => Below wr.heap.size wr X) (by kernel_rfl) hSd (fun hHeld => ?_)
        refine tk 0 (.int .i64 o) hHeld (fun w => ?_) ?_
        · go_simp
        simp only [PT]
        refine tk 1 (.pointer (some ⟨w.heap.size, 1, none⟩)) hHeld (fun w => ?_) ?_
        · go_simp
        simp only [PT]
        refine tkS 2 (.slice (some ⟨b, off, none⟩) k d) hHeld (fun w hq => ?_) ?_
        · obtain ⟨a1, a2, a3, z1⟩ := HF.out w hq
          go_simp
        simp only [PT]
        refine tk 3 (.int .i64 j) hHeld (fun w => ?_) ?_
        · go_simp
        simp only [PT]
        refine tk 4 (.pointer (some ⟨b, off + j * 3, none⟩)) hHeld (fun w => ?_) ?_
        · go_simp
        simp only [PT]
        refine tk 5 (.pointer (some ⟨b, off + j * 3 + 1, none⟩)) hHeld (fun w => ?_) ?_
        · go_simp
        simp only [PT]
        refine tkS 6 (.int .i64 mn) hHeld (fun w hq => ?_) ?_
        · obtain ⟨a1, a2, a3, z1⟩ := HF.out w hq
          go_simp
        simp only [PT]
        refine tk 7 (.int .i64 (o + mn)) hHeld (fun w => ?_) ?_
        · go_simp
        simp only [PT]
        refine tk 8 (.pointer (some ⟨w.heap.size, 2, none⟩)) hHeld (fun w => ?_) ?_
        · go_simp
        simp only [PT]
        refine tkS 9 (.int .i64 am) hHeld (fun w hq => ?_) ?_
        · obtain ⟨a1, a2, a3, z1⟩ := HF.out w hq
          go_simp
        simp only [PT]
        refine tk 10 (.int .i64 (o + mn + am)) hHeld (fun w => ?_) ?_
        · go_simp
        simp only [PT]
        refine tk 11 (.pointer (some ⟨w.heap.size, 3, none⟩)) hHeld (fun w => ?_) ?_
        · go_simp
        simp only [PT]
        refine tkS 12 (.int .i64 rd) hHeld (fun w hq => ?_) ?_
        · obtain ⟨a1, a2, a3, z1⟩ := HF.out w hq
          go_simp
        simp only [PT]
        refine tk 13 (.int .i64 (o + mn + am + rd)) hHeld (fun w => ?_) ?_
        · go_simp
        simp only [PT]
        refine tk 14 (.int .i64 (o + mn + am + rd)) hHeld (fun w => ?_) ?_
        · go_simp
        simp only [PT]
        refine wpAnyH_done (by kernel_rfl) ?_ _
        clear hHeld
        go_wp2
        go_roundw
        case rel => exact ⟨j + 1, o + mn + am + rd, by omega, by go_num, by go_num, by omega, by omega, HN.out.symm, HBW.out.drew⟩
        case measure => simp [intOf]; omega
      · obtain rfl : j = k := by omega
        have hge : ¬ ((j : Int) < j) := by omega
        have HRR := Lib.hid (show o = R by have h := HCY.out; rw [List.drop_of_length_le (by rw [HSL.out]; exact Nat.le_refl _)] at h; exact h)
        go_wp2
        go_ret
        exact ⟨by rw [HRR.out]; rfl, HB0.out.trans (HBW.out.mono HB0.out.size)⟩
end Go.Proofs.Ytjjjfckkglcdfaa
