/- The walk over the document's Least of a plan. -/
import Derived.Test.YtjjjfckkglcdfaaPlnRNext
namespace Go.Proofs.Ytjjjfckkglcdfaa
set_option maxRecDepth 100000
set_option linter.unusedVariables false
set_option linter.unusedSimpArgs false
open Go.RowKit

theorem least_next {g : Nat} {s : List Stg} {j : Nat} (o : Int) (hj : j < s.length) : leastF g (s.drop j) o = leastF g (s.drop (j + 1)) (if bitI (s.getD j Stg.zero).g g = true ∧ (o = 0 ∨ (s.getD j Stg.zero).mn < o) then (s.getD j Stg.zero).mn else o) := by
  rw [List.drop_eq_getElem_cons hj, leastF]
  simp [List.getD_eq_getElem?_getD, hj]
set_option maxHeartbeats 8000000 in
theorem rleast_any (p : Pl) (x : Int) (w : World) (hp : PlIn w p) : Calls Try.prog 21 #[plV p, .int .i64 x] w fun e w' => e = .returned (.int .i64 (leastP p x)) ∧ Below w.heap.size w w' := by
  have hsk := hp.s.small
  have hsm := hp.m.small
  have hSL := hp.s.len
  have hML := hp.m.len
  obtain ⟨W0, hW0⟩ : ∃ W0, w.alloc (.cells #[.slice p.A p.n p.c, .slice p.B p.k p.d, .int .i64 p.am, .int .i64 p.rd, .int .i64 p.hd] 25) = W0 := ⟨_, rfl⟩
  have hB0 : Below w.heap.size w W0 := by rw [← hW0]; exact one_alloc w _
  have hp0 : PlIn W0 p := hp.below hB0
  have hbp : BoxP W0 w.heap.size p := by rw [← hW0]; exact BoxP.new w p
  have HFT := Lib.hid (rfit_any p W0 hp0)
  simp only [plV] at HFT ⊢
  have HW := Lib.hid hW0
  have HB0 := Lib.hid hB0
  have HAC := Lib.hid (show ∀ X, Below W0.heap.size W0 X → X.cell? ⟨w.heap.size, 0, none⟩ = some (.slice p.A p.n p.c) ∧ X.cell? ⟨w.heap.size, 1, none⟩ = some (.slice p.B p.k p.d) ∧ X.cell? ⟨w.heap.size, 2, none⟩ = some (.int .i64 p.am) ∧ X.cell? ⟨w.heap.size, 3, none⟩ = some (.int .i64 p.rd) ∧ X.cell? ⟨w.heap.size, 4, none⟩ = some (.int .i64 p.hd) from fun X hX => (hbp.below hX).cells)
  have HSL := Lib.hid hSL
  have HML := Lib.hid hML
  have HP := Lib.hid hp0
  obtain ⟨a0, a1, a2, a3, a4⟩ := HAC.out W0 (Below.refl _ _)
  clear hW0 hB0 hbp hp hp0
  cases hf : fitP p with
  | false =>
    rw [hf] at HFT
    have HR := Lib.hid (show leastP p x = 0 from if_neg fun h => by rw [hf] at h; cases h.1)
    clear hf
    clear a0 a1 a2 a3 a4 hSL hML
    obtain ⟨A, n, c, m, B, k, d, s, am, rd, hd⟩ := p
    simp only at *
    go_enter Try.func21, Try.ntmps21
    go_wp2_with (go_at_call 12; rw [HW.out]; (with_reducible refine (HFT.out).mono ?_); rintro e w1 ⟨rfl, hb1⟩; obtain ⟨c0, c1, c2, c3, c4⟩ := HAC.out _ hb1; have HB1 := Lib.hid hb1; clear hb1)
    go_ret
    exact ⟨by rw [HR.out]; rfl, HB0.out.trans (HB1.out.mono HB0.out.size)⟩
  | true =>
    rw [hf] at HFT
    by_cases hac : x < 0
    · have HR := Lib.hid (show leastP p x = 0 from if_neg fun h => by omega)
      clear hf
      clear a0 a1 a2 a3 a4 hSL hML
      obtain ⟨A, n, c, m, B, k, d, s, am, rd, hd⟩ := p
      simp only at *
      go_enter Try.func21, Try.ntmps21
      go_wp2_with (go_at_call 12; rw [HW.out]; (with_reducible refine (HFT.out).mono ?_); rintro e w1 ⟨rfl, hb1⟩; obtain ⟨c0, c1, c2, c3, c4⟩ := HAC.out _ hb1; have HB1 := Lib.hid hb1; clear hb1)
      go_ret
      exact ⟨by rw [HR.out]; rfl, HB0.out.trans (HB1.out.mono HB0.out.size)⟩
    by_cases hbc : (p.n : Int) ≤ x
    · have HR := Lib.hid (show leastP p x = 0 from if_neg fun h => by have := HML.out; omega)
      clear hf
      clear a0 a1 a2 a3 a4 hSL hML
      obtain ⟨A, n, c, m, B, k, d, s, am, rd, hd⟩ := p
      simp only at *
      go_enter Try.func21, Try.ntmps21
      go_wp2_with (go_at_call 12; rw [HW.out]; (with_reducible refine (HFT.out).mono ?_); rintro e w1 ⟨rfl, hb1⟩; obtain ⟨c0, c1, c2, c3, c4⟩ := HAC.out _ hb1; have HB1 := Lib.hid hb1; clear hb1)
      go_ret
      exact ⟨by rw [HR.out]; rfl, HB0.out.trans (HB1.out.mono HB0.out.size)⟩
    obtain ⟨i, rfl⟩ := Int.eq_ofNat_of_zero_le (show 0 ≤ x by omega)
    have hff := fit_iff.1 hf
    have HR := Lib.hid (show leastF i p.s 0 = leastP p (i : Int) by rw [leastP, if_pos ⟨hf, by omega, by have := HML.out; omega⟩, Int.toNat_natCast])
    obtain ⟨R, hR⟩ : ∃ R, leastP p (i : Int) = R := ⟨_, rfl⟩
    rw [hR] at HR ⊢
    have HST := Lib.hid hff.stage
    obtain ⟨hn8, -⟩ := may_rows HML.out hff.may
    clear hf hff hR
    clear a0 a1 a2 a3 a4 hSL hML
    obtain ⟨A, n, c, m, B, k, d, s, am, rd, hd⟩ := p
    simp only at *
    have dac : decide ((i : Int) < 0) = false := by simp
    have ebc : ¬ (n ≤ i) := by omega
    have dbc : decide (n ≤ i) = false := decide_eq_false ebc
    clear hac hbc
    go_enter Try.func21, Try.ntmps21
    go_wp2_with (go_at_call 12; rw [HW.out]; (with_reducible refine (HFT.out).mono ?_); rintro e w1 ⟨rfl, hb1⟩; obtain ⟨c0, c1, c2, c3, c4⟩ := HAC.out _ hb1; have HB1 := Lib.hid hb1; clear hb1)
    clear c0 c1 c2 c3 c4
    go_loopw [6, 7] (fun ov v wr => ∃ (j : Nat) (o : Int), j ≤ k ∧ v = .int .i64 j ∧ ov = .int .i64 o ∧ leastF i (s.drop j) o = R ∧ Below W0.heap.size W0 wr) (fun _ v _ => k - (intOf v).toNat)
    case atStart => exact ⟨0, 0, by omega, rfl, rfl, by rw [List.drop_zero]; exact HR.out, HB1.out⟩
    case round =>
      obtain ⟨j, o, hj, rfl, rfl, hle, hbw⟩ := hrel
      have HBW := Lib.hid hbw
      have HLE := Lib.hid hle
      obtain ⟨a0, a1, a2, a3, a4⟩ := HAC.out wr hbw
      clear hle hbw
      by_cases hlt : j < k
      · have hlt2 : (j : Int) < k := by omega
        have q0 : 0 ≤ (j : Int) := by omega
        have hnx := least_next (g := i) o (show j < s.length by rw [HSL.out]; exact hlt)
        obtain ⟨b, off, x, hA, hx, hmem, -, -, -, -⟩ := HP.out.s.at_ j hlt
        simp only at hA hx hmem
        subst hA
        obtain ⟨hfr, -, -, -, -, -⟩ := HST.out x hmem
        obtain ⟨-, ⟨g0, g1⟩, -⟩ := free_iff.1 hfr
        obtain ⟨t, ht⟩ := Int.eq_ofNat_of_zero_le g0
        have h8 := pow_le hn8
        have ht2 : t < 256 := by rw [ht, HML.out, pow_int] at g1; omega
        have HHS := Lib.hid (fun X hX => rhas_any ⟨A, n, c, m, some ⟨b, off, none⟩, k, d, s, am, rd, hd⟩ j i t X (HP.out.below hX) hlt (by simp only; rw [hx]; exact ht) (by omega) (by omega))
        simp only [plV] at HHS
        have HF := Lib.hid (show ∀ X, Below W0.heap.size W0 X → X.cell? ⟨w.heap.size, 1, none⟩ = some (.slice (some ⟨b, off, none⟩) k d) ∧ X.cell? ⟨b, off + j * 3 + 1, none⟩ = some (.int .i64 x.mn) from fun X hX => by
          obtain ⟨-, a1, -, -, -⟩ := HAC.out X hX
          obtain ⟨b2, off2, x2, hA2, hx2, -, -, -, z1, -⟩ := (HP.out.s.below hX).at_ j hlt
          cases hA2
          simp only at hx2
          obtain rfl := hx.symm.trans hx2
          exact ⟨a1, z1⟩)
        rw [hx, ht, bit_nat, HLE.out] at hnx
        obtain ⟨T, hT⟩ : ∃ T, t.testBit i = T := ⟨_, rfl⟩
        obtain ⟨mn, hmn⟩ : ∃ mn, x.mn = mn := ⟨_, rfl⟩
        rw [hT] at HHS hnx
        rw [hmn] at HF hnx
        clear hx hmem hfr g0 g1 ht hT hmn
        cases T
        · have HN := Lib.hid (show R = leastF i (s.drop (j + 1)) o by rw [hnx, if_neg (by simp)])
          clear hnx
          go_wp2_with (first
                                | (go_at_call 29
                                   (with_reducible refine (HHS.out _ HBW.out).mono ?_)
                                   rintro e w3 ⟨rfl, hb3⟩
                                   obtain ⟨c1, c2⟩ := HF.out w3 (HBW.out.trans (hb3.mono HBW.out.size))
                                   have HB3 := Lib.hid (HBW.out.trans (hb3.mono HBW.out.size))
                                   clear hb3))
          go_roundw
          case rel => exact ⟨j + 1, o, by omega, by go_num, rfl, HN.out.symm, HB3.out⟩
          case measure => simp [intOf]; omega
        · by_cases ho : o = 0
          · have HN := Lib.hid (show R = leastF i (s.drop (j + 1)) mn by rw [hnx, if_pos ⟨rfl, .inl ho⟩])
            have ho2 : (o == 0) = true := by rw [beq_iff_eq]; exact ho
            clear hnx
            go_wp2_with (first
                                | (go_at_call 29
                                   (with_reducible refine (HHS.out _ HBW.out).mono ?_)
                                   rintro e w3 ⟨rfl, hb3⟩
                                   obtain ⟨c1, c2⟩ := HF.out w3 (HBW.out.trans (hb3.mono HBW.out.size))
                                   have HB3 := Lib.hid (HBW.out.trans (hb3.mono HBW.out.size))
                                   clear hb3))
            go_roundw
            case rel => exact ⟨j + 1, mn, by omega, by go_num, rfl, HN.out.symm, HB3.out⟩
            case measure => simp [intOf]; omega
          · have ho2 : (o == 0) = false := by rw [beq_eq_false_iff_ne]; exact ho
            by_cases hmo : mn < o
            · have HN := Lib.hid (show R = leastF i (s.drop (j + 1)) mn by rw [hnx, if_pos ⟨rfl, .inr hmo⟩])
              clear hnx
              go_wp2_with (first
                                | (go_at_call 29
                                   (with_reducible refine (HHS.out _ HBW.out).mono ?_)
                                   rintro e w3 ⟨rfl, hb3⟩
                                   obtain ⟨c1, c2⟩ := HF.out w3 (HBW.out.trans (hb3.mono HBW.out.size))
                                   have HB3 := Lib.hid (HBW.out.trans (hb3.mono HBW.out.size))
                                   clear hb3))
              go_roundw
              case rel => exact ⟨j + 1, mn, by omega, by go_num, rfl, HN.out.symm, HB3.out⟩
              case measure => simp [intOf]; omega
            · have HN := Lib.hid (show R = leastF i (s.drop (j + 1)) o by rw [hnx, if_neg (by rintro ⟨-, h | h⟩ <;> omega)])
              clear hnx
              go_wp2_with (first
                                | (go_at_call 29
                                   (with_reducible refine (HHS.out _ HBW.out).mono ?_)
                                   rintro e w3 ⟨rfl, hb3⟩
                                   obtain ⟨c1, c2⟩ := HF.out w3 (HBW.out.trans (hb3.mono HBW.out.size))
                                   have HB3 := Lib.hid (HBW.out.trans (hb3.mono HBW.out.size))
                                   clear hb3))
              go_roundw
              case rel => exact ⟨j + 1, o, by omega, by go_num, rfl, HN.out.symm, HB3.out⟩
              case measure => simp [intOf]; omega
      · obtain rfl : j = k := by omega
        have hge : ¬ ((j : Int) < j) := by omega
        have HRR := Lib.hid (show o = R by have h := HLE.out; rw [List.drop_of_length_le (by rw [HSL.out]; exact Nat.le_refl _)] at h; exact h)
        go_wp2
        go_ret
        exact ⟨by rw [HRR.out]; rfl, HB0.out.trans (HBW.out.mono HB0.out.size)⟩
end Go.Proofs.Ytjjjfckkglcdfaa
