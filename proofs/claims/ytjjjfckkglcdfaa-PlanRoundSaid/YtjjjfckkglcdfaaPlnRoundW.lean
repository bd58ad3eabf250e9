/- The walk over the law PlanRound. -/
import Derived.Test.YtjjjfckkglcdfaaPlnPure
namespace Go.Proofs.Ytjjjfckkglcdfaa
set_option maxRecDepth 100000
set_option linter.unusedVariables false
set_option linter.unusedSimpArgs false
open Go.RowKit

set_option maxHeartbeats 8000000 in
theorem pround_any (HO : PlnOk) (p : Pl) (k : Int) (w : World) (hp : PlIn w p) :
    Calls Try.prog 4 #[plV p, .int .i64 k] w fun e w' => e = .returned (.bool true) ∧ Below w.heap.size w w' := by
  have hSL := hp.s.len
  have hML := hp.m.len
  have hsk := hp.s.small
  have hsm := hp.m.small
  simp only [plV]
  obtain ⟨W0, hW0⟩ : ∃ W0, w.alloc (.cells #[.slice p.A p.n p.c, .slice p.B p.k p.d, .int .i64 p.am, .int .i64 p.rd, .int .i64 p.hd] 25) = W0 := ⟨_, rfl⟩
  have hB0 : Below w.heap.size w W0 := by rw [← hW0]; exact one_alloc w _
  have hbp : BoxP W0 w.heap.size p := by rw [← hW0]; exact BoxP.new w p
  have hpp : PlIn W0 p := hp.below hB0
  have HCp := Lib.hid (show ∀ X, Below W0.heap.size W0 X → X.cell? ⟨w.heap.size, 0, none⟩ = some (.slice p.A p.n p.c) ∧ X.cell? ⟨w.heap.size, 1, none⟩ = some (.slice p.B p.k p.d) ∧ X.cell? ⟨w.heap.size, 2, none⟩ = some (.int .i64 p.am) ∧ X.cell? ⟨w.heap.size, 3, none⟩ = some (.int .i64 p.rd) ∧ X.cell? ⟨w.heap.size, 4, none⟩ = some (.int .i64 p.hd) from fun X hX => (hbp.below hX).cells)
  have HPp := Lib.hid (show ∀ X, Below W0.heap.size W0 X → PlIn X p from fun X hX => hpp.below hX)
  have HB0 := Lib.hid hB0
  have HW := Lib.hid hW0
  have HX0 := Lib.hid (Below.refl W0.heap.size W0)
  clear hW0 hB0 hbp hpp hp
  have HAW := Lib.hid (pawake_any HO W0)
  have HFW := Lib.hid (fun X hX => pfew_any p X (HPp.out X hX))
  simp only [plV] at HFW
  cases hfw : fewB p with
  | false =>
    rw [hfw] at HFW
    clear hfw
    go_enter Try.func4, Try.ntmps4
    go_wp2_with (first
      | (go_at_call 9
         rw [HW.out]
         (with_reducible refine (HAW.out).mono ?_)
         rintro e w1 ⟨rfl, hbx⟩
         have HX1 := Lib.hid (HX0.out.trans (hbx.mono HX0.out.size))
         obtain ⟨p0z, p1z, p2z, p3z, p4z⟩ := HCp.out w1 HX1.out
         clear hbx)
      | (go_at_call 10
         (with_reducible refine (HFW.out _ HX1.out).mono ?_)
         rintro e w2 ⟨rfl, hbx⟩
         have HX2 := Lib.hid (HX1.out.trans (hbx.mono HX1.out.size))
         obtain ⟨p0z, p1z, p2z, p3z, p4z⟩ := HCp.out w2 HX2.out
         clear hbx))
    go_ret
    exact ⟨rfl, HB0.out.trans (HX2.out.mono HB0.out.size)⟩
  | true =>
    rw [hfw] at HFW
    obtain ⟨hfn, hfk⟩ := few_iff.1 hfw
    clear hfw
    have hbn : p.n ≤ 1000 := by omega
    have hbk : p.k ≤ 1000 := by omega
    have HFT := Lib.hid (fun X hX => HO.fit p X (HPp.out X hX) hbn hbk)
    simp only [plV] at HFT
    cases hft : fitP p with
    | false =>
      rw [hft] at HFT
      clear hft
      go_enter Try.func4, Try.ntmps4
      go_wp2_with (first
        | (go_at_call 9
           rw [HW.out]
           (with_reducible refine (HAW.out).mono ?_)
           rintro e w1 ⟨rfl, hbx⟩
           have HX1 := Lib.hid (HX0.out.trans (hbx.mono HX0.out.size))
           obtain ⟨p0z, p1z, p2z, p3z, p4z⟩ := HCp.out w1 HX1.out
           clear hbx)
        | (go_at_call 10
           (with_reducible refine (HFW.out _ HX1.out).mono ?_)
           rintro e w2 ⟨rfl, hbx⟩
           have HX2 := Lib.hid (HX1.out.trans (hbx.mono HX1.out.size))
           obtain ⟨p0z, p1z, p2z, p3z, p4z⟩ := HCp.out w2 HX2.out
           clear hbx)
        | (go_at_call 15
           (with_reducible refine (HFT.out _ HX2.out).mono ?_)
           rintro e w3 ⟨rfl, hbx⟩
           have HX3 := Lib.hid (HX2.out.trans (hbx.mono HX2.out.size))
           obtain ⟨p0z, p1z, p2z, p3z, p4z⟩ := HCp.out w3 HX3.out
           clear hbx))
      go_ret
      exact ⟨rfl, HB0.out.trans (HX3.out.mono HB0.out.size)⟩
    | true =>
      rw [hft] at HFT
      have HNO := Lib.hid (fun X hX => HO.next p k X (HPp.out X hX) hbn hbk)
      simp only [plV] at HNO
      by_cases hnk : k < 0 ∨ (p.k : Int) ≤ k
      · have hv : nextP p k = -1 := if_neg fun h => by omega
        rw [hv] at HNO
        rcases hnk with hnk | hnk
        · go_enter Try.func4, Try.ntmps4
          go_wp2_with (first
            | (go_at_call 9
               rw [HW.out]
               (with_reducible refine (HAW.out).mono ?_)
               rintro e w1 ⟨rfl, hbx⟩
               have HX1 := Lib.hid (HX0.out.trans (hbx.mono HX0.out.size))
               obtain ⟨p0z, p1z, p2z, p3z, p4z⟩ := HCp.out w1 HX1.out
               clear hbx)
            | (go_at_call 10
               (with_reducible refine (HFW.out _ HX1.out).mono ?_)
               rintro e w2 ⟨rfl, hbx⟩
               have HX2 := Lib.hid (HX1.out.trans (hbx.mono HX1.out.size))
               obtain ⟨p0z, p1z, p2z, p3z, p4z⟩ := HCp.out w2 HX2.out
               clear hbx)
            | (go_at_call 15
               (with_reducible refine (HFT.out _ HX2.out).mono ?_)
               rintro e w3 ⟨rfl, hbx⟩
               have HX3 := Lib.hid (HX2.out.trans (hbx.mono HX2.out.size))
               obtain ⟨p0z, p1z, p2z, p3z, p4z⟩ := HCp.out w3 HX3.out
               clear hbx)
            | (go_at_call 18
               (with_reducible refine (HNO.out _ HX3.out).mono ?_)
               rintro e w4 ⟨rfl, hbx⟩
               have HX4 := Lib.hid (HX3.out.trans (hbx.mono HX3.out.size))
               obtain ⟨p0z, p1z, p2z, p3z, p4z⟩ := HCp.out w4 HX4.out
               clear hbx))
          go_ret
          exact ⟨rfl, HB0.out.trans (HX4.out.mono HB0.out.size)⟩
        · have hk0 : ¬ (k < 0) := by omega
          go_enter Try.func4, Try.ntmps4
          go_wp2_with (first
            | (go_at_call 9
               rw [HW.out]
               (with_reducible refine (HAW.out).mono ?_)
               rintro e w1 ⟨rfl, hbx⟩
               have HX1 := Lib.hid (HX0.out.trans (hbx.mono HX0.out.size))
               obtain ⟨p0z, p1z, p2z, p3z, p4z⟩ := HCp.out w1 HX1.out
               clear hbx)
            | (go_at_call 10
               (with_reducible refine (HFW.out _ HX1.out).mono ?_)
               rintro e w2 ⟨rfl, hbx⟩
               have HX2 := Lib.hid (HX1.out.trans (hbx.mono HX1.out.size))
               obtain ⟨p0z, p1z, p2z, p3z, p4z⟩ := HCp.out w2 HX2.out
               clear hbx)
            | (go_at_call 15
               (with_reducible refine (HFT.out _ HX2.out).mono ?_)
               rintro e w3 ⟨rfl, hbx⟩
               have HX3 := Lib.hid (HX2.out.trans (hbx.mono HX2.out.size))
               obtain ⟨p0z, p1z, p2z, p3z, p4z⟩ := HCp.out w3 HX3.out
               clear hbx)
            | (go_at_call 18
               (with_reducible refine (HNO.out _ HX3.out).mono ?_)
               rintro e w4 ⟨rfl, hbx⟩
               have HX4 := Lib.hid (HX3.out.trans (hbx.mono HX3.out.size))
               obtain ⟨p0z, p1z, p2z, p3z, p4z⟩ := HCp.out w4 HX4.out
               clear hbx))
          go_ret
          exact ⟨rfl, HB0.out.trans (HX4.out.mono HB0.out.size)⟩
      · obtain ⟨i0, rfl⟩ := Int.eq_ofNat_of_zero_le (show 0 ≤ k by omega)
        have h6 := (fit_iff.1 hft).six
        have e1 : ¬ ((i0 : Int) < 0) := by omega
        have e2 : ¬ (p.k ≤ i0) := by omega
        have e3 : decide (p.k ≤ i0) = false := decide_eq_false e2
        have hlt0 : i0 < p.k := by omega
        have hl6 : p.k ≤ 6 := by omega
        have HNX := Lib.hid (fun x X hX => HO.next p x X (HPp.out X hX) hbn hbk)
        simp only [plV] at HNX
        have HNA := Lib.hid (fun (i : Nat) (hi : i < p.k) => next_at (p := p) (n := p.k) (k := i0) (i := i) hft hSL hl6 hlt0 hi)
        have HR7 := Lib.hid (show ∀ i : Nat, i < p.k → seenN p.k i0 i < 64 ∧ (seenN p.k i0 i).testBit (atN p.k i0 i) = false ∧ atN p.k i0 i < p.k from fun i hi => by
          obtain ⟨r1, r2, r3, -⟩ := round7 ⟨p.k, by omega⟩ ⟨i0, by omega⟩ ⟨i, by omega⟩ hlt0 hi
          exact ⟨r1, r2, r3⟩)
        clear hft hnk hSL hML HNO
        go_enter Try.func4, Try.ntmps4
        go_wp2_with (first
          | (go_at_call 9
             rw [HW.out]
             (with_reducible refine (HAW.out).mono ?_)
             rintro e w1 ⟨rfl, hbx⟩
             have HX1 := Lib.hid (HX0.out.trans (hbx.mono HX0.out.size))
             obtain ⟨p0z, p1z, p2z, p3z, p4z⟩ := HCp.out w1 HX1.out
             clear hbx)
          | (go_at_call 10
             (with_reducible refine (HFW.out _ HX1.out).mono ?_)
             rintro e w2 ⟨rfl, hbx⟩
             have HX2 := Lib.hid (HX1.out.trans (hbx.mono HX1.out.size))
             obtain ⟨p0z, p1z, p2z, p3z, p4z⟩ := HCp.out w2 HX2.out
             clear hbx)
          | (go_at_call 15
             (with_reducible refine (HFT.out _ HX2.out).mono ?_)
             rintro e w3 ⟨rfl, hbx⟩
             have HX3 := Lib.hid (HX2.out.trans (hbx.mono HX2.out.size))
             obtain ⟨p0z, p1z, p2z, p3z, p4z⟩ := HCp.out w3 HX3.out
             clear hbx))
        clear p0z p1z p2z p3z p4z
        go_loopw [7, 8, 9] (fun av sv v wr => ∃ i : Nat, i ≤ p.k ∧ v = .int .i64 i ∧ av = .int .i64 (atN p.k i0 i : Nat) ∧ sv = .int .i64 (seenN p.k i0 i : Nat) ∧ Below W0.heap.size W0 wr) (fun _ _ v _ => p.k - (intOf v).toNat)
        case atStart => exact ⟨0, by omega, rfl, by rw [at_zero hlt0], rfl, HX3.out⟩
        case round =>
          obtain ⟨i, hi, rfl, rfl, rfl, hbw⟩ := hrel
          have HXR := Lib.hid hbw
          obtain ⟨p0z, p1z, p2z, p3z, p4z⟩ := HCp.out wr hbw
          clear hbw
          by_cases hlt : i < p.k
          · have hlt2 : (i : Int) < p.k := by omega
            obtain ⟨r1, r2, r3⟩ := HR7.out i hlt
            have hna := HNA.out i hlt
            have HNI := Lib.hid (HNX.out (atN p.k i0 i : Nat))
            rw [hna] at HNI
            have hse : seenN p.k i0 (i + 1) = seenN p.k i0 i ||| 2 ^ atN p.k i0 i := rfl
            obtain ⟨a, ha⟩ : ∃ a, atN p.k i0 i = a := ⟨_, rfl⟩
            obtain ⟨a2, ha2⟩ : ∃ a2, atN p.k i0 (i + 1) = a2 := ⟨_, rfl⟩
            obtain ⟨S, hS⟩ : ∃ S, seenN p.k i0 i = S := ⟨_, rfl⟩
            obtain ⟨S2, hS2⟩ : ∃ S2, seenN p.k i0 (i + 1) = S2 := ⟨_, rfl⟩
            rw [ha, ha2] at HNI
            rw [ha] at hse r2 r3
            rw [hS] at hse r1 r2
            rw [hS2] at hse
            simp only [ha, hS]
            have HA2 := Lib.hid ha2
            have HS2 := Lib.hid hS2
            have hba := bit_and S a (by omega)
            rw [r2, if_neg (by simp)] at hba
            have hdv : ((S / 2 ^ a : Nat) : Int) = (S : Int) / 2 ^ a := by simp
            rw [hdv] at hba
            have hp6 : 2 ^ a ≤ 2 ^ 6 := Nat.pow_le_pow_right (by omega) (by omega)
            have hpos : 0 < 2 ^ a := Nat.pow_pos (by omega)
            have hor := or_set S (2 ^ a) (by omega) (by omega)
            rw [← hse] at hor
            have ep : (2 : Int) ^ a = ((2 ^ a : Nat) : Int) := pow_int a
            obtain ⟨P, hP⟩ : ∃ P : Nat, 2 ^ a = P := ⟨_, rfl⟩
            rw [hP] at hor hp6 hpos ep
            have hw : wrap64 ((2 : Int) ^ a) = (P : Int) := by rw [ep]; unfold wrap64; omega
            have e4 : ¬ (p.k ≤ a) := by omega
            have e5 : decide (p.k ≤ a) = false := decide_eq_false e4
            clear ep hP hse r1 r2 hna ha ha2 hS hS2 hdv
            go_wp2_with (first
              | (go_at_call 18
                 (with_reducible refine (HNI.out _ HXR.out).mono ?_)
                 rintro e w5 ⟨rfl, hbx⟩
                 have HX5 := Lib.hid (HXR.out.trans (hbx.mono HXR.out.size))
                 clear hbx))
            go_roundw
            case rel => exact ⟨i + 1, by omega, by go_num, by rw [HA2.out], by rw [HS2.out], HX5.out⟩
            case measure => simp [intOf]; omega
          · obtain rfl : i = p.k := by omega
            have hge : ¬ ((p.k : Int) < p.k) := by omega
            have hat := at_all hlt0
            rw [hat]
            clear hat
            go_wp2
            go_ret
            exact ⟨by simp, HB0.out.trans (HXR.out.mono HB0.out.size)⟩
end Go.Proofs.Ytjjjfckkglcdfaa
