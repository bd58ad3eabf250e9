/- The walk over the law LampFree. -/
import Derived.Test.YtekmagpokcloaaaLmJD
namespace Go.Proofs.Ytekmagpokcloaaa
set_option maxRecDepth 100000
set_option linter.unusedVariables false
set_option linter.unusedSimpArgs false
open Go.RowKit

set_option maxHeartbeats 8000000 in
theorem lfree_any (HO : LmpOk) (HF : FitOk) (p : Pl) (st ph : Int) (w : World) (hp : PlIn w p) :
    Calls Try.prog 5 #[plV p, .int .i64 st, .int .i64 ph] w fun e w' => e = .returned (.bool true) ∧ Below w.heap.size w w' := by
  have hSL := hp.s.len
  have hML := hp.m.len
  have hsk := hp.s.small
  have hsm := hp.m.small
  simp only [plV]
  obtain ⟨W0, hW0⟩ : ∃ W0, w.alloc (.cells #[.slice p.A p.n p.c, .slice p.B p.k p.d, .int .i64 p.am, .int .i64 p.rd, .int .i64 p.hd] 25) = W0 := ⟨_, rfl⟩
  have hB0 : Below w.heap.size w W0 := by rw [← hW0]; exact one_alloc w _
  have hbp : BoxP W0 w.heap.size p := by rw [← hW0]; exact BoxP.new w p
  have hpp : PlIn W0 p := hp.below hB0
  have HCp := Lib.hid (show ∀ X, Below W0.heap.size W0 X → X.cell? ⟨w.heap.size, 0, none⟩ = some (.slice p.A p.n p.c) ∧ X.cell? ⟨w.heap.size, 1, none⟩ = some (.slice p.B p.k p.d) ∧ X.cell? ⟨w.heap.size, 2, none⟩ = some (.int .i64 p.am) ∧ X.cell? ⟨w.heap.size, 3, none⟩ = some (.int .i64 p.rd) ∧ X.cell? ⟨w.heap.size, 4, none⟩ = some (.int .i64 p.hd) from fun X hX => (hbp.below hX).cells)
  have HPp := Lib.hid (show ∀ X, Below W0.heap.size W0 X → PlIn X p from fun X hX => hpp.below hX)
  have HB0 := Lib.hid hB0
  have HW := Lib.hid hW0
  have HX0 := Lib.hid (Below.refl W0.heap.size W0)
  clear hW0 hB0 hbp hpp hp
  have HAW := Lib.hid (lawake_any HO W0)
  have HFW := Lib.hid (fun X hX => pfew_any p X (HPp.out X hX))
  simp only [plV] at HFW
  obtain ⟨a, ha⟩ : ∃ a, fewB p = a := ⟨_, rfl⟩
  rw [ha] at HFW
  cases a
  · clear ha
    go_enter Try.func5, Try.ntmps5
    go_wp2_with (first
      | (go_at_call 8
         rw [HW.out]
         (with_reducible refine (HAW.out).mono ?_)
         rintro e w1 ⟨rfl, hbx⟩
         have HX1 := Lib.hid (HX0.out.trans (hbx.mono HX0.out.size))
         obtain ⟨p0z, p1z, p2z, p3z, p4z⟩ := HCp.out w1 HX1.out
         clear hbx)
      | (go_at_call 9
         (with_reducible refine (HFW.out _ HX1.out).mono ?_)
         rintro e w2 ⟨rfl, hbx⟩
         have HX2 := Lib.hid (HX1.out.trans (hbx.mono HX1.out.size))
         obtain ⟨p0z, p1z, p2z, p3z, p4z⟩ := HCp.out w2 HX2.out
         clear hbx))
    go_ret
    exact ⟨rfl, HB0.out.trans (HX2.out.mono HB0.out.size)⟩
  · have fp := few_iff.1 ha
    have hbn : p.n ≤ 1000 := by omega
    have hbk : p.k ≤ 1000 := by omega
    clear ha
    have HSG := Lib.hid (fun X hX => HO.shows p st ph X (HPp.out X hX) hbn hbk)
    have HFT := Lib.hid (fun X hX => HF.fit p X (HPp.out X hX) hbn hbk)
    simp only [plV] at HSG HFT
    cases hft : fitP p with
    | false =>
      rw [hft] at HFT
      have hs0 : showR p st ph = [] := show_not fun hz => by rw [hft] at hz; cases hz.1
      rw [hs0] at HSG
      have HLN := Lib.hid (show ([] : List Int).length = 0 from rfl)
      clear hs0 hft
      go_enter Try.func5, Try.ntmps5
      go_wp2_with (first
        | (go_at_call 8
           rw [HW.out]
           (with_reducible refine (HAW.out).mono ?_)
           rintro e w1 ⟨rfl, hbx⟩
           have HX1 := Lib.hid (HX0.out.trans (hbx.mono HX0.out.size))
           obtain ⟨p0z, p1z, p2z, p3z, p4z⟩ := HCp.out w1 HX1.out
           clear hbx)
        | (go_at_call 9
           (with_reducible refine (HFW.out _ HX1.out).mono ?_)
           rintro e w2 ⟨rfl, hbx⟩
           have HX2 := Lib.hid (HX1.out.trans (hbx.mono HX1.out.size))
           obtain ⟨p0z, p1z, p2z, p3z, p4z⟩ := HCp.out w2 HX2.out
           clear hbx)
        | (go_at_call 13
           (with_reducible refine (HSG.out _ HX2.out).mono ?_)
           rintro e w3 ⟨A3, n3, c3, rfl, hi3, hbx⟩
           have HX3 := Lib.hid (HX2.out.trans (hbx.mono HX2.out.size))
           obtain ⟨p0z, p1z, p2z, p3z, p4z⟩ := HCp.out w3 HX3.out
           obtain rfl : n3 = 0 := hi3.len.symm.trans HLN.out
           have HI3 := Lib.hid hi3
           clear hi3
           clear hbx)
        | (go_at_call 21
           (with_reducible refine (HFT.out _ HX3.out).mono ?_)
           rintro e w4 ⟨rfl, hbx⟩
           have HX4 := Lib.hid (HX3.out.trans (hbx.mono HX3.out.size))
           obtain ⟨p0z, p1z, p2z, p3z, p4z⟩ := HCp.out w4 HX4.out
           have HI3 := Lib.hid (HI3.out.below hbx)
           clear hbx))
      go_ret
      exact ⟨rfl, HB0.out.trans (HX4.out.mono HB0.out.size)⟩
    | true =>
      rw [hft] at HFT
      by_cases g1 : 0 ≤ st
      case neg =>
        have g1i : st < 0 := by omega
        have g1d : decide (0 ≤ st) = false := decide_eq_false g1
        have hs0 : showR p st ph = [] := show_not fun hz => by exact g1 hz.2.1.1
        rw [hs0] at HSG
        have HLN := Lib.hid (show ([] : List Int).length = 0 from rfl)
        clear hs0 hft
        go_enter Try.func5, Try.ntmps5
        go_wp2_with (first
          | (go_at_call 8
             rw [HW.out]
             (with_reducible refine (HAW.out).mono ?_)
             rintro e w1 ⟨rfl, hbx⟩
             have HX1 := Lib.hid (HX0.out.trans (hbx.mono HX0.out.size))
             obtain ⟨p0z, p1z, p2z, p3z, p4z⟩ := HCp.out w1 HX1.out
             clear hbx)
          | (go_at_call 9
             (with_reducible refine (HFW.out _ HX1.out).mono ?_)
             rintro e w2 ⟨rfl, hbx⟩
             have HX2 := Lib.hid (HX1.out.trans (hbx.mono HX1.out.size))
             obtain ⟨p0z, p1z, p2z, p3z, p4z⟩ := HCp.out w2 HX2.out
             clear hbx)
          | (go_at_call 13
             (with_reducible refine (HSG.out _ HX2.out).mono ?_)
             rintro e w3 ⟨A3, n3, c3, rfl, hi3, hbx⟩
             have HX3 := Lib.hid (HX2.out.trans (hbx.mono HX2.out.size))
             obtain ⟨p0z, p1z, p2z, p3z, p4z⟩ := HCp.out w3 HX3.out
             obtain rfl : n3 = 0 := hi3.len.symm.trans HLN.out
             have HI3 := Lib.hid hi3
             clear hi3
             clear hbx)
          | (go_at_call 21
             (with_reducible refine (HFT.out _ HX3.out).mono ?_)
             rintro e w4 ⟨rfl, hbx⟩
             have HX4 := Lib.hid (HX3.out.trans (hbx.mono HX3.out.size))
             obtain ⟨p0z, p1z, p2z, p3z, p4z⟩ := HCp.out w4 HX4.out
             have HI3 := Lib.hid (HI3.out.below hbx)
             clear hbx))
        go_ret
        exact ⟨rfl, HB0.out.trans (HX4.out.mono HB0.out.size)⟩
      by_cases g2 : st < (p.k : Int)
      case neg =>
        have g2i : (p.k : Int) ≤ st := by omega
        have g2d : decide (st < (p.k : Int)) = false := decide_eq_false g2
        have hs0 : showR p st ph = [] := show_not fun hz => by have := hz.2.1.2; omega
        rw [hs0] at HSG
        have HLN := Lib.hid (show ([] : List Int).length = 0 from rfl)
        clear hs0 hft
        go_enter Try.func5, Try.ntmps5
        go_wp2_with (first
          | (go_at_call 8
             rw [HW.out]
             (with_reducible refine (HAW.out).mono ?_)
             rintro e w1 ⟨rfl, hbx⟩
             have HX1 := Lib.hid (HX0.out.trans (hbx.mono HX0.out.size))
             obtain ⟨p0z, p1z, p2z, p3z, p4z⟩ := HCp.out w1 HX1.out
             clear hbx)
          | (go_at_call 9
             (with_reducible refine (HFW.out _ HX1.out).mono ?_)
             rintro e w2 ⟨rfl, hbx⟩
             have HX2 := Lib.hid (HX1.out.trans (hbx.mono HX1.out.size))
             obtain ⟨p0z, p1z, p2z, p3z, p4z⟩ := HCp.out w2 HX2.out
             clear hbx)
          | (go_at_call 13
             (with_reducible refine (HSG.out _ HX2.out).mono ?_)
             rintro e w3 ⟨A3, n3, c3, rfl, hi3, hbx⟩
             have HX3 := Lib.hid (HX2.out.trans (hbx.mono HX2.out.size))
             obtain ⟨p0z, p1z, p2z, p3z, p4z⟩ := HCp.out w3 HX3.out
             obtain rfl : n3 = 0 := hi3.len.symm.trans HLN.out
             have HI3 := Lib.hid hi3
             clear hi3
             clear hbx)
          | (go_at_call 21
             (with_reducible refine (HFT.out _ HX3.out).mono ?_)
             rintro e w4 ⟨rfl, hbx⟩
             have HX4 := Lib.hid (HX3.out.trans (hbx.mono HX3.out.size))
             obtain ⟨p0z, p1z, p2z, p3z, p4z⟩ := HCp.out w4 HX4.out
             have HI3 := Lib.hid (HI3.out.below hbx)
             clear hbx))
        go_ret
        exact ⟨rfl, HB0.out.trans (HX4.out.mono HB0.out.size)⟩
      by_cases g3 : 0 ≤ ph
      case neg =>
        have g3i : ph < 0 := by omega
        have g3d : decide (0 ≤ ph) = false := decide_eq_false g3
        have hs0 : showR p st ph = [] := show_not fun hz => by exact g3 hz.2.2.1
        rw [hs0] at HSG
        have HLN := Lib.hid (show ([] : List Int).length = 0 from rfl)
        clear hs0 hft
        go_enter Try.func5, Try.ntmps5
        go_wp2_with (first
          | (go_at_call 8
             rw [HW.out]
             (with_reducible refine (HAW.out).mono ?_)
             rintro e w1 ⟨rfl, hbx⟩
             have HX1 := Lib.hid (HX0.out.trans (hbx.mono HX0.out.size))
             obtain ⟨p0z, p1z, p2z, p3z, p4z⟩ := HCp.out w1 HX1.out
             clear hbx)
          | (go_at_call 9
             (with_reducible refine (HFW.out _ HX1.out).mono ?_)
             rintro e w2 ⟨rfl, hbx⟩
             have HX2 := Lib.hid (HX1.out.trans (hbx.mono HX1.out.size))
             obtain ⟨p0z, p1z, p2z, p3z, p4z⟩ := HCp.out w2 HX2.out
             clear hbx)
          | (go_at_call 13
             (with_reducible refine (HSG.out _ HX2.out).mono ?_)
             rintro e w3 ⟨A3, n3, c3, rfl, hi3, hbx⟩
             have HX3 := Lib.hid (HX2.out.trans (hbx.mono HX2.out.size))
             obtain ⟨p0z, p1z, p2z, p3z, p4z⟩ := HCp.out w3 HX3.out
             obtain rfl : n3 = 0 := hi3.len.symm.trans HLN.out
             have HI3 := Lib.hid hi3
             clear hi3
             clear hbx)
          | (go_at_call 21
             (with_reducible refine (HFT.out _ HX3.out).mono ?_)
             rintro e w4 ⟨rfl, hbx⟩
             have HX4 := Lib.hid (HX3.out.trans (hbx.mono HX3.out.size))
             obtain ⟨p0z, p1z, p2z, p3z, p4z⟩ := HCp.out w4 HX4.out
             have HI3 := Lib.hid (HI3.out.below hbx)
             clear hbx))
        go_ret
        exact ⟨rfl, HB0.out.trans (HX4.out.mono HB0.out.size)⟩
      by_cases g4 : ph < 3
      case neg =>
        have g4i : 3 ≤ ph := by omega
        have g4d : decide (ph < 3) = false := decide_eq_false g4
        have hs0 : showR p st ph = [] := show_not fun hz => by exact g4 hz.2.2.2
        rw [hs0] at HSG
        have HLN := Lib.hid (show ([] : List Int).length = 0 from rfl)
        clear hs0 hft
        go_enter Try.func5, Try.ntmps5
        go_wp2_with (first
          | (go_at_call 8
             rw [HW.out]
             (with_reducible refine (HAW.out).mono ?_)
             rintro e w1 ⟨rfl, hbx⟩
             have HX1 := Lib.hid (HX0.out.trans (hbx.mono HX0.out.size))
             obtain ⟨p0z, p1z, p2z, p3z, p4z⟩ := HCp.out w1 HX1.out
             clear hbx)
          | (go_at_call 9
             (with_reducible refine (HFW.out _ HX1.out).mono ?_)
             rintro e w2 ⟨rfl, hbx⟩
             have HX2 := Lib.hid (HX1.out.trans (hbx.mono HX1.out.size))
             obtain ⟨p0z, p1z, p2z, p3z, p4z⟩ := HCp.out w2 HX2.out
             clear hbx)
          | (go_at_call 13
             (with_reducible refine (HSG.out _ HX2.out).mono ?_)
             rintro e w3 ⟨A3, n3, c3, rfl, hi3, hbx⟩
             have HX3 := Lib.hid (HX2.out.trans (hbx.mono HX2.out.size))
             obtain ⟨p0z, p1z, p2z, p3z, p4z⟩ := HCp.out w3 HX3.out
             obtain rfl : n3 = 0 := hi3.len.symm.trans HLN.out
             have HI3 := Lib.hid hi3
             clear hi3
             clear hbx)
          | (go_at_call 21
             (with_reducible refine (HFT.out _ HX3.out).mono ?_)
             rintro e w4 ⟨rfl, hbx⟩
             have HX4 := Lib.hid (HX3.out.trans (hbx.mono HX3.out.size))
             obtain ⟨p0z, p1z, p2z, p3z, p4z⟩ := HCp.out w4 HX4.out
             have HI3 := Lib.hid (HI3.out.below hbx)
             clear hbx))
        go_ret
        exact ⟨rfl, HB0.out.trans (HX4.out.mono HB0.out.size)⟩
      obtain ⟨ki, rfl⟩ := Int.eq_ofNat_of_zero_le g1
      have hkl : ki < p.s.length := by omega
      have hki : ki < p.k := by omega
      have hmy := show_may hft hkl g3 g4
      have hcl := show_free hft hkl g3 g4
      have hln := show_size hft hkl g3 g4
      obtain ⟨S, hS⟩ : ∃ S, showR p (ki : Int) ph = S := ⟨_, rfl⟩
      rw [hS] at hmy hcl hln HSG
      have HLN := Lib.hid (hln.trans hML)
      have HMG := Lib.hid (fun A c X hI => HO.may A p.n c S X hI (by omega))
      have HCG := Lib.hid (fun A c X hX hI => HO.clash p A p.n c S X (HPp.out X hX) hI hbn hbk (by omega))
      rw [hmy] at HMG
      rw [hcl] at HCG
      simp only [plV] at HCG
      have d1 : decide (ki < p.k) = true := decide_eq_true hki
      clear hft hS hmy hcl hln hkl hML hSL
      go_enter Try.func5, Try.ntmps5
      go_wp2_with (first
        | (go_at_call 8
           rw [HW.out]
           (with_reducible refine (HAW.out).mono ?_)
           rintro e w1 ⟨rfl, hbx⟩
           have HX1 := Lib.hid (HX0.out.trans (hbx.mono HX0.out.size))
           obtain ⟨p0z, p1z, p2z, p3z, p4z⟩ := HCp.out w1 HX1.out
           clear hbx)
        | (go_at_call 9
           (with_reducible refine (HFW.out _ HX1.out).mono ?_)
           rintro e w2 ⟨rfl, hbx⟩
           have HX2 := Lib.hid (HX1.out.trans (hbx.mono HX1.out.size))
           obtain ⟨p0z, p1z, p2z, p3z, p4z⟩ := HCp.out w2 HX2.out
           clear hbx)
        | (go_at_call 13
           (with_reducible refine (HSG.out _ HX2.out).mono ?_)
           rintro e w3 ⟨A3, n3, c3, rfl, hi3, hbx⟩
           have HX3 := Lib.hid (HX2.out.trans (hbx.mono HX2.out.size))
           obtain ⟨p0z, p1z, p2z, p3z, p4z⟩ := HCp.out w3 HX3.out
           obtain rfl : n3 = p.n := hi3.len.symm.trans HLN.out
           have HI3 := Lib.hid hi3
           clear hi3
           clear hbx)
        | (go_at_call 21
           (with_reducible refine (HFT.out _ HX3.out).mono ?_)
           rintro e w4 ⟨rfl, hbx⟩
           have HX4 := Lib.hid (HX3.out.trans (hbx.mono HX3.out.size))
           obtain ⟨p0z, p1z, p2z, p3z, p4z⟩ := HCp.out w4 HX4.out
           have HI3 := Lib.hid (HI3.out.below hbx)
           clear hbx)
        | (go_at_call 17
           (with_reducible refine (HMG.out A3 c3 _ HI3.out).mono ?_)
           rintro e w5 ⟨rfl, hbx⟩
           have HX5 := Lib.hid (HX4.out.trans (hbx.mono HX4.out.size))
           obtain ⟨p0z, p1z, p2z, p3z, p4z⟩ := HCp.out w5 HX5.out
           have HI3 := Lib.hid (HI3.out.below hbx)
           clear hbx)
        | (go_at_call 20
           (with_reducible refine (HCG.out A3 c3 _ HX5.out HI3.out).mono ?_)
           rintro e w6 ⟨rfl, hbx⟩
           have HX6 := Lib.hid (HX5.out.trans (hbx.mono HX5.out.size))
           obtain ⟨p0z, p1z, p2z, p3z, p4z⟩ := HCp.out w6 HX6.out
           clear hbx))
      go_ret
      exact ⟨rfl, HB0.out.trans (HX6.out.mono HB0.out.size)⟩
end Go.Proofs.Ytekmagpokcloaaa
