/- The walk over the law LampTells. -/
import Derived.Test.YtekmagpokcloaaaLmJD
import Derived.Test.YtekmagpokcloaaaLmJC
import Derived.Test.YtekmagpokcloaaaLmJB
namespace Go.Proofs.Ytekmagpokcloaaa
set_option maxRecDepth 100000
set_option linter.unusedVariables false
set_option linter.unusedSimpArgs false
open Go.RowKit

set_option maxHeartbeats 8000000 in
theorem ltells_any (HO : LmpOk) (p : Pl) (st ph : Int) (A : Option Addr) (n c : Nat) (l : List Int) (s : ByteArray) (w : World) (hp : PlIn w p) (hl : Its .i64 w A n c l) :
    Calls Try.prog 3 #[plV p, .int .i64 st, .int .i64 ph, .slice A n c, .string s] w fun e w' => e = .returned (.bool true) ∧ Below w.heap.size w w' := by
  have hnn := hl.small
  simp only [plV]
  obtain ⟨W0, hW0⟩ : ∃ W0, w.alloc (.cells #[.slice p.A p.n p.c, .slice p.B p.k p.d, .int .i64 p.am, .int .i64 p.rd, .int .i64 p.hd] 25) = W0 := ⟨_, rfl⟩
  have hB0 : Below w.heap.size w W0 := by rw [← hW0]; exact one_alloc w _
  have hbp : BoxP W0 w.heap.size p := by rw [← hW0]; exact BoxP.new w p
  have hpp : PlIn W0 p := hp.below hB0
  have HCp := Lib.hid (show ∀ X, Below W0.heap.size W0 X → X.cell? ⟨w.heap.size, 0, none⟩ = some (.slice p.A p.n p.c) ∧ X.cell? ⟨w.heap.size, 1, none⟩ = some (.slice p.B p.k p.d) ∧ X.cell? ⟨w.heap.size, 2, none⟩ = some (.int .i64 p.am) ∧ X.cell? ⟨w.heap.size, 3, none⟩ = some (.int .i64 p.rd) ∧ X.cell? ⟨w.heap.size, 4, none⟩ = some (.int .i64 p.hd) from fun X hX => (hbp.below hX).cells)
  have HPp := Lib.hid (show ∀ X, Below W0.heap.size W0 X → PlIn X p from fun X hX => hpp.below hX)
  have HB0 := Lib.hid hB0
  have HW := Lib.hid hW0
  have hl0 : Its .i64 W0 A n c l := hl.below hB0
  have HLB := Lib.hid (show ∀ X, Below W0.heap.size W0 X → Its .i64 X A n c l from fun X hX => hl0.below hX)
  have HX0 := Lib.hid (Below.refl W0.heap.size W0)
  clear hl hl0 hW0 hB0 hbp hpp hp
  have HAW := Lib.hid (lawake_any HO W0)
  have HFW := Lib.hid (fun X hX => pfew_any p X (HPp.out X hX))
  simp only [plV] at HFW
  obtain ⟨a, ha⟩ : ∃ a, fewB p = a := ⟨_, rfl⟩
  rw [ha] at HFW
  cases a
  · clear ha
    go_enter Try.func3, Try.ntmps3
    go_wp2_with (first
      | (go_at_call 8
         rw [HW.out]
         (with_reducible refine (HAW.out).mono ?_)
         rintro e w1 ⟨rfl, hbx⟩
         have HX1 := Lib.hid (HX0.out.trans (hbx.mono HX0.out.size))
         obtain ⟨p0z, p1z, p2z, p3z, p4z⟩ := HCp.out w1 HX1.out
         clear hbx)
      | (go_at_call 9
         (with_reducible refine (HFW.out _ HX1.out).mono ?_)
         rintro e w2 ⟨rfl, hbx⟩
         have HX2 := Lib.hid (HX1.out.trans (hbx.mono HX1.out.size))
         obtain ⟨p0z, p1z, p2z, p3z, p4z⟩ := HCp.out w2 HX2.out
         clear hbx))
    go_ret
    exact ⟨rfl, HB0.out.trans (HX2.out.mono HB0.out.size)⟩
  · by_cases h1 : 20 < n
    · have h1a : (20 : Int) < n := by omega
      clear ha
      go_enter Try.func3, Try.ntmps3
      go_wp2_with (first
        | (go_at_call 8
           rw [HW.out]
           (with_reducible refine (HAW.out).mono ?_)
           rintro e w1 ⟨rfl, hbx⟩
           have HX1 := Lib.hid (HX0.out.trans (hbx.mono HX0.out.size))
           obtain ⟨p0z, p1z, p2z, p3z, p4z⟩ := HCp.out w1 HX1.out
           clear hbx)
        | (go_at_call 9
           (with_reducible refine (HFW.out _ HX1.out).mono ?_)
           rintro e w2 ⟨rfl, hbx⟩
           have HX2 := Lib.hid (HX1.out.trans (hbx.mono HX1.out.size))
           obtain ⟨p0z, p1z, p2z, p3z, p4z⟩ := HCp.out w2 HX2.out
           clear hbx))
      go_ret
      exact ⟨rfl, HB0.out.trans (HX2.out.mono HB0.out.size)⟩
    · have h1a : ¬ (20 : Int) < n := by omega
      by_cases h2 : 40 < s.size
      · have h2a : (40 : Int) < s.size := by omega
        clear ha
        go_enter Try.func3, Try.ntmps3
        go_wp2_with (first
          | (go_at_call 8
             rw [HW.out]
             (with_reducible refine (HAW.out).mono ?_)
             rintro e w1 ⟨rfl, hbx⟩
             have HX1 := Lib.hid (HX0.out.trans (hbx.mono HX0.out.size))
             obtain ⟨p0z, p1z, p2z, p3z, p4z⟩ := HCp.out w1 HX1.out
             clear hbx)
          | (go_at_call 9
             (with_reducible refine (HFW.out _ HX1.out).mono ?_)
             rintro e w2 ⟨rfl, hbx⟩
             have HX2 := Lib.hid (HX1.out.trans (hbx.mono HX1.out.size))
             obtain ⟨p0z, p1z, p2z, p3z, p4z⟩ := HCp.out w2 HX2.out
             clear hbx))
        go_ret
        exact ⟨rfl, HB0.out.trans (HX2.out.mono HB0.out.size)⟩
      · have h2a : ¬ (40 : Int) < s.size := by omega
        have fp := few_iff.1 ha
        clear ha
        have HIT := Lib.hid (show ∀ (A1 B1 : Option Addr) (n1 c1 m1 d1 : Nat) (L : List Int) (X : World), Its .i64 X A1 n1 c1 L → Its .i64 X B1 m1 d1 L → Calls Try.prog 12 #[.slice A1 n1 c1, .slice B1 m1 d1] X fun e w' => e = .returned (.bool true) ∧ Below X.heap.size X w' from fun A1 B1 n1 c1 m1 d1 L X h1 h2 => (ints_any A1 B1 n1 c1 m1 d1 L L X h1 h2).mono fun e w' ⟨he, j, hw⟩ => ⟨by rw [he, beq_self_eq_true], by subst hw; exact below_drewN (Below.refl _ _) _⟩)
        have HSR := Lib.hid (fun X hX => rlshow_any p st ph X (HPp.out X hX))
        have HSG := Lib.hid (fun X hX => HO.shows p st ph X (HPp.out X hX) (by omega) (by omega))
        have HRR := Lib.hid (fun X => rlread_any s X)
        have HRG := Lib.hid (fun X => HO.read s X (by omega))
        have HMR := Lib.hid (show ∀ (X : World), Below W0.heap.size W0 X → Calls Try.prog 15 #[.slice A n c] X fun e w' => e = .returned (.bool (mayR l)) ∧ Below X.heap.size X w' from fun X hX => (rlmay_any A n c l X (HLB.out X hX)).mono fun e w' ⟨he, hw⟩ => ⟨he, by subst hw; exact Below.refl _ _⟩)
        have HMG := Lib.hid (fun X hX => HO.may A n c l X (HLB.out X hX) (by omega))
        have HTR := Lib.hid (show ∀ (X : World), Below W0.heap.size W0 X → Calls Try.prog 19 #[.slice A n c] X fun e w' => e = .returned (.string (textR l)) ∧ Below X.heap.size X w' from fun X hX => (rltext_any A n c l X (HLB.out X hX)).mono fun e w' ⟨he, hw⟩ => ⟨he, by subst hw; exact Below.refl _ _⟩)
        have HTG := Lib.hid (fun X hX => HO.text A n c l X (HLB.out X hX) (by omega))
        have HCR := Lib.hid (fun X hX => rlclash_any p A n c l X (HPp.out X hX) (HLB.out X hX))
        have HCG := Lib.hid (fun X hX => HO.clash p A n c l X (HPp.out X hX) (HLB.out X hX) (by omega) (by omega) (by omega))
        simp only [plV] at HSR HSG HCR HCG
        obtain ⟨S, hS⟩ : ∃ x, showR p st ph = x := ⟨_, rfl⟩
        obtain ⟨R, hR⟩ : ∃ x, readR s = x := ⟨_, rfl⟩
        obtain ⟨M, hM⟩ : ∃ x, mayR l = x := ⟨_, rfl⟩
        obtain ⟨T, hT⟩ : ∃ x, textR l = x := ⟨_, rfl⟩
        obtain ⟨K, hK⟩ : ∃ x, clashR p l = x := ⟨_, rfl⟩
        simp only [hS] at HSR HSG
        simp only [hR] at HRR HRG
        simp only [hM] at HMR HMG
        simp only [hT] at HTR HTG
        simp only [hK] at HCR HCG
        clear hS hR hM hT hK fp
        go_enter Try.func3, Try.ntmps3
        go_wp2_with (first
          | (go_at_call 8
             rw [HW.out]
             (with_reducible refine (HAW.out).mono ?_)
             rintro e w1 ⟨rfl, hbx⟩
             have HX1 := Lib.hid (HX0.out.trans (hbx.mono HX0.out.size))
             obtain ⟨p0z, p1z, p2z, p3z, p4z⟩ := HCp.out w1 HX1.out
             clear hbx)
          | (go_at_call 9
             (with_reducible refine (HFW.out _ HX1.out).mono ?_)
             rintro e w2 ⟨rfl, hbx⟩
             have HX2 := Lib.hid (HX1.out.trans (hbx.mono HX1.out.size))
             obtain ⟨p0z, p1z, p2z, p3z, p4z⟩ := HCp.out w2 HX2.out
             clear hbx)
          | (go_at_call 10
             (with_reducible refine (HRG.out _).mono ?_)
             rintro e w3 ⟨A3, n3, c3, rfl, hi3, hbx⟩
             have HX3 := Lib.hid (HX2.out.trans (hbx.mono HX2.out.size))
             obtain ⟨p0z, p1z, p2z, p3z, p4z⟩ := HCp.out w3 HX3.out
             have HI3 := Lib.hid hi3
             clear hi3
             clear hbx)
          | (go_at_call 11
             (with_reducible refine (HRR.out _).mono ?_)
             rintro e w4 ⟨A4, n4, c4, rfl, hi4, hbx⟩
             have HX4 := Lib.hid (HX3.out.trans (hbx.mono HX3.out.size))
             obtain ⟨p0z, p1z, p2z, p3z, p4z⟩ := HCp.out w4 HX4.out
             have HI3 := Lib.hid (HI3.out.below hbx)
             have HI4 := Lib.hid hi4
             clear hi4
             clear hbx)
          | (go_at_call 12
             (with_reducible refine (HIT.out A3 A4 n3 c3 n4 c4 _ _ HI3.out HI4.out).mono ?_)
             rintro e w5 ⟨rfl, hbx⟩
             have HX5 := Lib.hid (HX4.out.trans (hbx.mono HX4.out.size))
             obtain ⟨p0z, p1z, p2z, p3z, p4z⟩ := HCp.out w5 HX5.out
             clear hbx))
        clear p0z p1z p2z p3z p4z
        have hSd : Below w5.heap.size w5 w5.drew := (Below.refl _ w5).drew
        refine wp_region_held_drew (S := fun X => Below w5.heap.size w5 X) (by kernel_rfl) hSd (fun hHeld => ?_)
        refine tkS 0 (.agg #[.slice p.A p.n p.c, .slice p.B p.k p.d, .int .i64 p.am, .int .i64 p.rd, .int .i64 p.hd]) hHeld (fun w hq => ?_) ?_
        · obtain ⟨a0, a1, a2, a3, a4⟩ := HCp.out w (HX5.out.trans (hq.mono HX5.out.size))
          go_simp
        simp only [PT]
        refine tk 1 (.int .i64 st) hHeld (fun w => ?_) ?_
        · go_simp
        simp only [PT]
        refine tk 2 (.int .i64 ph) hHeld (fun w => ?_) ?_
        · go_simp
        simp only [PT]
        refine tkS 4 (.agg #[.slice p.A p.n p.c, .slice p.B p.k p.d, .int .i64 p.am, .int .i64 p.rd, .int .i64 p.hd]) hHeld (fun w hq => ?_) ?_
        · obtain ⟨a0, a1, a2, a3, a4⟩ := HCp.out w (HX5.out.trans (hq.mono HX5.out.size))
          go_simp
        simp only [PT]
        refine tk 5 (.int .i64 st) hHeld (fun w => ?_) ?_
        · go_simp
        simp only [PT]
        refine tk 6 (.int .i64 ph) hHeld (fun w => ?_) ?_
        · go_simp
        simp only [PT]
        refine one_step 3 (by kernel_rfl) rfl (fun Kq hKq => ?_)
        go_simp
        go_at_call 13
        (with_reducible refine (HSG.out _ (HX5.out.trans (hSd.mono HX5.out.size))).mono ?_)
        rintro e y1 ⟨A6, n6, c6, rfl, hi6, hbx⟩
        have HI6 := Lib.hid hi6
        clear hi6
        have hS1 : Below w5.heap.size w5 y1 := hSd.trans (hbx.mono hSd.size)
        clear hbx
        refine hKq.out _ _ hS1 (fun hHeld0 => ?_)
        clear hKq Kq hHeld
        have hHeld := hHeld0
        clear hHeld0
        try simp only [PT]
        refine one_step 7 (by kernel_rfl) rfl (fun Kq hKq => ?_)
        go_simp
        go_at_call 14
        (with_reducible refine (HSR.out _ (HX5.out.trans (hS1.mono HX5.out.size))).mono ?_)
        rintro e y2 ⟨A7, n7, c7, rfl, hi7, hbx⟩
        have HI6 := Lib.hid (HI6.out.below hbx)
        have HI7 := Lib.hid hi7
        clear hi7
        have hS2 : Below w5.heap.size w5 y2 := hS1.trans (hbx.mono hS1.size)
        clear hbx
        refine hKq.out _ _ hS2 (fun hHeld0 => ?_)
        clear hKq Kq hHeld
        have hHeld := hHeld0
        clear hHeld0
        try simp only [PT]
        refine one_step 8 (by kernel_rfl) rfl (fun Kq hKq => ?_)
        go_simp
        go_at_call 12
        (with_reducible refine (HIT.out A6 A7 n6 c6 n7 c7 S _ HI6.out HI7.out).mono ?_)
        rintro e y3 ⟨rfl, hbx⟩
        have hS3 : Below w5.heap.size w5 y3 := hS2.trans (hbx.mono hS2.size)
        clear hbx
        refine hKq.out _ _ hS3 (fun hHeld0 => ?_)
        clear hKq Kq hHeld
        have hHeld := hHeld0
        clear hHeld0
        try simp only [PT]
        refine tk 9 (.bool true) hHeld (fun w => ?_) ?_
        · go_simp
        simp only [PT]
        refine wpAnyH_done (by kernel_rfl) ?_ _
        clear hHeld
        have HX6 := Lib.hid (HX5.out.trans (hS3.mono HX5.out.size))
        obtain ⟨p0z, p1z, p2z, p3z, p4z⟩ := HCp.out _ HX6.out
        go_wp2_with (first
          | (go_at_call 15
             (with_reducible refine (HMR.out _ HX6.out).mono ?_)
             rintro e w7 ⟨rfl, hbx⟩
             have HX7 := Lib.hid (HX6.out.trans (hbx.mono HX6.out.size))
             obtain ⟨p0z, p1z, p2z, p3z, p4z⟩ := HCp.out w7 HX7.out
             clear hbx)
          | (go_at_call 16
             (with_reducible refine (HCR.out _ HX7.out).mono ?_)
             rintro e w8 ⟨rfl, hbx⟩
             have HX8 := Lib.hid (HX7.out.trans (hbx.mono HX7.out.size))
             obtain ⟨p0z, p1z, p2z, p3z, p4z⟩ := HCp.out w8 HX8.out
             clear hbx)
          | (go_at_call 17
             (with_reducible refine (HMG.out _ HX8.out).mono ?_)
             rintro e w9 ⟨rfl, hbx⟩
             have HX9 := Lib.hid (HX8.out.trans (hbx.mono HX8.out.size))
             obtain ⟨p0z, p1z, p2z, p3z, p4z⟩ := HCp.out w9 HX9.out
             clear hbx)
          | (go_at_call 18
             (with_reducible refine (HTG.out _ HX9.out).mono ?_)
             rintro e w10 ⟨rfl, hbx⟩
             have HX10 := Lib.hid (HX9.out.trans (hbx.mono HX9.out.size))
             obtain ⟨p0z, p1z, p2z, p3z, p4z⟩ := HCp.out w10 HX10.out
             clear hbx)
          | (go_at_call 19
             (with_reducible refine (HTR.out _ HX10.out).mono ?_)
             rintro e w11 ⟨rfl, hbx⟩
             have HX11 := Lib.hid (HX10.out.trans (hbx.mono HX10.out.size))
             obtain ⟨p0z, p1z, p2z, p3z, p4z⟩ := HCp.out w11 HX11.out
             clear hbx)
          | (go_at_call 20
             (with_reducible refine (HCG.out _ HX11.out).mono ?_)
             rintro e w12 ⟨rfl, hbx⟩
             have HX12 := Lib.hid (HX11.out.trans (hbx.mono HX11.out.size))
             obtain ⟨p0z, p1z, p2z, p3z, p4z⟩ := HCp.out w12 HX12.out
             clear hbx))
        go_ret
        exact ⟨by simp, HB0.out.trans (HX12.out.mono HB0.out.size)⟩
end Go.Proofs.Ytekmagpokcloaaa
