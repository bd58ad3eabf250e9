/- The walk over the law LampShow. -/
import Derived.Test.YtekmagpokcloaaaLmJD
namespace Go.Proofs.Ytekmagpokcloaaa
set_option maxRecDepth 100000
set_option linter.unusedVariables false
set_option linter.unusedSimpArgs false
open Go.RowKit

set_option maxHeartbeats 8000000 in
theorem lshow_any (HO : LmpOk) (HF : FitOk) (p : Pl) (x y : Int) (w : World) (hp : PlIn w p) :
    Calls Try.prog 6 #[plV p, .int .i64 x, .int .i64 y] w fun e w' => e = .returned (.bool true) ∧ Below w.heap.size w w' := by
  have hSL := hp.s.len
  have hML := hp.m.len
  have hsk := hp.s.small
  have hsm := hp.m.small
  simp only [plV]
  obtain ⟨W0, hW0⟩ : ∃ W0, w.alloc (.cells #[.slice p.A p.n p.c, .slice p.B p.k p.d, .int .i64 p.am, .int .i64 p.rd, .int .i64 p.hd] 25) = W0 := ⟨_, rfl⟩
  have hB0 : Below w.heap.size w W0 := by rw [← hW0]; exact one_alloc w _
  have hbp : BoxP W0 w.heap.size p := by rw [← hW0]; exact BoxP.new w p
  have hpp : PlIn W0 p := hp.below hB0
  have HCp := Lib.hid (show ∀ X, Below W0.heap.size W0 X → X.cell? ⟨w.heap.size, 0, none⟩ = some (.slice p.A p.n p.c) ∧ X.cell? ⟨w.heap.size, 1, none⟩ = some (.slice p.B p.k p.d) ∧ X.cell? ⟨w.heap.size, 2, none⟩ = some (.int .i64 p.am) ∧ X.cell? ⟨w.heap.size, 3, none⟩ = some (.int .i64 p.rd) ∧ X.cell? ⟨w.heap.size, 4, none⟩ = some (.int .i64 p.hd) from fun X hX => (hbp.below hX).cells)
  have HPp := Lib.hid (show ∀ X, Below W0.heap.size W0 X → PlIn X p from fun X hX => hpp.below hX)
  have HB0 := Lib.hid hB0
  have HW := Lib.hid hW0
  have HX0 := Lib.hid (Below.refl W0.heap.size W0)
  clear hW0 hB0 hbp hpp hp
  have HAW := Lib.hid (lawake_any HO W0)
  have HFW := Lib.hid (fun X hX => pfew_any p X (HPp.out X hX))
  simp only [plV] at HFW
  cases hfw : fewB p with
  | false =>
    rw [hfw] at HFW
    clear hfw
    go_enter Try.func6, Try.ntmps6
    go_wp2_with (first
      | (go_at_call 8
         rw [HW.out]
         (with_reducible refine (HAW.out).mono ?_)
         rintro e w1 ⟨rfl, hbx⟩
         have HX1 := Lib.hid (HX0.out.trans (hbx.mono HX0.out.size))
         obtain ⟨p0z, p1z, p2z, p3z, p4z⟩ := HCp.out w1 HX1.out
         clear hbx)
      | (go_at_call 9
         (with_reducible refine (HFW.out _ HX1.out).mono ?_)
         rintro e w2 ⟨rfl, hbx⟩
         have HX2 := Lib.hid (HX1.out.trans (hbx.mono HX1.out.size))
         obtain ⟨p0z, p1z, p2z, p3z, p4z⟩ := HCp.out w2 HX2.out
         clear hbx))
    go_ret
    exact ⟨rfl, HB0.out.trans (HX2.out.mono HB0.out.size)⟩
  | true =>
    rw [hfw] at HFW
    obtain ⟨hfn, hfk⟩ := few_iff.1 hfw
    clear hfw
    have hbn : p.n ≤ 1000 := by omega
    have hbk : p.k ≤ 1000 := by omega
    have HFT := Lib.hid (fun X hX => HF.fit p X (HPp.out X hX) hbn hbk)
    simp only [plV] at HFT
    cases hft : fitP p with
    | false =>
      rw [hft] at HFT
      clear hft
      go_enter Try.func6, Try.ntmps6
      go_wp2_with (first
        | (go_at_call 8
           rw [HW.out]
           (with_reducible refine (HAW.out).mono ?_)
           rintro e w1 ⟨rfl, hbx⟩
           have HX1 := Lib.hid (HX0.out.trans (hbx.mono HX0.out.size))
           obtain ⟨p0z, p1z, p2z, p3z, p4z⟩ := HCp.out w1 HX1.out
           clear hbx)
        | (go_at_call 9
           (with_reducible refine (HFW.out _ HX1.out).mono ?_)
           rintro e w2 ⟨rfl, hbx⟩
           have HX2 := Lib.hid (HX1.out.trans (hbx.mono HX1.out.size))
           obtain ⟨p0z, p1z, p2z, p3z, p4z⟩ := HCp.out w2 HX2.out
           clear hbx)
        | (go_at_call 21
           (with_reducible refine (HFT.out _ HX2.out).mono ?_)
           rintro e w3 ⟨rfl, hbx⟩
           have HX3 := Lib.hid (HX2.out.trans (hbx.mono HX2.out.size))
           obtain ⟨p0z, p1z, p2z, p3z, p4z⟩ := HCp.out w3 HX3.out
           clear hbx))
      go_ret
      exact ⟨rfl, HB0.out.trans (HX3.out.mono HB0.out.size)⟩
    | true =>
      rw [hft] at HFT
      by_cases hnx : x < 0
      · clear hft
        go_enter Try.func6, Try.ntmps6
        go_wp2_with (first
          | (go_at_call 8
             rw [HW.out]
             (with_reducible refine (HAW.out).mono ?_)
             rintro e w1 ⟨rfl, hbx⟩
             have HX1 := Lib.hid (HX0.out.trans (hbx.mono HX0.out.size))
             obtain ⟨p0z, p1z, p2z, p3z, p4z⟩ := HCp.out w1 HX1.out
             clear hbx)
          | (go_at_call 9
             (with_reducible refine (HFW.out _ HX1.out).mono ?_)
             rintro e w2 ⟨rfl, hbx⟩
             have HX2 := Lib.hid (HX1.out.trans (hbx.mono HX1.out.size))
             obtain ⟨p0z, p1z, p2z, p3z, p4z⟩ := HCp.out w2 HX2.out
             clear hbx)
          | (go_at_call 21
             (with_reducible refine (HFT.out _ HX2.out).mono ?_)
             rintro e w3 ⟨rfl, hbx⟩
             have HX3 := Lib.hid (HX2.out.trans (hbx.mono HX2.out.size))
             obtain ⟨p0z, p1z, p2z, p3z, p4z⟩ := HCp.out w3 HX3.out
             clear hbx))
        go_ret
        exact ⟨rfl, HB0.out.trans (HX3.out.mono HB0.out.size)⟩
      by_cases hbx : ((p.k : Nat) : Int) ≤ x
      · clear hft
        go_enter Try.func6, Try.ntmps6
        go_wp2_with (first
          | (go_at_call 8
             rw [HW.out]
             (with_reducible refine (HAW.out).mono ?_)
             rintro e w1 ⟨rfl, hbx⟩
             have HX1 := Lib.hid (HX0.out.trans (hbx.mono HX0.out.size))
             obtain ⟨p0z, p1z, p2z, p3z, p4z⟩ := HCp.out w1 HX1.out
             clear hbx)
          | (go_at_call 9
             (with_reducible refine (HFW.out _ HX1.out).mono ?_)
             rintro e w2 ⟨rfl, hbx⟩
             have HX2 := Lib.hid (HX1.out.trans (hbx.mono HX1.out.size))
             obtain ⟨p0z, p1z, p2z, p3z, p4z⟩ := HCp.out w2 HX2.out
             clear hbx)
          | (go_at_call 21
             (with_reducible refine (HFT.out _ HX2.out).mono ?_)
             rintro e w3 ⟨rfl, hbx⟩
             have HX3 := Lib.hid (HX2.out.trans (hbx.mono HX2.out.size))
             obtain ⟨p0z, p1z, p2z, p3z, p4z⟩ := HCp.out w3 HX3.out
             clear hbx))
        go_ret
        exact ⟨rfl, HB0.out.trans (HX3.out.mono HB0.out.size)⟩
      by_cases hny : y < 0
      · clear hft
        go_enter Try.func6, Try.ntmps6
        go_wp2_with (first
          | (go_at_call 8
             rw [HW.out]
             (with_reducible refine (HAW.out).mono ?_)
             rintro e w1 ⟨rfl, hbx⟩
             have HX1 := Lib.hid (HX0.out.trans (hbx.mono HX0.out.size))
             obtain ⟨p0z, p1z, p2z, p3z, p4z⟩ := HCp.out w1 HX1.out
             clear hbx)
          | (go_at_call 9
             (with_reducible refine (HFW.out _ HX1.out).mono ?_)
             rintro e w2 ⟨rfl, hbx⟩
             have HX2 := Lib.hid (HX1.out.trans (hbx.mono HX1.out.size))
             obtain ⟨p0z, p1z, p2z, p3z, p4z⟩ := HCp.out w2 HX2.out
             clear hbx)
          | (go_at_call 21
             (with_reducible refine (HFT.out _ HX2.out).mono ?_)
             rintro e w3 ⟨rfl, hbx⟩
             have HX3 := Lib.hid (HX2.out.trans (hbx.mono HX2.out.size))
             obtain ⟨p0z, p1z, p2z, p3z, p4z⟩ := HCp.out w3 HX3.out
             clear hbx))
        go_ret
        exact ⟨rfl, HB0.out.trans (HX3.out.mono HB0.out.size)⟩
      by_cases hby : ((p.n : Nat) : Int) ≤ y
      · clear hft
        go_enter Try.func6, Try.ntmps6
        go_wp2_with (first
          | (go_at_call 8
             rw [HW.out]
             (with_reducible refine (HAW.out).mono ?_)
             rintro e w1 ⟨rfl, hbx⟩
             have HX1 := Lib.hid (HX0.out.trans (hbx.mono HX0.out.size))
             obtain ⟨p0z, p1z, p2z, p3z, p4z⟩ := HCp.out w1 HX1.out
             clear hbx)
          | (go_at_call 9
             (with_reducible refine (HFW.out _ HX1.out).mono ?_)
             rintro e w2 ⟨rfl, hbx⟩
             have HX2 := Lib.hid (HX1.out.trans (hbx.mono HX1.out.size))
             obtain ⟨p0z, p1z, p2z, p3z, p4z⟩ := HCp.out w2 HX2.out
             clear hbx)
          | (go_at_call 21
             (with_reducible refine (HFT.out _ HX2.out).mono ?_)
             rintro e w3 ⟨rfl, hbx⟩
             have HX3 := Lib.hid (HX2.out.trans (hbx.mono HX2.out.size))
             obtain ⟨p0z, p1z, p2z, p3z, p4z⟩ := HCp.out w3 HX3.out
             clear hbx))
        go_ret
        exact ⟨rfl, HB0.out.trans (HX3.out.mono HB0.out.size)⟩
      have hff := fit_iff.1 hft
      obtain ⟨b, off, -, hA, -⟩ := (HPp.out W0 (Below.refl _ _)).s.at_ 0 (by have := hff.two; omega)
      have HST := Lib.hid hff.stage
      obtain ⟨hn8, hrow⟩ := may_rows hML hff.may
      have h6 := hff.six
      have h2 := hff.two
      obtain ⟨ki, rfl⟩ := Int.eq_ofNat_of_zero_le (show 0 ≤ x by omega)
      have lki : ki < p.k := by omega
      obtain ⟨gi, rfl⟩ := Int.eq_ofNat_of_zero_le (show 0 ≤ y by omega)
      have lgi : gi < p.n := by omega
      have lkS : ki < p.s.length := by omega
      have lgM : gi < p.m.length := by omega
      have HSX := Lib.hid (fun X hX => HO.shows p (ki : Int) 0 X (HPp.out X hX) hbn hbk)
      have HSY := Lib.hid (fun X hX => HO.shows p (ki : Int) 1 X (HPp.out X hX) hbn hbk)
      have HSZ := Lib.hid (fun X hX => HO.shows p (ki : Int) 2 X (HPp.out X hX) hbn hbk)
      have lx := (show_size (ph := 0) hft lkS (by omega) (by omega)).trans hML
      have ly := (show_size (ph := 1) hft lkS (by omega) (by omega)).trans hML
      have lz := (show_size (ph := 2) hft lkS (by omega) (by omega)).trans hML
      have vx := show_at (ph := 0) hft lkS (by omega) (by omega) lgM
      have vy := show_at (ph := 1) hft lkS (by omega) (by omega) lgM
      have vz := show_at (ph := 2) hft lkS (by omega) (by omega) lgM
      obtain ⟨SX, hSX⟩ : ∃ x, showR p (ki : Int) 0 = x := ⟨_, rfl⟩
      obtain ⟨SY, hSY⟩ : ∃ x, showR p (ki : Int) 1 = x := ⟨_, rfl⟩
      obtain ⟨SZ, hSZ⟩ : ∃ x, showR p (ki : Int) 2 = x := ⟨_, rfl⟩
      simp only [plV] at HSX HSY HSZ
      rw [hSX] at HSX lx vx
      rw [hSY] at HSY ly vy
      rw [hSZ] at HSZ lz vz
      clear hff hft hnx hbx hny hby hSX hSY hSZ lkS lgM
      obtain ⟨A, n, c, m, B, k, d, s, am, rd, hd⟩ := p
      simp only at *
      subst hA
      have HSC := Lib.hid (show ∀ j, j < k → ∀ X, Below W0.heap.size W0 X → X.cell? ⟨b, off + j * 3, none⟩ = some (.int .i64 (s.getD j Stg.zero).g) ∧ X.cell? ⟨b, off + j * 3 + 1, none⟩ = some (.int .i64 (s.getD j Stg.zero).mn) ∧ X.cell? ⟨b, off + j * 3 + 2, none⟩ = some (.int .i64 (s.getD j Stg.zero).mx) from fun j hj X hX => by
        obtain ⟨b', off', x', hA', hx', -, -, z0, z1, z2⟩ := (HPp.out X hX).s.at_ j hj
        cases hA'
        simp only at hx'
        rw [hx']
        exact ⟨z0, z1, z2⟩)
      have HGT := Lib.hid (show ∀ j, j < k → ∃ (x : Stg) (t : Nat), s.getD j Stg.zero = x ∧ x ∈ s ∧ x.g = (t : Int) ∧ t < 2 ^ n ∧ t < 256 ∧ freeM m (t : Int) = true ∧ x.g ≠ 0 ∧ 1 ≤ x.mn ∧ x.mn ≤ 200 ∧ x.mn ≤ x.mx ∧ x.mx ≤ 200 from fun j hj => by
        have hjl : j < s.length := by omega
        have hmem : s.getD j Stg.zero ∈ s := by rw [List.getD_eq_getElem?_getD, List.getElem?_eq_getElem hjl]; exact List.getElem_mem hjl
        obtain ⟨f1, f2, f3, f4, f5, f6⟩ := HST.out _ hmem
        obtain ⟨t, ht, ht2⟩ := set_nat (free_iff.1 f1).2.1
        have h8 := pow_le hn8
        rw [hML] at ht2
        exact ⟨_, t, rfl, hmem, ht, ht2, by omega, by rw [← ht]; exact f1, f2, f3, f4, f5, f6⟩)
      have fki : ¬ ((ki : Int) < 0) := by omega
      have qki : 0 ≤ (ki : Int) := by omega
      have rki : (ki : Int) < k := by omega
      have eki : ¬ (k ≤ ki) := by omega
      have dki : decide (k ≤ ki) = false := decide_eq_false eki
      have fgi : ¬ ((gi : Int) < 0) := by omega
      have qgi : 0 ≤ (gi : Int) := by omega
      have rgi : (gi : Int) < n := by omega
      have egi : ¬ (n ≤ gi) := by omega
      have dgi : decide (n ≤ gi) = false := decide_eq_false egi
      obtain ⟨x, t, hx, -, ht, -, ht2, -⟩ := HGT.out ki lki
      rw [hx, ht] at vx vy vz
      have HS0 := Lib.hid (show ∀ X, Below W0.heap.size W0 X → X.cell? ⟨b, off + ki * 3, none⟩ = some (.int .i64 (t : Int)) from fun X hX => by
        have h := (HSC.out ki lki X hX).1
        rw [hx, ht] at h
        exact h)
      have hba := bit_and t gi (by omega)
      have hdv : ((t / 2 ^ gi : Nat) : Int) = (t : Int) / 2 ^ gi := by simp
      rw [hdv] at hba
      obtain ⟨T, hT⟩ : ∃ T, t.testBit gi = T := ⟨_, rfl⟩
      rw [hT] at hba
      clear hdv
      simp only [lampP, bit_nat, hT] at vx vy vz
      clear hx ht hT hSL hML hrow
      have LX := Lib.hid lx
      have LY := Lib.hid ly
      have LZ := Lib.hid lz
      clear lx ly lz
      cases T
      · rw [if_neg (by simp)] at hba
        replace vx := vx.trans (show _ = (0 : Int) by simp)
        replace vy := vy.trans (show _ = (0 : Int) by simp)
        replace vz := vz.trans (show _ = (0 : Int) by simp)
        have VLX := Lib.hid vx
        have VLY := Lib.hid vy
        have VLZ := Lib.hid vz
        clear vx vy vz
        go_enter Try.func6, Try.ntmps6
        go_wp2_with (first
          | (go_at_call 8
             rw [HW.out]
             (with_reducible refine (HAW.out).mono ?_)
             rintro e w1 ⟨rfl, hbx⟩
             have HX1 := Lib.hid (HX0.out.trans (hbx.mono HX0.out.size))
             obtain ⟨p0z, p1z, p2z, p3z, p4z⟩ := HCp.out w1 HX1.out
             clear hbx)
          | (go_at_call 9
             (with_reducible refine (HFW.out _ HX1.out).mono ?_)
             rintro e w2 ⟨rfl, hbx⟩
             have HX2 := Lib.hid (HX1.out.trans (hbx.mono HX1.out.size))
             obtain ⟨p0z, p1z, p2z, p3z, p4z⟩ := HCp.out w2 HX2.out
             clear hbx)
          | (go_at_call 21
             (with_reducible refine (HFT.out _ HX2.out).mono ?_)
             rintro e w3 ⟨rfl, hbx⟩
             have HX3 := Lib.hid (HX2.out.trans (hbx.mono HX2.out.size))
             obtain ⟨p0z, p1z, p2z, p3z, p4z⟩ := HCp.out w3 HX3.out
             clear hbx)
          | (go_at_call 13
             (with_reducible refine (HSX.out _ HX3.out).mono ?_)
             rintro e w4 ⟨A4, n4, c4, rfl, hi4, hbx⟩
             have HX4 := Lib.hid (HX3.out.trans (hbx.mono HX3.out.size))
             obtain ⟨p0z, p1z, p2z, p3z, p4z⟩ := HCp.out w4 HX4.out
             obtain rfl : n = n4 := LX.out.symm.trans hi4.len
             obtain ⟨b4, o4, rfl, hc4⟩ := hi4.at_ (by omega)
             have hz4 := hc4 gi lgi
             rw [VLX.out] at hz4
             have HZ4 := Lib.hid hz4
             clear hz4 hc4 hi4
             clear hbx)
          | (go_at_call 13
             (with_reducible refine (HSY.out _ HX4.out).mono ?_)
             rintro e w5 ⟨A5, n5, c5, rfl, hi5, hbx⟩
             have HX5 := Lib.hid (HX4.out.trans (hbx.mono HX4.out.size))
             obtain ⟨p0z, p1z, p2z, p3z, p4z⟩ := HCp.out w5 HX5.out
             obtain rfl : n = n5 := LY.out.symm.trans hi5.len
             obtain ⟨b5, o5, rfl, hc5⟩ := hi5.at_ (by omega)
             have hz5 := hc5 gi lgi
             rw [VLY.out] at hz5
             have HZ4 := Lib.hid ((hbx.cell (p := ⟨b4, o4 + gi, none⟩) (block_lt_of_cell HZ4.out)).trans HZ4.out)
             have HZ5 := Lib.hid hz5
             clear hz5 hc5 hi5
             clear hbx)
          | (go_at_call 13
             (with_reducible refine (HSZ.out _ HX5.out).mono ?_)
             rintro e w6 ⟨A6, n6, c6, rfl, hi6, hbx⟩
             have HX6 := Lib.hid (HX5.out.trans (hbx.mono HX5.out.size))
             obtain ⟨p0z, p1z, p2z, p3z, p4z⟩ := HCp.out w6 HX6.out
             obtain rfl : n = n6 := LZ.out.symm.trans hi6.len
             obtain ⟨b6, o6, rfl, hc6⟩ := hi6.at_ (by omega)
             have hz6 := hc6 gi lgi
             rw [VLZ.out] at hz6
             have HZ4 := Lib.hid ((hbx.cell (p := ⟨b4, o4 + gi, none⟩) (block_lt_of_cell HZ4.out)).trans HZ4.out)
             have HZ5 := Lib.hid ((hbx.cell (p := ⟨b5, o5 + gi, none⟩) (block_lt_of_cell HZ5.out)).trans HZ5.out)
             have HZ6 := Lib.hid hz6
             clear hz6 hc6 hi6
             have z4 := HZ4.out
             have z5 := HZ5.out
             have z6 := HZ6.out
             obtain s0z := HS0.out w6 HX6.out
             clear hbx))
        go_ret
        exact ⟨rfl, HB0.out.trans (HX6.out.mono HB0.out.size)⟩
      · rw [if_pos rfl] at hba
        replace vx := vx.trans (show _ = (2 : Int) by simp)
        replace vy := vy.trans (show _ = (1 : Int) by simp)
        replace vz := vz.trans (show _ = (0 : Int) by simp)
        have VLX := Lib.hid vx
        have VLY := Lib.hid vy
        have VLZ := Lib.hid vz
        clear vx vy vz
        go_enter Try.func6, Try.ntmps6
        go_wp2_with (first
          | (go_at_call 8
             rw [HW.out]
             (with_reducible refine (HAW.out).mono ?_)
             rintro e w1 ⟨rfl, hbx⟩
             have HX1 := Lib.hid (HX0.out.trans (hbx.mono HX0.out.size))
             obtain ⟨p0z, p1z, p2z, p3z, p4z⟩ := HCp.out w1 HX1.out
             clear hbx)
          | (go_at_call 9
             (with_reducible refine (HFW.out _ HX1.out).mono ?_)
             rintro e w2 ⟨rfl, hbx⟩
             have HX2 := Lib.hid (HX1.out.trans (hbx.mono HX1.out.size))
             obtain ⟨p0z, p1z, p2z, p3z, p4z⟩ := HCp.out w2 HX2.out
             clear hbx)
          | (go_at_call 21
             (with_reducible refine (HFT.out _ HX2.out).mono ?_)
             rintro e w3 ⟨rfl, hbx⟩
             have HX3 := Lib.hid (HX2.out.trans (hbx.mono HX2.out.size))
             obtain ⟨p0z, p1z, p2z, p3z, p4z⟩ := HCp.out w3 HX3.out
             clear hbx)
          | (go_at_call 13
             (with_reducible refine (HSX.out _ HX3.out).mono ?_)
             rintro e w4 ⟨A4, n4, c4, rfl, hi4, hbx⟩
             have HX4 := Lib.hid (HX3.out.trans (hbx.mono HX3.out.size))
             obtain ⟨p0z, p1z, p2z, p3z, p4z⟩ := HCp.out w4 HX4.out
             obtain rfl : n = n4 := LX.out.symm.trans hi4.len
             obtain ⟨b4, o4, rfl, hc4⟩ := hi4.at_ (by omega)
             have hz4 := hc4 gi lgi
             rw [VLX.out] at hz4
             have HZ4 := Lib.hid hz4
             clear hz4 hc4 hi4
             clear hbx)
          | (go_at_call 13
             (with_reducible refine (HSY.out _ HX4.out).mono ?_)
             rintro e w5 ⟨A5, n5, c5, rfl, hi5, hbx⟩
             have HX5 := Lib.hid (HX4.out.trans (hbx.mono HX4.out.size))
             obtain ⟨p0z, p1z, p2z, p3z, p4z⟩ := HCp.out w5 HX5.out
             obtain rfl : n = n5 := LY.out.symm.trans hi5.len
             obtain ⟨b5, o5, rfl, hc5⟩ := hi5.at_ (by omega)
             have hz5 := hc5 gi lgi
             rw [VLY.out] at hz5
             have HZ4 := Lib.hid ((hbx.cell (p := ⟨b4, o4 + gi, none⟩) (block_lt_of_cell HZ4.out)).trans HZ4.out)
             have HZ5 := Lib.hid hz5
             clear hz5 hc5 hi5
             clear hbx)
          | (go_at_call 13
             (with_reducible refine (HSZ.out _ HX5.out).mono ?_)
             rintro e w6 ⟨A6, n6, c6, rfl, hi6, hbx⟩
             have HX6 := Lib.hid (HX5.out.trans (hbx.mono HX5.out.size))
             obtain ⟨p0z, p1z, p2z, p3z, p4z⟩ := HCp.out w6 HX6.out
             obtain rfl : n = n6 := LZ.out.symm.trans hi6.len
             obtain ⟨b6, o6, rfl, hc6⟩ := hi6.at_ (by omega)
             have hz6 := hc6 gi lgi
             rw [VLZ.out] at hz6
             have HZ4 := Lib.hid ((hbx.cell (p := ⟨b4, o4 + gi, none⟩) (block_lt_of_cell HZ4.out)).trans HZ4.out)
             have HZ5 := Lib.hid ((hbx.cell (p := ⟨b5, o5 + gi, none⟩) (block_lt_of_cell HZ5.out)).trans HZ5.out)
             have HZ6 := Lib.hid hz6
             clear hz6 hc6 hi6
             have z4 := HZ4.out
             have z5 := HZ5.out
             have z6 := HZ6.out
             obtain s0z := HS0.out w6 HX6.out
             clear hbx))
        go_ret
        exact ⟨rfl, HB0.out.trans (HX6.out.mono HB0.out.size)⟩
end Go.Proofs.Ytekmagpokcloaaa
