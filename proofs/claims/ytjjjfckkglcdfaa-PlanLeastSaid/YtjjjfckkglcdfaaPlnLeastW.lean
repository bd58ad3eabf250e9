/- The walk over the law PlanLeast. -/
import Derived.Test.YtjjjfckkglcdfaaPlnPure
namespace Go.Proofs.Ytjjjfckkglcdfaa
set_option maxRecDepth 100000
set_option linter.unusedVariables false
set_option linter.unusedSimpArgs false
open Go.RowKit

def hitTo (s : List Stg) (g : Nat) (N : Int) (i : Nat) : Bool := (s.take i).any fun x => bitI x.g g && x.mn == N
theorem hit_next {s : List Stg} (g : Nat) (N : Int) {i : Nat} (hi : i < s.length) : hitTo s g N (i + 1) = (hitTo s g N i || (bitI (s.getD i Stg.zero).g g && (s.getD i Stg.zero).mn == N)) := by
  rw [hitTo, List.take_succ_eq_append_getElem hi, List.any_append]
  simp [List.getD_eq_getElem?_getD, hi, hitTo]
set_option maxHeartbeats 8000000 in
theorem pleast_any (HO : PlnOk) (p : Pl) (x y : Int) (w : World) (hp : PlIn w p) :
    Calls Try.prog 5 #[plV p, .int .i64 x, .int .i64 y] w fun e w' => e = .returned (.bool true) ∧ Below w.heap.size w w' := by
  have hSL := hp.s.len
  have hML := hp.m.len
  have hsk := hp.s.small
  have hsm := hp.m.small
  simp only [plV]
  obtain ⟨W0, hW0⟩ : ∃ W0, w.alloc (.cells #[.slice p.A p.n p.c, .slice p.B p.k p.d, .int .i64 p.am, .int .i64 p.rd, .int .i64 p.hd] 25) = W0 := ⟨_, rfl⟩
  have hB0 : Below w.heap.size w W0 := by rw [← hW0]; exact one_alloc w _
  have hbp : BoxP W0 w.heap.size p := by rw [← hW0]; exact BoxP.new w p
  have hpp : PlIn W0 p := hp.below hB0
  have HCp := Lib.hid (show ∀ X, Below W0.heap.size W0 X → X.cell? ⟨w.heap.size, 0, none⟩ = some (.slice p.A p.n p.c) ∧ X.cell? ⟨w.heap.size, 1, none⟩ = some (.slice p.B p.k p.d) ∧ X.cell? ⟨w.heap.size, 2, none⟩ = some (.int .i64 p.am) ∧ X.cell? ⟨w.heap.size, 3, none⟩ = some (.int .i64 p.rd) ∧ X.cell? ⟨w.heap.size, 4, none⟩ = some (.int .i64 p.hd) from fun X hX => (hbp.below hX).cells)
  have HPp := Lib.hid (show ∀ X, Below W0.heap.size W0 X → PlIn X p from fun X hX => hpp.below hX)
  have HB0 := Lib.hid hB0
  have HW := Lib.hid hW0
  have HX0 := Lib.hid (Below.refl W0.heap.size W0)
  clear hW0 hB0 hbp hpp hp
  have HAW := Lib.hid (pawake_any HO W0)
  have HFW := Lib.hid (fun X hX => pfew_any p X (HPp.out X hX))
  simp only [plV] at HFW
  cases hfw : fewB p with
  | false =>
    rw [hfw] at HFW
    clear hfw
    go_enter Try.func5, Try.ntmps5
    go_wp2_with (first
      | (go_at_call 9
         rw [HW.out]
         (with_reducible refine (HAW.out).mono ?_)
         rintro e w1 ⟨rfl, hbx⟩
         have HX1 := Lib.hid (HX0.out.trans (hbx.mono HX0.out.size))
         obtain ⟨p0z, p1z, p2z, p3z, p4z⟩ := HCp.out w1 HX1.out
         clear hbx)
      | (go_at_call 10
         (with_reducible refine (HFW.out _ HX1.out).mono ?_)
         rintro e w2 ⟨rfl, hbx⟩
         have HX2 := Lib.hid (HX1.out.trans (hbx.mono HX1.out.size))
         obtain ⟨p0z, p1z, p2z, p3z, p4z⟩ := HCp.out w2 HX2.out
         clear hbx))
    go_ret
    exact ⟨rfl, HB0.out.trans (HX2.out.mono HB0.out.size)⟩
  | true =>
    rw [hfw] at HFW
    obtain ⟨hfn, hfk⟩ := few_iff.1 hfw
    clear hfw
    have hbn : p.n ≤ 1000 := by omega
    have hbk : p.k ≤ 1000 := by omega
    have HFT := Lib.hid (fun X hX => HO.fit p X (HPp.out X hX) hbn hbk)
    simp only [plV] at HFT
    cases hft : fitP p with
    | false =>
      rw [hft] at HFT
      clear hft
      go_enter Try.func5, Try.ntmps5
      go_wp2_with (first
        | (go_at_call 9
           rw [HW.out]
           (with_reducible refine (HAW.out).mono ?_)
           rintro e w1 ⟨rfl, hbx⟩
           have HX1 := Lib.hid (HX0.out.trans (hbx.mono HX0.out.size))
           obtain ⟨p0z, p1z, p2z, p3z, p4z⟩ := HCp.out w1 HX1.out
           clear hbx)
        | (go_at_call 10
           (with_reducible refine (HFW.out _ HX1.out).mono ?_)
           rintro e w2 ⟨rfl, hbx⟩
           have HX2 := Lib.hid (HX1.out.trans (hbx.mono HX1.out.size))
           obtain ⟨p0z, p1z, p2z, p3z, p4z⟩ := HCp.out w2 HX2.out
           clear hbx)
        | (go_at_call 15
           (with_reducible refine (HFT.out _ HX2.out).mono ?_)
           rintro e w3 ⟨rfl, hbx⟩
           have HX3 := Lib.hid (HX2.out.trans (hbx.mono HX2.out.size))
           obtain ⟨p0z, p1z, p2z, p3z, p4z⟩ := HCp.out w3 HX3.out
           clear hbx))
      go_ret
      exact ⟨rfl, HB0.out.trans (HX3.out.mono HB0.out.size)⟩
    | true =>
      rw [hft] at HFT
      by_cases hnx : x < 0
      · clear hft
        go_enter Try.func5, Try.ntmps5
        go_wp2_with (first
          | (go_at_call 9
             rw [HW.out]
             (with_reducible refine (HAW.out).mono ?_)
             rintro e w1 ⟨rfl, hbx⟩
             have HX1 := Lib.hid (HX0.out.trans (hbx.mono HX0.out.size))
             obtain ⟨p0z, p1z, p2z, p3z, p4z⟩ := HCp.out w1 HX1.out
             clear hbx)
          | (go_at_call 10
             (with_reducible refine (HFW.out _ HX1.out).mono ?_)
             rintro e w2 ⟨rfl, hbx⟩
             have HX2 := Lib.hid (HX1.out.trans (hbx.mono HX1.out.size))
             obtain ⟨p0z, p1z, p2z, p3z, p4z⟩ := HCp.out w2 HX2.out
             clear hbx)
          | (go_at_call 15
             (with_reducible refine (HFT.out _ HX2.out).mono ?_)
             rintro e w3 ⟨rfl, hbx⟩
             have HX3 := Lib.hid (HX2.out.trans (hbx.mono HX2.out.size))
             obtain ⟨p0z, p1z, p2z, p3z, p4z⟩ := HCp.out w3 HX3.out
             clear hbx))
        go_ret
        exact ⟨rfl, HB0.out.trans (HX3.out.mono HB0.out.size)⟩
      by_cases hbx : ((p.k : Nat) : Int) ≤ x
      · clear hft
        go_enter Try.func5, Try.ntmps5
        go_wp2_with (first
          | (go_at_call 9
             rw [HW.out]
             (with_reducible refine (HAW.out).mono ?_)
             rintro e w1 ⟨rfl, hbx⟩
             have HX1 := Lib.hid (HX0.out.trans (hbx.mono HX0.out.size))
             obtain ⟨p0z, p1z, p2z, p3z, p4z⟩ := HCp.out w1 HX1.out
             clear hbx)
          | (go_at_call 10
             (with_reducible refine (HFW.out _ HX1.out).mono ?_)
             rintro e w2 ⟨rfl, hbx⟩
             have HX2 := Lib.hid (HX1.out.trans (hbx.mono HX1.out.size))
             obtain ⟨p0z, p1z, p2z, p3z, p4z⟩ := HCp.out w2 HX2.out
             clear hbx)
          | (go_at_call 15
             (with_reducible refine (HFT.out _ HX2.out).mono ?_)
             rintro e w3 ⟨rfl, hbx⟩
             have HX3 := Lib.hid (HX2.out.trans (hbx.mono HX2.out.size))
             obtain ⟨p0z, p1z, p2z, p3z, p4z⟩ := HCp.out w3 HX3.out
             clear hbx))
        go_ret
        exact ⟨rfl, HB0.out.trans (HX3.out.mono HB0.out.size)⟩
      by_cases hny : y < 0
      · clear hft
        go_enter Try.func5, Try.ntmps5
        go_wp2_with (first
          | (go_at_call 9
             rw [HW.out]
             (with_reducible refine (HAW.out).mono ?_)
             rintro e w1 ⟨rfl, hbx⟩
             have HX1 := Lib.hid (HX0.out.trans (hbx.mono HX0.out.size))
             obtain ⟨p0z, p1z, p2z, p3z, p4z⟩ := HCp.out w1 HX1.out
             clear hbx)
          | (go_at_call 10
             (with_reducible refine (HFW.out _ HX1.out).mono ?_)
             rintro e w2 ⟨rfl, hbx⟩
             have HX2 := Lib.hid (HX1.out.trans (hbx.mono HX1.out.size))
             obtain ⟨p0z, p1z, p2z, p3z, p4z⟩ := HCp.out w2 HX2.out
             clear hbx)
          | (go_at_call 15
             (with_reducible refine (HFT.out _ HX2.out).mono ?_)
             rintro e w3 ⟨rfl, hbx⟩
             have HX3 := Lib.hid (HX2.out.trans (hbx.mono HX2.out.size))
             obtain ⟨p0z, p1z, p2z, p3z, p4z⟩ := HCp.out w3 HX3.out
             clear hbx))
        go_ret
        exact ⟨rfl, HB0.out.trans (HX3.out.mono HB0.out.size)⟩
      by_cases hby : ((p.n : Nat) : Int) ≤ y
      · clear hft
        go_enter Try.func5, Try.ntmps5
        go_wp2_with (first
          | (go_at_call 9
             rw [HW.out]
             (with_reducible refine (HAW.out).mono ?_)
             rintro e w1 ⟨rfl, hbx⟩
             have HX1 := Lib.hid (HX0.out.trans (hbx.mono HX0.out.size))
             obtain ⟨p0z, p1z, p2z, p3z, p4z⟩ := HCp.out w1 HX1.out
             clear hbx)
          | (go_at_call 10
             (with_reducible refine (HFW.out _ HX1.out).mono ?_)
             rintro e w2 ⟨rfl, hbx⟩
             have HX2 := Lib.hid (HX1.out.trans (hbx.mono HX1.out.size))
             obtain ⟨p0z, p1z, p2z, p3z, p4z⟩ := HCp.out w2 HX2.out
             clear hbx)
          | (go_at_call 15
             (with_reducible refine (HFT.out _ HX2.out).mono ?_)
             rintro e w3 ⟨rfl, hbx⟩
             have HX3 := Lib.hid (HX2.out.trans (hbx.mono HX2.out.size))
             obtain ⟨p0z, p1z, p2z, p3z, p4z⟩ := HCp.out w3 HX3.out
             clear hbx))
        go_ret
        exact ⟨rfl, HB0.out.trans (HX3.out.mono HB0.out.size)⟩
      have hff := fit_iff.1 hft
      obtain ⟨b, off, -, hA, -⟩ := (HPp.out W0 (Below.refl _ _)).s.at_ 0 (by have := hff.two; omega)
      have HST := Lib.hid hff.stage
      obtain ⟨hn8, hrow⟩ := may_rows hML hff.may
      have h6 := hff.six
      have h2 := hff.two
      obtain ⟨ki, rfl⟩ := Int.eq_ofNat_of_zero_le (show 0 ≤ x by omega)
      have lki : ki < p.k := by omega
      obtain ⟨gi, rfl⟩ := Int.eq_ofNat_of_zero_le (show 0 ≤ y by omega)
      have lgi : gi < p.n := by omega
      obtain ⟨hN1, ⟨xs, hxs, hxb, hxm⟩, hNl⟩ := least_fit hft (show gi < p.m.length by omega)
      have HLE := Lib.hid (fun X hX => HO.least p (gi : Int) X (HPp.out X hX) hbn hbk)
      obtain ⟨N, hN⟩ : ∃ N, leastP p (gi : Int) = N := ⟨_, rfl⟩
      simp only [plV] at HLE
      rw [hN] at HLE hN1 hxm hNl
      have HNL := Lib.hid hNl
      have HALL := Lib.hid (show hitTo p.s gi N p.k = true by
        rw [hitTo, List.take_of_length_le (by omega), List.any_eq_true]
        exact ⟨xs, hxs, by rw [hxb, hxm]; simp⟩)
      clear hN hxs hxb hxm hNl hff hft hnx hbx hny hby
      obtain ⟨A, n, c, m, B, k, d, s, am, rd, hd⟩ := p
      simp only at *
      subst hA
      have HSC := Lib.hid (show ∀ j, j < k → ∀ X, Below W0.heap.size W0 X → X.cell? ⟨b, off + j * 3, none⟩ = some (.int .i64 (s.getD j Stg.zero).g) ∧ X.cell? ⟨b, off + j * 3 + 1, none⟩ = some (.int .i64 (s.getD j Stg.zero).mn) ∧ X.cell? ⟨b, off + j * 3 + 2, none⟩ = some (.int .i64 (s.getD j Stg.zero).mx) from fun j hj X hX => by
        obtain ⟨b', off', x', hA', hx', -, -, z0, z1, z2⟩ := (HPp.out X hX).s.at_ j hj
        cases hA'
        simp only at hx'
        rw [hx']
        exact ⟨z0, z1, z2⟩)
      have HGT := Lib.hid (show ∀ j, j < k → ∃ (x : Stg) (t : Nat), s.getD j Stg.zero = x ∧ x ∈ s ∧ x.g = (t : Int) ∧ t < 2 ^ n ∧ t < 256 ∧ freeM m (t : Int) = true ∧ x.g ≠ 0 ∧ 1 ≤ x.mn ∧ x.mn ≤ 200 ∧ x.mn ≤ x.mx ∧ x.mx ≤ 200 from fun j hj => by
        have hjl : j < s.length := by omega
        have hmem : s.getD j Stg.zero ∈ s := by rw [List.getD_eq_getElem?_getD, List.getElem?_eq_getElem hjl]; exact List.getElem_mem hjl
        obtain ⟨f1, f2, f3, f4, f5, f6⟩ := HST.out _ hmem
        obtain ⟨t, ht, ht2⟩ := set_nat (free_iff.1 f1).2.1
        have h8 := pow_le hn8
        rw [hML] at ht2
        exact ⟨_, t, rfl, hmem, ht, ht2, by omega, by rw [← ht]; exact f1, f2, f3, f4, f5, f6⟩)
      have fki : ¬ ((ki : Int) < 0) := by omega
      have qki : 0 ≤ (ki : Int) := by omega
      have rki : (ki : Int) < k := by omega
      have eki : ¬ (k ≤ ki) := by omega
      have dki : decide (k ≤ ki) = false := decide_eq_false eki
      have fgi : ¬ ((gi : Int) < 0) := by omega
      have qgi : 0 ≤ (gi : Int) := by omega
      have rgi : (gi : Int) < n := by omega
      have egi : ¬ (n ≤ gi) := by omega
      have dgi : decide (n ≤ gi) = false := decide_eq_false egi
      clear hSL hML hrow
      have HSL := Lib.hid (show s.length = k from (HPp.out W0 (Below.refl _ _)).s.len)
      go_enter Try.func5, Try.ntmps5
      go_wp2_with (first
        | (go_at_call 9
           rw [HW.out]
           (with_reducible refine (HAW.out).mono ?_)
           rintro e w1 ⟨rfl, hbx⟩
           have HX1 := Lib.hid (HX0.out.trans (hbx.mono HX0.out.size))
           obtain ⟨p0z, p1z, p2z, p3z, p4z⟩ := HCp.out w1 HX1.out
           clear hbx)
        | (go_at_call 10
           (with_reducible refine (HFW.out _ HX1.out).mono ?_)
           rintro e w2 ⟨rfl, hbx⟩
           have HX2 := Lib.hid (HX1.out.trans (hbx.mono HX1.out.size))
           obtain ⟨p0z, p1z, p2z, p3z, p4z⟩ := HCp.out w2 HX2.out
           clear hbx)
        | (go_at_call 15
           (with_reducible refine (HFT.out _ HX2.out).mono ?_)
           rintro e w3 ⟨rfl, hbx⟩
           have HX3 := Lib.hid (HX2.out.trans (hbx.mono HX2.out.size))
           obtain ⟨p0z, p1z, p2z, p3z, p4z⟩ := HCp.out w3 HX3.out
           clear hbx)
        | (go_at_call 20
           (with_reducible refine (HLE.out _ HX3.out).mono ?_)
           rintro e w4 ⟨rfl, hbx⟩
           have HX4 := Lib.hid (HX3.out.trans (hbx.mono HX3.out.size))
           obtain ⟨p0z, p1z, p2z, p3z, p4z⟩ := HCp.out w4 HX4.out
           clear hbx))
      clear p0z p1z p2z p3z p4z
      go_loopw [10, 11] (fun sv v wr => ∃ i : Nat, i ≤ k ∧ v = .int .i64 i ∧ sv = .bool (hitTo s gi N i) ∧ Below W0.heap.size W0 wr) (fun _ v _ => k - (intOf v).toNat)
      case atStart => exact ⟨0, by omega, rfl, rfl, HX4.out⟩
      case round =>
        obtain ⟨i, hi, rfl, rfl, hbw⟩ := hrel
        have HXR := Lib.hid hbw
        obtain ⟨p0z, p1z, p2z, p3z, p4z⟩ := HCp.out wr hbw
        clear hbw
        by_cases hlt : i < k
        · have hlt2 : (i : Int) < k := by omega
          have q0 : 0 ≤ (i : Int) := by omega
          have hnx := hit_next (s := s) gi N (show i < s.length by rw [HSL.out]; exact hlt)
          obtain ⟨s0z, s1z, s2z⟩ := HSC.out i hlt wr HXR.out
          obtain ⟨x, t, hx, -, ht, -, ht2, -⟩ := HGT.out i hlt
          rw [hx, ht] at s0z
          rw [hx] at s1z s2z
          rw [hx, ht, bit_nat] at hnx
          obtain ⟨mn, hmn⟩ : ∃ mn, x.mn = mn := ⟨_, rfl⟩
          rw [hmn] at s1z hnx
          have hba := bit_and t gi (by omega)
          have hdv : ((t / 2 ^ gi : Nat) : Int) = (t : Int) / 2 ^ gi := by simp
          rw [hdv] at hba
          obtain ⟨T, hT⟩ : ∃ T, t.testBit gi = T := ⟨_, rfl⟩
          rw [hT] at hba
          clear hdv
          rw [hT] at hnx
          obtain ⟨H, hH⟩ : ∃ H, hitTo s gi N i = H := ⟨_, rfl⟩
          rw [hH] at hnx ⊢
          obtain ⟨E, hE⟩ : ∃ E, (mn == N) = E := ⟨_, rfl⟩
          rw [hE] at hnx
          have HNX := Lib.hid hnx
          clear hnx hx ht hT hH hmn
          cases H
          · cases T
            · rw [if_neg (by simp)] at hba
              go_wp2
              go_roundw
              case rel => exact ⟨i + 1, by omega, by go_num, by rw [HNX.out]; simp, HXR.out⟩
              case measure => simp [intOf]; omega
            · rw [if_pos rfl] at hba
              go_wp2
              go_roundw
              case rel => exact ⟨i + 1, by omega, by go_num, by rw [HNX.out]; simp [hE], HXR.out⟩
              case measure => simp [intOf]; omega
          · go_wp2
            go_roundw
            case rel => exact ⟨i + 1, by omega, by go_num, by rw [HNX.out]; simp, HXR.out⟩
            case measure => simp [intOf]; omega
        · obtain rfl : i = k := by omega
          have hge : ¬ ((i : Int) < i) := by omega
          have hN1b : decide (1 ≤ N) = true := decide_eq_true hN1
          rw [HALL.out]
          obtain ⟨s0z, s1z, s2z⟩ := HSC.out ki lki wr HXR.out
          obtain ⟨x, t, hx, hmem, ht, -, ht2, -, -, -, -, hmm, -⟩ := HGT.out ki lki
          have hnl := HNL.out x hmem
          rw [hx, ht] at s0z
          rw [hx] at s1z s2z
          rw [ht, bit_nat] at hnl
          obtain ⟨mn, hmn⟩ : ∃ mn, x.mn = mn := ⟨_, rfl⟩
          obtain ⟨mx, hmx⟩ : ∃ mx, x.mx = mx := ⟨_, rfl⟩
          rw [hmn] at s1z hnl hmm
          rw [hmx] at s2z hmm
          have hba := bit_and t gi (by omega)
          have hdv : ((t / 2 ^ gi : Nat) : Int) = (t : Int) / 2 ^ gi := by simp
          rw [hdv] at hba
          obtain ⟨T, hT⟩ : ∃ T, t.testBit gi = T := ⟨_, rfl⟩
          rw [hT] at hba
          clear hdv
          rw [hT] at hnl
          clear hx ht hT hmn hmx hmem
          cases T
          · rw [if_neg (by simp)] at hba
            clear hnl
            go_wp2
            go_ret
            exact ⟨by simp, HB0.out.trans (HXR.out.mono HB0.out.size)⟩
          · rw [if_pos rfl] at hba
            have hn1 := hnl rfl
            have hn2 : N ≤ mx := by omega
            have hn1b : decide (N ≤ mn) = true := decide_eq_true hn1
            have hn2b : decide (N ≤ mx) = true := decide_eq_true hn2
            clear hnl hmm
            go_wp2
            go_ret
            exact ⟨by simp, HB0.out.trans (HXR.out.mono HB0.out.size)⟩
end Go.Proofs.Ytjjjfckkglcdfaa
