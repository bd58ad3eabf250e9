/- The walk over the law PlanFree. -/
import Derived.Test.YtjjjfckkglcdfaaPlnPure
import Derived.Test.YtjjjfckkglcdfaaBasTakeS
namespace Go.Proofs.Ytjjjfckkglcdfaa
set_option maxRecDepth 100000
set_option linter.unusedVariables false
set_option linter.unusedSimpArgs false
open Go.RowKit

theorem alone_eq {AG Q P t : Nat} {AL : Bool} (h : ((AG : Int) == (Q : Int) - 1 - P) = AL) (hpq : P < Q) (h1 : AL = true) (hal : AG = Q - 1 - P → t = P) : ((t : Int) == (P : Int)) = true := by
  rw [h1, beq_iff_eq] at h
  have := hal (by omega)
  rw [beq_iff_eq]
  omega
theorem small_wrap (a b c : Nat) (h : a ≤ 256) : wrap64 (a : Int) = a ∧ IntKind.i64.wrap ((a : Int) - 1) = (a : Int) - 1 ∧ (b ≤ 256 → IntKind.i64.wrap ((a : Int) - 1 - b) = (a : Int) - 1 - b) ∧ IntKind.i64.wrap (a : Int) = a := by
  refine ⟨by unfold wrap64; omega, by rw [IntKind.wrap_i64]; omega, fun hb => by rw [IntKind.wrap_i64]; omega, by rw [IntKind.wrap_i64]; omega⟩
/-- who conflicts with all others stands alone -/
theorem alone_is {m : List Int} {g t : Nat} (hm : mayM m = true) (hg : g < m.length) (ht : t < 2 ^ m.length) (hf : freeM m (t : Int) = true) (hb : t.testBit g = true) (ha : againstM m ((2 ^ g : Nat) : Int) = ((2 ^ m.length - 1 - 2 ^ g : Nat) : Int)) : t = 2 ^ g := by
  have hlt : 2 ^ g < 2 ^ m.length := Nat.pow_lt_pow_right (by omega) hg
  rw [against_some hm hlt] at ha
  have hA : sumN (hitM m ((2 ^ g : Nat) : Int)) m.length = 2 ^ m.length - 1 - 2 ^ g := by omega
  rw [free_nat hm ht] at hf
  refine Nat.eq_of_testBit_eq fun j => ?_
  rw [Nat.testBit_two_pow]
  by_cases e : g = j
  · subst e; rw [hb]; simp
  · rw [decide_eq_false e]
    cases hj : t.testBit j
    · rfl
    · have hjl : j < m.length := by
        rcases Nat.lt_or_ge j m.length with h | h
        · exact h
        · rw [low_bit ht h] at hj; cases hj
      have h1 := against_one (m := m) hg hjl
      rw [hA, show 2 ^ m.length - 1 - 2 ^ g = 2 ^ m.length - (2 ^ g + 1) by omega, Nat.testBit_two_pow_sub_succ hlt, decide_eq_true hjl, Nat.testBit_two_pow, decide_eq_false e] at h1
      exact (hf g hg j hjl ⟨hb, hj, by rw [← h1]; rfl⟩).elim
set_option maxHeartbeats 8000000 in
theorem pfree_any (HO : PlnOk) (HG : GrpTwo) (p : Pl) (x y z : Int) (w : World) (hp : PlIn w p) :
    Calls Try.prog 6 #[plV p, .int .i64 x, .int .i64 y, .int .i64 z] w fun e w' => e = .returned (.bool true) ∧ Below w.heap.size w w' := by
  have hSL := hp.s.len
  have hML := hp.m.len
  have hsk := hp.s.small
  have hsm := hp.m.small
  simp only [plV]
  obtain ⟨W0, hW0⟩ : ∃ W0, w.alloc (.cells #[.slice p.A p.n p.c, .slice p.B p.k p.d, .int .i64 p.am, .int .i64 p.rd, .int .i64 p.hd] 25) = W0 := ⟨_, rfl⟩
  have hB0 : Below w.heap.size w W0 := by rw [← hW0]; exact one_alloc w _
  have hbp : BoxP W0 w.heap.size p := by rw [← hW0]; exact BoxP.new w p
  have hpp : PlIn W0 p := hp.below hB0
  have HCp := Lib.hid (show ∀ X, Below W0.heap.size W0 X → X.cell? ⟨w.heap.size, 0, none⟩ = some (.slice p.A p.n p.c) ∧ X.cell? ⟨w.heap.size, 1, none⟩ = some (.slice p.B p.k p.d) ∧ X.cell? ⟨w.heap.size, 2, none⟩ = some (.int .i64 p.am) ∧ X.cell? ⟨w.heap.size, 3, none⟩ = some (.int .i64 p.rd) ∧ X.cell? ⟨w.heap.size, 4, none⟩ = some (.int .i64 p.hd) from fun X hX => (hbp.below hX).cells)
  have HPp := Lib.hid (show ∀ X, Below W0.heap.size W0 X → PlIn X p from fun X hX => hpp.below hX)
  have HB0 := Lib.hid hB0
  have HW := Lib.hid hW0
  have HX0 := Lib.hid (Below.refl W0.heap.size W0)
  clear hW0 hB0 hbp hpp hp
  have HAW := Lib.hid (pawake_any HO W0)
  have HFW := Lib.hid (fun X hX => pfew_any p X (HPp.out X hX))
  simp only [plV] at HFW
  cases hfw : fewB p with
  | false =>
    rw [hfw] at HFW
    clear hfw
    go_enter Try.func6, Try.ntmps6
    go_wp2_with (first
      | (go_at_call 9
         rw [HW.out]
         (with_reducible refine (HAW.out).mono ?_)
         rintro e w1 ⟨rfl, hbx⟩
         have HX1 := Lib.hid (HX0.out.trans (hbx.mono HX0.out.size))
         obtain ⟨p0z, p1z, p2z, p3z, p4z⟩ := HCp.out w1 HX1.out
         clear hbx)
      | (go_at_call 10
         (with_reducible refine (HFW.out _ HX1.out).mono ?_)
         rintro e w2 ⟨rfl, hbx⟩
         have HX2 := Lib.hid (HX1.out.trans (hbx.mono HX1.out.size))
         obtain ⟨p0z, p1z, p2z, p3z, p4z⟩ := HCp.out w2 HX2.out
         clear hbx))
    go_ret
    exact ⟨rfl, HB0.out.trans (HX2.out.mono HB0.out.size)⟩
  | true =>
    rw [hfw] at HFW
    obtain ⟨hfn, hfk⟩ := few_iff.1 hfw
    clear hfw
    have hbn : p.n ≤ 1000 := by omega
    have hbk : p.k ≤ 1000 := by omega
    have HFT := Lib.hid (fun X hX => HO.fit p X (HPp.out X hX) hbn hbk)
    simp only [plV] at HFT
    cases hft : fitP p with
    | false =>
      rw [hft] at HFT
      clear hft
      go_enter Try.func6, Try.ntmps6
      go_wp2_with (first
        | (go_at_call 9
           rw [HW.out]
           (with_reducible refine (HAW.out).mono ?_)
           rintro e w1 ⟨rfl, hbx⟩
           have HX1 := Lib.hid (HX0.out.trans (hbx.mono HX0.out.size))
           obtain ⟨p0z, p1z, p2z, p3z, p4z⟩ := HCp.out w1 HX1.out
           clear hbx)
        | (go_at_call 10
           (with_reducible refine (HFW.out _ HX1.out).mono ?_)
           rintro e w2 ⟨rfl, hbx⟩
           have HX2 := Lib.hid (HX1.out.trans (hbx.mono HX1.out.size))
           obtain ⟨p0z, p1z, p2z, p3z, p4z⟩ := HCp.out w2 HX2.out
           clear hbx)
        | (go_at_call 15
           (with_reducible refine (HFT.out _ HX2.out).mono ?_)
           rintro e w3 ⟨rfl, hbx⟩
           have HX3 := Lib.hid (HX2.out.trans (hbx.mono HX2.out.size))
           obtain ⟨p0z, p1z, p2z, p3z, p4z⟩ := HCp.out w3 HX3.out
           clear hbx))
      go_ret
      exact ⟨rfl, HB0.out.trans (HX3.out.mono HB0.out.size)⟩
    | true =>
      rw [hft] at HFT
      by_cases hnx : x < 0
      · clear hft
        go_enter Try.func6, Try.ntmps6
        go_wp2_with (first
          | (go_at_call 9
             rw [HW.out]
             (with_reducible refine (HAW.out).mono ?_)
             rintro e w1 ⟨rfl, hbx⟩
             have HX1 := Lib.hid (HX0.out.trans (hbx.mono HX0.out.size))
             obtain ⟨p0z, p1z, p2z, p3z, p4z⟩ := HCp.out w1 HX1.out
             clear hbx)
          | (go_at_call 10
             (with_reducible refine (HFW.out _ HX1.out).mono ?_)
             rintro e w2 ⟨rfl, hbx⟩
             have HX2 := Lib.hid (HX1.out.trans (hbx.mono HX1.out.size))
             obtain ⟨p0z, p1z, p2z, p3z, p4z⟩ := HCp.out w2 HX2.out
             clear hbx)
          | (go_at_call 15
             (with_reducible refine (HFT.out _ HX2.out).mono ?_)
             rintro e w3 ⟨rfl, hbx⟩
             have HX3 := Lib.hid (HX2.out.trans (hbx.mono HX2.out.size))
             obtain ⟨p0z, p1z, p2z, p3z, p4z⟩ := HCp.out w3 HX3.out
             clear hbx))
        go_ret
        exact ⟨rfl, HB0.out.trans (HX3.out.mono HB0.out.size)⟩
      by_cases hbx : ((p.k : Nat) : Int) ≤ x
      · clear hft
        go_enter Try.func6, Try.ntmps6
        go_wp2_with (first
          | (go_at_call 9
             rw [HW.out]
             (with_reducible refine (HAW.out).mono ?_)
             rintro e w1 ⟨rfl, hbx⟩
             have HX1 := Lib.hid (HX0.out.trans (hbx.mono HX0.out.size))
             obtain ⟨p0z, p1z, p2z, p3z, p4z⟩ := HCp.out w1 HX1.out
             clear hbx)
          | (go_at_call 10
             (with_reducible refine (HFW.out _ HX1.out).mono ?_)
             rintro e w2 ⟨rfl, hbx⟩
             have HX2 := Lib.hid (HX1.out.trans (hbx.mono HX1.out.size))
             obtain ⟨p0z, p1z, p2z, p3z, p4z⟩ := HCp.out w2 HX2.out
             clear hbx)
          | (go_at_call 15
             (with_reducible refine (HFT.out _ HX2.out).mono ?_)
             rintro e w3 ⟨rfl, hbx⟩
             have HX3 := Lib.hid (HX2.out.trans (hbx.mono HX2.out.size))
             obtain ⟨p0z, p1z, p2z, p3z, p4z⟩ := HCp.out w3 HX3.out
             clear hbx))
        go_ret
        exact ⟨rfl, HB0.out.trans (HX3.out.mono HB0.out.size)⟩
      by_cases hny : y < 0
      · clear hft
        go_enter Try.func6, Try.ntmps6
        go_wp2_with (first
          | (go_at_call 9
             rw [HW.out]
             (with_reducible refine (HAW.out).mono ?_)
             rintro e w1 ⟨rfl, hbx⟩
             have HX1 := Lib.hid (HX0.out.trans (hbx.mono HX0.out.size))
             obtain ⟨p0z, p1z, p2z, p3z, p4z⟩ := HCp.out w1 HX1.out
             clear hbx)
          | (go_at_call 10
             (with_reducible refine (HFW.out _ HX1.out).mono ?_)
             rintro e w2 ⟨rfl, hbx⟩
             have HX2 := Lib.hid (HX1.out.trans (hbx.mono HX1.out.size))
             obtain ⟨p0z, p1z, p2z, p3z, p4z⟩ := HCp.out w2 HX2.out
             clear hbx)
          | (go_at_call 15
             (with_reducible refine (HFT.out _ HX2.out).mono ?_)
             rintro e w3 ⟨rfl, hbx⟩
             have HX3 := Lib.hid (HX2.out.trans (hbx.mono HX2.out.size))
             obtain ⟨p0z, p1z, p2z, p3z, p4z⟩ := HCp.out w3 HX3.out
             clear hbx))
        go_ret
        exact ⟨rfl, HB0.out.trans (HX3.out.mono HB0.out.size)⟩
      by_cases hby : ((p.n : Nat) : Int) ≤ y
      · clear hft
        go_enter Try.func6, Try.ntmps6
        go_wp2_with (first
          | (go_at_call 9
             rw [HW.out]
             (with_reducible refine (HAW.out).mono ?_)
             rintro e w1 ⟨rfl, hbx⟩
             have HX1 := Lib.hid (HX0.out.trans (hbx.mono HX0.out.size))
             obtain ⟨p0z, p1z, p2z, p3z, p4z⟩ := HCp.out w1 HX1.out
             clear hbx)
          | (go_at_call 10
             (with_reducible refine (HFW.out _ HX1.out).mono ?_)
             rintro e w2 ⟨rfl, hbx⟩
             have HX2 := Lib.hid (HX1.out.trans (hbx.mono HX1.out.size))
             obtain ⟨p0z, p1z, p2z, p3z, p4z⟩ := HCp.out w2 HX2.out
             clear hbx)
          | (go_at_call 15
             (with_reducible refine (HFT.out _ HX2.out).mono ?_)
             rintro e w3 ⟨rfl, hbx⟩
             have HX3 := Lib.hid (HX2.out.trans (hbx.mono HX2.out.size))
             obtain ⟨p0z, p1z, p2z, p3z, p4z⟩ := HCp.out w3 HX3.out
             clear hbx))
        go_ret
        exact ⟨rfl, HB0.out.trans (HX3.out.mono HB0.out.size)⟩
      by_cases hnz : z < 0
      · clear hft
        go_enter Try.func6, Try.ntmps6
        go_wp2_with (first
          | (go_at_call 9
             rw [HW.out]
             (with_reducible refine (HAW.out).mono ?_)
             rintro e w1 ⟨rfl, hbx⟩
             have HX1 := Lib.hid (HX0.out.trans (hbx.mono HX0.out.size))
             obtain ⟨p0z, p1z, p2z, p3z, p4z⟩ := HCp.out w1 HX1.out
             clear hbx)
          | (go_at_call 10
             (with_reducible refine (HFW.out _ HX1.out).mono ?_)
             rintro e w2 ⟨rfl, hbx⟩
             have HX2 := Lib.hid (HX1.out.trans (hbx.mono HX1.out.size))
             obtain ⟨p0z, p1z, p2z, p3z, p4z⟩ := HCp.out w2 HX2.out
             clear hbx)
          | (go_at_call 15
             (with_reducible refine (HFT.out _ HX2.out).mono ?_)
             rintro e w3 ⟨rfl, hbx⟩
             have HX3 := Lib.hid (HX2.out.trans (hbx.mono HX2.out.size))
             obtain ⟨p0z, p1z, p2z, p3z, p4z⟩ := HCp.out w3 HX3.out
             clear hbx))
        go_ret
        exact ⟨rfl, HB0.out.trans (HX3.out.mono HB0.out.size)⟩
      by_cases hbz : ((p.n : Nat) : Int) ≤ z
      · clear hft
        go_enter Try.func6, Try.ntmps6
        go_wp2_with (first
          | (go_at_call 9
             rw [HW.out]
             (with_reducible refine (HAW.out).mono ?_)
             rintro e w1 ⟨rfl, hbx⟩
             have HX1 := Lib.hid (HX0.out.trans (hbx.mono HX0.out.size))
             obtain ⟨p0z, p1z, p2z, p3z, p4z⟩ := HCp.out w1 HX1.out
             clear hbx)
          | (go_at_call 10
             (with_reducible refine (HFW.out _ HX1.out).mono ?_)
             rintro e w2 ⟨rfl, hbx⟩
             have HX2 := Lib.hid (HX1.out.trans (hbx.mono HX1.out.size))
             obtain ⟨p0z, p1z, p2z, p3z, p4z⟩ := HCp.out w2 HX2.out
             clear hbx)
          | (go_at_call 15
             (with_reducible refine (HFT.out _ HX2.out).mono ?_)
             rintro e w3 ⟨rfl, hbx⟩
             have HX3 := Lib.hid (HX2.out.trans (hbx.mono HX2.out.size))
             obtain ⟨p0z, p1z, p2z, p3z, p4z⟩ := HCp.out w3 HX3.out
             clear hbx))
        go_ret
        exact ⟨rfl, HB0.out.trans (HX3.out.mono HB0.out.size)⟩
      have hff := fit_iff.1 hft
      obtain ⟨b, off, -, hA, -⟩ := (HPp.out W0 (Below.refl _ _)).s.at_ 0 (by have := hff.two; omega)
      have HST := Lib.hid hff.stage
      obtain ⟨hn8, hrow⟩ := may_rows hML hff.may
      have h6 := hff.six
      have h2 := hff.two
      obtain ⟨ki, rfl⟩ := Int.eq_ofNat_of_zero_le (show 0 ≤ x by omega)
      have lki : ki < p.k := by omega
      obtain ⟨gi, rfl⟩ := Int.eq_ofNat_of_zero_le (show 0 ≤ y by omega)
      have lgi : gi < p.n := by omega
      obtain ⟨hi, rfl⟩ := Int.eq_ofNat_of_zero_le (show 0 ≤ z by omega)
      have lhi : hi < p.n := by omega
      obtain ⟨a, ao, hAA, -⟩ := (HPp.out W0 (Below.refl _ _)).m.at_ (by omega)
      have hmay := hff.may
      clear hff hft hnx hbx hny hby hnz hbz
      obtain ⟨A, n, c, m, B, k, d, s, am, rd, hd⟩ := p
      simp only at *
      subst hA
      have HSC := Lib.hid (show ∀ j, j < k → ∀ X, Below W0.heap.size W0 X → X.cell? ⟨b, off + j * 3, none⟩ = some (.int .i64 (s.getD j Stg.zero).g) ∧ X.cell? ⟨b, off + j * 3 + 1, none⟩ = some (.int .i64 (s.getD j Stg.zero).mn) ∧ X.cell? ⟨b, off + j * 3 + 2, none⟩ = some (.int .i64 (s.getD j Stg.zero).mx) from fun j hj X hX => by
        obtain ⟨b', off', x', hA', hx', -, -, z0, z1, z2⟩ := (HPp.out X hX).s.at_ j hj
        cases hA'
        simp only at hx'
        rw [hx']
        exact ⟨z0, z1, z2⟩)
      have HGT := Lib.hid (show ∀ j, j < k → ∃ (x : Stg) (t : Nat), s.getD j Stg.zero = x ∧ x ∈ s ∧ x.g = (t : Int) ∧ t < 2 ^ n ∧ t < 256 ∧ freeM m (t : Int) = true ∧ x.g ≠ 0 ∧ 1 ≤ x.mn ∧ x.mn ≤ 200 ∧ x.mn ≤ x.mx ∧ x.mx ≤ 200 from fun j hj => by
        have hjl : j < s.length := by omega
        have hmem : s.getD j Stg.zero ∈ s := by rw [List.getD_eq_getElem?_getD, List.getElem?_eq_getElem hjl]; exact List.getElem_mem hjl
        obtain ⟨f1, f2, f3, f4, f5, f6⟩ := HST.out _ hmem
        obtain ⟨t, ht, ht2⟩ := set_nat (free_iff.1 f1).2.1
        have h8 := pow_le hn8
        rw [hML] at ht2
        exact ⟨_, t, rfl, hmem, ht, ht2, by omega, by rw [← ht]; exact f1, f2, f3, f4, f5, f6⟩)
      have fki : ¬ ((ki : Int) < 0) := by omega
      have qki : 0 ≤ (ki : Int) := by omega
      have rki : (ki : Int) < k := by omega
      have eki : ¬ (k ≤ ki) := by omega
      have dki : decide (k ≤ ki) = false := decide_eq_false eki
      have fgi : ¬ ((gi : Int) < 0) := by omega
      have qgi : 0 ≤ (gi : Int) := by omega
      have rgi : (gi : Int) < n := by omega
      have egi : ¬ (n ≤ gi) := by omega
      have dgi : decide (n ≤ gi) = false := decide_eq_false egi
      have fhi : ¬ ((hi : Int) < 0) := by omega
      have qhi : 0 ≤ (hi : Int) := by omega
      have rhi : (hi : Int) < n := by omega
      have ehi : ¬ (n ≤ hi) := by omega
      have dhi : decide (n ≤ hi) = false := decide_eq_false ehi
      subst hAA
      have HMC := Lib.hid (show ∀ j, j < n → ∀ X, Below W0.heap.size W0 X → X.cell? ⟨a, ao + j, none⟩ = some (.int .i64 (m.getD j 0)) from fun j hj X hX => by
        obtain ⟨a', ao', hA', hc⟩ := (HPp.out X hX).m.at_ (show 0 < n by omega)
        cases hA'
        exact hc j hj)
      have HFR0 := Lib.hid (fun (v : Int) X hX => HG.free (some ⟨a, ao, none⟩) n c m v X (HPp.out X hX).m hbn)
      have HAG0 := Lib.hid (fun (v : Int) X hX => HG.against (some ⟨a, ao, none⟩) n c m v X (HPp.out X hX).m hbn)
      obtain ⟨x, t, hx, hmem, ht, htn, ht2, hfree, hne, -, -, -, -⟩ := HGT.out ki lki
      have s0z := fun X hX => (HSC.out ki lki X hX).1
      simp only [hx, ht] at s0z
      have HS0 := Lib.hid s0z
      obtain ⟨r, hr⟩ := Int.eq_ofNat_of_zero_le (hrow gi lgi).1
      have hr2 := (hrow gi lgi).2
      have h8 := pow_le hn8
      have mz := fun X hX => HMC.out gi lgi X hX
      simp only [hr] at mz
      have HM0 := Lib.hid mz
      have hr3 : r < 256 := by rw [hr] at hr2; omega
      have hmeet : meetM m gi hi = r.testBit hi := by unfold meetM; rw [hr, bit_nat]
      have hno := (free_nat hmay (show t < 2 ^ m.length by rw [hML]; exact htn)).1 hfree gi (by omega) hi (by omega)
      rw [hmeet] at hno
      have hAGe := against_some hmay (show 2 ^ gi < 2 ^ m.length from Nat.pow_lt_pow_right (by omega) (by omega))
      have hAGl := sumN_lt (hitM m ((2 ^ gi : Nat) : Int)) m.length
      have halone := alone_is hmay (show gi < m.length by omega) (show t < 2 ^ m.length by rw [hML]; exact htn) hfree
      rw [hAGe] at halone
      obtain ⟨AG, hAG⟩ : ∃ AG, sumN (hitM m ((2 ^ gi : Nat) : Int)) m.length = AG := ⟨_, rfl⟩
      have HAGx := Lib.hid (HAG0.out ((2 ^ gi : Nat) : Int))
      have HFRx := Lib.hid (HFR0.out (t : Int))
      rw [hAGe] at HAGx
      rw [hfree] at HFRx
      have HAG := HAGx
      have HFR := HFRx
      rw [hAG] at HAG halone hAGl
      have hpg : 2 ^ gi < 2 ^ n := Nat.pow_lt_pow_right (by omega) (by omega)
      have hpos : 0 < 2 ^ gi := Nat.pow_pos (by omega)
      have ep1 : (2 : Int) ^ gi = ((2 ^ gi : Nat) : Int) := pow_int gi
      have ep2 : (2 : Int) ^ n = ((2 ^ n : Nat) : Int) := pow_int n
      rw [hML] at halone
      obtain ⟨P, hP⟩ : ∃ P : Nat, 2 ^ gi = P := ⟨_, rfl⟩
      obtain ⟨Q, hQ⟩ : ∃ Q : Nat, 2 ^ n = Q := ⟨_, rfl⟩
      rw [hP] at halone hpg hpos ep1 HAG
      rw [hQ] at halone hpg ep2 h8
      have hP2 : P ≤ 256 := by omega
      have hQ2 : Q ≤ 256 := by omega
      have hw1 : wrap64 ((2 : Int) ^ gi) = (P : Int) := by rw [ep1]; exact (small_wrap P 0 0 hP2).1
      have hw2 : wrap64 ((2 : Int) ^ n) = (Q : Int) := by rw [ep2]; exact (small_wrap Q 0 0 hQ2).1
      have hw3 : IntKind.i64.wrap ((Q : Int) - 1) = (Q : Int) - 1 := (small_wrap Q 0 0 hQ2).2.1
      have hw4 : IntKind.i64.wrap ((Q : Int) - 1 - P) = (Q : Int) - 1 - P := (small_wrap Q P 0 hQ2).2.2.1 hP2
      have hi1 : IntKind.i64.wrap ((2 : Int) ^ gi) = (P : Int) := by rw [ep1]; exact (small_wrap P 0 0 hP2).2.2.2
      have hi2 : IntKind.i64.wrap ((2 : Int) ^ n) = (Q : Int) := by rw [ep2]; exact (small_wrap Q 0 0 hQ2).2.2.2
      have ht0 : (0 : Int) < (t : Int) := by rw [ht] at hne; omega
      have ht0b : decide ((0 : Int) < (t : Int)) = true := decide_eq_true ht0
      have ht0n : decide (0 < t) = true := decide_eq_true (by omega)
      obtain ⟨AL, hAL⟩ : ∃ AL, ((AG : Int) == (Q : Int) - 1 - P) = AL := ⟨_, rfl⟩
      have hbac := bit_and r hi (by omega)
      have hdvc : ((r / 2 ^ hi : Nat) : Int) = (r : Int) / 2 ^ hi := by simp
      rw [hdvc] at hbac
      obtain ⟨C, hC⟩ : ∃ T, r.testBit hi = T := ⟨_, rfl⟩
      rw [hC] at hbac
      clear hdvc
      have hbao := bit_and t gi (by omega)
      have hdvo : ((t / 2 ^ gi : Nat) : Int) = (t : Int) / 2 ^ gi := by simp
      rw [hdvo] at hbao
      obtain ⟨O, hO⟩ : ∃ T, t.testBit gi = T := ⟨_, rfl⟩
      rw [hO] at hbao
      clear hdvo
      have hbav := bit_and t hi (by omega)
      have hdvv : ((t / 2 ^ hi : Nat) : Int) = (t : Int) / 2 ^ hi := by simp
      rw [hdvv] at hbav
      obtain ⟨V, hV⟩ : ∃ T, t.testBit hi = T := ⟨_, rfl⟩
      rw [hV] at hbav
      clear hdvv
      rw [hC, hO, hV] at hno
      rw [hO] at halone
      have HN1 := Lib.hid hno
      have HN2 := Lib.hid (show AL = true → O = true → ((t : Int) == (P : Int)) = true from fun h1 h2 => alone_eq hAL hpg h1 (fun e => halone h2 (by rw [e])))
      have hmo : True := trivial
      clear hno halone hAGl hAGe hmeet hfree hne hmem hx ht hr hr2 hrow hmay hAG hP hQ ep1 ep2 hML hSL hC hO hV s0z mz htn
      have hC1 : (bits .and .i64 ((r : Int) / 2 ^ hi) 1 == 1) = C := by rw [hbac]; cases C <;> rfl
      have hO1 : (bits .and .i64 ((t : Int) / 2 ^ gi) 1 == 1) = O := by rw [hbao]; cases O <;> rfl
      have hV1 : (bits .and .i64 ((t : Int) / 2 ^ hi) 1 == 1) = V := by rw [hbav]; cases V <;> rfl
      clear hbac hbao hbav
      go_enter Try.func6, Try.ntmps6
      go_wp2_with (first
        | (go_at_call 9
           rw [HW.out]
           (with_reducible refine (HAW.out).mono ?_)
           rintro e w1 ⟨rfl, hbx⟩
           have HX1 := Lib.hid (HX0.out.trans (hbx.mono HX0.out.size))
           obtain ⟨p0z, p1z, p2z, p3z, p4z⟩ := HCp.out w1 HX1.out
           clear hbx)
        | (go_at_call 10
           (with_reducible refine (HFW.out _ HX1.out).mono ?_)
           rintro e w2 ⟨rfl, hbx⟩
           have HX2 := Lib.hid (HX1.out.trans (hbx.mono HX1.out.size))
           obtain ⟨p0z, p1z, p2z, p3z, p4z⟩ := HCp.out w2 HX2.out
           clear hbx)
        | (go_at_call 15
           (with_reducible refine (HFT.out _ HX2.out).mono ?_)
           rintro e w3 ⟨rfl, hbx⟩
           have HX3 := Lib.hid (HX2.out.trans (hbx.mono HX2.out.size))
           obtain ⟨p0z, p1z, p2z, p3z, p4z⟩ := HCp.out w3 HX3.out
           have s0z := HS0.out w3 HX3.out
           have m0z := HM0.out w3 HX3.out
           clear hbx))
      clear p0z p1z p2z p3z p4z s0z m0z
      have hSd : Below w3.heap.size w3 w3.drew := (Below.refl _ w3).drew
      refine wp_region_held_drew (S := fun X => Below w3.heap.size w3 X) (by kernel_rfl) hSd (fun hHeld => ?_)
      refine tk 0 (.pointer (some ⟨w.heap.size, 0, none⟩)) hHeld (fun w => ?_) ?_
      · go_simp
      simp only [PT]
      refine tkS 1 (.slice (some ⟨a, ao, none⟩) n c) hHeld (fun w hq => ?_) ?_
      · obtain ⟨a0, a1, a2, a3, a4⟩ := HCp.out w (HX3.out.trans (hq.mono HX3.out.size))
        go_simp
      simp only [PT]
      refine tk 2 (.int .i64 gi) hHeld (fun w => ?_) ?_
      · go_simp
      simp only [PT]
      refine tk 3 (.int .i64 P) hHeld (fun w => ?_) ?_
      · go_simp
      simp only [PT]
      refine tk 5 (.pointer (some ⟨w.heap.size, 0, none⟩)) hHeld (fun w => ?_) ?_
      · go_simp
      simp only [PT]
      refine tkS 6 (.slice (some ⟨a, ao, none⟩) n c) hHeld (fun w hq => ?_) ?_
      · obtain ⟨a0, a1, a2, a3, a4⟩ := HCp.out w (HX3.out.trans (hq.mono HX3.out.size))
        go_simp
      simp only [PT]
      refine tk 7 (.int .i64 n) hHeld (fun w => ?_) ?_
      · go_simp
      simp only [PT]
      refine tk 8 (.int .i64 Q) hHeld (fun w => ?_) ?_
      · go_simp
      simp only [PT]
      refine tk 9 (.int .i64 ((Q : Int) - 1)) hHeld (fun w => ?_) ?_
      · go_simp
      simp only [PT]
      refine tk 10 (.int .i64 gi) hHeld (fun w => ?_) ?_
      · go_simp
      simp only [PT]
      refine tk 11 (.int .i64 P) hHeld (fun w => ?_) ?_
      · go_simp
      simp only [PT]
      refine tk 12 (.int .i64 ((Q : Int) - 1 - P)) hHeld (fun w => ?_) ?_
      · go_simp
      simp only [PT]
      refine one_step 4 (by kernel_rfl) rfl (fun Kq hKq => ?_)
      go_simp
      go_at_call 24
      (with_reducible refine (HAG.out _ (HX3.out.trans (hSd.mono HX3.out.size))).mono ?_)
      rintro e y1 ⟨rfl, hbx⟩
      have hS1 : Below w3.heap.size w3 y1 := hSd.trans (hbx.mono hSd.size)
      clear hbx
      refine hKq.out _ _ hS1 (fun hHeld0 => ?_)
      clear hKq Kq hHeld
      have hHeld := hHeld0
      clear hHeld0
      try simp only [PT]
      refine tk 13 (.bool AL) hHeld (fun w => ?_) ?_
      · go_simp
      simp only [PT]
      refine tk 14 (.bool AL) hHeld (fun w => ?_) ?_
      · go_simp
      simp only [PT]
      refine wpAnyH_done (by kernel_rfl) ?_ _
      clear hHeld
      have HX4 := Lib.hid (HX3.out.trans (hS1.mono HX3.out.size))
      obtain ⟨p0z, p1z, p2z, p3z, p4z⟩ := HCp.out y1 HX4.out
      cases C <;> cases O <;> cases V <;> cases AL
      · go_wp2_with (first
          | (go_at_call 25
             (with_reducible refine (HFR.out _ HX4.out).mono ?_)
             rintro e w5 ⟨rfl, hbx⟩
             have HX5 := Lib.hid (HX4.out.trans (hbx.mono HX4.out.size))
             clear hbx))
        go_ret
        exact ⟨by first | rfl | simp, HB0.out.trans (HX5.out.mono HB0.out.size)⟩
      · go_wp2_with (first
          | (go_at_call 25
             (with_reducible refine (HFR.out _ HX4.out).mono ?_)
             rintro e w5 ⟨rfl, hbx⟩
             have HX5 := Lib.hid (HX4.out.trans (hbx.mono HX4.out.size))
             clear hbx))
        go_ret
        exact ⟨by first | rfl | simp, HB0.out.trans (HX5.out.mono HB0.out.size)⟩
      · go_wp2_with (first
          | (go_at_call 25
             (with_reducible refine (HFR.out _ HX4.out).mono ?_)
             rintro e w5 ⟨rfl, hbx⟩
             have HX5 := Lib.hid (HX4.out.trans (hbx.mono HX4.out.size))
             clear hbx))
        go_ret
        exact ⟨by first | rfl | simp, HB0.out.trans (HX5.out.mono HB0.out.size)⟩
      · go_wp2_with (first
          | (go_at_call 25
             (with_reducible refine (HFR.out _ HX4.out).mono ?_)
             rintro e w5 ⟨rfl, hbx⟩
             have HX5 := Lib.hid (HX4.out.trans (hbx.mono HX4.out.size))
             clear hbx))
        go_ret
        exact ⟨by first | rfl | simp, HB0.out.trans (HX5.out.mono HB0.out.size)⟩
      · go_wp2_with (first
          | (go_at_call 25
             (with_reducible refine (HFR.out _ HX4.out).mono ?_)
             rintro e w5 ⟨rfl, hbx⟩
             have HX5 := Lib.hid (HX4.out.trans (hbx.mono HX4.out.size))
             clear hbx))
        go_ret
        exact ⟨by first | rfl | simp, HB0.out.trans (HX5.out.mono HB0.out.size)⟩
      · have hfin := HN2.out rfl rfl
        go_wp2_with (first
          | (go_at_call 25
             (with_reducible refine (HFR.out _ HX4.out).mono ?_)
             rintro e w5 ⟨rfl, hbx⟩
             have HX5 := Lib.hid (HX4.out.trans (hbx.mono HX4.out.size))
             clear hbx))
        go_ret
        exact ⟨by first | rfl | simp, HB0.out.trans (HX5.out.mono HB0.out.size)⟩
      · go_wp2_with (first
          | (go_at_call 25
             (with_reducible refine (HFR.out _ HX4.out).mono ?_)
             rintro e w5 ⟨rfl, hbx⟩
             have HX5 := Lib.hid (HX4.out.trans (hbx.mono HX4.out.size))
             clear hbx))
        go_ret
        exact ⟨by first | rfl | simp, HB0.out.trans (HX5.out.mono HB0.out.size)⟩
      · have hfin := HN2.out rfl rfl
        go_wp2_with (first
          | (go_at_call 25
             (with_reducible refine (HFR.out _ HX4.out).mono ?_)
             rintro e w5 ⟨rfl, hbx⟩
             have HX5 := Lib.hid (HX4.out.trans (hbx.mono HX4.out.size))
             clear hbx))
        go_ret
        exact ⟨by first | rfl | simp, HB0.out.trans (HX5.out.mono HB0.out.size)⟩
      · go_wp2_with (first
          | (go_at_call 25
             (with_reducible refine (HFR.out _ HX4.out).mono ?_)
             rintro e w5 ⟨rfl, hbx⟩
             have HX5 := Lib.hid (HX4.out.trans (hbx.mono HX4.out.size))
             clear hbx))
        go_ret
        exact ⟨by first | rfl | simp, HB0.out.trans (HX5.out.mono HB0.out.size)⟩
      · go_wp2_with (first
          | (go_at_call 25
             (with_reducible refine (HFR.out _ HX4.out).mono ?_)
             rintro e w5 ⟨rfl, hbx⟩
             have HX5 := Lib.hid (HX4.out.trans (hbx.mono HX4.out.size))
             clear hbx))
        go_ret
        exact ⟨by first | rfl | simp, HB0.out.trans (HX5.out.mono HB0.out.size)⟩
      · go_wp2_with (first
          | (go_at_call 25
             (with_reducible refine (HFR.out _ HX4.out).mono ?_)
             rintro e w5 ⟨rfl, hbx⟩
             have HX5 := Lib.hid (HX4.out.trans (hbx.mono HX4.out.size))
             clear hbx))
        go_ret
        exact ⟨by first | rfl | simp, HB0.out.trans (HX5.out.mono HB0.out.size)⟩
      · go_wp2_with (first
          | (go_at_call 25
             (with_reducible refine (HFR.out _ HX4.out).mono ?_)
             rintro e w5 ⟨rfl, hbx⟩
             have HX5 := Lib.hid (HX4.out.trans (hbx.mono HX4.out.size))
             clear hbx))
        go_ret
        exact ⟨by first | rfl | simp, HB0.out.trans (HX5.out.mono HB0.out.size)⟩
      · go_wp2_with (first
          | (go_at_call 25
             (with_reducible refine (HFR.out _ HX4.out).mono ?_)
             rintro e w5 ⟨rfl, hbx⟩
             have HX5 := Lib.hid (HX4.out.trans (hbx.mono HX4.out.size))
             clear hbx))
        go_ret
        exact ⟨by first | rfl | simp, HB0.out.trans (HX5.out.mono HB0.out.size)⟩
      · have hfin := HN2.out rfl rfl
        go_wp2_with (first
          | (go_at_call 25
             (with_reducible refine (HFR.out _ HX4.out).mono ?_)
             rintro e w5 ⟨rfl, hbx⟩
             have HX5 := Lib.hid (HX4.out.trans (hbx.mono HX4.out.size))
             clear hbx))
        go_ret
        exact ⟨by first | rfl | simp, HB0.out.trans (HX5.out.mono HB0.out.size)⟩
      · exact (HN1.out ⟨rfl, rfl, rfl⟩).elim
      · exact (HN1.out ⟨rfl, rfl, rfl⟩).elim
end Go.Proofs.Ytjjjfckkglcdfaa
