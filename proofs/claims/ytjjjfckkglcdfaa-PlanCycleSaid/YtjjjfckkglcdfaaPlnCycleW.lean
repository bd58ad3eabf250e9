/- The walk over the law PlanCycle. -/
import Derived.Test.YtjjjfckkglcdfaaPlnPure
import Derived.Test.YtjjjfckkglcdfaaBasTakeS
namespace Go.Proofs.Ytjjjfckkglcdfaa
set_option maxRecDepth 100000
set_option linter.unusedVariables false
set_option linter.unusedSimpArgs false
open Go.RowKit

/-- a plan with longer ambers -/
def Pl.more (p : Pl) : Pl := { p with am := p.am + 1 }
theorem cyc_more {p : Pl} (hf : fitP p = true) (hq : fitP p.more = true) : cycP p.more = cycP p + p.s.length := by
  rw [cycP, if_pos hq, cycP, if_pos hf, cyc_sum, cyc_sum p.am]
  show 0 + cycF 0 0 p.s 0 + (p.s.length : Int) * (p.am + 1 + p.rd) = 0 + cycF 0 0 p.s 0 + (p.s.length : Int) * (p.am + p.rd) + p.s.length
  rw [show p.am + 1 + p.rd = p.am + p.rd + 1 by omega, Int.mul_add, Int.mul_one]
  omega
/-- the cycle, and what it is held against -/
theorem cyc_bounds {p : Pl} (hf : fitP p = true) {x : Stg} (hx : x ∈ p.s) : ∃ M : Int, (p.s.length : Int) * (p.am + p.rd) = M ∧ 0 ≤ M ∧ M ≤ 2400 ∧ x.mn + M + p.s.length - 1 ≤ cycP p ∧ cycP p ≤ 3600 := by
  have hff := fit_iff.1 hf
  have h1 := mins_one p.s x (fun y hy => (hff.stage y hy).2.2.1) hx
  have h2 := mins_le p.s (fun y hy => (hff.stage y hy).2.2.2.1)
  have h6 := hff.six
  have e : cycP p = cycF 0 0 p.s 0 + (p.s.length : Int) * (p.am + p.rd) := by rw [cycP, if_pos hf, cyc_sum]; omega
  have hs : 0 ≤ p.am + p.rd ∧ p.am + p.rd ≤ 400 := by have := hff.am1; have := hff.am2; have := hff.rd1; have := hff.rd2; omega
  have b1 : 0 ≤ (p.s.length : Int) * (p.am + p.rd) := Int.mul_nonneg (by omega) hs.1
  have b2 : (p.s.length : Int) * (p.am + p.rd) ≤ (p.s.length : Int) * 400 := Int.mul_le_mul_of_nonneg_left hs.2 (by omega)
  refine ⟨_, rfl, b1, by omega, ?_, ?_⟩
  · rw [e]; omega
  · rw [e]; omega
set_option maxHeartbeats 8000000 in
theorem pcycle_any (HO : PlnOk) (p : Pl) (x : Int) (w : World) (hp : PlIn w p) :
    Calls Try.prog 8 #[plV p, .int .i64 x] w fun e w' => e = .returned (.bool true) ∧ Below w.heap.size w w' := by
  have hSL := hp.s.len
  have hML := hp.m.len
  have hsk := hp.s.small
  have hsm := hp.m.small
  simp only [plV]
  obtain ⟨W0, hW0⟩ : ∃ W0, w.alloc (.cells #[.slice p.A p.n p.c, .slice p.B p.k p.d, .int .i64 p.am, .int .i64 p.rd, .int .i64 p.hd] 25) = W0 := ⟨_, rfl⟩
  have hB0 : Below w.heap.size w W0 := by rw [← hW0]; exact one_alloc w _
  have hbp : BoxP W0 w.heap.size p := by rw [← hW0]; exact BoxP.new w p
  have hpp : PlIn W0 p := hp.below hB0
  have HCp := Lib.hid (show ∀ X, Below W0.heap.size W0 X → X.cell? ⟨w.heap.size, 0, none⟩ = some (.slice p.A p.n p.c) ∧ X.cell? ⟨w.heap.size, 1, none⟩ = some (.slice p.B p.k p.d) ∧ X.cell? ⟨w.heap.size, 2, none⟩ = some (.int .i64 p.am) ∧ X.cell? ⟨w.heap.size, 3, none⟩ = some (.int .i64 p.rd) ∧ X.cell? ⟨w.heap.size, 4, none⟩ = some (.int .i64 p.hd) from fun X hX => (hbp.below hX).cells)
  have HPp := Lib.hid (show ∀ X, Below W0.heap.size W0 X → PlIn X p from fun X hX => hpp.below hX)
  have HB0 := Lib.hid hB0
  have HW := Lib.hid hW0
  have HX0 := Lib.hid (Below.refl W0.heap.size W0)
  clear hW0 hB0 hbp hpp hp
  have HAW := Lib.hid (pawake_any HO W0)
  have HFW := Lib.hid (fun X hX => pfew_any p X (HPp.out X hX))
  simp only [plV] at HFW
  cases hfw : fewB p with
  | false =>
    rw [hfw] at HFW
    clear hfw
    go_enter Try.func8, Try.ntmps8
    go_wp2_with (first
      | (go_at_call 9
         rw [HW.out]
         (with_reducible refine (HAW.out).mono ?_)
         rintro e w1 ⟨rfl, hbx⟩
         have HX1 := Lib.hid (HX0.out.trans (hbx.mono HX0.out.size))
         obtain ⟨p0z, p1z, p2z, p3z, p4z⟩ := HCp.out w1 HX1.out
         clear hbx)
      | (go_at_call 10
         (with_reducible refine (HFW.out _ HX1.out).mono ?_)
         rintro e w2 ⟨rfl, hbx⟩
         have HX2 := Lib.hid (HX1.out.trans (hbx.mono HX1.out.size))
         obtain ⟨p0z, p1z, p2z, p3z, p4z⟩ := HCp.out w2 HX2.out
         clear hbx))
    go_ret
    exact ⟨rfl, HB0.out.trans (HX2.out.mono HB0.out.size)⟩
  | true =>
    rw [hfw] at HFW
    obtain ⟨hfn, hfk⟩ := few_iff.1 hfw
    clear hfw
    have hbn : p.n ≤ 1000 := by omega
    have hbk : p.k ≤ 1000 := by omega
    have HFT := Lib.hid (fun X hX => HO.fit p X (HPp.out X hX) hbn hbk)
    simp only [plV] at HFT
    cases hft : fitP p with
    | false =>
      rw [hft] at HFT
      clear hft
      go_enter Try.func8, Try.ntmps8
      go_wp2_with (first
        | (go_at_call 9
           rw [HW.out]
           (with_reducible refine (HAW.out).mono ?_)
           rintro e w1 ⟨rfl, hbx⟩
           have HX1 := Lib.hid (HX0.out.trans (hbx.mono HX0.out.size))
           obtain ⟨p0z, p1z, p2z, p3z, p4z⟩ := HCp.out w1 HX1.out
           clear hbx)
        | (go_at_call 10
           (with_reducible refine (HFW.out _ HX1.out).mono ?_)
           rintro e w2 ⟨rfl, hbx⟩
           have HX2 := Lib.hid (HX1.out.trans (hbx.mono HX1.out.size))
           obtain ⟨p0z, p1z, p2z, p3z, p4z⟩ := HCp.out w2 HX2.out
           clear hbx)
        | (go_at_call 15
           (with_reducible refine (HFT.out _ HX2.out).mono ?_)
           rintro e w3 ⟨rfl, hbx⟩
           have HX3 := Lib.hid (HX2.out.trans (hbx.mono HX2.out.size))
           obtain ⟨p0z, p1z, p2z, p3z, p4z⟩ := HCp.out w3 HX3.out
           clear hbx))
      go_ret
      exact ⟨rfl, HB0.out.trans (HX3.out.mono HB0.out.size)⟩
    | true =>
      rw [hft] at HFT
      by_cases hnx : x < 0
      · clear hft
        go_enter Try.func8, Try.ntmps8
        go_wp2_with (first
          | (go_at_call 9
             rw [HW.out]
             (with_reducible refine (HAW.out).mono ?_)
             rintro e w1 ⟨rfl, hbx⟩
             have HX1 := Lib.hid (HX0.out.trans (hbx.mono HX0.out.size))
             obtain ⟨p0z, p1z, p2z, p3z, p4z⟩ := HCp.out w1 HX1.out
             clear hbx)
          | (go_at_call 10
             (with_reducible refine (HFW.out _ HX1.out).mono ?_)
             rintro e w2 ⟨rfl, hbx⟩
             have HX2 := Lib.hid (HX1.out.trans (hbx.mono HX1.out.size))
             obtain ⟨p0z, p1z, p2z, p3z, p4z⟩ := HCp.out w2 HX2.out
             clear hbx)
          | (go_at_call 15
             (with_reducible refine (HFT.out _ HX2.out).mono ?_)
             rintro e w3 ⟨rfl, hbx⟩
             have HX3 := Lib.hid (HX2.out.trans (hbx.mono HX2.out.size))
             obtain ⟨p0z, p1z, p2z, p3z, p4z⟩ := HCp.out w3 HX3.out
             clear hbx))
        go_ret
        exact ⟨rfl, HB0.out.trans (HX3.out.mono HB0.out.size)⟩
      by_cases hbx : ((p.k : Nat) : Int) ≤ x
      · clear hft
        go_enter Try.func8, Try.ntmps8
        go_wp2_with (first
          | (go_at_call 9
             rw [HW.out]
             (with_reducible refine (HAW.out).mono ?_)
             rintro e w1 ⟨rfl, hbx⟩
             have HX1 := Lib.hid (HX0.out.trans (hbx.mono HX0.out.size))
             obtain ⟨p0z, p1z, p2z, p3z, p4z⟩ := HCp.out w1 HX1.out
             clear hbx)
          | (go_at_call 10
             (with_reducible refine (HFW.out _ HX1.out).mono ?_)
             rintro e w2 ⟨rfl, hbx⟩
             have HX2 := Lib.hid (HX1.out.trans (hbx.mono HX1.out.size))
             obtain ⟨p0z, p1z, p2z, p3z, p4z⟩ := HCp.out w2 HX2.out
             clear hbx)
          | (go_at_call 15
             (with_reducible refine (HFT.out _ HX2.out).mono ?_)
             rintro e w3 ⟨rfl, hbx⟩
             have HX3 := Lib.hid (HX2.out.trans (hbx.mono HX2.out.size))
             obtain ⟨p0z, p1z, p2z, p3z, p4z⟩ := HCp.out w3 HX3.out
             clear hbx))
        go_ret
        exact ⟨rfl, HB0.out.trans (HX3.out.mono HB0.out.size)⟩
      have hff := fit_iff.1 hft
      obtain ⟨b, off, -, hA, -⟩ := (HPp.out W0 (Below.refl _ _)).s.at_ 0 (by have := hff.two; omega)
      have HST := Lib.hid hff.stage
      obtain ⟨hn8, hrow⟩ := may_rows hML hff.may
      have h6 := hff.six
      have h2 := hff.two
      obtain ⟨ki, rfl⟩ := Int.eq_ofNat_of_zero_le (show 0 ≤ x by omega)
      have lki : ki < p.k := by omega
      obtain ⟨xs, hxs⟩ : ∃ xs, p.s.getD ki Stg.zero = xs := ⟨_, rfl⟩
      have hxm : xs ∈ p.s := by rw [← hxs, List.getD_eq_getElem?_getD, List.getElem?_eq_getElem (by omega)]; exact List.getElem_mem _
      obtain ⟨M, hM, hM0, hM1, hge, hle⟩ := cyc_bounds hft hxm
      have ham := hff.am2
      have ham1 := hff.am1
      have hrd := hff.rd2
      have hrd1 := hff.rd1
      obtain ⟨-, -, hm1, hm2, -, -⟩ := hff.stage xs hxm
      have HCY := Lib.hid (fun X hX => HO.cycle p X (HPp.out X hX) hbn hbk)
      have hpm : ∀ X, PlIn X p → PlIn X p.more := fun X h => ⟨h.m, h.s⟩
      have HFQ0 := Lib.hid (fun X hX => HO.fit p.more X (hpm X (HPp.out X hX)) hbn hbk)
      have HCQ0 := Lib.hid (fun X hX => HO.cycle p.more X (hpm X (HPp.out X hX)) hbn hbk)
      have hcm := cyc_more hft
      obtain ⟨N, hN⟩ : ∃ N, cycP p = N := ⟨_, rfl⟩
      rw [hN] at HCY hge hle hcm
      obtain ⟨mn, hmn⟩ : ∃ mn, xs.mn = mn := ⟨_, rfl⟩
      rw [hmn] at hge hm1 hm2
      rw [hSL] at hM hge hcm
      simp only [plV] at HCY HFQ0 HCQ0
      have hSL2 := hSL
      clear hff hft hnx hbx hN hxm hpm
      obtain ⟨A, n, c, m, B, k, d, s, am, rd, hd⟩ := p
      simp only at *
      subst hA
      have HSC := Lib.hid (show ∀ j, j < k → ∀ X, Below W0.heap.size W0 X → X.cell? ⟨b, off + j * 3, none⟩ = some (.int .i64 (s.getD j Stg.zero).g) ∧ X.cell? ⟨b, off + j * 3 + 1, none⟩ = some (.int .i64 (s.getD j Stg.zero).mn) ∧ X.cell? ⟨b, off + j * 3 + 2, none⟩ = some (.int .i64 (s.getD j Stg.zero).mx) from fun j hj X hX => by
        obtain ⟨b', off', x', hA', hx', -, -, z0, z1, z2⟩ := (HPp.out X hX).s.at_ j hj
        cases hA'
        simp only at hx'
        rw [hx']
        exact ⟨z0, z1, z2⟩)
      have HGT := Lib.hid (show ∀ j, j < k → ∃ (x : Stg) (t : Nat), s.getD j Stg.zero = x ∧ x ∈ s ∧ x.g = (t : Int) ∧ t < 2 ^ n ∧ t < 256 ∧ freeM m (t : Int) = true ∧ x.g ≠ 0 ∧ 1 ≤ x.mn ∧ x.mn ≤ 200 ∧ x.mn ≤ x.mx ∧ x.mx ≤ 200 from fun j hj => by
        have hjl : j < s.length := by omega
        have hmem : s.getD j Stg.zero ∈ s := by rw [List.getD_eq_getElem?_getD, List.getElem?_eq_getElem hjl]; exact List.getElem_mem hjl
        obtain ⟨f1, f2, f3, f4, f5, f6⟩ := HST.out _ hmem
        obtain ⟨t, ht, ht2⟩ := set_nat (free_iff.1 f1).2.1
        have h8 := pow_le hn8
        rw [hML] at ht2
        exact ⟨_, t, rfl, hmem, ht, ht2, by omega, by rw [← ht]; exact f1, f2, f3, f4, f5, f6⟩)
      have fki : ¬ ((ki : Int) < 0) := by omega
      have qki : 0 ≤ (ki : Int) := by omega
      have rki : (ki : Int) < k := by omega
      have eki : ¬ (k ≤ ki) := by omega
      have dki : decide (k ≤ ki) = false := decide_eq_false eki
      have HSM := Lib.hid (show ∀ X, Below W0.heap.size W0 X → X.cell? ⟨b, off + ki * 3 + 1, none⟩ = some (.int .i64 mn) from fun X hX => by
        have := (HSC.out ki lki X hX).2.1
        rw [hxs, hmn] at this
        exact this)
      have wa : wrap64 (am + 1) = am + 1 := by unfold wrap64; omega
      have v14 : IntKind.i64.wrap (am + rd) = am + rd := by rw [IntKind.wrap_i64]; omega
      have v15 : IntKind.i64.wrap ((k : Int) * (am + rd)) = M := by rw [hM, IntKind.wrap_i64]; omega
      have v16 : IntKind.i64.wrap (mn + M) = mn + M := by rw [IntKind.wrap_i64]; omega
      have v20 : IntKind.i64.wrap (mn + M + k) = mn + M + k := by rw [IntKind.wrap_i64]; omega
      have v21 : IntKind.i64.wrap (mn + M + k - 1) = mn + M + k - 1 := by rw [IntKind.wrap_i64]; omega
      have v38 : IntKind.i64.wrap (N + k) = N + k := by rw [IntKind.wrap_i64]; omega
      have g22 : decide (mn + M + k - 1 ≤ N) = true := decide_eq_true hge
      have g25 : decide (N ≤ 3600) = true := decide_eq_true hle
      have HML := Lib.hid hML
      clear hxs hmn hSL hML hM hSL2 hrow
      go_enter Try.func8, Try.ntmps8
      go_wp2_with (first
        | (go_at_call 9
           rw [HW.out]
           (with_reducible refine (HAW.out).mono ?_)
           rintro e w1 ⟨rfl, hbx⟩
           have HX1 := Lib.hid (HX0.out.trans (hbx.mono HX0.out.size))
           obtain ⟨p0z, p1z, p2z, p3z, p4z⟩ := HCp.out w1 HX1.out
           clear hbx)
        | (go_at_call 10
           (with_reducible refine (HFW.out _ HX1.out).mono ?_)
           rintro e w2 ⟨rfl, hbx⟩
           have HX2 := Lib.hid (HX1.out.trans (hbx.mono HX1.out.size))
           obtain ⟨p0z, p1z, p2z, p3z, p4z⟩ := HCp.out w2 HX2.out
           clear hbx)
        | (go_at_call 15
           (with_reducible refine (HFT.out _ HX2.out).mono ?_)
           rintro e w3 ⟨rfl, hbx⟩
           have HX3 := Lib.hid (HX2.out.trans (hbx.mono HX2.out.size))
           obtain ⟨p0z, p1z, p2z, p3z, p4z⟩ := HCp.out w3 HX3.out
           clear hbx)
        | (go_at_call 22
           (with_reducible refine (HCY.out _ HX3.out).mono ?_)
           rintro e w4 ⟨rfl, hbx⟩
           have HX4 := Lib.hid (HX3.out.trans (hbx.mono HX3.out.size))
           obtain ⟨p0z, p1z, p2z, p3z, p4z⟩ := HCp.out w4 HX4.out
           have v2 : (w4.alloc (.cells #[.slice A n c, .slice (some ⟨b, off, none⟩) k d, .int .i64 am, .int .i64 rd, .int .i64 hd] 25)).cell? ⟨w.heap.size, 2, none⟩ = some (.int .i64 am) := (HCp.out _ (HX4.out.alloc HX4.out.size _)).2.2.1
           clear hbx))
      obtain ⟨W5, hW5⟩ : ∃ W5, w4.alloc (.cells #[.slice A n c, .slice (some ⟨b, off, none⟩) k d, .int .i64 (am + 1), .int .i64 rd, .int .i64 hd] 25) = W5 := ⟨_, rfl⟩
      rw [hW5]
      have hbq : W5.heap[w4.heap.size]? = some (.cells #[.slice A n c, .slice (some ⟨b, off, none⟩) k d, .int .i64 (am + 1), .int .i64 rd, .int .i64 hd] 25 (0, 0)) := by rw [← hW5]; exact heap_alloc_new w4 _
      have hX5 : Below W0.heap.size W0 W5 := by rw [← hW5]; exact HX4.out.alloc HX4.out.size _
      have HX5 := Lib.hid hX5
      have HF := Lib.hid (show ∀ X, Below W5.heap.size W5 X → X.cell? ⟨w.heap.size, 1, none⟩ = some (.slice (some ⟨b, off, none⟩) k d) ∧ X.cell? ⟨w.heap.size, 2, none⟩ = some (.int .i64 am) ∧ X.cell? ⟨w.heap.size, 3, none⟩ = some (.int .i64 rd) ∧ X.cell? ⟨b, off + ki * 3 + 1, none⟩ = some (.int .i64 mn) ∧
          X.cell? ⟨w4.heap.size, 0, none⟩ = some (.slice A n c) ∧ X.cell? ⟨w4.heap.size, 1, none⟩ = some (.slice (some ⟨b, off, none⟩) k d) ∧ X.cell? ⟨w4.heap.size, 2, none⟩ = some (.int .i64 (am + 1)) ∧ X.cell? ⟨w4.heap.size, 3, none⟩ = some (.int .i64 rd) ∧ X.cell? ⟨w4.heap.size, 4, none⟩ = some (.int .i64 hd) from fun X hX => by
        have hX0 := HX5.out.trans (hX.mono HX5.out.size)
        obtain ⟨-, a1, a2, a3, -⟩ := HCp.out X hX0
        have h := (hX.block w4.heap.size ((Array.getElem?_eq_some_iff.1 hbq).1)).trans hbq
        exact ⟨a1, a2, a3, HSM.out X hX0, (cell_of_row _ _ _ _ _ _ h).trans rfl, (cell_of_row _ _ _ _ _ _ h).trans rfl, (cell_of_row _ _ _ _ _ _ h).trans rfl, (cell_of_row _ _ _ _ _ _ h).trans rfl, (cell_of_row _ _ _ _ _ _ h).trans rfl⟩)
      have HFQ := Lib.hid (show ∀ X, Below W5.heap.size W5 X → Calls Try.prog 15 #[.agg #[.slice A n c, .slice (some ⟨b, off, none⟩) k d, .int .i64 (am + 1), .int .i64 rd, .int .i64 hd]] X fun e w' => e = .returned (.bool (fitP (Pl.more ⟨A, n, c, m, some ⟨b, off, none⟩, k, d, s, am, rd, hd⟩))) ∧ Below X.heap.size X w' from fun X hX => HFQ0.out X (HX5.out.trans (hX.mono HX5.out.size)))
      have HCQ := Lib.hid (show ∀ X, Below W5.heap.size W5 X → Calls Try.prog 22 #[.agg #[.slice A n c, .slice (some ⟨b, off, none⟩) k d, .int .i64 (am + 1), .int .i64 rd, .int .i64 hd]] X fun e w' => e = .returned (.int .i64 (cycP (Pl.more ⟨A, n, c, m, some ⟨b, off, none⟩, k, d, s, am, rd, hd⟩))) ∧ Below X.heap.size X w' from fun X hX => HCQ0.out X (HX5.out.trans (hX.mono HX5.out.size)))
      obtain ⟨VQ, hVQ⟩ : ∃ v, fitP (Pl.more ⟨A, n, c, m, some ⟨b, off, none⟩, k, d, s, am, rd, hd⟩) = v := ⟨_, rfl⟩
      clear v2 p0z p1z p2z p3z p4z hW5 hbq hX5
      rw [hVQ] at HFQ hcm
      cases VQ
      · clear hcm hVQ
        have hSd : Below W5.heap.size W5 W5.drew := (Below.refl _ W5).drew
        refine wp_region_held_drew (S := fun X => Below W5.heap.size W5 X) (by kernel_rfl) hSd (fun hHeld => ?_)
        refine tk 0 (.int .i64 N) hHeld (fun w => ?_) ?_
        · go_simp
        simp only [PT]
        refine tk 1 (.pointer (some ⟨w.heap.size, 1, none⟩)) hHeld (fun w => ?_) ?_
        · go_simp
        simp only [PT]
        refine tkS 2 (.slice (some ⟨b, off, none⟩) k d) hHeld (fun w hq => ?_) ?_
        · obtain ⟨a1, a2, a3, z1, c0, c1, c2, c3, c4⟩ := HF.out w hq
          go_simp
        simp only [PT]
        refine tk 3 (.int .i64 ki) hHeld (fun w => ?_) ?_
        · go_simp
        simp only [PT]
        refine tk 4 (.pointer (some ⟨b, off + ki * 3, none⟩)) hHeld (fun w => ?_) ?_
        · go_simp
        simp only [PT]
        refine tk 5 (.pointer (some ⟨b, off + ki * 3 + 1, none⟩)) hHeld (fun w => ?_) ?_
        · go_simp
        simp only [PT]
        refine tkS 6 (.int .i64 mn) hHeld (fun w hq => ?_) ?_
        · obtain ⟨a1, a2, a3, z1, c0, c1, c2, c3, c4⟩ := HF.out w hq
          go_simp
        simp only [PT]
        refine tk 7 (.pointer (some ⟨w.heap.size, 1, none⟩)) hHeld (fun w => ?_) ?_
        · go_simp
        simp only [PT]
        refine tkS 8 (.slice (some ⟨b, off, none⟩) k d) hHeld (fun w hq => ?_) ?_
        · obtain ⟨a1, a2, a3, z1, c0, c1, c2, c3, c4⟩ := HF.out w hq
          go_simp
        simp only [PT]
        refine tk 9 (.int .i64 k) hHeld (fun w => ?_) ?_
        · go_simp
        simp only [PT]
        refine tk 10 (.pointer (some ⟨w.heap.size, 2, none⟩)) hHeld (fun w => ?_) ?_
        · go_simp
        simp only [PT]
        refine tkS 11 (.int .i64 am) hHeld (fun w hq => ?_) ?_
        · obtain ⟨a1, a2, a3, z1, c0, c1, c2, c3, c4⟩ := HF.out w hq
          go_simp
        simp only [PT]
        refine tk 12 (.pointer (some ⟨w.heap.size, 3, none⟩)) hHeld (fun w => ?_) ?_
        · go_simp
        simp only [PT]
        refine tkS 13 (.int .i64 rd) hHeld (fun w hq => ?_) ?_
        · obtain ⟨a1, a2, a3, z1, c0, c1, c2, c3, c4⟩ := HF.out w hq
          go_simp
        simp only [PT]
        refine tk 14 (.int .i64 (am + rd)) hHeld (fun w => ?_) ?_
        · go_simp
        simp only [PT]
        refine tk 15 (.int .i64 M) hHeld (fun w => ?_) ?_
        · go_simp
        simp only [PT]
        refine tk 16 (.int .i64 (mn + M)) hHeld (fun w => ?_) ?_
        · go_simp
        simp only [PT]
        refine tk 17 (.pointer (some ⟨w.heap.size, 1, none⟩)) hHeld (fun w => ?_) ?_
        · go_simp
        simp only [PT]
        refine tkS 18 (.slice (some ⟨b, off, none⟩) k d) hHeld (fun w hq => ?_) ?_
        · obtain ⟨a1, a2, a3, z1, c0, c1, c2, c3, c4⟩ := HF.out w hq
          go_simp
        simp only [PT]
        refine tk 19 (.int .i64 k) hHeld (fun w => ?_) ?_
        · go_simp
        simp only [PT]
        refine tk 20 (.int .i64 (mn + M + k)) hHeld (fun w => ?_) ?_
        · go_simp
        simp only [PT]
        refine tk 21 (.int .i64 (mn + M + k - 1)) hHeld (fun w => ?_) ?_
        · go_simp
        simp only [PT]
        refine tk 22 (.bool true) hHeld (fun w => ?_) ?_
        · go_simp
        simp only [PT]
        refine tk 23 (.bool true) hHeld (fun w => ?_) ?_
        · go_simp
        simp only [PT]
        refine tk 24 (.int .i64 N) hHeld (fun w => ?_) ?_
        · go_simp
        simp only [PT]
        refine tk 25 (.bool true) hHeld (fun w => ?_) ?_
        · go_simp
        simp only [PT]
        refine tk 26 (.bool true) hHeld (fun w => ?_) ?_
        · go_simp
        simp only [PT]
        refine tk 27 (.bool true) hHeld (fun w => ?_) ?_
        · go_simp
        simp only [PT]
        refine tkS 28 (.agg #[.slice A n c, .slice (some ⟨b, off, none⟩) k d, .int .i64 (am + 1), .int .i64 rd, .int .i64 hd]) hHeld (fun w hq => ?_) ?_
        · obtain ⟨a1, a2, a3, z1, c0, c1, c2, c3, c4⟩ := HF.out w hq
          go_simp
        simp only [PT]
        refine one_step 29 (by kernel_rfl) rfl (fun Kq hKq => ?_)
        go_simp
        go_at_call 15
        (with_reducible refine (HFQ.out _ hSd).mono ?_)
        rintro e y1 ⟨rfl, hbx⟩
        have hS1 : Below W5.heap.size W5 y1 := hSd.trans (hbx.mono hSd.size)
        clear hbx
        refine hKq.out _ _ hS1 (fun hHeld0 => ?_)
        clear hKq Kq hHeld
        have hHeld := hHeld0
        clear hHeld0
        try simp only [PT]
        refine tk 30 (.bool true) hHeld (fun w => ?_) ?_
        · go_simp
        simp only [PT]
        refine tk 31 (.bool true) hHeld (fun w => ?_) ?_
        · go_simp
        simp only [PT]
        refine tkO 32 hHeld ?_
        simp only [PT]
        refine tkO 33 hHeld ?_
        simp only [PT]
        refine tkO 34 hHeld ?_
        simp only [PT]
        refine tkO 35 hHeld ?_
        simp only [PT]
        refine tkO 36 hHeld ?_
        simp only [PT]
        refine tkO 37 hHeld ?_
        simp only [PT]
        refine tkO 38 hHeld ?_
        simp only [PT]
        refine tkO 39 hHeld ?_
        simp only [PT]
        refine tk 40 (.bool true) hHeld (fun w => ?_) ?_
        · go_simp
        simp only [PT]
        refine tk 41 (.bool true) hHeld (fun w => ?_) ?_
        · go_simp
        simp only [PT]
        refine tk 42 (.bool true) hHeld (fun w => ?_) ?_
        · go_simp
        simp only [PT]
        refine wpAnyH_done (by kernel_rfl) ?_ _
        clear hHeld
        go_wp2
        go_ret
        exact ⟨by first | rfl | simp, HB0.out.trans ((HX5.out.trans (hS1.mono HX5.out.size)).mono HB0.out.size)⟩
      · have hcm2 := hcm rfl
        rw [hcm2] at HCQ
        clear hcm hcm2 hVQ
        have hSd : Below W5.heap.size W5 W5.drew := (Below.refl _ W5).drew
        refine wp_region_held_drew (S := fun X => Below W5.heap.size W5 X) (by kernel_rfl) hSd (fun hHeld => ?_)
        refine tk 0 (.int .i64 N) hHeld (fun w => ?_) ?_
        · go_simp
        simp only [PT]
        refine tk 1 (.pointer (some ⟨w.heap.size, 1, none⟩)) hHeld (fun w => ?_) ?_
        · go_simp
        simp only [PT]
        refine tkS 2 (.slice (some ⟨b, off, none⟩) k d) hHeld (fun w hq => ?_) ?_
        · obtain ⟨a1, a2, a3, z1, c0, c1, c2, c3, c4⟩ := HF.out w hq
          go_simp
        simp only [PT]
        refine tk 3 (.int .i64 ki) hHeld (fun w => ?_) ?_
        · go_simp
        simp only [PT]
        refine tk 4 (.pointer (some ⟨b, off + ki * 3, none⟩)) hHeld (fun w => ?_) ?_
        · go_simp
        simp only [PT]
        refine tk 5 (.pointer (some ⟨b, off + ki * 3 + 1, none⟩)) hHeld (fun w => ?_) ?_
        · go_simp
        simp only [PT]
        refine tkS 6 (.int .i64 mn) hHeld (fun w hq => ?_) ?_
        · obtain ⟨a1, a2, a3, z1, c0, c1, c2, c3, c4⟩ := HF.out w hq
          go_simp
        simp only [PT]
        refine tk 7 (.pointer (some ⟨w.heap.size, 1, none⟩)) hHeld (fun w => ?_) ?_
        · go_simp
        simp only [PT]
        refine tkS 8 (.slice (some ⟨b, off, none⟩) k d) hHeld (fun w hq => ?_) ?_
        · obtain ⟨a1, a2, a3, z1, c0, c1, c2, c3, c4⟩ := HF.out w hq
          go_simp
        simp only [PT]
        refine tk 9 (.int .i64 k) hHeld (fun w => ?_) ?_
        · go_simp
        simp only [PT]
        refine tk 10 (.pointer (some ⟨w.heap.size, 2, none⟩)) hHeld (fun w => ?_) ?_
        · go_simp
        simp only [PT]
        refine tkS 11 (.int .i64 am) hHeld (fun w hq => ?_) ?_
        · obtain ⟨a1, a2, a3, z1, c0, c1, c2, c3, c4⟩ := HF.out w hq
          go_simp
        simp only [PT]
        refine tk 12 (.pointer (some ⟨w.heap.size, 3, none⟩)) hHeld (fun w => ?_) ?_
        · go_simp
        simp only [PT]
        refine tkS 13 (.int .i64 rd) hHeld (fun w hq => ?_) ?_
        · obtain ⟨a1, a2, a3, z1, c0, c1, c2, c3, c4⟩ := HF.out w hq
          go_simp
        simp only [PT]
        refine tk 14 (.int .i64 (am + rd)) hHeld (fun w => ?_) ?_
        · go_simp
        simp only [PT]
        refine tk 15 (.int .i64 M) hHeld (fun w => ?_) ?_
        · go_simp
        simp only [PT]
        refine tk 16 (.int .i64 (mn + M)) hHeld (fun w => ?_) ?_
        · go_simp
        simp only [PT]
        refine tk 17 (.pointer (some ⟨w.heap.size, 1, none⟩)) hHeld (fun w => ?_) ?_
        · go_simp
        simp only [PT]
        refine tkS 18 (.slice (some ⟨b, off, none⟩) k d) hHeld (fun w hq => ?_) ?_
        · obtain ⟨a1, a2, a3, z1, c0, c1, c2, c3, c4⟩ := HF.out w hq
          go_simp
        simp only [PT]
        refine tk 19 (.int .i64 k) hHeld (fun w => ?_) ?_
        · go_simp
        simp only [PT]
        refine tk 20 (.int .i64 (mn + M + k)) hHeld (fun w => ?_) ?_
        · go_simp
        simp only [PT]
        refine tk 21 (.int .i64 (mn + M + k - 1)) hHeld (fun w => ?_) ?_
        · go_simp
        simp only [PT]
        refine tk 22 (.bool true) hHeld (fun w => ?_) ?_
        · go_simp
        simp only [PT]
        refine tk 23 (.bool true) hHeld (fun w => ?_) ?_
        · go_simp
        simp only [PT]
        refine tk 24 (.int .i64 N) hHeld (fun w => ?_) ?_
        · go_simp
        simp only [PT]
        refine tk 25 (.bool true) hHeld (fun w => ?_) ?_
        · go_simp
        simp only [PT]
        refine tk 26 (.bool true) hHeld (fun w => ?_) ?_
        · go_simp
        simp only [PT]
        refine tk 27 (.bool true) hHeld (fun w => ?_) ?_
        · go_simp
        simp only [PT]
        refine tkS 28 (.agg #[.slice A n c, .slice (some ⟨b, off, none⟩) k d, .int .i64 (am + 1), .int .i64 rd, .int .i64 hd]) hHeld (fun w hq => ?_) ?_
        · obtain ⟨a1, a2, a3, z1, c0, c1, c2, c3, c4⟩ := HF.out w hq
          go_simp
        simp only [PT]
        refine one_step 29 (by kernel_rfl) rfl (fun Kq hKq => ?_)
        go_simp
        go_at_call 15
        (with_reducible refine (HFQ.out _ hSd).mono ?_)
        rintro e y1 ⟨rfl, hbx⟩
        have hS1 : Below W5.heap.size W5 y1 := hSd.trans (hbx.mono hSd.size)
        clear hbx
        refine hKq.out _ _ hS1 (fun hHeld0 => ?_)
        clear hKq Kq hHeld
        have hHeld := hHeld0
        clear hHeld0
        try simp only [PT]
        refine tk 30 (.bool false) hHeld (fun w => ?_) ?_
        · go_simp
        simp only [PT]
        refine tk 31 (.bool false) hHeld (fun w => ?_) ?_
        · go_simp
        simp only [PT]
        refine tkS 32 (.agg #[.slice A n c, .slice (some ⟨b, off, none⟩) k d, .int .i64 (am + 1), .int .i64 rd, .int .i64 hd]) hHeld (fun w hq => ?_) ?_
        · obtain ⟨a1, a2, a3, z1, c0, c1, c2, c3, c4⟩ := HF.out w hq
          go_simp
        simp only [PT]
        refine tk 34 (.int .i64 N) hHeld (fun w => ?_) ?_
        · go_simp
        simp only [PT]
        refine tk 35 (.pointer (some ⟨w.heap.size, 1, none⟩)) hHeld (fun w => ?_) ?_
        · go_simp
        simp only [PT]
        refine tkS 36 (.slice (some ⟨b, off, none⟩) k d) hHeld (fun w hq => ?_) ?_
        · obtain ⟨a1, a2, a3, z1, c0, c1, c2, c3, c4⟩ := HF.out w hq
          go_simp
        simp only [PT]
        refine tk 37 (.int .i64 k) hHeld (fun w => ?_) ?_
        · go_simp
        simp only [PT]
        refine tk 38 (.int .i64 (N + k)) hHeld (fun w => ?_) ?_
        · go_simp
        simp only [PT]
        refine one_step 33 (by kernel_rfl) rfl (fun Kq hKq => ?_)
        go_simp
        go_at_call 22
        (with_reducible refine (HCQ.out _ hS1).mono ?_)
        rintro e y2 ⟨rfl, hbx⟩
        have hS2 : Below W5.heap.size W5 y2 := hS1.trans (hbx.mono hS1.size)
        clear hbx
        refine hKq.out _ _ hS2 (fun hHeld0 => ?_)
        clear hKq Kq hHeld
        have hHeld := hHeld0
        clear hHeld0
        try simp only [PT]
        refine tk 39 (.bool true) hHeld (fun w => ?_) ?_
        · go_simp
        simp only [PT]
        refine tk 40 (.bool true) hHeld (fun w => ?_) ?_
        · go_simp
        simp only [PT]
        refine tk 41 (.bool true) hHeld (fun w => ?_) ?_
        · go_simp
        simp only [PT]
        refine tk 42 (.bool true) hHeld (fun w => ?_) ?_
        · go_simp
        simp only [PT]
        refine wpAnyH_done (by kernel_rfl) ?_ _
        clear hHeld
        go_wp2
        go_ret
        exact ⟨by first | rfl | simp, HB0.out.trans ((HX5.out.trans (hS2.mono HX5.out.size)).mono HB0.out.size)⟩
end Go.Proofs.Ytjjjfckkglcdfaa
