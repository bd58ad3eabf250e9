/- The walk over the law PlanAll. -/
import Derived.Test.YtjjjfckkglcdfaaPlnPure
import Derived.Test.YtjjjfckkglcdfaaBasTakeS
namespace Go.Proofs.Ytjjjfckkglcdfaa
set_option maxRecDepth 100000
set_option linter.unusedVariables false
set_option linter.unusedSimpArgs false
open Go.RowKit

theorem all_three {p q r : Pl} (hp : p.m.length = p.n) (hq : q.m.length = q.n) (hr : r.m.length = r.n) : allP [p, q, r] = ((fitP p && (fitP q && fitP r)) && ((p.n : Int) == (q.n : Int) && (q.n : Int) == (r.n : Int))) := by
  rw [Bool.eq_iff_iff, all_iff]
  simp only [List.length_cons, List.length_nil, List.mem_cons, List.not_mem_nil, or_false, forall_eq_or_imp, forall_eq, List.headD_cons, Bool.and_eq_true, beq_iff_eq]
  constructor
  · rintro ⟨-, ⟨h1, -⟩, ⟨h2, h3⟩, h4, h5⟩
    exact ⟨⟨h1, h2, h4⟩, by omega, by omega⟩
  · rintro ⟨⟨h1, h2, h3⟩, h4, h5⟩
    exact ⟨by omega, ⟨h1, trivial⟩, ⟨h2, by omega⟩, h3, by omega⟩
theorem all_turned {p q r : Pl} : allP [r, p, q] = allP [p, q, r] := by
  rw [Bool.eq_iff_iff, all_iff, all_iff]
  simp only [List.length_cons, List.length_nil, List.mem_cons, List.not_mem_nil, or_false, forall_eq_or_imp, forall_eq, List.headD_cons]
  constructor
  · rintro ⟨-, ⟨h1, -⟩, ⟨h2, h3⟩, h4, h5⟩
    exact ⟨by omega, ⟨h2, trivial⟩, ⟨h4, by omega⟩, h1, by omega⟩
  · rintro ⟨-, ⟨h1, -⟩, ⟨h2, h3⟩, h4, h5⟩
    exact ⟨by omega, ⟨h4, trivial⟩, ⟨h1, by omega⟩, h2, by omega⟩
def SmallP (p : Pl) : Prop := p.n ≤ 1000 ∧ p.k ≤ 1000
theorem small_one {p : Pl} (h1 : SmallP p) : ∀ x ∈ [p], x.n ≤ 1000 ∧ x.k ≤ 1000 := fun x hx => by
  simp only [List.mem_cons, List.not_mem_nil, or_false] at hx
  subst hx
  exact h1
theorem small_more {p : Pl} {l : List Pl} (h1 : SmallP p) (h2 : ∀ x ∈ l, x.n ≤ 1000 ∧ x.k ≤ 1000) : ∀ x ∈ p :: l, x.n ≤ 1000 ∧ x.k ≤ 1000 := fun x hx => by
  rcases List.mem_cons.1 hx with rfl | hx
  · exact h1
  · exact h2 x hx
theorem all_one (p : Pl) : allP [p] = fitP p := by
  rw [Bool.eq_iff_iff, all_iff]
  simp
theorem all_four (p q r : Pl) : allP [p, q, r, p] = false := by
  rw [← Bool.not_eq_true, all_iff]
  simp
theorem all_nil : allP [] = false := by
  rw [← Bool.not_eq_true, all_iff]
  simp
set_option maxHeartbeats 8000000 in
theorem pall_any (HO : PlnOk) (p q r : Pl) (w : World) (hp : PlIn w p) (hq : PlIn w q) (hr : PlIn w r) :
    Calls Try.prog 7 #[plV p, plV q, plV r] w fun e w' => e = .returned (.bool true) ∧ Below w.heap.size w w' := by
  have hLp := hp.m.len
  have hLq := hq.m.len
  have hLr := hr.m.len
  have hsp := hp.m.small
  have hsq := hq.m.small
  have hsr := hr.m.small
  simp only [plV]
  obtain ⟨W0, hW0⟩ : ∃ W0, ((((w.alloc (.cells #[.slice p.A p.n p.c, .slice p.B p.k p.d, .int .i64 p.am, .int .i64 p.rd, .int .i64 p.hd] 25))).alloc (.cells #[.slice q.A q.n q.c, .slice q.B q.k q.d, .int .i64 q.am, .int .i64 q.rd, .int .i64 q.hd] 25))).alloc (.cells #[.slice r.A r.n r.c, .slice r.B r.k r.d, .int .i64 r.am, .int .i64 r.rd, .int .i64 r.hd] 25) = W0 := ⟨_, rfl⟩
  have hB0 : Below w.heap.size w W0 := by rw [← hW0]; exact ((one_alloc w _).alloc (by simp) _).alloc (by simp <;> omega) _
  have hbp : BoxP W0 w.heap.size p := by rw [← hW0]; exact (Below.heap_alloc _ _ _ (by simp <;> omega)).trans (heap_alloc2_old w _ _)
  have hbq : BoxP W0 (w.heap.size + 1) q := by rw [← hW0]; exact (Below.heap_alloc _ _ _ (by simp <;> omega)).trans (heap_alloc2_new w _ _)
  have hbr : BoxP W0 (w.heap.size + 1 + 1) r := by rw [← hW0, show w.heap.size + 1 + 1 = ((w.alloc (.cells #[.slice p.A p.n p.c, .slice p.B p.k p.d, .int .i64 p.am, .int .i64 p.rd, .int .i64 p.hd] 25)).alloc (.cells #[.slice q.A q.n q.c, .slice q.B q.k q.d, .int .i64 q.am, .int .i64 q.rd, .int .i64 q.hd] 25)).heap.size by simp]; exact BoxP.new _ r
  have hpp : PlIn W0 p := hp.below hB0
  have HCp := Lib.hid (show ∀ X, Below W0.heap.size W0 X → X.cell? ⟨w.heap.size, 0, none⟩ = some (.slice p.A p.n p.c) ∧ X.cell? ⟨w.heap.size, 1, none⟩ = some (.slice p.B p.k p.d) ∧ X.cell? ⟨w.heap.size, 2, none⟩ = some (.int .i64 p.am) ∧ X.cell? ⟨w.heap.size, 3, none⟩ = some (.int .i64 p.rd) ∧ X.cell? ⟨w.heap.size, 4, none⟩ = some (.int .i64 p.hd) from fun X hX => (hbp.below hX).cells)
  have HPp := Lib.hid (show ∀ X, Below W0.heap.size W0 X → PlIn X p from fun X hX => hpp.below hX)
  have hpq : PlIn W0 q := hq.below hB0
  have HCq := Lib.hid (show ∀ X, Below W0.heap.size W0 X → X.cell? ⟨w.heap.size + 1, 0, none⟩ = some (.slice q.A q.n q.c) ∧ X.cell? ⟨w.heap.size + 1, 1, none⟩ = some (.slice q.B q.k q.d) ∧ X.cell? ⟨w.heap.size + 1, 2, none⟩ = some (.int .i64 q.am) ∧ X.cell? ⟨w.heap.size + 1, 3, none⟩ = some (.int .i64 q.rd) ∧ X.cell? ⟨w.heap.size + 1, 4, none⟩ = some (.int .i64 q.hd) from fun X hX => (hbq.below hX).cells)
  have HPq := Lib.hid (show ∀ X, Below W0.heap.size W0 X → PlIn X q from fun X hX => hpq.below hX)
  have hpr : PlIn W0 r := hr.below hB0
  have HCr := Lib.hid (show ∀ X, Below W0.heap.size W0 X → X.cell? ⟨w.heap.size + 1 + 1, 0, none⟩ = some (.slice r.A r.n r.c) ∧ X.cell? ⟨w.heap.size + 1 + 1, 1, none⟩ = some (.slice r.B r.k r.d) ∧ X.cell? ⟨w.heap.size + 1 + 1, 2, none⟩ = some (.int .i64 r.am) ∧ X.cell? ⟨w.heap.size + 1 + 1, 3, none⟩ = some (.int .i64 r.rd) ∧ X.cell? ⟨w.heap.size + 1 + 1, 4, none⟩ = some (.int .i64 r.hd) from fun X hX => (hbr.below hX).cells)
  have HPr := Lib.hid (show ∀ X, Below W0.heap.size W0 X → PlIn X r from fun X hX => hpr.below hX)
  have HB0 := Lib.hid hB0
  have HW := Lib.hid hW0
  have HX0 := Lib.hid (Below.refl W0.heap.size W0)
  clear hW0 hB0 hbp hpp hp hbq hpq hq hbr hpr hr
  have HAW := Lib.hid (pawake_any HO W0)
  have HFp := Lib.hid (fun X hX => pfew_any p X (HPp.out X hX))
  have HFq := Lib.hid (fun X hX => pfew_any q X (HPq.out X hX))
  have HFr := Lib.hid (fun X hX => pfew_any r X (HPr.out X hX))
  have HAN := Lib.hid (fun (X : World) (hX : Below W0.heap.size W0 X) => HO.all none 0 0 [] X (Pls.nil X) (by omega) (fun x hx => by cases hx))
  rw [all_nil] at HAN
  simp only [plV] at HFp HFq HFr
  obtain ⟨a, ha⟩ : ∃ a, fewB p = a := ⟨_, rfl⟩
  obtain ⟨b, hb⟩ : ∃ b, fewB q = b := ⟨_, rfl⟩
  obtain ⟨d, hd⟩ : ∃ d, fewB r = d := ⟨_, rfl⟩
  rw [ha] at HFp
  rw [hb] at HFq
  rw [hd] at HFr
  cases a
  case' true =>
    cases b
    case' true =>
      cases d
  case true.true.true =>
    have fp := few_iff.1 ha
    have fq := few_iff.1 hb
    have fr := few_iff.1 hd
    clear ha hb hd
    have bp : p.n ≤ 1000 ∧ p.k ≤ 1000 := by omega
    have bq : q.n ≤ 1000 ∧ q.k ≤ 1000 := by omega
    have br : r.n ≤ 1000 ∧ r.k ≤ 1000 := by omega
    have HTp := Lib.hid (fun X hX => HO.fit p X (HPp.out X hX) bp.1 bp.2)
    have HTq := Lib.hid (fun X hX => HO.fit q X (HPq.out X hX) bq.1 bq.2)
    have HTr := Lib.hid (fun X hX => HO.fit r X (HPr.out X hX) br.1 br.2)
    have HA3 := Lib.hid (fun (X : World) (hX : Below W0.heap.size W0 X) => HO.all _ 3 3 [p, q, r] (X.alloc (.cells #[.slice p.A p.n p.c, .slice p.B p.k p.d, .int .i64 p.am, .int .i64 p.rd, .int .i64 p.hd, .slice q.A q.n q.c, .slice q.B q.k q.d, .int .i64 q.am, .int .i64 q.rd, .int .i64 q.hd, .slice r.A r.n r.c, .slice r.B r.k r.d, .int .i64 r.am, .int .i64 r.rd, .int .i64 r.hd] 25)) (pls_three X p q r (HPp.out X hX) (HPq.out X hX) (HPr.out X hX)) (by omega) (small_more bp (small_more bq (small_one br))))
    have HB3 := Lib.hid (fun (X : World) (hX : Below W0.heap.size W0 X) => HO.all _ 3 3 [r, p, q] (X.alloc (.cells #[.slice r.A r.n r.c, .slice r.B r.k r.d, .int .i64 r.am, .int .i64 r.rd, .int .i64 r.hd, .slice p.A p.n p.c, .slice p.B p.k p.d, .int .i64 p.am, .int .i64 p.rd, .int .i64 p.hd, .slice q.A q.n q.c, .slice q.B q.k q.d, .int .i64 q.am, .int .i64 q.rd, .int .i64 q.hd] 25)) (pls_three X r p q (HPr.out X hX) (HPp.out X hX) (HPq.out X hX)) (by omega) (small_more br (small_more bp (small_one bq))))
    have HA1 := Lib.hid (fun (X : World) (hX : Below W0.heap.size W0 X) => HO.all _ 1 1 [p] (X.alloc (.cells #[.slice p.A p.n p.c, .slice p.B p.k p.d, .int .i64 p.am, .int .i64 p.rd, .int .i64 p.hd] 25)) (pls_one X p (HPp.out X hX)) (by omega) (small_one bp))
    have HA4 := Lib.hid (fun (X : World) (hX : Below W0.heap.size W0 X) => HO.all _ 4 4 [p, q, r, p] (X.alloc (.cells #[.slice p.A p.n p.c, .slice p.B p.k p.d, .int .i64 p.am, .int .i64 p.rd, .int .i64 p.hd, .slice q.A q.n q.c, .slice q.B q.k q.d, .int .i64 q.am, .int .i64 q.rd, .int .i64 q.hd, .slice r.A r.n r.c, .slice r.B r.k r.d, .int .i64 r.am, .int .i64 r.rd, .int .i64 r.hd, .slice p.A p.n p.c, .slice p.B p.k p.d, .int .i64 p.am, .int .i64 p.rd, .int .i64 p.hd] 25)) (pls_four X p q r p (HPp.out X hX) (HPq.out X hX) (HPr.out X hX) (HPp.out X hX)) (by omega) (small_more bp (small_more bq (small_more br (small_one bp)))))
    rw [all_turned] at HB3
    rw [all_three hLp hLq hLr] at HA3 HB3
    rw [all_one] at HA1
    rw [all_four] at HA4
    simp only [plV] at HTp HTq HTr
    obtain ⟨Fp, hFp⟩ : ∃ v, fitP p = v := ⟨_, rfl⟩
    obtain ⟨Fq, hFq⟩ : ∃ v, fitP q = v := ⟨_, rfl⟩
    obtain ⟨Fr, hFr⟩ : ∃ v, fitP r = v := ⟨_, rfl⟩
    obtain ⟨M1, hM1⟩ : ∃ v, ((p.n : Int) == (q.n : Int)) = v := ⟨_, rfl⟩
    obtain ⟨M2, hM2⟩ : ∃ v, ((q.n : Int) == (r.n : Int)) = v := ⟨_, rfl⟩
    simp only [hFp, hFq, hFr, hM1, hM2] at HTp HTq HTr HA3 HB3 HA1
    clear hFp hFq hFr fp fq fr bp bq br hLp hLq hLr
    cases M1
    · cases Fp
      · clear HTq HTr
        simp only [Bool.true_and, Bool.false_and, Bool.and_true, Bool.and_false] at HA3 HB3
        go_enter Try.func7, Try.ntmps7
        go_wp2_with (first
          | (go_at_call 9
             rw [HW.out]
             (with_reducible refine (HAW.out).mono ?_)
             rintro e w1 ⟨rfl, hbx⟩
             have HX1 := Lib.hid (HX0.out.trans (hbx.mono HX0.out.size))
             obtain ⟨p0z, p1z, p2z, p3z, p4z⟩ := HCp.out w1 HX1.out
             obtain ⟨q0z, q1z, q2z, q3z, q4z⟩ := HCq.out w1 HX1.out
             obtain ⟨r0z, r1z, r2z, r3z, r4z⟩ := HCr.out w1 HX1.out
             clear hbx)
          | (go_at_call 10
             (with_reducible refine (HFp.out _ HX1.out).mono ?_)
             rintro e w2 ⟨rfl, hbx⟩
             have HX2 := Lib.hid (HX1.out.trans (hbx.mono HX1.out.size))
             obtain ⟨p0z, p1z, p2z, p3z, p4z⟩ := HCp.out w2 HX2.out
             obtain ⟨q0z, q1z, q2z, q3z, q4z⟩ := HCq.out w2 HX2.out
             obtain ⟨r0z, r1z, r2z, r3z, r4z⟩ := HCr.out w2 HX2.out
             clear hbx)
          | (go_at_call 10
             (with_reducible refine (HFq.out _ HX2.out).mono ?_)
             rintro e w3 ⟨rfl, hbx⟩
             have HX3 := Lib.hid (HX2.out.trans (hbx.mono HX2.out.size))
             obtain ⟨p0z, p1z, p2z, p3z, p4z⟩ := HCp.out w3 HX3.out
             obtain ⟨q0z, q1z, q2z, q3z, q4z⟩ := HCq.out w3 HX3.out
             obtain ⟨r0z, r1z, r2z, r3z, r4z⟩ := HCr.out w3 HX3.out
             clear hbx)
          | (go_at_call 10
             (with_reducible refine (HFr.out _ HX3.out).mono ?_)
             rintro e w4 ⟨rfl, hbx⟩
             have HX4 := Lib.hid (HX3.out.trans (hbx.mono HX3.out.size))
             obtain ⟨p0z, p1z, p2z, p3z, p4z⟩ := HCp.out w4 HX4.out
             obtain ⟨q0z, q1z, q2z, q3z, q4z⟩ := HCq.out w4 HX4.out
             obtain ⟨r0z, r1z, r2z, r3z, r4z⟩ := HCr.out w4 HX4.out
             clear hbx)
          | (go_at_call 16
             (with_reducible refine (HAN.out _ HX4.out).mono ?_)
             rintro e w5 ⟨rfl, hbx⟩
             have HX5 := Lib.hid (HX4.out.trans (hbx.mono HX4.out.size))
             obtain ⟨p0z, p1z, p2z, p3z, p4z⟩ := HCp.out w5 HX5.out
             obtain ⟨q0z, q1z, q2z, q3z, q4z⟩ := HCq.out w5 HX5.out
             obtain ⟨r0z, r1z, r2z, r3z, r4z⟩ := HCr.out w5 HX5.out
             clear hbx)
          | (go_at_call 15
             (with_reducible refine (HTp.out _ HX5.out).mono ?_)
             rintro e w6 ⟨rfl, hbx⟩
             have HX6 := Lib.hid (HX5.out.trans (hbx.mono HX5.out.size))
             obtain ⟨p0z, p1z, p2z, p3z, p4z⟩ := HCp.out w6 HX6.out
             obtain ⟨q0z, q1z, q2z, q3z, q4z⟩ := HCq.out w6 HX6.out
             obtain ⟨r0z, r1z, r2z, r3z, r4z⟩ := HCr.out w6 HX6.out
             clear hbx))
        clear p0z p1z p2z p3z p4z q0z q1z q2z q3z q4z r0z r1z r2z r3z r4z
        have HXL := Lib.hid HX6.out
        have hSd : Below w6.heap.size w6 w6.drew := (Below.refl _ w6).drew
        refine wp_region_held_drew (S := fun X => Below w6.heap.size w6 X) (by kernel_rfl) hSd (fun hHeld => ?_)
        obtain ⟨y0, hY0⟩ : ∃ Y, w6.drew = Y := ⟨_, rfl⟩
        rw [hY0] at hSd hHeld ⊢
        clear hY0
        refine tkS 0 (.agg #[.slice p.A p.n p.c, .slice p.B p.k p.d, .int .i64 p.am, .int .i64 p.rd, .int .i64 p.hd]) hHeld (fun w hq => ?_) ?_
        · obtain ⟨a0, a1, a2, a3, a4⟩ := HCp.out w (HXL.out.trans (hq.mono HXL.out.size)); obtain ⟨c0, c1, c2, c3, c4⟩ := HCq.out w (HXL.out.trans (hq.mono HXL.out.size)); obtain ⟨d0, d1, d2, d3, d4⟩ := HCr.out w (HXL.out.trans (hq.mono HXL.out.size))
          go_simp
        simp only [PT]
        refine tkS 1 (.agg #[.slice q.A q.n q.c, .slice q.B q.k q.d, .int .i64 q.am, .int .i64 q.rd, .int .i64 q.hd]) hHeld (fun w hq => ?_) ?_
        · obtain ⟨a0, a1, a2, a3, a4⟩ := HCp.out w (HXL.out.trans (hq.mono HXL.out.size)); obtain ⟨c0, c1, c2, c3, c4⟩ := HCq.out w (HXL.out.trans (hq.mono HXL.out.size)); obtain ⟨d0, d1, d2, d3, d4⟩ := HCr.out w (HXL.out.trans (hq.mono HXL.out.size))
          go_simp
        simp only [PT]
        refine tkS 2 (.agg #[.slice r.A r.n r.c, .slice r.B r.k r.d, .int .i64 r.am, .int .i64 r.rd, .int .i64 r.hd]) hHeld (fun w hq => ?_) ?_
        · obtain ⟨a0, a1, a2, a3, a4⟩ := HCp.out w (HXL.out.trans (hq.mono HXL.out.size)); obtain ⟨c0, c1, c2, c3, c4⟩ := HCq.out w (HXL.out.trans (hq.mono HXL.out.size)); obtain ⟨d0, d1, d2, d3, d4⟩ := HCr.out w (HXL.out.trans (hq.mono HXL.out.size))
          go_simp
        simp only [PT]
        refine tk 5 (.bool false) hHeld (fun w => ?_) ?_
        · go_simp
        simp only [PT]
        refine one_step 3 (by kernel_rfl) rfl (fun Kq hKq => ?_)
        go_simp
        have hS1 : Below w6.heap.size w6 (y0.alloc (.cells #[.slice p.A p.n p.c, .slice p.B p.k p.d, .int .i64 p.am, .int .i64 p.rd, .int .i64 p.hd, .slice q.A q.n q.c, .slice q.B q.k q.d, .int .i64 q.am, .int .i64 q.rd, .int .i64 q.hd, .slice r.A r.n r.c, .slice r.B r.k r.d, .int .i64 r.am, .int .i64 r.rd, .int .i64 r.hd] 25)) := hSd.alloc hSd.size _
        refine hKq.out _ _ hS1 (fun hHeld0 => ?_)
        clear hKq Kq hHeld
        have hHeld := hHeld0
        clear hHeld0
        try simp only [PT]
        refine one_step 4 (by kernel_rfl) rfl (fun Kq hKq => ?_)
        go_simp
        go_at_call 16
        (with_reducible refine (HA3.out y0 (HXL.out.trans (hSd.mono HXL.out.size))).mono ?_)
        rintro e y2 ⟨rfl, hbx⟩
        have hS2 : Below w6.heap.size w6 y2 := hS1.trans (hbx.mono hS1.size)
        clear hbx
        refine hKq.out _ _ hS2 (fun hHeld0 => ?_)
        clear hKq Kq hHeld
        have hHeld := hHeld0
        clear hHeld0
        try simp only [PT]
        refine tk 6 (.bool false) hHeld (fun w => ?_) ?_
        · go_simp
        simp only [PT]
        refine tkO 7 hHeld ?_
        simp only [PT]
        refine tk 8 (.bool false) hHeld (fun w => ?_) ?_
        · go_simp
        simp only [PT]
        refine tk 9 (.bool true) hHeld (fun w => ?_) ?_
        · go_simp
        simp only [PT]
        refine tk 10 (.bool true) hHeld (fun w => ?_) ?_
        · go_simp
        simp only [PT]
        refine tkS 11 (.agg #[.slice r.A r.n r.c, .slice r.B r.k r.d, .int .i64 r.am, .int .i64 r.rd, .int .i64 r.hd]) hHeld (fun w hq => ?_) ?_
        · obtain ⟨a0, a1, a2, a3, a4⟩ := HCp.out w (HXL.out.trans (hq.mono HXL.out.size)); obtain ⟨c0, c1, c2, c3, c4⟩ := HCq.out w (HXL.out.trans (hq.mono HXL.out.size)); obtain ⟨d0, d1, d2, d3, d4⟩ := HCr.out w (HXL.out.trans (hq.mono HXL.out.size))
          go_simp
        simp only [PT]
        refine tkS 12 (.agg #[.slice p.A p.n p.c, .slice p.B p.k p.d, .int .i64 p.am, .int .i64 p.rd, .int .i64 p.hd]) hHeld (fun w hq => ?_) ?_
        · obtain ⟨a0, a1, a2, a3, a4⟩ := HCp.out w (HXL.out.trans (hq.mono HXL.out.size)); obtain ⟨c0, c1, c2, c3, c4⟩ := HCq.out w (HXL.out.trans (hq.mono HXL.out.size)); obtain ⟨d0, d1, d2, d3, d4⟩ := HCr.out w (HXL.out.trans (hq.mono HXL.out.size))
          go_simp
        simp only [PT]
        refine tkS 13 (.agg #[.slice q.A q.n q.c, .slice q.B q.k q.d, .int .i64 q.am, .int .i64 q.rd, .int .i64 q.hd]) hHeld (fun w hq => ?_) ?_
        · obtain ⟨a0, a1, a2, a3, a4⟩ := HCp.out w (HXL.out.trans (hq.mono HXL.out.size)); obtain ⟨c0, c1, c2, c3, c4⟩ := HCq.out w (HXL.out.trans (hq.mono HXL.out.size)); obtain ⟨d0, d1, d2, d3, d4⟩ := HCr.out w (HXL.out.trans (hq.mono HXL.out.size))
          go_simp
        simp only [PT]
        refine tk 16 (.bool false) hHeld (fun w => ?_) ?_
        · go_simp
        simp only [PT]
        refine one_step 14 (by kernel_rfl) rfl (fun Kq hKq => ?_)
        go_simp
        have hS3 : Below w6.heap.size w6 (y2.alloc (.cells #[.slice r.A r.n r.c, .slice r.B r.k r.d, .int .i64 r.am, .int .i64 r.rd, .int .i64 r.hd, .slice p.A p.n p.c, .slice p.B p.k p.d, .int .i64 p.am, .int .i64 p.rd, .int .i64 p.hd, .slice q.A q.n q.c, .slice q.B q.k q.d, .int .i64 q.am, .int .i64 q.rd, .int .i64 q.hd] 25)) := hS2.alloc hS2.size _
        refine hKq.out _ _ hS3 (fun hHeld0 => ?_)
        clear hKq Kq hHeld
        have hHeld := hHeld0
        clear hHeld0
        try simp only [PT]
        refine one_step 15 (by kernel_rfl) rfl (fun Kq hKq => ?_)
        go_simp
        go_at_call 16
        (with_reducible refine (HB3.out y2 (HXL.out.trans (hS2.mono HXL.out.size))).mono ?_)
        rintro e y4 ⟨rfl, hbx⟩
        have hS4 : Below w6.heap.size w6 y4 := hS3.trans (hbx.mono hS3.size)
        clear hbx
        refine hKq.out _ _ hS4 (fun hHeld0 => ?_)
        clear hKq Kq hHeld
        have hHeld := hHeld0
        clear hHeld0
        try simp only [PT]
        refine tk 17 (.bool false) hHeld (fun w => ?_) ?_
        · go_simp
        simp only [PT]
        refine tkO 18 hHeld ?_
        simp only [PT]
        refine tk 19 (.bool false) hHeld (fun w => ?_) ?_
        · go_simp
        simp only [PT]
        refine tk 20 (.bool true) hHeld (fun w => ?_) ?_
        · go_simp
        simp only [PT]
        refine tk 21 (.bool true) hHeld (fun w => ?_) ?_
        · go_simp
        simp only [PT]
        refine tk 22 (.bool true) hHeld (fun w => ?_) ?_
        · go_simp
        simp only [PT]
        refine tkS 23 (.agg #[.slice p.A p.n p.c, .slice p.B p.k p.d, .int .i64 p.am, .int .i64 p.rd, .int .i64 p.hd]) hHeld (fun w hq => ?_) ?_
        · obtain ⟨a0, a1, a2, a3, a4⟩ := HCp.out w (HXL.out.trans (hq.mono HXL.out.size)); obtain ⟨c0, c1, c2, c3, c4⟩ := HCq.out w (HXL.out.trans (hq.mono HXL.out.size)); obtain ⟨d0, d1, d2, d3, d4⟩ := HCr.out w (HXL.out.trans (hq.mono HXL.out.size))
          go_simp
        simp only [PT]
        refine tkS 26 (.agg #[.slice p.A p.n p.c, .slice p.B p.k p.d, .int .i64 p.am, .int .i64 p.rd, .int .i64 p.hd]) hHeld (fun w hq => ?_) ?_
        · obtain ⟨a0, a1, a2, a3, a4⟩ := HCp.out w (HXL.out.trans (hq.mono HXL.out.size)); obtain ⟨c0, c1, c2, c3, c4⟩ := HCq.out w (HXL.out.trans (hq.mono HXL.out.size)); obtain ⟨d0, d1, d2, d3, d4⟩ := HCr.out w (HXL.out.trans (hq.mono HXL.out.size))
          go_simp
        simp only [PT]
        refine one_step 24 (by kernel_rfl) rfl (fun Kq hKq => ?_)
        go_simp
        have hS5 : Below w6.heap.size w6 (y4.alloc (.cells #[.slice p.A p.n p.c, .slice p.B p.k p.d, .int .i64 p.am, .int .i64 p.rd, .int .i64 p.hd] 25)) := hS4.alloc hS4.size _
        refine hKq.out _ _ hS5 (fun hHeld0 => ?_)
        clear hKq Kq hHeld
        have hHeld := hHeld0
        clear hHeld0
        try simp only [PT]
        refine one_step 25 (by kernel_rfl) rfl (fun Kq hKq => ?_)
        go_simp
        go_at_call 16
        (with_reducible refine (HA1.out y4 (HXL.out.trans (hS4.mono HXL.out.size))).mono ?_)
        rintro e y6 ⟨rfl, hbx⟩
        have hS6 : Below w6.heap.size w6 y6 := hS5.trans (hbx.mono hS5.size)
        clear hbx
        refine hKq.out _ _ hS6 (fun hHeld0 => ?_)
        clear hKq Kq hHeld
        have hHeld := hHeld0
        clear hHeld0
        try simp only [PT]
        refine one_step 27 (by kernel_rfl) rfl (fun Kq hKq => ?_)
        go_simp
        go_at_call 15
        (with_reducible refine (HTp.out _ (HXL.out.trans (hS6.mono HXL.out.size))).mono ?_)
        rintro e y7 ⟨rfl, hbx⟩
        have hS7 : Below w6.heap.size w6 y7 := hS6.trans (hbx.mono hS6.size)
        clear hbx
        refine hKq.out _ _ hS7 (fun hHeld0 => ?_)
        clear hKq Kq hHeld
        have hHeld := hHeld0
        clear hHeld0
        try simp only [PT]
        refine tk 28 (.bool true) hHeld (fun w => ?_) ?_
        · go_simp
        simp only [PT]
        refine tk 29 (.bool true) hHeld (fun w => ?_) ?_
        · go_simp
        simp only [PT]
        refine tk 30 (.bool true) hHeld (fun w => ?_) ?_
        · go_simp
        simp only [PT]
        refine tkS 31 (.agg #[.slice p.A p.n p.c, .slice p.B p.k p.d, .int .i64 p.am, .int .i64 p.rd, .int .i64 p.hd]) hHeld (fun w hq => ?_) ?_
        · obtain ⟨a0, a1, a2, a3, a4⟩ := HCp.out w (HXL.out.trans (hq.mono HXL.out.size)); obtain ⟨c0, c1, c2, c3, c4⟩ := HCq.out w (HXL.out.trans (hq.mono HXL.out.size)); obtain ⟨d0, d1, d2, d3, d4⟩ := HCr.out w (HXL.out.trans (hq.mono HXL.out.size))
          go_simp
        simp only [PT]
        refine tkS 32 (.agg #[.slice q.A q.n q.c, .slice q.B q.k q.d, .int .i64 q.am, .int .i64 q.rd, .int .i64 q.hd]) hHeld (fun w hq => ?_) ?_
        · obtain ⟨a0, a1, a2, a3, a4⟩ := HCp.out w (HXL.out.trans (hq.mono HXL.out.size)); obtain ⟨c0, c1, c2, c3, c4⟩ := HCq.out w (HXL.out.trans (hq.mono HXL.out.size)); obtain ⟨d0, d1, d2, d3, d4⟩ := HCr.out w (HXL.out.trans (hq.mono HXL.out.size))
          go_simp
        simp only [PT]
        refine tkS 33 (.agg #[.slice r.A r.n r.c, .slice r.B r.k r.d, .int .i64 r.am, .int .i64 r.rd, .int .i64 r.hd]) hHeld (fun w hq => ?_) ?_
        · obtain ⟨a0, a1, a2, a3, a4⟩ := HCp.out w (HXL.out.trans (hq.mono HXL.out.size)); obtain ⟨c0, c1, c2, c3, c4⟩ := HCq.out w (HXL.out.trans (hq.mono HXL.out.size)); obtain ⟨d0, d1, d2, d3, d4⟩ := HCr.out w (HXL.out.trans (hq.mono HXL.out.size))
          go_simp
        simp only [PT]
        refine tkS 34 (.agg #[.slice p.A p.n p.c, .slice p.B p.k p.d, .int .i64 p.am, .int .i64 p.rd, .int .i64 p.hd]) hHeld (fun w hq => ?_) ?_
        · obtain ⟨a0, a1, a2, a3, a4⟩ := HCp.out w (HXL.out.trans (hq.mono HXL.out.size)); obtain ⟨c0, c1, c2, c3, c4⟩ := HCq.out w (HXL.out.trans (hq.mono HXL.out.size)); obtain ⟨d0, d1, d2, d3, d4⟩ := HCr.out w (HXL.out.trans (hq.mono HXL.out.size))
          go_simp
        simp only [PT]
        refine one_step 35 (by kernel_rfl) rfl (fun Kq hKq => ?_)
        go_simp
        have hS8 : Below w6.heap.size w6 (y7.alloc (.cells #[.slice p.A p.n p.c, .slice p.B p.k p.d, .int .i64 p.am, .int .i64 p.rd, .int .i64 p.hd, .slice q.A q.n q.c, .slice q.B q.k q.d, .int .i64 q.am, .int .i64 q.rd, .int .i64 q.hd, .slice r.A r.n r.c, .slice r.B r.k r.d, .int .i64 r.am, .int .i64 r.rd, .int .i64 r.hd, .slice p.A p.n p.c, .slice p.B p.k p.d, .int .i64 p.am, .int .i64 p.rd, .int .i64 p.hd] 25)) := hS7.alloc hS7.size _
        refine hKq.out _ _ hS8 (fun hHeld0 => ?_)
        clear hKq Kq hHeld
        have hHeld := hHeld0
        clear hHeld0
        try simp only [PT]
        refine one_step 36 (by kernel_rfl) rfl (fun Kq hKq => ?_)
        go_simp
        go_at_call 16
        (with_reducible refine (HA4.out y7 (HXL.out.trans (hS7.mono HXL.out.size))).mono ?_)
        rintro e y9 ⟨rfl, hbx⟩
        have hS9 : Below w6.heap.size w6 y9 := hS8.trans (hbx.mono hS8.size)
        clear hbx
        refine hKq.out _ _ hS9 (fun hHeld0 => ?_)
        clear hKq Kq hHeld
        have hHeld := hHeld0
        clear hHeld0
        try simp only [PT]
        refine tk 37 (.bool true) hHeld (fun w => ?_) ?_
        · go_simp
        simp only [PT]
        refine tk 38 (.bool true) hHeld (fun w => ?_) ?_
        · go_simp
        simp only [PT]
        refine tk 39 (.bool true) hHeld (fun w => ?_) ?_
        · go_simp
        simp only [PT]
        refine wpAnyH_done (by kernel_rfl) ?_ _
        clear hHeld
        go_wp2
        go_ret
        exact ⟨by first | rfl | simp, HB0.out.trans ((HXL.out.trans (hS9.mono HXL.out.size)).mono HB0.out.size)⟩
      · cases Fq
        · clear HTr
          simp only [Bool.true_and, Bool.false_and, Bool.and_true, Bool.and_false] at HA3 HB3
          go_enter Try.func7, Try.ntmps7
          go_wp2_with (first
            | (go_at_call 9
               rw [HW.out]
               (with_reducible refine (HAW.out).mono ?_)
               rintro e w1 ⟨rfl, hbx⟩
               have HX1 := Lib.hid (HX0.out.trans (hbx.mono HX0.out.size))
               obtain ⟨p0z, p1z, p2z, p3z, p4z⟩ := HCp.out w1 HX1.out
               obtain ⟨q0z, q1z, q2z, q3z, q4z⟩ := HCq.out w1 HX1.out
               obtain ⟨r0z, r1z, r2z, r3z, r4z⟩ := HCr.out w1 HX1.out
               clear hbx)
            | (go_at_call 10
               (with_reducible refine (HFp.out _ HX1.out).mono ?_)
               rintro e w2 ⟨rfl, hbx⟩
               have HX2 := Lib.hid (HX1.out.trans (hbx.mono HX1.out.size))
               obtain ⟨p0z, p1z, p2z, p3z, p4z⟩ := HCp.out w2 HX2.out
               obtain ⟨q0z, q1z, q2z, q3z, q4z⟩ := HCq.out w2 HX2.out
               obtain ⟨r0z, r1z, r2z, r3z, r4z⟩ := HCr.out w2 HX2.out
               clear hbx)
            | (go_at_call 10
               (with_reducible refine (HFq.out _ HX2.out).mono ?_)
               rintro e w3 ⟨rfl, hbx⟩
               have HX3 := Lib.hid (HX2.out.trans (hbx.mono HX2.out.size))
               obtain ⟨p0z, p1z, p2z, p3z, p4z⟩ := HCp.out w3 HX3.out
               obtain ⟨q0z, q1z, q2z, q3z, q4z⟩ := HCq.out w3 HX3.out
               obtain ⟨r0z, r1z, r2z, r3z, r4z⟩ := HCr.out w3 HX3.out
               clear hbx)
            | (go_at_call 10
               (with_reducible refine (HFr.out _ HX3.out).mono ?_)
               rintro e w4 ⟨rfl, hbx⟩
               have HX4 := Lib.hid (HX3.out.trans (hbx.mono HX3.out.size))
               obtain ⟨p0z, p1z, p2z, p3z, p4z⟩ := HCp.out w4 HX4.out
               obtain ⟨q0z, q1z, q2z, q3z, q4z⟩ := HCq.out w4 HX4.out
               obtain ⟨r0z, r1z, r2z, r3z, r4z⟩ := HCr.out w4 HX4.out
               clear hbx)
            | (go_at_call 16
               (with_reducible refine (HAN.out _ HX4.out).mono ?_)
               rintro e w5 ⟨rfl, hbx⟩
               have HX5 := Lib.hid (HX4.out.trans (hbx.mono HX4.out.size))
               obtain ⟨p0z, p1z, p2z, p3z, p4z⟩ := HCp.out w5 HX5.out
               obtain ⟨q0z, q1z, q2z, q3z, q4z⟩ := HCq.out w5 HX5.out
               obtain ⟨r0z, r1z, r2z, r3z, r4z⟩ := HCr.out w5 HX5.out
               clear hbx)
            | (go_at_call 15
               (with_reducible refine (HTp.out _ HX5.out).mono ?_)
               rintro e w6 ⟨rfl, hbx⟩
               have HX6 := Lib.hid (HX5.out.trans (hbx.mono HX5.out.size))
               obtain ⟨p0z, p1z, p2z, p3z, p4z⟩ := HCp.out w6 HX6.out
               obtain ⟨q0z, q1z, q2z, q3z, q4z⟩ := HCq.out w6 HX6.out
               obtain ⟨r0z, r1z, r2z, r3z, r4z⟩ := HCr.out w6 HX6.out
               clear hbx)
            | (go_at_call 15
               (with_reducible refine (HTq.out _ HX6.out).mono ?_)
               rintro e w7 ⟨rfl, hbx⟩
               have HX7 := Lib.hid (HX6.out.trans (hbx.mono HX6.out.size))
               obtain ⟨p0z, p1z, p2z, p3z, p4z⟩ := HCp.out w7 HX7.out
               obtain ⟨q0z, q1z, q2z, q3z, q4z⟩ := HCq.out w7 HX7.out
               obtain ⟨r0z, r1z, r2z, r3z, r4z⟩ := HCr.out w7 HX7.out
               clear hbx))
          clear p0z p1z p2z p3z p4z q0z q1z q2z q3z q4z r0z r1z r2z r3z r4z
          have HXL := Lib.hid HX7.out
          have hSd : Below w7.heap.size w7 w7.drew := (Below.refl _ w7).drew
          refine wp_region_held_drew (S := fun X => Below w7.heap.size w7 X) (by kernel_rfl) hSd (fun hHeld => ?_)
          obtain ⟨y0, hY0⟩ : ∃ Y, w7.drew = Y := ⟨_, rfl⟩
          rw [hY0] at hSd hHeld ⊢
          clear hY0
          refine tkS 0 (.agg #[.slice p.A p.n p.c, .slice p.B p.k p.d, .int .i64 p.am, .int .i64 p.rd, .int .i64 p.hd]) hHeld (fun w hq => ?_) ?_
          · obtain ⟨a0, a1, a2, a3, a4⟩ := HCp.out w (HXL.out.trans (hq.mono HXL.out.size)); obtain ⟨c0, c1, c2, c3, c4⟩ := HCq.out w (HXL.out.trans (hq.mono HXL.out.size)); obtain ⟨d0, d1, d2, d3, d4⟩ := HCr.out w (HXL.out.trans (hq.mono HXL.out.size))
            go_simp
          simp only [PT]
          refine tkS 1 (.agg #[.slice q.A q.n q.c, .slice q.B q.k q.d, .int .i64 q.am, .int .i64 q.rd, .int .i64 q.hd]) hHeld (fun w hq => ?_) ?_
          · obtain ⟨a0, a1, a2, a3, a4⟩ := HCp.out w (HXL.out.trans (hq.mono HXL.out.size)); obtain ⟨c0, c1, c2, c3, c4⟩ := HCq.out w (HXL.out.trans (hq.mono HXL.out.size)); obtain ⟨d0, d1, d2, d3, d4⟩ := HCr.out w (HXL.out.trans (hq.mono HXL.out.size))
            go_simp
          simp only [PT]
          refine tkS 2 (.agg #[.slice r.A r.n r.c, .slice r.B r.k r.d, .int .i64 r.am, .int .i64 r.rd, .int .i64 r.hd]) hHeld (fun w hq => ?_) ?_
          · obtain ⟨a0, a1, a2, a3, a4⟩ := HCp.out w (HXL.out.trans (hq.mono HXL.out.size)); obtain ⟨c0, c1, c2, c3, c4⟩ := HCq.out w (HXL.out.trans (hq.mono HXL.out.size)); obtain ⟨d0, d1, d2, d3, d4⟩ := HCr.out w (HXL.out.trans (hq.mono HXL.out.size))
            go_simp
          simp only [PT]
          refine tk 5 (.bool false) hHeld (fun w => ?_) ?_
          · go_simp
          simp only [PT]
          refine one_step 3 (by kernel_rfl) rfl (fun Kq hKq => ?_)
          go_simp
          have hS1 : Below w7.heap.size w7 (y0.alloc (.cells #[.slice p.A p.n p.c, .slice p.B p.k p.d, .int .i64 p.am, .int .i64 p.rd, .int .i64 p.hd, .slice q.A q.n q.c, .slice q.B q.k q.d, .int .i64 q.am, .int .i64 q.rd, .int .i64 q.hd, .slice r.A r.n r.c, .slice r.B r.k r.d, .int .i64 r.am, .int .i64 r.rd, .int .i64 r.hd] 25)) := hSd.alloc hSd.size _
          refine hKq.out _ _ hS1 (fun hHeld0 => ?_)
          clear hKq Kq hHeld
          have hHeld := hHeld0
          clear hHeld0
          try simp only [PT]
          refine one_step 4 (by kernel_rfl) rfl (fun Kq hKq => ?_)
          go_simp
          go_at_call 16
          (with_reducible refine (HA3.out y0 (HXL.out.trans (hSd.mono HXL.out.size))).mono ?_)
          rintro e y2 ⟨rfl, hbx⟩
          have hS2 : Below w7.heap.size w7 y2 := hS1.trans (hbx.mono hS1.size)
          clear hbx
          refine hKq.out _ _ hS2 (fun hHeld0 => ?_)
          clear hKq Kq hHeld
          have hHeld := hHeld0
          clear hHeld0
          try simp only [PT]
          refine tk 6 (.bool false) hHeld (fun w => ?_) ?_
          · go_simp
          simp only [PT]
          refine tkO 7 hHeld ?_
          simp only [PT]
          refine tk 8 (.bool false) hHeld (fun w => ?_) ?_
          · go_simp
          simp only [PT]
          refine tk 9 (.bool true) hHeld (fun w => ?_) ?_
          · go_simp
          simp only [PT]
          refine tk 10 (.bool true) hHeld (fun w => ?_) ?_
          · go_simp
          simp only [PT]
          refine tkS 11 (.agg #[.slice r.A r.n r.c, .slice r.B r.k r.d, .int .i64 r.am, .int .i64 r.rd, .int .i64 r.hd]) hHeld (fun w hq => ?_) ?_
          · obtain ⟨a0, a1, a2, a3, a4⟩ := HCp.out w (HXL.out.trans (hq.mono HXL.out.size)); obtain ⟨c0, c1, c2, c3, c4⟩ := HCq.out w (HXL.out.trans (hq.mono HXL.out.size)); obtain ⟨d0, d1, d2, d3, d4⟩ := HCr.out w (HXL.out.trans (hq.mono HXL.out.size))
            go_simp
          simp only [PT]
          refine tkS 12 (.agg #[.slice p.A p.n p.c, .slice p.B p.k p.d, .int .i64 p.am, .int .i64 p.rd, .int .i64 p.hd]) hHeld (fun w hq => ?_) ?_
          · obtain ⟨a0, a1, a2, a3, a4⟩ := HCp.out w (HXL.out.trans (hq.mono HXL.out.size)); obtain ⟨c0, c1, c2, c3, c4⟩ := HCq.out w (HXL.out.trans (hq.mono HXL.out.size)); obtain ⟨d0, d1, d2, d3, d4⟩ := HCr.out w (HXL.out.trans (hq.mono HXL.out.size))
            go_simp
          simp only [PT]
          refine tkS 13 (.agg #[.slice q.A q.n q.c, .slice q.B q.k q.d, .int .i64 q.am, .int .i64 q.rd, .int .i64 q.hd]) hHeld (fun w hq => ?_) ?_
          · obtain ⟨a0, a1, a2, a3, a4⟩ := HCp.out w (HXL.out.trans (hq.mono HXL.out.size)); obtain ⟨c0, c1, c2, c3, c4⟩ := HCq.out w (HXL.out.trans (hq.mono HXL.out.size)); obtain ⟨d0, d1, d2, d3, d4⟩ := HCr.out w (HXL.out.trans (hq.mono HXL.out.size))
            go_simp
          simp only [PT]
          refine tk 16 (.bool false) hHeld (fun w => ?_) ?_
          · go_simp
          simp only [PT]
          refine one_step 14 (by kernel_rfl) rfl (fun Kq hKq => ?_)
          go_simp
          have hS3 : Below w7.heap.size w7 (y2.alloc (.cells #[.slice r.A r.n r.c, .slice r.B r.k r.d, .int .i64 r.am, .int .i64 r.rd, .int .i64 r.hd, .slice p.A p.n p.c, .slice p.B p.k p.d, .int .i64 p.am, .int .i64 p.rd, .int .i64 p.hd, .slice q.A q.n q.c, .slice q.B q.k q.d, .int .i64 q.am, .int .i64 q.rd, .int .i64 q.hd] 25)) := hS2.alloc hS2.size _
          refine hKq.out _ _ hS3 (fun hHeld0 => ?_)
          clear hKq Kq hHeld
          have hHeld := hHeld0
          clear hHeld0
          try simp only [PT]
          refine one_step 15 (by kernel_rfl) rfl (fun Kq hKq => ?_)
          go_simp
          go_at_call 16
          (with_reducible refine (HB3.out y2 (HXL.out.trans (hS2.mono HXL.out.size))).mono ?_)
          rintro e y4 ⟨rfl, hbx⟩
          have hS4 : Below w7.heap.size w7 y4 := hS3.trans (hbx.mono hS3.size)
          clear hbx
          refine hKq.out _ _ hS4 (fun hHeld0 => ?_)
          clear hKq Kq hHeld
          have hHeld := hHeld0
          clear hHeld0
          try simp only [PT]
          refine tk 17 (.bool false) hHeld (fun w => ?_) ?_
          · go_simp
          simp only [PT]
          refine tkO 18 hHeld ?_
          simp only [PT]
          refine tk 19 (.bool false) hHeld (fun w => ?_) ?_
          · go_simp
          simp only [PT]
          refine tk 20 (.bool true) hHeld (fun w => ?_) ?_
          · go_simp
          simp only [PT]
          refine tk 21 (.bool true) hHeld (fun w => ?_) ?_
          · go_simp
          simp only [PT]
          refine tk 22 (.bool true) hHeld (fun w => ?_) ?_
          · go_simp
          simp only [PT]
          refine tkS 23 (.agg #[.slice p.A p.n p.c, .slice p.B p.k p.d, .int .i64 p.am, .int .i64 p.rd, .int .i64 p.hd]) hHeld (fun w hq => ?_) ?_
          · obtain ⟨a0, a1, a2, a3, a4⟩ := HCp.out w (HXL.out.trans (hq.mono HXL.out.size)); obtain ⟨c0, c1, c2, c3, c4⟩ := HCq.out w (HXL.out.trans (hq.mono HXL.out.size)); obtain ⟨d0, d1, d2, d3, d4⟩ := HCr.out w (HXL.out.trans (hq.mono HXL.out.size))
            go_simp
          simp only [PT]
          refine tkS 26 (.agg #[.slice p.A p.n p.c, .slice p.B p.k p.d, .int .i64 p.am, .int .i64 p.rd, .int .i64 p.hd]) hHeld (fun w hq => ?_) ?_
          · obtain ⟨a0, a1, a2, a3, a4⟩ := HCp.out w (HXL.out.trans (hq.mono HXL.out.size)); obtain ⟨c0, c1, c2, c3, c4⟩ := HCq.out w (HXL.out.trans (hq.mono HXL.out.size)); obtain ⟨d0, d1, d2, d3, d4⟩ := HCr.out w (HXL.out.trans (hq.mono HXL.out.size))
            go_simp
          simp only [PT]
          refine one_step 24 (by kernel_rfl) rfl (fun Kq hKq => ?_)
          go_simp
          have hS5 : Below w7.heap.size w7 (y4.alloc (.cells #[.slice p.A p.n p.c, .slice p.B p.k p.d, .int .i64 p.am, .int .i64 p.rd, .int .i64 p.hd] 25)) := hS4.alloc hS4.size _
          refine hKq.out _ _ hS5 (fun hHeld0 => ?_)
          clear hKq Kq hHeld
          have hHeld := hHeld0
          clear hHeld0
          try simp only [PT]
          refine one_step 25 (by kernel_rfl) rfl (fun Kq hKq => ?_)
          go_simp
          go_at_call 16
          (with_reducible refine (HA1.out y4 (HXL.out.trans (hS4.mono HXL.out.size))).mono ?_)
          rintro e y6 ⟨rfl, hbx⟩
          have hS6 : Below w7.heap.size w7 y6 := hS5.trans (hbx.mono hS5.size)
          clear hbx
          refine hKq.out _ _ hS6 (fun hHeld0 => ?_)
          clear hKq Kq hHeld
          have hHeld := hHeld0
          clear hHeld0
          try simp only [PT]
          refine one_step 27 (by kernel_rfl) rfl (fun Kq hKq => ?_)
          go_simp
          go_at_call 15
          (with_reducible refine (HTp.out _ (HXL.out.trans (hS6.mono HXL.out.size))).mono ?_)
          rintro e y7 ⟨rfl, hbx⟩
          have hS7 : Below w7.heap.size w7 y7 := hS6.trans (hbx.mono hS6.size)
          clear hbx
          refine hKq.out _ _ hS7 (fun hHeld0 => ?_)
          clear hKq Kq hHeld
          have hHeld := hHeld0
          clear hHeld0
          try simp only [PT]
          refine tk 28 (.bool true) hHeld (fun w => ?_) ?_
          · go_simp
          simp only [PT]
          refine tk 29 (.bool true) hHeld (fun w => ?_) ?_
          · go_simp
          simp only [PT]
          refine tk 30 (.bool true) hHeld (fun w => ?_) ?_
          · go_simp
          simp only [PT]
          refine tkS 31 (.agg #[.slice p.A p.n p.c, .slice p.B p.k p.d, .int .i64 p.am, .int .i64 p.rd, .int .i64 p.hd]) hHeld (fun w hq => ?_) ?_
          · obtain ⟨a0, a1, a2, a3, a4⟩ := HCp.out w (HXL.out.trans (hq.mono HXL.out.size)); obtain ⟨c0, c1, c2, c3, c4⟩ := HCq.out w (HXL.out.trans (hq.mono HXL.out.size)); obtain ⟨d0, d1, d2, d3, d4⟩ := HCr.out w (HXL.out.trans (hq.mono HXL.out.size))
            go_simp
          simp only [PT]
          refine tkS 32 (.agg #[.slice q.A q.n q.c, .slice q.B q.k q.d, .int .i64 q.am, .int .i64 q.rd, .int .i64 q.hd]) hHeld (fun w hq => ?_) ?_
          · obtain ⟨a0, a1, a2, a3, a4⟩ := HCp.out w (HXL.out.trans (hq.mono HXL.out.size)); obtain ⟨c0, c1, c2, c3, c4⟩ := HCq.out w (HXL.out.trans (hq.mono HXL.out.size)); obtain ⟨d0, d1, d2, d3, d4⟩ := HCr.out w (HXL.out.trans (hq.mono HXL.out.size))
            go_simp
          simp only [PT]
          refine tkS 33 (.agg #[.slice r.A r.n r.c, .slice r.B r.k r.d, .int .i64 r.am, .int .i64 r.rd, .int .i64 r.hd]) hHeld (fun w hq => ?_) ?_
          · obtain ⟨a0, a1, a2, a3, a4⟩ := HCp.out w (HXL.out.trans (hq.mono HXL.out.size)); obtain ⟨c0, c1, c2, c3, c4⟩ := HCq.out w (HXL.out.trans (hq.mono HXL.out.size)); obtain ⟨d0, d1, d2, d3, d4⟩ := HCr.out w (HXL.out.trans (hq.mono HXL.out.size))
            go_simp
          simp only [PT]
          refine tkS 34 (.agg #[.slice p.A p.n p.c, .slice p.B p.k p.d, .int .i64 p.am, .int .i64 p.rd, .int .i64 p.hd]) hHeld (fun w hq => ?_) ?_
          · obtain ⟨a0, a1, a2, a3, a4⟩ := HCp.out w (HXL.out.trans (hq.mono HXL.out.size)); obtain ⟨c0, c1, c2, c3, c4⟩ := HCq.out w (HXL.out.trans (hq.mono HXL.out.size)); obtain ⟨d0, d1, d2, d3, d4⟩ := HCr.out w (HXL.out.trans (hq.mono HXL.out.size))
            go_simp
          simp only [PT]
          refine one_step 35 (by kernel_rfl) rfl (fun Kq hKq => ?_)
          go_simp
          have hS8 : Below w7.heap.size w7 (y7.alloc (.cells #[.slice p.A p.n p.c, .slice p.B p.k p.d, .int .i64 p.am, .int .i64 p.rd, .int .i64 p.hd, .slice q.A q.n q.c, .slice q.B q.k q.d, .int .i64 q.am, .int .i64 q.rd, .int .i64 q.hd, .slice r.A r.n r.c, .slice r.B r.k r.d, .int .i64 r.am, .int .i64 r.rd, .int .i64 r.hd, .slice p.A p.n p.c, .slice p.B p.k p.d, .int .i64 p.am, .int .i64 p.rd, .int .i64 p.hd] 25)) := hS7.alloc hS7.size _
          refine hKq.out _ _ hS8 (fun hHeld0 => ?_)
          clear hKq Kq hHeld
          have hHeld := hHeld0
          clear hHeld0
          try simp only [PT]
          refine one_step 36 (by kernel_rfl) rfl (fun Kq hKq => ?_)
          go_simp
          go_at_call 16
          (with_reducible refine (HA4.out y7 (HXL.out.trans (hS7.mono HXL.out.size))).mono ?_)
          rintro e y9 ⟨rfl, hbx⟩
          have hS9 : Below w7.heap.size w7 y9 := hS8.trans (hbx.mono hS8.size)
          clear hbx
          refine hKq.out _ _ hS9 (fun hHeld0 => ?_)
          clear hKq Kq hHeld
          have hHeld := hHeld0
          clear hHeld0
          try simp only [PT]
          refine tk 37 (.bool true) hHeld (fun w => ?_) ?_
          · go_simp
          simp only [PT]
          refine tk 38 (.bool true) hHeld (fun w => ?_) ?_
          · go_simp
          simp only [PT]
          refine tk 39 (.bool true) hHeld (fun w => ?_) ?_
          · go_simp
          simp only [PT]
          refine wpAnyH_done (by kernel_rfl) ?_ _
          clear hHeld
          go_wp2
          go_ret
          exact ⟨by first | rfl | simp, HB0.out.trans ((HXL.out.trans (hS9.mono HXL.out.size)).mono HB0.out.size)⟩
        · cases Fr
          · simp only [Bool.true_and, Bool.false_and, Bool.and_true, Bool.and_false] at HA3 HB3
            go_enter Try.func7, Try.ntmps7
            go_wp2_with (first
              | (go_at_call 9
                 rw [HW.out]
                 (with_reducible refine (HAW.out).mono ?_)
                 rintro e w1 ⟨rfl, hbx⟩
                 have HX1 := Lib.hid (HX0.out.trans (hbx.mono HX0.out.size))
                 obtain ⟨p0z, p1z, p2z, p3z, p4z⟩ := HCp.out w1 HX1.out
                 obtain ⟨q0z, q1z, q2z, q3z, q4z⟩ := HCq.out w1 HX1.out
                 obtain ⟨r0z, r1z, r2z, r3z, r4z⟩ := HCr.out w1 HX1.out
                 clear hbx)
              | (go_at_call 10
                 (with_reducible refine (HFp.out _ HX1.out).mono ?_)
                 rintro e w2 ⟨rfl, hbx⟩
                 have HX2 := Lib.hid (HX1.out.trans (hbx.mono HX1.out.size))
                 obtain ⟨p0z, p1z, p2z, p3z, p4z⟩ := HCp.out w2 HX2.out
                 obtain ⟨q0z, q1z, q2z, q3z, q4z⟩ := HCq.out w2 HX2.out
                 obtain ⟨r0z, r1z, r2z, r3z, r4z⟩ := HCr.out w2 HX2.out
                 clear hbx)
              | (go_at_call 10
                 (with_reducible refine (HFq.out _ HX2.out).mono ?_)
                 rintro e w3 ⟨rfl, hbx⟩
                 have HX3 := Lib.hid (HX2.out.trans (hbx.mono HX2.out.size))
                 obtain ⟨p0z, p1z, p2z, p3z, p4z⟩ := HCp.out w3 HX3.out
                 obtain ⟨q0z, q1z, q2z, q3z, q4z⟩ := HCq.out w3 HX3.out
                 obtain ⟨r0z, r1z, r2z, r3z, r4z⟩ := HCr.out w3 HX3.out
                 clear hbx)
              | (go_at_call 10
                 (with_reducible refine (HFr.out _ HX3.out).mono ?_)
                 rintro e w4 ⟨rfl, hbx⟩
                 have HX4 := Lib.hid (HX3.out.trans (hbx.mono HX3.out.size))
                 obtain ⟨p0z, p1z, p2z, p3z, p4z⟩ := HCp.out w4 HX4.out
                 obtain ⟨q0z, q1z, q2z, q3z, q4z⟩ := HCq.out w4 HX4.out
                 obtain ⟨r0z, r1z, r2z, r3z, r4z⟩ := HCr.out w4 HX4.out
                 clear hbx)
              | (go_at_call 16
                 (with_reducible refine (HAN.out _ HX4.out).mono ?_)
                 rintro e w5 ⟨rfl, hbx⟩
                 have HX5 := Lib.hid (HX4.out.trans (hbx.mono HX4.out.size))
                 obtain ⟨p0z, p1z, p2z, p3z, p4z⟩ := HCp.out w5 HX5.out
                 obtain ⟨q0z, q1z, q2z, q3z, q4z⟩ := HCq.out w5 HX5.out
                 obtain ⟨r0z, r1z, r2z, r3z, r4z⟩ := HCr.out w5 HX5.out
                 clear hbx)
              | (go_at_call 15
                 (with_reducible refine (HTp.out _ HX5.out).mono ?_)
                 rintro e w6 ⟨rfl, hbx⟩
                 have HX6 := Lib.hid (HX5.out.trans (hbx.mono HX5.out.size))
                 obtain ⟨p0z, p1z, p2z, p3z, p4z⟩ := HCp.out w6 HX6.out
                 obtain ⟨q0z, q1z, q2z, q3z, q4z⟩ := HCq.out w6 HX6.out
                 obtain ⟨r0z, r1z, r2z, r3z, r4z⟩ := HCr.out w6 HX6.out
                 clear hbx)
              | (go_at_call 15
                 (with_reducible refine (HTq.out _ HX6.out).mono ?_)
                 rintro e w7 ⟨rfl, hbx⟩
                 have HX7 := Lib.hid (HX6.out.trans (hbx.mono HX6.out.size))
                 obtain ⟨p0z, p1z, p2z, p3z, p4z⟩ := HCp.out w7 HX7.out
                 obtain ⟨q0z, q1z, q2z, q3z, q4z⟩ := HCq.out w7 HX7.out
                 obtain ⟨r0z, r1z, r2z, r3z, r4z⟩ := HCr.out w7 HX7.out
                 clear hbx)
              | (go_at_call 15
                 (with_reducible refine (HTr.out _ HX7.out).mono ?_)
                 rintro e w8 ⟨rfl, hbx⟩
                 have HX8 := Lib.hid (HX7.out.trans (hbx.mono HX7.out.size))
                 obtain ⟨p0z, p1z, p2z, p3z, p4z⟩ := HCp.out w8 HX8.out
                 obtain ⟨q0z, q1z, q2z, q3z, q4z⟩ := HCq.out w8 HX8.out
                 obtain ⟨r0z, r1z, r2z, r3z, r4z⟩ := HCr.out w8 HX8.out
                 clear hbx))
            clear p0z p1z p2z p3z p4z q0z q1z q2z q3z q4z r0z r1z r2z r3z r4z
            have HXL := Lib.hid HX8.out
            have hSd : Below w8.heap.size w8 w8.drew := (Below.refl _ w8).drew
            refine wp_region_held_drew (S := fun X => Below w8.heap.size w8 X) (by kernel_rfl) hSd (fun hHeld => ?_)
            obtain ⟨y0, hY0⟩ : ∃ Y, w8.drew = Y := ⟨_, rfl⟩
            rw [hY0] at hSd hHeld ⊢
            clear hY0
            refine tkS 0 (.agg #[.slice p.A p.n p.c, .slice p.B p.k p.d, .int .i64 p.am, .int .i64 p.rd, .int .i64 p.hd]) hHeld (fun w hq => ?_) ?_
            · obtain ⟨a0, a1, a2, a3, a4⟩ := HCp.out w (HXL.out.trans (hq.mono HXL.out.size)); obtain ⟨c0, c1, c2, c3, c4⟩ := HCq.out w (HXL.out.trans (hq.mono HXL.out.size)); obtain ⟨d0, d1, d2, d3, d4⟩ := HCr.out w (HXL.out.trans (hq.mono HXL.out.size))
              go_simp
            simp only [PT]
            refine tkS 1 (.agg #[.slice q.A q.n q.c, .slice q.B q.k q.d, .int .i64 q.am, .int .i64 q.rd, .int .i64 q.hd]) hHeld (fun w hq => ?_) ?_
            · obtain ⟨a0, a1, a2, a3, a4⟩ := HCp.out w (HXL.out.trans (hq.mono HXL.out.size)); obtain ⟨c0, c1, c2, c3, c4⟩ := HCq.out w (HXL.out.trans (hq.mono HXL.out.size)); obtain ⟨d0, d1, d2, d3, d4⟩ := HCr.out w (HXL.out.trans (hq.mono HXL.out.size))
              go_simp
            simp only [PT]
            refine tkS 2 (.agg #[.slice r.A r.n r.c, .slice r.B r.k r.d, .int .i64 r.am, .int .i64 r.rd, .int .i64 r.hd]) hHeld (fun w hq => ?_) ?_
            · obtain ⟨a0, a1, a2, a3, a4⟩ := HCp.out w (HXL.out.trans (hq.mono HXL.out.size)); obtain ⟨c0, c1, c2, c3, c4⟩ := HCq.out w (HXL.out.trans (hq.mono HXL.out.size)); obtain ⟨d0, d1, d2, d3, d4⟩ := HCr.out w (HXL.out.trans (hq.mono HXL.out.size))
              go_simp
            simp only [PT]
            refine tk 5 (.bool false) hHeld (fun w => ?_) ?_
            · go_simp
            simp only [PT]
            refine one_step 3 (by kernel_rfl) rfl (fun Kq hKq => ?_)
            go_simp
            have hS1 : Below w8.heap.size w8 (y0.alloc (.cells #[.slice p.A p.n p.c, .slice p.B p.k p.d, .int .i64 p.am, .int .i64 p.rd, .int .i64 p.hd, .slice q.A q.n q.c, .slice q.B q.k q.d, .int .i64 q.am, .int .i64 q.rd, .int .i64 q.hd, .slice r.A r.n r.c, .slice r.B r.k r.d, .int .i64 r.am, .int .i64 r.rd, .int .i64 r.hd] 25)) := hSd.alloc hSd.size _
            refine hKq.out _ _ hS1 (fun hHeld0 => ?_)
            clear hKq Kq hHeld
            have hHeld := hHeld0
            clear hHeld0
            try simp only [PT]
            refine one_step 4 (by kernel_rfl) rfl (fun Kq hKq => ?_)
            go_simp
            go_at_call 16
            (with_reducible refine (HA3.out y0 (HXL.out.trans (hSd.mono HXL.out.size))).mono ?_)
            rintro e y2 ⟨rfl, hbx⟩
            have hS2 : Below w8.heap.size w8 y2 := hS1.trans (hbx.mono hS1.size)
            clear hbx
            refine hKq.out _ _ hS2 (fun hHeld0 => ?_)
            clear hKq Kq hHeld
            have hHeld := hHeld0
            clear hHeld0
            try simp only [PT]
            refine tk 6 (.bool false) hHeld (fun w => ?_) ?_
            · go_simp
            simp only [PT]
            refine tkO 7 hHeld ?_
            simp only [PT]
            refine tk 8 (.bool false) hHeld (fun w => ?_) ?_
            · go_simp
            simp only [PT]
            refine tk 9 (.bool true) hHeld (fun w => ?_) ?_
            · go_simp
            simp only [PT]
            refine tk 10 (.bool true) hHeld (fun w => ?_) ?_
            · go_simp
            simp only [PT]
            refine tkS 11 (.agg #[.slice r.A r.n r.c, .slice r.B r.k r.d, .int .i64 r.am, .int .i64 r.rd, .int .i64 r.hd]) hHeld (fun w hq => ?_) ?_
            · obtain ⟨a0, a1, a2, a3, a4⟩ := HCp.out w (HXL.out.trans (hq.mono HXL.out.size)); obtain ⟨c0, c1, c2, c3, c4⟩ := HCq.out w (HXL.out.trans (hq.mono HXL.out.size)); obtain ⟨d0, d1, d2, d3, d4⟩ := HCr.out w (HXL.out.trans (hq.mono HXL.out.size))
              go_simp
            simp only [PT]
            refine tkS 12 (.agg #[.slice p.A p.n p.c, .slice p.B p.k p.d, .int .i64 p.am, .int .i64 p.rd, .int .i64 p.hd]) hHeld (fun w hq => ?_) ?_
            · obtain ⟨a0, a1, a2, a3, a4⟩ := HCp.out w (HXL.out.trans (hq.mono HXL.out.size)); obtain ⟨c0, c1, c2, c3, c4⟩ := HCq.out w (HXL.out.trans (hq.mono HXL.out.size)); obtain ⟨d0, d1, d2, d3, d4⟩ := HCr.out w (HXL.out.trans (hq.mono HXL.out.size))
              go_simp
            simp only [PT]
            refine tkS 13 (.agg #[.slice q.A q.n q.c, .slice q.B q.k q.d, .int .i64 q.am, .int .i64 q.rd, .int .i64 q.hd]) hHeld (fun w hq => ?_) ?_
            · obtain ⟨a0, a1, a2, a3, a4⟩ := HCp.out w (HXL.out.trans (hq.mono HXL.out.size)); obtain ⟨c0, c1, c2, c3, c4⟩ := HCq.out w (HXL.out.trans (hq.mono HXL.out.size)); obtain ⟨d0, d1, d2, d3, d4⟩ := HCr.out w (HXL.out.trans (hq.mono HXL.out.size))
              go_simp
            simp only [PT]
            refine tk 16 (.bool false) hHeld (fun w => ?_) ?_
            · go_simp
            simp only [PT]
            refine one_step 14 (by kernel_rfl) rfl (fun Kq hKq => ?_)
            go_simp
            have hS3 : Below w8.heap.size w8 (y2.alloc (.cells #[.slice r.A r.n r.c, .slice r.B r.k r.d, .int .i64 r.am, .int .i64 r.rd, .int .i64 r.hd, .slice p.A p.n p.c, .slice p.B p.k p.d, .int .i64 p.am, .int .i64 p.rd, .int .i64 p.hd, .slice q.A q.n q.c, .slice q.B q.k q.d, .int .i64 q.am, .int .i64 q.rd, .int .i64 q.hd] 25)) := hS2.alloc hS2.size _
            refine hKq.out _ _ hS3 (fun hHeld0 => ?_)
            clear hKq Kq hHeld
            have hHeld := hHeld0
            clear hHeld0
            try simp only [PT]
            refine one_step 15 (by kernel_rfl) rfl (fun Kq hKq => ?_)
            go_simp
            go_at_call 16
            (with_reducible refine (HB3.out y2 (HXL.out.trans (hS2.mono HXL.out.size))).mono ?_)
            rintro e y4 ⟨rfl, hbx⟩
            have hS4 : Below w8.heap.size w8 y4 := hS3.trans (hbx.mono hS3.size)
            clear hbx
            refine hKq.out _ _ hS4 (fun hHeld0 => ?_)
            clear hKq Kq hHeld
            have hHeld := hHeld0
            clear hHeld0
            try simp only [PT]
            refine tk 17 (.bool false) hHeld (fun w => ?_) ?_
            · go_simp
            simp only [PT]
            refine tkO 18 hHeld ?_
            simp only [PT]
            refine tk 19 (.bool false) hHeld (fun w => ?_) ?_
            · go_simp
            simp only [PT]
            refine tk 20 (.bool true) hHeld (fun w => ?_) ?_
            · go_simp
            simp only [PT]
            refine tk 21 (.bool true) hHeld (fun w => ?_) ?_
            · go_simp
            simp only [PT]
            refine tk 22 (.bool true) hHeld (fun w => ?_) ?_
            · go_simp
            simp only [PT]
            refine tkS 23 (.agg #[.slice p.A p.n p.c, .slice p.B p.k p.d, .int .i64 p.am, .int .i64 p.rd, .int .i64 p.hd]) hHeld (fun w hq => ?_) ?_
            · obtain ⟨a0, a1, a2, a3, a4⟩ := HCp.out w (HXL.out.trans (hq.mono HXL.out.size)); obtain ⟨c0, c1, c2, c3, c4⟩ := HCq.out w (HXL.out.trans (hq.mono HXL.out.size)); obtain ⟨d0, d1, d2, d3, d4⟩ := HCr.out w (HXL.out.trans (hq.mono HXL.out.size))
              go_simp
            simp only [PT]
            refine tkS 26 (.agg #[.slice p.A p.n p.c, .slice p.B p.k p.d, .int .i64 p.am, .int .i64 p.rd, .int .i64 p.hd]) hHeld (fun w hq => ?_) ?_
            · obtain ⟨a0, a1, a2, a3, a4⟩ := HCp.out w (HXL.out.trans (hq.mono HXL.out.size)); obtain ⟨c0, c1, c2, c3, c4⟩ := HCq.out w (HXL.out.trans (hq.mono HXL.out.size)); obtain ⟨d0, d1, d2, d3, d4⟩ := HCr.out w (HXL.out.trans (hq.mono HXL.out.size))
              go_simp
            simp only [PT]
            refine one_step 24 (by kernel_rfl) rfl (fun Kq hKq => ?_)
            go_simp
            have hS5 : Below w8.heap.size w8 (y4.alloc (.cells #[.slice p.A p.n p.c, .slice p.B p.k p.d, .int .i64 p.am, .int .i64 p.rd, .int .i64 p.hd] 25)) := hS4.alloc hS4.size _
            refine hKq.out _ _ hS5 (fun hHeld0 => ?_)
            clear hKq Kq hHeld
            have hHeld := hHeld0
            clear hHeld0
            try simp only [PT]
            refine one_step 25 (by kernel_rfl) rfl (fun Kq hKq => ?_)
            go_simp
            go_at_call 16
            (with_reducible refine (HA1.out y4 (HXL.out.trans (hS4.mono HXL.out.size))).mono ?_)
            rintro e y6 ⟨rfl, hbx⟩
            have hS6 : Below w8.heap.size w8 y6 := hS5.trans (hbx.mono hS5.size)
            clear hbx
            refine hKq.out _ _ hS6 (fun hHeld0 => ?_)
            clear hKq Kq hHeld
            have hHeld := hHeld0
            clear hHeld0
            try simp only [PT]
            refine one_step 27 (by kernel_rfl) rfl (fun Kq hKq => ?_)
            go_simp
            go_at_call 15
            (with_reducible refine (HTp.out _ (HXL.out.trans (hS6.mono HXL.out.size))).mono ?_)
            rintro e y7 ⟨rfl, hbx⟩
            have hS7 : Below w8.heap.size w8 y7 := hS6.trans (hbx.mono hS6.size)
            clear hbx
            refine hKq.out _ _ hS7 (fun hHeld0 => ?_)
            clear hKq Kq hHeld
            have hHeld := hHeld0
            clear hHeld0
            try simp only [PT]
            refine tk 28 (.bool true) hHeld (fun w => ?_) ?_
            · go_simp
            simp only [PT]
            refine tk 29 (.bool true) hHeld (fun w => ?_) ?_
            · go_simp
            simp only [PT]
            refine tk 30 (.bool true) hHeld (fun w => ?_) ?_
            · go_simp
            simp only [PT]
            refine tkS 31 (.agg #[.slice p.A p.n p.c, .slice p.B p.k p.d, .int .i64 p.am, .int .i64 p.rd, .int .i64 p.hd]) hHeld (fun w hq => ?_) ?_
            · obtain ⟨a0, a1, a2, a3, a4⟩ := HCp.out w (HXL.out.trans (hq.mono HXL.out.size)); obtain ⟨c0, c1, c2, c3, c4⟩ := HCq.out w (HXL.out.trans (hq.mono HXL.out.size)); obtain ⟨d0, d1, d2, d3, d4⟩ := HCr.out w (HXL.out.trans (hq.mono HXL.out.size))
              go_simp
            simp only [PT]
            refine tkS 32 (.agg #[.slice q.A q.n q.c, .slice q.B q.k q.d, .int .i64 q.am, .int .i64 q.rd, .int .i64 q.hd]) hHeld (fun w hq => ?_) ?_
            · obtain ⟨a0, a1, a2, a3, a4⟩ := HCp.out w (HXL.out.trans (hq.mono HXL.out.size)); obtain ⟨c0, c1, c2, c3, c4⟩ := HCq.out w (HXL.out.trans (hq.mono HXL.out.size)); obtain ⟨d0, d1, d2, d3, d4⟩ := HCr.out w (HXL.out.trans (hq.mono HXL.out.size))
              go_simp
            simp only [PT]
            refine tkS 33 (.agg #[.slice r.A r.n r.c, .slice r.B r.k r.d, .int .i64 r.am, .int .i64 r.rd, .int .i64 r.hd]) hHeld (fun w hq => ?_) ?_
            · obtain ⟨a0, a1, a2, a3, a4⟩ := HCp.out w (HXL.out.trans (hq.mono HXL.out.size)); obtain ⟨c0, c1, c2, c3, c4⟩ := HCq.out w (HXL.out.trans (hq.mono HXL.out.size)); obtain ⟨d0, d1, d2, d3, d4⟩ := HCr.out w (HXL.out.trans (hq.mono HXL.out.size))
              go_simp
            simp only [PT]
            refine tkS 34 (.agg #[.slice p.A p.n p.c, .slice p.B p.k p.d, .int .i64 p.am, .int .i64 p.rd, .int .i64 p.hd]) hHeld (fun w hq => ?_) ?_
            · obtain ⟨a0, a1, a2, a3, a4⟩ := HCp.out w (HXL.out.trans (hq.mono HXL.out.size)); obtain ⟨c0, c1, c2, c3, c4⟩ := HCq.out w (HXL.out.trans (hq.mono HXL.out.size)); obtain ⟨d0, d1, d2, d3, d4⟩ := HCr.out w (HXL.out.trans (hq.mono HXL.out.size))
              go_simp
            simp only [PT]
            refine one_step 35 (by kernel_rfl) rfl (fun Kq hKq => ?_)
            go_simp
            have hS8 : Below w8.heap.size w8 (y7.alloc (.cells #[.slice p.A p.n p.c, .slice p.B p.k p.d, .int .i64 p.am, .int .i64 p.rd, .int .i64 p.hd, .slice q.A q.n q.c, .slice q.B q.k q.d, .int .i64 q.am, .int .i64 q.rd, .int .i64 q.hd, .slice r.A r.n r.c, .slice r.B r.k r.d, .int .i64 r.am, .int .i64 r.rd, .int .i64 r.hd, .slice p.A p.n p.c, .slice p.B p.k p.d, .int .i64 p.am, .int .i64 p.rd, .int .i64 p.hd] 25)) := hS7.alloc hS7.size _
            refine hKq.out _ _ hS8 (fun hHeld0 => ?_)
            clear hKq Kq hHeld
            have hHeld := hHeld0
            clear hHeld0
            try simp only [PT]
            refine one_step 36 (by kernel_rfl) rfl (fun Kq hKq => ?_)
            go_simp
            go_at_call 16
            (with_reducible refine (HA4.out y7 (HXL.out.trans (hS7.mono HXL.out.size))).mono ?_)
            rintro e y9 ⟨rfl, hbx⟩
            have hS9 : Below w8.heap.size w8 y9 := hS8.trans (hbx.mono hS8.size)
            clear hbx
            refine hKq.out _ _ hS9 (fun hHeld0 => ?_)
            clear hKq Kq hHeld
            have hHeld := hHeld0
            clear hHeld0
            try simp only [PT]
            refine tk 37 (.bool true) hHeld (fun w => ?_) ?_
            · go_simp
            simp only [PT]
            refine tk 38 (.bool true) hHeld (fun w => ?_) ?_
            · go_simp
            simp only [PT]
            refine tk 39 (.bool true) hHeld (fun w => ?_) ?_
            · go_simp
            simp only [PT]
            refine wpAnyH_done (by kernel_rfl) ?_ _
            clear hHeld
            go_wp2
            go_ret
            exact ⟨by first | rfl | simp, HB0.out.trans ((HXL.out.trans (hS9.mono HXL.out.size)).mono HB0.out.size)⟩
          · simp only [Bool.true_and, Bool.false_and, Bool.and_true, Bool.and_false] at HA3 HB3
            go_enter Try.func7, Try.ntmps7
            go_wp2_with (first
              | (go_at_call 9
                 rw [HW.out]
                 (with_reducible refine (HAW.out).mono ?_)
                 rintro e w1 ⟨rfl, hbx⟩
                 have HX1 := Lib.hid (HX0.out.trans (hbx.mono HX0.out.size))
                 obtain ⟨p0z, p1z, p2z, p3z, p4z⟩ := HCp.out w1 HX1.out
                 obtain ⟨q0z, q1z, q2z, q3z, q4z⟩ := HCq.out w1 HX1.out
                 obtain ⟨r0z, r1z, r2z, r3z, r4z⟩ := HCr.out w1 HX1.out
                 clear hbx)
              | (go_at_call 10
                 (with_reducible refine (HFp.out _ HX1.out).mono ?_)
                 rintro e w2 ⟨rfl, hbx⟩
                 have HX2 := Lib.hid (HX1.out.trans (hbx.mono HX1.out.size))
                 obtain ⟨p0z, p1z, p2z, p3z, p4z⟩ := HCp.out w2 HX2.out
                 obtain ⟨q0z, q1z, q2z, q3z, q4z⟩ := HCq.out w2 HX2.out
                 obtain ⟨r0z, r1z, r2z, r3z, r4z⟩ := HCr.out w2 HX2.out
                 clear hbx)
              | (go_at_call 10
                 (with_reducible refine (HFq.out _ HX2.out).mono ?_)
                 rintro e w3 ⟨rfl, hbx⟩
                 have HX3 := Lib.hid (HX2.out.trans (hbx.mono HX2.out.size))
                 obtain ⟨p0z, p1z, p2z, p3z, p4z⟩ := HCp.out w3 HX3.out
                 obtain ⟨q0z, q1z, q2z, q3z, q4z⟩ := HCq.out w3 HX3.out
                 obtain ⟨r0z, r1z, r2z, r3z, r4z⟩ := HCr.out w3 HX3.out
                 clear hbx)
              | (go_at_call 10
                 (with_reducible refine (HFr.out _ HX3.out).mono ?_)
                 rintro e w4 ⟨rfl, hbx⟩
                 have HX4 := Lib.hid (HX3.out.trans (hbx.mono HX3.out.size))
                 obtain ⟨p0z, p1z, p2z, p3z, p4z⟩ := HCp.out w4 HX4.out
                 obtain ⟨q0z, q1z, q2z, q3z, q4z⟩ := HCq.out w4 HX4.out
                 obtain ⟨r0z, r1z, r2z, r3z, r4z⟩ := HCr.out w4 HX4.out
                 clear hbx)
              | (go_at_call 16
                 (with_reducible refine (HAN.out _ HX4.out).mono ?_)
                 rintro e w5 ⟨rfl, hbx⟩
                 have HX5 := Lib.hid (HX4.out.trans (hbx.mono HX4.out.size))
                 obtain ⟨p0z, p1z, p2z, p3z, p4z⟩ := HCp.out w5 HX5.out
                 obtain ⟨q0z, q1z, q2z, q3z, q4z⟩ := HCq.out w5 HX5.out
                 obtain ⟨r0z, r1z, r2z, r3z, r4z⟩ := HCr.out w5 HX5.out
                 clear hbx)
              | (go_at_call 15
                 (with_reducible refine (HTp.out _ HX5.out).mono ?_)
                 rintro e w6 ⟨rfl, hbx⟩
                 have HX6 := Lib.hid (HX5.out.trans (hbx.mono HX5.out.size))
                 obtain ⟨p0z, p1z, p2z, p3z, p4z⟩ := HCp.out w6 HX6.out
                 obtain ⟨q0z, q1z, q2z, q3z, q4z⟩ := HCq.out w6 HX6.out
                 obtain ⟨r0z, r1z, r2z, r3z, r4z⟩ := HCr.out w6 HX6.out
                 clear hbx)
              | (go_at_call 15
                 (with_reducible refine (HTq.out _ HX6.out).mono ?_)
                 rintro e w7 ⟨rfl, hbx⟩
                 have HX7 := Lib.hid (HX6.out.trans (hbx.mono HX6.out.size))
                 obtain ⟨p0z, p1z, p2z, p3z, p4z⟩ := HCp.out w7 HX7.out
                 obtain ⟨q0z, q1z, q2z, q3z, q4z⟩ := HCq.out w7 HX7.out
                 obtain ⟨r0z, r1z, r2z, r3z, r4z⟩ := HCr.out w7 HX7.out
                 clear hbx)
              | (go_at_call 15
                 (with_reducible refine (HTr.out _ HX7.out).mono ?_)
                 rintro e w8 ⟨rfl, hbx⟩
                 have HX8 := Lib.hid (HX7.out.trans (hbx.mono HX7.out.size))
                 obtain ⟨p0z, p1z, p2z, p3z, p4z⟩ := HCp.out w8 HX8.out
                 obtain ⟨q0z, q1z, q2z, q3z, q4z⟩ := HCq.out w8 HX8.out
                 obtain ⟨r0z, r1z, r2z, r3z, r4z⟩ := HCr.out w8 HX8.out
                 clear hbx))
            clear p0z p1z p2z p3z p4z q0z q1z q2z q3z q4z r0z r1z r2z r3z r4z
            have HXL := Lib.hid HX8.out
            have hSd : Below w8.heap.size w8 w8.drew := (Below.refl _ w8).drew
            refine wp_region_held_drew (S := fun X => Below w8.heap.size w8 X) (by kernel_rfl) hSd (fun hHeld => ?_)
            obtain ⟨y0, hY0⟩ : ∃ Y, w8.drew = Y := ⟨_, rfl⟩
            rw [hY0] at hSd hHeld ⊢
            clear hY0
            refine tkS 0 (.agg #[.slice p.A p.n p.c, .slice p.B p.k p.d, .int .i64 p.am, .int .i64 p.rd, .int .i64 p.hd]) hHeld (fun w hq => ?_) ?_
            · obtain ⟨a0, a1, a2, a3, a4⟩ := HCp.out w (HXL.out.trans (hq.mono HXL.out.size)); obtain ⟨c0, c1, c2, c3, c4⟩ := HCq.out w (HXL.out.trans (hq.mono HXL.out.size)); obtain ⟨d0, d1, d2, d3, d4⟩ := HCr.out w (HXL.out.trans (hq.mono HXL.out.size))
              go_simp
            simp only [PT]
            refine tkS 1 (.agg #[.slice q.A q.n q.c, .slice q.B q.k q.d, .int .i64 q.am, .int .i64 q.rd, .int .i64 q.hd]) hHeld (fun w hq => ?_) ?_
            · obtain ⟨a0, a1, a2, a3, a4⟩ := HCp.out w (HXL.out.trans (hq.mono HXL.out.size)); obtain ⟨c0, c1, c2, c3, c4⟩ := HCq.out w (HXL.out.trans (hq.mono HXL.out.size)); obtain ⟨d0, d1, d2, d3, d4⟩ := HCr.out w (HXL.out.trans (hq.mono HXL.out.size))
              go_simp
            simp only [PT]
            refine tkS 2 (.agg #[.slice r.A r.n r.c, .slice r.B r.k r.d, .int .i64 r.am, .int .i64 r.rd, .int .i64 r.hd]) hHeld (fun w hq => ?_) ?_
            · obtain ⟨a0, a1, a2, a3, a4⟩ := HCp.out w (HXL.out.trans (hq.mono HXL.out.size)); obtain ⟨c0, c1, c2, c3, c4⟩ := HCq.out w (HXL.out.trans (hq.mono HXL.out.size)); obtain ⟨d0, d1, d2, d3, d4⟩ := HCr.out w (HXL.out.trans (hq.mono HXL.out.size))
              go_simp
            simp only [PT]
            refine tk 5 (.bool true) hHeld (fun w => ?_) ?_
            · go_simp
            simp only [PT]
            refine one_step 3 (by kernel_rfl) rfl (fun Kq hKq => ?_)
            go_simp
            have hS1 : Below w8.heap.size w8 (y0.alloc (.cells #[.slice p.A p.n p.c, .slice p.B p.k p.d, .int .i64 p.am, .int .i64 p.rd, .int .i64 p.hd, .slice q.A q.n q.c, .slice q.B q.k q.d, .int .i64 q.am, .int .i64 q.rd, .int .i64 q.hd, .slice r.A r.n r.c, .slice r.B r.k r.d, .int .i64 r.am, .int .i64 r.rd, .int .i64 r.hd] 25)) := hSd.alloc hSd.size _
            refine hKq.out _ _ hS1 (fun hHeld0 => ?_)
            clear hKq Kq hHeld
            have hHeld := hHeld0
            clear hHeld0
            try simp only [PT]
            refine one_step 4 (by kernel_rfl) rfl (fun Kq hKq => ?_)
            go_simp
            go_at_call 16
            (with_reducible refine (HA3.out y0 (HXL.out.trans (hSd.mono HXL.out.size))).mono ?_)
            rintro e y2 ⟨rfl, hbx⟩
            have hS2 : Below w8.heap.size w8 y2 := hS1.trans (hbx.mono hS1.size)
            clear hbx
            refine hKq.out _ _ hS2 (fun hHeld0 => ?_)
            clear hKq Kq hHeld
            have hHeld := hHeld0
            clear hHeld0
            try simp only [PT]
            refine tk 6 (.bool true) hHeld (fun w => ?_) ?_
            · go_simp
            simp only [PT]
            refine tk 7 (.bool false) hHeld (fun w => ?_) ?_
            · go_simp
            simp only [PT]
            refine tk 8 (.bool false) hHeld (fun w => ?_) ?_
            · go_simp
            simp only [PT]
            refine tk 9 (.bool true) hHeld (fun w => ?_) ?_
            · go_simp
            simp only [PT]
            refine tk 10 (.bool true) hHeld (fun w => ?_) ?_
            · go_simp
            simp only [PT]
            refine tkS 11 (.agg #[.slice r.A r.n r.c, .slice r.B r.k r.d, .int .i64 r.am, .int .i64 r.rd, .int .i64 r.hd]) hHeld (fun w hq => ?_) ?_
            · obtain ⟨a0, a1, a2, a3, a4⟩ := HCp.out w (HXL.out.trans (hq.mono HXL.out.size)); obtain ⟨c0, c1, c2, c3, c4⟩ := HCq.out w (HXL.out.trans (hq.mono HXL.out.size)); obtain ⟨d0, d1, d2, d3, d4⟩ := HCr.out w (HXL.out.trans (hq.mono HXL.out.size))
              go_simp
            simp only [PT]
            refine tkS 12 (.agg #[.slice p.A p.n p.c, .slice p.B p.k p.d, .int .i64 p.am, .int .i64 p.rd, .int .i64 p.hd]) hHeld (fun w hq => ?_) ?_
            · obtain ⟨a0, a1, a2, a3, a4⟩ := HCp.out w (HXL.out.trans (hq.mono HXL.out.size)); obtain ⟨c0, c1, c2, c3, c4⟩ := HCq.out w (HXL.out.trans (hq.mono HXL.out.size)); obtain ⟨d0, d1, d2, d3, d4⟩ := HCr.out w (HXL.out.trans (hq.mono HXL.out.size))
              go_simp
            simp only [PT]
            refine tkS 13 (.agg #[.slice q.A q.n q.c, .slice q.B q.k q.d, .int .i64 q.am, .int .i64 q.rd, .int .i64 q.hd]) hHeld (fun w hq => ?_) ?_
            · obtain ⟨a0, a1, a2, a3, a4⟩ := HCp.out w (HXL.out.trans (hq.mono HXL.out.size)); obtain ⟨c0, c1, c2, c3, c4⟩ := HCq.out w (HXL.out.trans (hq.mono HXL.out.size)); obtain ⟨d0, d1, d2, d3, d4⟩ := HCr.out w (HXL.out.trans (hq.mono HXL.out.size))
              go_simp
            simp only [PT]
            refine tk 16 (.bool true) hHeld (fun w => ?_) ?_
            · go_simp
            simp only [PT]
            refine one_step 14 (by kernel_rfl) rfl (fun Kq hKq => ?_)
            go_simp
            have hS3 : Below w8.heap.size w8 (y2.alloc (.cells #[.slice r.A r.n r.c, .slice r.B r.k r.d, .int .i64 r.am, .int .i64 r.rd, .int .i64 r.hd, .slice p.A p.n p.c, .slice p.B p.k p.d, .int .i64 p.am, .int .i64 p.rd, .int .i64 p.hd, .slice q.A q.n q.c, .slice q.B q.k q.d, .int .i64 q.am, .int .i64 q.rd, .int .i64 q.hd] 25)) := hS2.alloc hS2.size _
            refine hKq.out _ _ hS3 (fun hHeld0 => ?_)
            clear hKq Kq hHeld
            have hHeld := hHeld0
            clear hHeld0
            try simp only [PT]
            refine one_step 15 (by kernel_rfl) rfl (fun Kq hKq => ?_)
            go_simp
            go_at_call 16
            (with_reducible refine (HB3.out y2 (HXL.out.trans (hS2.mono HXL.out.size))).mono ?_)
            rintro e y4 ⟨rfl, hbx⟩
            have hS4 : Below w8.heap.size w8 y4 := hS3.trans (hbx.mono hS3.size)
            clear hbx
            refine hKq.out _ _ hS4 (fun hHeld0 => ?_)
            clear hKq Kq hHeld
            have hHeld := hHeld0
            clear hHeld0
            try simp only [PT]
            refine tk 17 (.bool true) hHeld (fun w => ?_) ?_
            · go_simp
            simp only [PT]
            refine tk 18 (.bool false) hHeld (fun w => ?_) ?_
            · go_simp
            simp only [PT]
            refine tk 19 (.bool false) hHeld (fun w => ?_) ?_
            · go_simp
            simp only [PT]
            refine tk 20 (.bool true) hHeld (fun w => ?_) ?_
            · go_simp
            simp only [PT]
            refine tk 21 (.bool true) hHeld (fun w => ?_) ?_
            · go_simp
            simp only [PT]
            refine tk 22 (.bool true) hHeld (fun w => ?_) ?_
            · go_simp
            simp only [PT]
            refine tkS 23 (.agg #[.slice p.A p.n p.c, .slice p.B p.k p.d, .int .i64 p.am, .int .i64 p.rd, .int .i64 p.hd]) hHeld (fun w hq => ?_) ?_
            · obtain ⟨a0, a1, a2, a3, a4⟩ := HCp.out w (HXL.out.trans (hq.mono HXL.out.size)); obtain ⟨c0, c1, c2, c3, c4⟩ := HCq.out w (HXL.out.trans (hq.mono HXL.out.size)); obtain ⟨d0, d1, d2, d3, d4⟩ := HCr.out w (HXL.out.trans (hq.mono HXL.out.size))
              go_simp
            simp only [PT]
            refine tkS 26 (.agg #[.slice p.A p.n p.c, .slice p.B p.k p.d, .int .i64 p.am, .int .i64 p.rd, .int .i64 p.hd]) hHeld (fun w hq => ?_) ?_
            · obtain ⟨a0, a1, a2, a3, a4⟩ := HCp.out w (HXL.out.trans (hq.mono HXL.out.size)); obtain ⟨c0, c1, c2, c3, c4⟩ := HCq.out w (HXL.out.trans (hq.mono HXL.out.size)); obtain ⟨d0, d1, d2, d3, d4⟩ := HCr.out w (HXL.out.trans (hq.mono HXL.out.size))
              go_simp
            simp only [PT]
            refine one_step 24 (by kernel_rfl) rfl (fun Kq hKq => ?_)
            go_simp
            have hS5 : Below w8.heap.size w8 (y4.alloc (.cells #[.slice p.A p.n p.c, .slice p.B p.k p.d, .int .i64 p.am, .int .i64 p.rd, .int .i64 p.hd] 25)) := hS4.alloc hS4.size _
            refine hKq.out _ _ hS5 (fun hHeld0 => ?_)
            clear hKq Kq hHeld
            have hHeld := hHeld0
            clear hHeld0
            try simp only [PT]
            refine one_step 25 (by kernel_rfl) rfl (fun Kq hKq => ?_)
            go_simp
            go_at_call 16
            (with_reducible refine (HA1.out y4 (HXL.out.trans (hS4.mono HXL.out.size))).mono ?_)
            rintro e y6 ⟨rfl, hbx⟩
            have hS6 : Below w8.heap.size w8 y6 := hS5.trans (hbx.mono hS5.size)
            clear hbx
            refine hKq.out _ _ hS6 (fun hHeld0 => ?_)
            clear hKq Kq hHeld
            have hHeld := hHeld0
            clear hHeld0
            try simp only [PT]
            refine one_step 27 (by kernel_rfl) rfl (fun Kq hKq => ?_)
            go_simp
            go_at_call 15
            (with_reducible refine (HTp.out _ (HXL.out.trans (hS6.mono HXL.out.size))).mono ?_)
            rintro e y7 ⟨rfl, hbx⟩
            have hS7 : Below w8.heap.size w8 y7 := hS6.trans (hbx.mono hS6.size)
            clear hbx
            refine hKq.out _ _ hS7 (fun hHeld0 => ?_)
            clear hKq Kq hHeld
            have hHeld := hHeld0
            clear hHeld0
            try simp only [PT]
            refine tk 28 (.bool true) hHeld (fun w => ?_) ?_
            · go_simp
            simp only [PT]
            refine tk 29 (.bool true) hHeld (fun w => ?_) ?_
            · go_simp
            simp only [PT]
            refine tk 30 (.bool true) hHeld (fun w => ?_) ?_
            · go_simp
            simp only [PT]
            refine tkS 31 (.agg #[.slice p.A p.n p.c, .slice p.B p.k p.d, .int .i64 p.am, .int .i64 p.rd, .int .i64 p.hd]) hHeld (fun w hq => ?_) ?_
            · obtain ⟨a0, a1, a2, a3, a4⟩ := HCp.out w (HXL.out.trans (hq.mono HXL.out.size)); obtain ⟨c0, c1, c2, c3, c4⟩ := HCq.out w (HXL.out.trans (hq.mono HXL.out.size)); obtain ⟨d0, d1, d2, d3, d4⟩ := HCr.out w (HXL.out.trans (hq.mono HXL.out.size))
              go_simp
            simp only [PT]
            refine tkS 32 (.agg #[.slice q.A q.n q.c, .slice q.B q.k q.d, .int .i64 q.am, .int .i64 q.rd, .int .i64 q.hd]) hHeld (fun w hq => ?_) ?_
            · obtain ⟨a0, a1, a2, a3, a4⟩ := HCp.out w (HXL.out.trans (hq.mono HXL.out.size)); obtain ⟨c0, c1, c2, c3, c4⟩ := HCq.out w (HXL.out.trans (hq.mono HXL.out.size)); obtain ⟨d0, d1, d2, d3, d4⟩ := HCr.out w (HXL.out.trans (hq.mono HXL.out.size))
              go_simp
            simp only [PT]
            refine tkS 33 (.agg #[.slice r.A r.n r.c, .slice r.B r.k r.d, .int .i64 r.am, .int .i64 r.rd, .int .i64 r.hd]) hHeld (fun w hq => ?_) ?_
            · obtain ⟨a0, a1, a2, a3, a4⟩ := HCp.out w (HXL.out.trans (hq.mono HXL.out.size)); obtain ⟨c0, c1, c2, c3, c4⟩ := HCq.out w (HXL.out.trans (hq.mono HXL.out.size)); obtain ⟨d0, d1, d2, d3, d4⟩ := HCr.out w (HXL.out.trans (hq.mono HXL.out.size))
              go_simp
            simp only [PT]
            refine tkS 34 (.agg #[.slice p.A p.n p.c, .slice p.B p.k p.d, .int .i64 p.am, .int .i64 p.rd, .int .i64 p.hd]) hHeld (fun w hq => ?_) ?_
            · obtain ⟨a0, a1, a2, a3, a4⟩ := HCp.out w (HXL.out.trans (hq.mono HXL.out.size)); obtain ⟨c0, c1, c2, c3, c4⟩ := HCq.out w (HXL.out.trans (hq.mono HXL.out.size)); obtain ⟨d0, d1, d2, d3, d4⟩ := HCr.out w (HXL.out.trans (hq.mono HXL.out.size))
              go_simp
            simp only [PT]
            refine one_step 35 (by kernel_rfl) rfl (fun Kq hKq => ?_)
            go_simp
            have hS8 : Below w8.heap.size w8 (y7.alloc (.cells #[.slice p.A p.n p.c, .slice p.B p.k p.d, .int .i64 p.am, .int .i64 p.rd, .int .i64 p.hd, .slice q.A q.n q.c, .slice q.B q.k q.d, .int .i64 q.am, .int .i64 q.rd, .int .i64 q.hd, .slice r.A r.n r.c, .slice r.B r.k r.d, .int .i64 r.am, .int .i64 r.rd, .int .i64 r.hd, .slice p.A p.n p.c, .slice p.B p.k p.d, .int .i64 p.am, .int .i64 p.rd, .int .i64 p.hd] 25)) := hS7.alloc hS7.size _
            refine hKq.out _ _ hS8 (fun hHeld0 => ?_)
            clear hKq Kq hHeld
            have hHeld := hHeld0
            clear hHeld0
            try simp only [PT]
            refine one_step 36 (by kernel_rfl) rfl (fun Kq hKq => ?_)
            go_simp
            go_at_call 16
            (with_reducible refine (HA4.out y7 (HXL.out.trans (hS7.mono HXL.out.size))).mono ?_)
            rintro e y9 ⟨rfl, hbx⟩
            have hS9 : Below w8.heap.size w8 y9 := hS8.trans (hbx.mono hS8.size)
            clear hbx
            refine hKq.out _ _ hS9 (fun hHeld0 => ?_)
            clear hKq Kq hHeld
            have hHeld := hHeld0
            clear hHeld0
            try simp only [PT]
            refine tk 37 (.bool true) hHeld (fun w => ?_) ?_
            · go_simp
            simp only [PT]
            refine tk 38 (.bool true) hHeld (fun w => ?_) ?_
            · go_simp
            simp only [PT]
            refine tk 39 (.bool true) hHeld (fun w => ?_) ?_
            · go_simp
            simp only [PT]
            refine wpAnyH_done (by kernel_rfl) ?_ _
            clear hHeld
            go_wp2
            go_ret
            exact ⟨by first | rfl | simp, HB0.out.trans ((HXL.out.trans (hS9.mono HXL.out.size)).mono HB0.out.size)⟩
    · cases Fp
      · clear HTq HTr
        simp only [Bool.true_and, Bool.false_and, Bool.and_true, Bool.and_false] at HA3 HB3
        go_enter Try.func7, Try.ntmps7
        go_wp2_with (first
          | (go_at_call 9
             rw [HW.out]
             (with_reducible refine (HAW.out).mono ?_)
             rintro e w1 ⟨rfl, hbx⟩
             have HX1 := Lib.hid (HX0.out.trans (hbx.mono HX0.out.size))
             obtain ⟨p0z, p1z, p2z, p3z, p4z⟩ := HCp.out w1 HX1.out
             obtain ⟨q0z, q1z, q2z, q3z, q4z⟩ := HCq.out w1 HX1.out
             obtain ⟨r0z, r1z, r2z, r3z, r4z⟩ := HCr.out w1 HX1.out
             clear hbx)
          | (go_at_call 10
             (with_reducible refine (HFp.out _ HX1.out).mono ?_)
             rintro e w2 ⟨rfl, hbx⟩
             have HX2 := Lib.hid (HX1.out.trans (hbx.mono HX1.out.size))
             obtain ⟨p0z, p1z, p2z, p3z, p4z⟩ := HCp.out w2 HX2.out
             obtain ⟨q0z, q1z, q2z, q3z, q4z⟩ := HCq.out w2 HX2.out
             obtain ⟨r0z, r1z, r2z, r3z, r4z⟩ := HCr.out w2 HX2.out
             clear hbx)
          | (go_at_call 10
             (with_reducible refine (HFq.out _ HX2.out).mono ?_)
             rintro e w3 ⟨rfl, hbx⟩
             have HX3 := Lib.hid (HX2.out.trans (hbx.mono HX2.out.size))
             obtain ⟨p0z, p1z, p2z, p3z, p4z⟩ := HCp.out w3 HX3.out
             obtain ⟨q0z, q1z, q2z, q3z, q4z⟩ := HCq.out w3 HX3.out
             obtain ⟨r0z, r1z, r2z, r3z, r4z⟩ := HCr.out w3 HX3.out
             clear hbx)
          | (go_at_call 10
             (with_reducible refine (HFr.out _ HX3.out).mono ?_)
             rintro e w4 ⟨rfl, hbx⟩
             have HX4 := Lib.hid (HX3.out.trans (hbx.mono HX3.out.size))
             obtain ⟨p0z, p1z, p2z, p3z, p4z⟩ := HCp.out w4 HX4.out
             obtain ⟨q0z, q1z, q2z, q3z, q4z⟩ := HCq.out w4 HX4.out
             obtain ⟨r0z, r1z, r2z, r3z, r4z⟩ := HCr.out w4 HX4.out
             clear hbx)
          | (go_at_call 16
             (with_reducible refine (HAN.out _ HX4.out).mono ?_)
             rintro e w5 ⟨rfl, hbx⟩
             have HX5 := Lib.hid (HX4.out.trans (hbx.mono HX4.out.size))
             obtain ⟨p0z, p1z, p2z, p3z, p4z⟩ := HCp.out w5 HX5.out
             obtain ⟨q0z, q1z, q2z, q3z, q4z⟩ := HCq.out w5 HX5.out
             obtain ⟨r0z, r1z, r2z, r3z, r4z⟩ := HCr.out w5 HX5.out
             clear hbx)
          | (go_at_call 15
             (with_reducible refine (HTp.out _ HX5.out).mono ?_)
             rintro e w6 ⟨rfl, hbx⟩
             have HX6 := Lib.hid (HX5.out.trans (hbx.mono HX5.out.size))
             obtain ⟨p0z, p1z, p2z, p3z, p4z⟩ := HCp.out w6 HX6.out
             obtain ⟨q0z, q1z, q2z, q3z, q4z⟩ := HCq.out w6 HX6.out
             obtain ⟨r0z, r1z, r2z, r3z, r4z⟩ := HCr.out w6 HX6.out
             clear hbx))
        clear p0z p1z p2z p3z p4z q0z q1z q2z q3z q4z r0z r1z r2z r3z r4z
        have HXL := Lib.hid HX6.out
        have hSd : Below w6.heap.size w6 w6.drew := (Below.refl _ w6).drew
        refine wp_region_held_drew (S := fun X => Below w6.heap.size w6 X) (by kernel_rfl) hSd (fun hHeld => ?_)
        obtain ⟨y0, hY0⟩ : ∃ Y, w6.drew = Y := ⟨_, rfl⟩
        rw [hY0] at hSd hHeld ⊢
        clear hY0
        refine tkS 0 (.agg #[.slice p.A p.n p.c, .slice p.B p.k p.d, .int .i64 p.am, .int .i64 p.rd, .int .i64 p.hd]) hHeld (fun w hq => ?_) ?_
        · obtain ⟨a0, a1, a2, a3, a4⟩ := HCp.out w (HXL.out.trans (hq.mono HXL.out.size)); obtain ⟨c0, c1, c2, c3, c4⟩ := HCq.out w (HXL.out.trans (hq.mono HXL.out.size)); obtain ⟨d0, d1, d2, d3, d4⟩ := HCr.out w (HXL.out.trans (hq.mono HXL.out.size))
          go_simp
        simp only [PT]
        refine tkS 1 (.agg #[.slice q.A q.n q.c, .slice q.B q.k q.d, .int .i64 q.am, .int .i64 q.rd, .int .i64 q.hd]) hHeld (fun w hq => ?_) ?_
        · obtain ⟨a0, a1, a2, a3, a4⟩ := HCp.out w (HXL.out.trans (hq.mono HXL.out.size)); obtain ⟨c0, c1, c2, c3, c4⟩ := HCq.out w (HXL.out.trans (hq.mono HXL.out.size)); obtain ⟨d0, d1, d2, d3, d4⟩ := HCr.out w (HXL.out.trans (hq.mono HXL.out.size))
          go_simp
        simp only [PT]
        refine tkS 2 (.agg #[.slice r.A r.n r.c, .slice r.B r.k r.d, .int .i64 r.am, .int .i64 r.rd, .int .i64 r.hd]) hHeld (fun w hq => ?_) ?_
        · obtain ⟨a0, a1, a2, a3, a4⟩ := HCp.out w (HXL.out.trans (hq.mono HXL.out.size)); obtain ⟨c0, c1, c2, c3, c4⟩ := HCq.out w (HXL.out.trans (hq.mono HXL.out.size)); obtain ⟨d0, d1, d2, d3, d4⟩ := HCr.out w (HXL.out.trans (hq.mono HXL.out.size))
          go_simp
        simp only [PT]
        refine tk 5 (.bool false) hHeld (fun w => ?_) ?_
        · go_simp
        simp only [PT]
        refine one_step 3 (by kernel_rfl) rfl (fun Kq hKq => ?_)
        go_simp
        have hS1 : Below w6.heap.size w6 (y0.alloc (.cells #[.slice p.A p.n p.c, .slice p.B p.k p.d, .int .i64 p.am, .int .i64 p.rd, .int .i64 p.hd, .slice q.A q.n q.c, .slice q.B q.k q.d, .int .i64 q.am, .int .i64 q.rd, .int .i64 q.hd, .slice r.A r.n r.c, .slice r.B r.k r.d, .int .i64 r.am, .int .i64 r.rd, .int .i64 r.hd] 25)) := hSd.alloc hSd.size _
        refine hKq.out _ _ hS1 (fun hHeld0 => ?_)
        clear hKq Kq hHeld
        have hHeld := hHeld0
        clear hHeld0
        try simp only [PT]
        refine one_step 4 (by kernel_rfl) rfl (fun Kq hKq => ?_)
        go_simp
        go_at_call 16
        (with_reducible refine (HA3.out y0 (HXL.out.trans (hSd.mono HXL.out.size))).mono ?_)
        rintro e y2 ⟨rfl, hbx⟩
        have hS2 : Below w6.heap.size w6 y2 := hS1.trans (hbx.mono hS1.size)
        clear hbx
        refine hKq.out _ _ hS2 (fun hHeld0 => ?_)
        clear hKq Kq hHeld
        have hHeld := hHeld0
        clear hHeld0
        try simp only [PT]
        refine tk 6 (.bool false) hHeld (fun w => ?_) ?_
        · go_simp
        simp only [PT]
        refine tkO 7 hHeld ?_
        simp only [PT]
        refine tk 8 (.bool false) hHeld (fun w => ?_) ?_
        · go_simp
        simp only [PT]
        refine tk 9 (.bool true) hHeld (fun w => ?_) ?_
        · go_simp
        simp only [PT]
        refine tk 10 (.bool true) hHeld (fun w => ?_) ?_
        · go_simp
        simp only [PT]
        refine tkS 11 (.agg #[.slice r.A r.n r.c, .slice r.B r.k r.d, .int .i64 r.am, .int .i64 r.rd, .int .i64 r.hd]) hHeld (fun w hq => ?_) ?_
        · obtain ⟨a0, a1, a2, a3, a4⟩ := HCp.out w (HXL.out.trans (hq.mono HXL.out.size)); obtain ⟨c0, c1, c2, c3, c4⟩ := HCq.out w (HXL.out.trans (hq.mono HXL.out.size)); obtain ⟨d0, d1, d2, d3, d4⟩ := HCr.out w (HXL.out.trans (hq.mono HXL.out.size))
          go_simp
        simp only [PT]
        refine tkS 12 (.agg #[.slice p.A p.n p.c, .slice p.B p.k p.d, .int .i64 p.am, .int .i64 p.rd, .int .i64 p.hd]) hHeld (fun w hq => ?_) ?_
        · obtain ⟨a0, a1, a2, a3, a4⟩ := HCp.out w (HXL.out.trans (hq.mono HXL.out.size)); obtain ⟨c0, c1, c2, c3, c4⟩ := HCq.out w (HXL.out.trans (hq.mono HXL.out.size)); obtain ⟨d0, d1, d2, d3, d4⟩ := HCr.out w (HXL.out.trans (hq.mono HXL.out.size))
          go_simp
        simp only [PT]
        refine tkS 13 (.agg #[.slice q.A q.n q.c, .slice q.B q.k q.d, .int .i64 q.am, .int .i64 q.rd, .int .i64 q.hd]) hHeld (fun w hq => ?_) ?_
        · obtain ⟨a0, a1, a2, a3, a4⟩ := HCp.out w (HXL.out.trans (hq.mono HXL.out.size)); obtain ⟨c0, c1, c2, c3, c4⟩ := HCq.out w (HXL.out.trans (hq.mono HXL.out.size)); obtain ⟨d0, d1, d2, d3, d4⟩ := HCr.out w (HXL.out.trans (hq.mono HXL.out.size))
          go_simp
        simp only [PT]
        refine tk 16 (.bool false) hHeld (fun w => ?_) ?_
        · go_simp
        simp only [PT]
        refine one_step 14 (by kernel_rfl) rfl (fun Kq hKq => ?_)
        go_simp
        have hS3 : Below w6.heap.size w6 (y2.alloc (.cells #[.slice r.A r.n r.c, .slice r.B r.k r.d, .int .i64 r.am, .int .i64 r.rd, .int .i64 r.hd, .slice p.A p.n p.c, .slice p.B p.k p.d, .int .i64 p.am, .int .i64 p.rd, .int .i64 p.hd, .slice q.A q.n q.c, .slice q.B q.k q.d, .int .i64 q.am, .int .i64 q.rd, .int .i64 q.hd] 25)) := hS2.alloc hS2.size _
        refine hKq.out _ _ hS3 (fun hHeld0 => ?_)
        clear hKq Kq hHeld
        have hHeld := hHeld0
        clear hHeld0
        try simp only [PT]
        refine one_step 15 (by kernel_rfl) rfl (fun Kq hKq => ?_)
        go_simp
        go_at_call 16
        (with_reducible refine (HB3.out y2 (HXL.out.trans (hS2.mono HXL.out.size))).mono ?_)
        rintro e y4 ⟨rfl, hbx⟩
        have hS4 : Below w6.heap.size w6 y4 := hS3.trans (hbx.mono hS3.size)
        clear hbx
        refine hKq.out _ _ hS4 (fun hHeld0 => ?_)
        clear hKq Kq hHeld
        have hHeld := hHeld0
        clear hHeld0
        try simp only [PT]
        refine tk 17 (.bool false) hHeld (fun w => ?_) ?_
        · go_simp
        simp only [PT]
        refine tkO 18 hHeld ?_
        simp only [PT]
        refine tk 19 (.bool false) hHeld (fun w => ?_) ?_
        · go_simp
        simp only [PT]
        refine tk 20 (.bool true) hHeld (fun w => ?_) ?_
        · go_simp
        simp only [PT]
        refine tk 21 (.bool true) hHeld (fun w => ?_) ?_
        · go_simp
        simp only [PT]
        refine tk 22 (.bool true) hHeld (fun w => ?_) ?_
        · go_simp
        simp only [PT]
        refine tkS 23 (.agg #[.slice p.A p.n p.c, .slice p.B p.k p.d, .int .i64 p.am, .int .i64 p.rd, .int .i64 p.hd]) hHeld (fun w hq => ?_) ?_
        · obtain ⟨a0, a1, a2, a3, a4⟩ := HCp.out w (HXL.out.trans (hq.mono HXL.out.size)); obtain ⟨c0, c1, c2, c3, c4⟩ := HCq.out w (HXL.out.trans (hq.mono HXL.out.size)); obtain ⟨d0, d1, d2, d3, d4⟩ := HCr.out w (HXL.out.trans (hq.mono HXL.out.size))
          go_simp
        simp only [PT]
        refine tkS 26 (.agg #[.slice p.A p.n p.c, .slice p.B p.k p.d, .int .i64 p.am, .int .i64 p.rd, .int .i64 p.hd]) hHeld (fun w hq => ?_) ?_
        · obtain ⟨a0, a1, a2, a3, a4⟩ := HCp.out w (HXL.out.trans (hq.mono HXL.out.size)); obtain ⟨c0, c1, c2, c3, c4⟩ := HCq.out w (HXL.out.trans (hq.mono HXL.out.size)); obtain ⟨d0, d1, d2, d3, d4⟩ := HCr.out w (HXL.out.trans (hq.mono HXL.out.size))
          go_simp
        simp only [PT]
        refine one_step 24 (by kernel_rfl) rfl (fun Kq hKq => ?_)
        go_simp
        have hS5 : Below w6.heap.size w6 (y4.alloc (.cells #[.slice p.A p.n p.c, .slice p.B p.k p.d, .int .i64 p.am, .int .i64 p.rd, .int .i64 p.hd] 25)) := hS4.alloc hS4.size _
        refine hKq.out _ _ hS5 (fun hHeld0 => ?_)
        clear hKq Kq hHeld
        have hHeld := hHeld0
        clear hHeld0
        try simp only [PT]
        refine one_step 25 (by kernel_rfl) rfl (fun Kq hKq => ?_)
        go_simp
        go_at_call 16
        (with_reducible refine (HA1.out y4 (HXL.out.trans (hS4.mono HXL.out.size))).mono ?_)
        rintro e y6 ⟨rfl, hbx⟩
        have hS6 : Below w6.heap.size w6 y6 := hS5.trans (hbx.mono hS5.size)
        clear hbx
        refine hKq.out _ _ hS6 (fun hHeld0 => ?_)
        clear hKq Kq hHeld
        have hHeld := hHeld0
        clear hHeld0
        try simp only [PT]
        refine one_step 27 (by kernel_rfl) rfl (fun Kq hKq => ?_)
        go_simp
        go_at_call 15
        (with_reducible refine (HTp.out _ (HXL.out.trans (hS6.mono HXL.out.size))).mono ?_)
        rintro e y7 ⟨rfl, hbx⟩
        have hS7 : Below w6.heap.size w6 y7 := hS6.trans (hbx.mono hS6.size)
        clear hbx
        refine hKq.out _ _ hS7 (fun hHeld0 => ?_)
        clear hKq Kq hHeld
        have hHeld := hHeld0
        clear hHeld0
        try simp only [PT]
        refine tk 28 (.bool true) hHeld (fun w => ?_) ?_
        · go_simp
        simp only [PT]
        refine tk 29 (.bool true) hHeld (fun w => ?_) ?_
        · go_simp
        simp only [PT]
        refine tk 30 (.bool true) hHeld (fun w => ?_) ?_
        · go_simp
        simp only [PT]
        refine tkS 31 (.agg #[.slice p.A p.n p.c, .slice p.B p.k p.d, .int .i64 p.am, .int .i64 p.rd, .int .i64 p.hd]) hHeld (fun w hq => ?_) ?_
        · obtain ⟨a0, a1, a2, a3, a4⟩ := HCp.out w (HXL.out.trans (hq.mono HXL.out.size)); obtain ⟨c0, c1, c2, c3, c4⟩ := HCq.out w (HXL.out.trans (hq.mono HXL.out.size)); obtain ⟨d0, d1, d2, d3, d4⟩ := HCr.out w (HXL.out.trans (hq.mono HXL.out.size))
          go_simp
        simp only [PT]
        refine tkS 32 (.agg #[.slice q.A q.n q.c, .slice q.B q.k q.d, .int .i64 q.am, .int .i64 q.rd, .int .i64 q.hd]) hHeld (fun w hq => ?_) ?_
        · obtain ⟨a0, a1, a2, a3, a4⟩ := HCp.out w (HXL.out.trans (hq.mono HXL.out.size)); obtain ⟨c0, c1, c2, c3, c4⟩ := HCq.out w (HXL.out.trans (hq.mono HXL.out.size)); obtain ⟨d0, d1, d2, d3, d4⟩ := HCr.out w (HXL.out.trans (hq.mono HXL.out.size))
          go_simp
        simp only [PT]
        refine tkS 33 (.agg #[.slice r.A r.n r.c, .slice r.B r.k r.d, .int .i64 r.am, .int .i64 r.rd, .int .i64 r.hd]) hHeld (fun w hq => ?_) ?_
        · obtain ⟨a0, a1, a2, a3, a4⟩ := HCp.out w (HXL.out.trans (hq.mono HXL.out.size)); obtain ⟨c0, c1, c2, c3, c4⟩ := HCq.out w (HXL.out.trans (hq.mono HXL.out.size)); obtain ⟨d0, d1, d2, d3, d4⟩ := HCr.out w (HXL.out.trans (hq.mono HXL.out.size))
          go_simp
        simp only [PT]
        refine tkS 34 (.agg #[.slice p.A p.n p.c, .slice p.B p.k p.d, .int .i64 p.am, .int .i64 p.rd, .int .i64 p.hd]) hHeld (fun w hq => ?_) ?_
        · obtain ⟨a0, a1, a2, a3, a4⟩ := HCp.out w (HXL.out.trans (hq.mono HXL.out.size)); obtain ⟨c0, c1, c2, c3, c4⟩ := HCq.out w (HXL.out.trans (hq.mono HXL.out.size)); obtain ⟨d0, d1, d2, d3, d4⟩ := HCr.out w (HXL.out.trans (hq.mono HXL.out.size))
          go_simp
        simp only [PT]
        refine one_step 35 (by kernel_rfl) rfl (fun Kq hKq => ?_)
        go_simp
        have hS8 : Below w6.heap.size w6 (y7.alloc (.cells #[.slice p.A p.n p.c, .slice p.B p.k p.d, .int .i64 p.am, .int .i64 p.rd, .int .i64 p.hd, .slice q.A q.n q.c, .slice q.B q.k q.d, .int .i64 q.am, .int .i64 q.rd, .int .i64 q.hd, .slice r.A r.n r.c, .slice r.B r.k r.d, .int .i64 r.am, .int .i64 r.rd, .int .i64 r.hd, .slice p.A p.n p.c, .slice p.B p.k p.d, .int .i64 p.am, .int .i64 p.rd, .int .i64 p.hd] 25)) := hS7.alloc hS7.size _
        refine hKq.out _ _ hS8 (fun hHeld0 => ?_)
        clear hKq Kq hHeld
        have hHeld := hHeld0
        clear hHeld0
        try simp only [PT]
        refine one_step 36 (by kernel_rfl) rfl (fun Kq hKq => ?_)
        go_simp
        go_at_call 16
        (with_reducible refine (HA4.out y7 (HXL.out.trans (hS7.mono HXL.out.size))).mono ?_)
        rintro e y9 ⟨rfl, hbx⟩
        have hS9 : Below w6.heap.size w6 y9 := hS8.trans (hbx.mono hS8.size)
        clear hbx
        refine hKq.out _ _ hS9 (fun hHeld0 => ?_)
        clear hKq Kq hHeld
        have hHeld := hHeld0
        clear hHeld0
        try simp only [PT]
        refine tk 37 (.bool true) hHeld (fun w => ?_) ?_
        · go_simp
        simp only [PT]
        refine tk 38 (.bool true) hHeld (fun w => ?_) ?_
        · go_simp
        simp only [PT]
        refine tk 39 (.bool true) hHeld (fun w => ?_) ?_
        · go_simp
        simp only [PT]
        refine wpAnyH_done (by kernel_rfl) ?_ _
        clear hHeld
        go_wp2
        go_ret
        exact ⟨by first | rfl | simp, HB0.out.trans ((HXL.out.trans (hS9.mono HXL.out.size)).mono HB0.out.size)⟩
      · cases Fq
        · clear HTr
          simp only [Bool.true_and, Bool.false_and, Bool.and_true, Bool.and_false] at HA3 HB3
          go_enter Try.func7, Try.ntmps7
          go_wp2_with (first
            | (go_at_call 9
               rw [HW.out]
               (with_reducible refine (HAW.out).mono ?_)
               rintro e w1 ⟨rfl, hbx⟩
               have HX1 := Lib.hid (HX0.out.trans (hbx.mono HX0.out.size))
               obtain ⟨p0z, p1z, p2z, p3z, p4z⟩ := HCp.out w1 HX1.out
               obtain ⟨q0z, q1z, q2z, q3z, q4z⟩ := HCq.out w1 HX1.out
               obtain ⟨r0z, r1z, r2z, r3z, r4z⟩ := HCr.out w1 HX1.out
               clear hbx)
            | (go_at_call 10
               (with_reducible refine (HFp.out _ HX1.out).mono ?_)
               rintro e w2 ⟨rfl, hbx⟩
               have HX2 := Lib.hid (HX1.out.trans (hbx.mono HX1.out.size))
               obtain ⟨p0z, p1z, p2z, p3z, p4z⟩ := HCp.out w2 HX2.out
               obtain ⟨q0z, q1z, q2z, q3z, q4z⟩ := HCq.out w2 HX2.out
               obtain ⟨r0z, r1z, r2z, r3z, r4z⟩ := HCr.out w2 HX2.out
               clear hbx)
            | (go_at_call 10
               (with_reducible refine (HFq.out _ HX2.out).mono ?_)
               rintro e w3 ⟨rfl, hbx⟩
               have HX3 := Lib.hid (HX2.out.trans (hbx.mono HX2.out.size))
               obtain ⟨p0z, p1z, p2z, p3z, p4z⟩ := HCp.out w3 HX3.out
               obtain ⟨q0z, q1z, q2z, q3z, q4z⟩ := HCq.out w3 HX3.out
               obtain ⟨r0z, r1z, r2z, r3z, r4z⟩ := HCr.out w3 HX3.out
               clear hbx)
            | (go_at_call 10
               (with_reducible refine (HFr.out _ HX3.out).mono ?_)
               rintro e w4 ⟨rfl, hbx⟩
               have HX4 := Lib.hid (HX3.out.trans (hbx.mono HX3.out.size))
               obtain ⟨p0z, p1z, p2z, p3z, p4z⟩ := HCp.out w4 HX4.out
               obtain ⟨q0z, q1z, q2z, q3z, q4z⟩ := HCq.out w4 HX4.out
               obtain ⟨r0z, r1z, r2z, r3z, r4z⟩ := HCr.out w4 HX4.out
               clear hbx)
            | (go_at_call 16
               (with_reducible refine (HAN.out _ HX4.out).mono ?_)
               rintro e w5 ⟨rfl, hbx⟩
               have HX5 := Lib.hid (HX4.out.trans (hbx.mono HX4.out.size))
               obtain ⟨p0z, p1z, p2z, p3z, p4z⟩ := HCp.out w5 HX5.out
               obtain ⟨q0z, q1z, q2z, q3z, q4z⟩ := HCq.out w5 HX5.out
               obtain ⟨r0z, r1z, r2z, r3z, r4z⟩ := HCr.out w5 HX5.out
               clear hbx)
            | (go_at_call 15
               (with_reducible refine (HTp.out _ HX5.out).mono ?_)
               rintro e w6 ⟨rfl, hbx⟩
               have HX6 := Lib.hid (HX5.out.trans (hbx.mono HX5.out.size))
               obtain ⟨p0z, p1z, p2z, p3z, p4z⟩ := HCp.out w6 HX6.out
               obtain ⟨q0z, q1z, q2z, q3z, q4z⟩ := HCq.out w6 HX6.out
               obtain ⟨r0z, r1z, r2z, r3z, r4z⟩ := HCr.out w6 HX6.out
               clear hbx)
            | (go_at_call 15
               (with_reducible refine (HTq.out _ HX6.out).mono ?_)
               rintro e w7 ⟨rfl, hbx⟩
               have HX7 := Lib.hid (HX6.out.trans (hbx.mono HX6.out.size))
               obtain ⟨p0z, p1z, p2z, p3z, p4z⟩ := HCp.out w7 HX7.out
               obtain ⟨q0z, q1z, q2z, q3z, q4z⟩ := HCq.out w7 HX7.out
               obtain ⟨r0z, r1z, r2z, r3z, r4z⟩ := HCr.out w7 HX7.out
               clear hbx))
          clear p0z p1z p2z p3z p4z q0z q1z q2z q3z q4z r0z r1z r2z r3z r4z
          have HXL := Lib.hid HX7.out
          have hSd : Below w7.heap.size w7 w7.drew := (Below.refl _ w7).drew
          refine wp_region_held_drew (S := fun X => Below w7.heap.size w7 X) (by kernel_rfl) hSd (fun hHeld => ?_)
          obtain ⟨y0, hY0⟩ : ∃ Y, w7.drew = Y := ⟨_, rfl⟩
          rw [hY0] at hSd hHeld ⊢
          clear hY0
          refine tkS 0 (.agg #[.slice p.A p.n p.c, .slice p.B p.k p.d, .int .i64 p.am, .int .i64 p.rd, .int .i64 p.hd]) hHeld (fun w hq => ?_) ?_
          · obtain ⟨a0, a1, a2, a3, a4⟩ := HCp.out w (HXL.out.trans (hq.mono HXL.out.size)); obtain ⟨c0, c1, c2, c3, c4⟩ := HCq.out w (HXL.out.trans (hq.mono HXL.out.size)); obtain ⟨d0, d1, d2, d3, d4⟩ := HCr.out w (HXL.out.trans (hq.mono HXL.out.size))
            go_simp
          simp only [PT]
          refine tkS 1 (.agg #[.slice q.A q.n q.c, .slice q.B q.k q.d, .int .i64 q.am, .int .i64 q.rd, .int .i64 q.hd]) hHeld (fun w hq => ?_) ?_
          · obtain ⟨a0, a1, a2, a3, a4⟩ := HCp.out w (HXL.out.trans (hq.mono HXL.out.size)); obtain ⟨c0, c1, c2, c3, c4⟩ := HCq.out w (HXL.out.trans (hq.mono HXL.out.size)); obtain ⟨d0, d1, d2, d3, d4⟩ := HCr.out w (HXL.out.trans (hq.mono HXL.out.size))
            go_simp
          simp only [PT]
          refine tkS 2 (.agg #[.slice r.A r.n r.c, .slice r.B r.k r.d, .int .i64 r.am, .int .i64 r.rd, .int .i64 r.hd]) hHeld (fun w hq => ?_) ?_
          · obtain ⟨a0, a1, a2, a3, a4⟩ := HCp.out w (HXL.out.trans (hq.mono HXL.out.size)); obtain ⟨c0, c1, c2, c3, c4⟩ := HCq.out w (HXL.out.trans (hq.mono HXL.out.size)); obtain ⟨d0, d1, d2, d3, d4⟩ := HCr.out w (HXL.out.trans (hq.mono HXL.out.size))
            go_simp
          simp only [PT]
          refine tk 5 (.bool false) hHeld (fun w => ?_) ?_
          · go_simp
          simp only [PT]
          refine one_step 3 (by kernel_rfl) rfl (fun Kq hKq => ?_)
          go_simp
          have hS1 : Below w7.heap.size w7 (y0.alloc (.cells #[.slice p.A p.n p.c, .slice p.B p.k p.d, .int .i64 p.am, .int .i64 p.rd, .int .i64 p.hd, .slice q.A q.n q.c, .slice q.B q.k q.d, .int .i64 q.am, .int .i64 q.rd, .int .i64 q.hd, .slice r.A r.n r.c, .slice r.B r.k r.d, .int .i64 r.am, .int .i64 r.rd, .int .i64 r.hd] 25)) := hSd.alloc hSd.size _
          refine hKq.out _ _ hS1 (fun hHeld0 => ?_)
          clear hKq Kq hHeld
          have hHeld := hHeld0
          clear hHeld0
          try simp only [PT]
          refine one_step 4 (by kernel_rfl) rfl (fun Kq hKq => ?_)
          go_simp
          go_at_call 16
          (with_reducible refine (HA3.out y0 (HXL.out.trans (hSd.mono HXL.out.size))).mono ?_)
          rintro e y2 ⟨rfl, hbx⟩
          have hS2 : Below w7.heap.size w7 y2 := hS1.trans (hbx.mono hS1.size)
          clear hbx
          refine hKq.out _ _ hS2 (fun hHeld0 => ?_)
          clear hKq Kq hHeld
          have hHeld := hHeld0
          clear hHeld0
          try simp only [PT]
          refine tk 6 (.bool false) hHeld (fun w => ?_) ?_
          · go_simp
          simp only [PT]
          refine tkO 7 hHeld ?_
          simp only [PT]
          refine tk 8 (.bool false) hHeld (fun w => ?_) ?_
          · go_simp
          simp only [PT]
          refine tk 9 (.bool true) hHeld (fun w => ?_) ?_
          · go_simp
          simp only [PT]
          refine tk 10 (.bool true) hHeld (fun w => ?_) ?_
          · go_simp
          simp only [PT]
          refine tkS 11 (.agg #[.slice r.A r.n r.c, .slice r.B r.k r.d, .int .i64 r.am, .int .i64 r.rd, .int .i64 r.hd]) hHeld (fun w hq => ?_) ?_
          · obtain ⟨a0, a1, a2, a3, a4⟩ := HCp.out w (HXL.out.trans (hq.mono HXL.out.size)); obtain ⟨c0, c1, c2, c3, c4⟩ := HCq.out w (HXL.out.trans (hq.mono HXL.out.size)); obtain ⟨d0, d1, d2, d3, d4⟩ := HCr.out w (HXL.out.trans (hq.mono HXL.out.size))
            go_simp
          simp only [PT]
          refine tkS 12 (.agg #[.slice p.A p.n p.c, .slice p.B p.k p.d, .int .i64 p.am, .int .i64 p.rd, .int .i64 p.hd]) hHeld (fun w hq => ?_) ?_
          · obtain ⟨a0, a1, a2, a3, a4⟩ := HCp.out w (HXL.out.trans (hq.mono HXL.out.size)); obtain ⟨c0, c1, c2, c3, c4⟩ := HCq.out w (HXL.out.trans (hq.mono HXL.out.size)); obtain ⟨d0, d1, d2, d3, d4⟩ := HCr.out w (HXL.out.trans (hq.mono HXL.out.size))
            go_simp
          simp only [PT]
          refine tkS 13 (.agg #[.slice q.A q.n q.c, .slice q.B q.k q.d, .int .i64 q.am, .int .i64 q.rd, .int .i64 q.hd]) hHeld (fun w hq => ?_) ?_
          · obtain ⟨a0, a1, a2, a3, a4⟩ := HCp.out w (HXL.out.trans (hq.mono HXL.out.size)); obtain ⟨c0, c1, c2, c3, c4⟩ := HCq.out w (HXL.out.trans (hq.mono HXL.out.size)); obtain ⟨d0, d1, d2, d3, d4⟩ := HCr.out w (HXL.out.trans (hq.mono HXL.out.size))
            go_simp
          simp only [PT]
          refine tk 16 (.bool false) hHeld (fun w => ?_) ?_
          · go_simp
          simp only [PT]
          refine one_step 14 (by kernel_rfl) rfl (fun Kq hKq => ?_)
          go_simp
          have hS3 : Below w7.heap.size w7 (y2.alloc (.cells #[.slice r.A r.n r.c, .slice r.B r.k r.d, .int .i64 r.am, .int .i64 r.rd, .int .i64 r.hd, .slice p.A p.n p.c, .slice p.B p.k p.d, .int .i64 p.am, .int .i64 p.rd, .int .i64 p.hd, .slice q.A q.n q.c, .slice q.B q.k q.d, .int .i64 q.am, .int .i64 q.rd, .int .i64 q.hd] 25)) := hS2.alloc hS2.size _
          refine hKq.out _ _ hS3 (fun hHeld0 => ?_)
          clear hKq Kq hHeld
          have hHeld := hHeld0
          clear hHeld0
          try simp only [PT]
          refine one_step 15 (by kernel_rfl) rfl (fun Kq hKq => ?_)
          go_simp
          go_at_call 16
          (with_reducible refine (HB3.out y2 (HXL.out.trans (hS2.mono HXL.out.size))).mono ?_)
          rintro e y4 ⟨rfl, hbx⟩
          have hS4 : Below w7.heap.size w7 y4 := hS3.trans (hbx.mono hS3.size)
          clear hbx
          refine hKq.out _ _ hS4 (fun hHeld0 => ?_)
          clear hKq Kq hHeld
          have hHeld := hHeld0
          clear hHeld0
          try simp only [PT]
          refine tk 17 (.bool false) hHeld (fun w => ?_) ?_
          · go_simp
          simp only [PT]
          refine tkO 18 hHeld ?_
          simp only [PT]
          refine tk 19 (.bool false) hHeld (fun w => ?_) ?_
          · go_simp
          simp only [PT]
          refine tk 20 (.bool true) hHeld (fun w => ?_) ?_
          · go_simp
          simp only [PT]
          refine tk 21 (.bool true) hHeld (fun w => ?_) ?_
          · go_simp
          simp only [PT]
          refine tk 22 (.bool true) hHeld (fun w => ?_) ?_
          · go_simp
          simp only [PT]
          refine tkS 23 (.agg #[.slice p.A p.n p.c, .slice p.B p.k p.d, .int .i64 p.am, .int .i64 p.rd, .int .i64 p.hd]) hHeld (fun w hq => ?_) ?_
          · obtain ⟨a0, a1, a2, a3, a4⟩ := HCp.out w (HXL.out.trans (hq.mono HXL.out.size)); obtain ⟨c0, c1, c2, c3, c4⟩ := HCq.out w (HXL.out.trans (hq.mono HXL.out.size)); obtain ⟨d0, d1, d2, d3, d4⟩ := HCr.out w (HXL.out.trans (hq.mono HXL.out.size))
            go_simp
          simp only [PT]
          refine tkS 26 (.agg #[.slice p.A p.n p.c, .slice p.B p.k p.d, .int .i64 p.am, .int .i64 p.rd, .int .i64 p.hd]) hHeld (fun w hq => ?_) ?_
          · obtain ⟨a0, a1, a2, a3, a4⟩ := HCp.out w (HXL.out.trans (hq.mono HXL.out.size)); obtain ⟨c0, c1, c2, c3, c4⟩ := HCq.out w (HXL.out.trans (hq.mono HXL.out.size)); obtain ⟨d0, d1, d2, d3, d4⟩ := HCr.out w (HXL.out.trans (hq.mono HXL.out.size))
            go_simp
          simp only [PT]
          refine one_step 24 (by kernel_rfl) rfl (fun Kq hKq => ?_)
          go_simp
          have hS5 : Below w7.heap.size w7 (y4.alloc (.cells #[.slice p.A p.n p.c, .slice p.B p.k p.d, .int .i64 p.am, .int .i64 p.rd, .int .i64 p.hd] 25)) := hS4.alloc hS4.size _
          refine hKq.out _ _ hS5 (fun hHeld0 => ?_)
          clear hKq Kq hHeld
          have hHeld := hHeld0
          clear hHeld0
          try simp only [PT]
          refine one_step 25 (by kernel_rfl) rfl (fun Kq hKq => ?_)
          go_simp
          go_at_call 16
          (with_reducible refine (HA1.out y4 (HXL.out.trans (hS4.mono HXL.out.size))).mono ?_)
          rintro e y6 ⟨rfl, hbx⟩
          have hS6 : Below w7.heap.size w7 y6 := hS5.trans (hbx.mono hS5.size)
          clear hbx
          refine hKq.out _ _ hS6 (fun hHeld0 => ?_)
          clear hKq Kq hHeld
          have hHeld := hHeld0
          clear hHeld0
          try simp only [PT]
          refine one_step 27 (by kernel_rfl) rfl (fun Kq hKq => ?_)
          go_simp
          go_at_call 15
          (with_reducible refine (HTp.out _ (HXL.out.trans (hS6.mono HXL.out.size))).mono ?_)
          rintro e y7 ⟨rfl, hbx⟩
          have hS7 : Below w7.heap.size w7 y7 := hS6.trans (hbx.mono hS6.size)
          clear hbx
          refine hKq.out _ _ hS7 (fun hHeld0 => ?_)
          clear hKq Kq hHeld
          have hHeld := hHeld0
          clear hHeld0
          try simp only [PT]
          refine tk 28 (.bool true) hHeld (fun w => ?_) ?_
          · go_simp
          simp only [PT]
          refine tk 29 (.bool true) hHeld (fun w => ?_) ?_
          · go_simp
          simp only [PT]
          refine tk 30 (.bool true) hHeld (fun w => ?_) ?_
          · go_simp
          simp only [PT]
          refine tkS 31 (.agg #[.slice p.A p.n p.c, .slice p.B p.k p.d, .int .i64 p.am, .int .i64 p.rd, .int .i64 p.hd]) hHeld (fun w hq => ?_) ?_
          · obtain ⟨a0, a1, a2, a3, a4⟩ := HCp.out w (HXL.out.trans (hq.mono HXL.out.size)); obtain ⟨c0, c1, c2, c3, c4⟩ := HCq.out w (HXL.out.trans (hq.mono HXL.out.size)); obtain ⟨d0, d1, d2, d3, d4⟩ := HCr.out w (HXL.out.trans (hq.mono HXL.out.size))
            go_simp
          simp only [PT]
          refine tkS 32 (.agg #[.slice q.A q.n q.c, .slice q.B q.k q.d, .int .i64 q.am, .int .i64 q.rd, .int .i64 q.hd]) hHeld (fun w hq => ?_) ?_
          · obtain ⟨a0, a1, a2, a3, a4⟩ := HCp.out w (HXL.out.trans (hq.mono HXL.out.size)); obtain ⟨c0, c1, c2, c3, c4⟩ := HCq.out w (HXL.out.trans (hq.mono HXL.out.size)); obtain ⟨d0, d1, d2, d3, d4⟩ := HCr.out w (HXL.out.trans (hq.mono HXL.out.size))
            go_simp
          simp only [PT]
          refine tkS 33 (.agg #[.slice r.A r.n r.c, .slice r.B r.k r.d, .int .i64 r.am, .int .i64 r.rd, .int .i64 r.hd]) hHeld (fun w hq => ?_) ?_
          · obtain ⟨a0, a1, a2, a3, a4⟩ := HCp.out w (HXL.out.trans (hq.mono HXL.out.size)); obtain ⟨c0, c1, c2, c3, c4⟩ := HCq.out w (HXL.out.trans (hq.mono HXL.out.size)); obtain ⟨d0, d1, d2, d3, d4⟩ := HCr.out w (HXL.out.trans (hq.mono HXL.out.size))
            go_simp
          simp only [PT]
          refine tkS 34 (.agg #[.slice p.A p.n p.c, .slice p.B p.k p.d, .int .i64 p.am, .int .i64 p.rd, .int .i64 p.hd]) hHeld (fun w hq => ?_) ?_
          · obtain ⟨a0, a1, a2, a3, a4⟩ := HCp.out w (HXL.out.trans (hq.mono HXL.out.size)); obtain ⟨c0, c1, c2, c3, c4⟩ := HCq.out w (HXL.out.trans (hq.mono HXL.out.size)); obtain ⟨d0, d1, d2, d3, d4⟩ := HCr.out w (HXL.out.trans (hq.mono HXL.out.size))
            go_simp
          simp only [PT]
          refine one_step 35 (by kernel_rfl) rfl (fun Kq hKq => ?_)
          go_simp
          have hS8 : Below w7.heap.size w7 (y7.alloc (.cells #[.slice p.A p.n p.c, .slice p.B p.k p.d, .int .i64 p.am, .int .i64 p.rd, .int .i64 p.hd, .slice q.A q.n q.c, .slice q.B q.k q.d, .int .i64 q.am, .int .i64 q.rd, .int .i64 q.hd, .slice r.A r.n r.c, .slice r.B r.k r.d, .int .i64 r.am, .int .i64 r.rd, .int .i64 r.hd, .slice p.A p.n p.c, .slice p.B p.k p.d, .int .i64 p.am, .int .i64 p.rd, .int .i64 p.hd] 25)) := hS7.alloc hS7.size _
          refine hKq.out _ _ hS8 (fun hHeld0 => ?_)
          clear hKq Kq hHeld
          have hHeld := hHeld0
          clear hHeld0
          try simp only [PT]
          refine one_step 36 (by kernel_rfl) rfl (fun Kq hKq => ?_)
          go_simp
          go_at_call 16
          (with_reducible refine (HA4.out y7 (HXL.out.trans (hS7.mono HXL.out.size))).mono ?_)
          rintro e y9 ⟨rfl, hbx⟩
          have hS9 : Below w7.heap.size w7 y9 := hS8.trans (hbx.mono hS8.size)
          clear hbx
          refine hKq.out _ _ hS9 (fun hHeld0 => ?_)
          clear hKq Kq hHeld
          have hHeld := hHeld0
          clear hHeld0
          try simp only [PT]
          refine tk 37 (.bool true) hHeld (fun w => ?_) ?_
          · go_simp
          simp only [PT]
          refine tk 38 (.bool true) hHeld (fun w => ?_) ?_
          · go_simp
          simp only [PT]
          refine tk 39 (.bool true) hHeld (fun w => ?_) ?_
          · go_simp
          simp only [PT]
          refine wpAnyH_done (by kernel_rfl) ?_ _
          clear hHeld
          go_wp2
          go_ret
          exact ⟨by first | rfl | simp, HB0.out.trans ((HXL.out.trans (hS9.mono HXL.out.size)).mono HB0.out.size)⟩
        · cases Fr
          · simp only [Bool.true_and, Bool.false_and, Bool.and_true, Bool.and_false] at HA3 HB3
            go_enter Try.func7, Try.ntmps7
            go_wp2_with (first
              | (go_at_call 9
                 rw [HW.out]
                 (with_reducible refine (HAW.out).mono ?_)
                 rintro e w1 ⟨rfl, hbx⟩
                 have HX1 := Lib.hid (HX0.out.trans (hbx.mono HX0.out.size))
                 obtain ⟨p0z, p1z, p2z, p3z, p4z⟩ := HCp.out w1 HX1.out
                 obtain ⟨q0z, q1z, q2z, q3z, q4z⟩ := HCq.out w1 HX1.out
                 obtain ⟨r0z, r1z, r2z, r3z, r4z⟩ := HCr.out w1 HX1.out
                 clear hbx)
              | (go_at_call 10
                 (with_reducible refine (HFp.out _ HX1.out).mono ?_)
                 rintro e w2 ⟨rfl, hbx⟩
                 have HX2 := Lib.hid (HX1.out.trans (hbx.mono HX1.out.size))
                 obtain ⟨p0z, p1z, p2z, p3z, p4z⟩ := HCp.out w2 HX2.out
                 obtain ⟨q0z, q1z, q2z, q3z, q4z⟩ := HCq.out w2 HX2.out
                 obtain ⟨r0z, r1z, r2z, r3z, r4z⟩ := HCr.out w2 HX2.out
                 clear hbx)
              | (go_at_call 10
                 (with_reducible refine (HFq.out _ HX2.out).mono ?_)
                 rintro e w3 ⟨rfl, hbx⟩
                 have HX3 := Lib.hid (HX2.out.trans (hbx.mono HX2.out.size))
                 obtain ⟨p0z, p1z, p2z, p3z, p4z⟩ := HCp.out w3 HX3.out
                 obtain ⟨q0z, q1z, q2z, q3z, q4z⟩ := HCq.out w3 HX3.out
                 obtain ⟨r0z, r1z, r2z, r3z, r4z⟩ := HCr.out w3 HX3.out
                 clear hbx)
              | (go_at_call 10
                 (with_reducible refine (HFr.out _ HX3.out).mono ?_)
                 rintro e w4 ⟨rfl, hbx⟩
                 have HX4 := Lib.hid (HX3.out.trans (hbx.mono HX3.out.size))
                 obtain ⟨p0z, p1z, p2z, p3z, p4z⟩ := HCp.out w4 HX4.out
                 obtain ⟨q0z, q1z, q2z, q3z, q4z⟩ := HCq.out w4 HX4.out
                 obtain ⟨r0z, r1z, r2z, r3z, r4z⟩ := HCr.out w4 HX4.out
                 clear hbx)
              | (go_at_call 16
                 (with_reducible refine (HAN.out _ HX4.out).mono ?_)
                 rintro e w5 ⟨rfl, hbx⟩
                 have HX5 := Lib.hid (HX4.out.trans (hbx.mono HX4.out.size))
                 obtain ⟨p0z, p1z, p2z, p3z, p4z⟩ := HCp.out w5 HX5.out
                 obtain ⟨q0z, q1z, q2z, q3z, q4z⟩ := HCq.out w5 HX5.out
                 obtain ⟨r0z, r1z, r2z, r3z, r4z⟩ := HCr.out w5 HX5.out
                 clear hbx)
              | (go_at_call 15
                 (with_reducible refine (HTp.out _ HX5.out).mono ?_)
                 rintro e w6 ⟨rfl, hbx⟩
                 have HX6 := Lib.hid (HX5.out.trans (hbx.mono HX5.out.size))
                 obtain ⟨p0z, p1z, p2z, p3z, p4z⟩ := HCp.out w6 HX6.out
                 obtain ⟨q0z, q1z, q2z, q3z, q4z⟩ := HCq.out w6 HX6.out
                 obtain ⟨r0z, r1z, r2z, r3z, r4z⟩ := HCr.out w6 HX6.out
                 clear hbx)
              | (go_at_call 15
                 (with_reducible refine (HTq.out _ HX6.out).mono ?_)
                 rintro e w7 ⟨rfl, hbx⟩
                 have HX7 := Lib.hid (HX6.out.trans (hbx.mono HX6.out.size))
                 obtain ⟨p0z, p1z, p2z, p3z, p4z⟩ := HCp.out w7 HX7.out
                 obtain ⟨q0z, q1z, q2z, q3z, q4z⟩ := HCq.out w7 HX7.out
                 obtain ⟨r0z, r1z, r2z, r3z, r4z⟩ := HCr.out w7 HX7.out
                 clear hbx)
              | (go_at_call 15
                 (with_reducible refine (HTr.out _ HX7.out).mono ?_)
                 rintro e w8 ⟨rfl, hbx⟩
                 have HX8 := Lib.hid (HX7.out.trans (hbx.mono HX7.out.size))
                 obtain ⟨p0z, p1z, p2z, p3z, p4z⟩ := HCp.out w8 HX8.out
                 obtain ⟨q0z, q1z, q2z, q3z, q4z⟩ := HCq.out w8 HX8.out
                 obtain ⟨r0z, r1z, r2z, r3z, r4z⟩ := HCr.out w8 HX8.out
                 clear hbx))
            clear p0z p1z p2z p3z p4z q0z q1z q2z q3z q4z r0z r1z r2z r3z r4z
            have HXL := Lib.hid HX8.out
            have hSd : Below w8.heap.size w8 w8.drew := (Below.refl _ w8).drew
            refine wp_region_held_drew (S := fun X => Below w8.heap.size w8 X) (by kernel_rfl) hSd (fun hHeld => ?_)
            obtain ⟨y0, hY0⟩ : ∃ Y, w8.drew = Y := ⟨_, rfl⟩
            rw [hY0] at hSd hHeld ⊢
            clear hY0
            refine tkS 0 (.agg #[.slice p.A p.n p.c, .slice p.B p.k p.d, .int .i64 p.am, .int .i64 p.rd, .int .i64 p.hd]) hHeld (fun w hq => ?_) ?_
            · obtain ⟨a0, a1, a2, a3, a4⟩ := HCp.out w (HXL.out.trans (hq.mono HXL.out.size)); obtain ⟨c0, c1, c2, c3, c4⟩ := HCq.out w (HXL.out.trans (hq.mono HXL.out.size)); obtain ⟨d0, d1, d2, d3, d4⟩ := HCr.out w (HXL.out.trans (hq.mono HXL.out.size))
              go_simp
            simp only [PT]
            refine tkS 1 (.agg #[.slice q.A q.n q.c, .slice q.B q.k q.d, .int .i64 q.am, .int .i64 q.rd, .int .i64 q.hd]) hHeld (fun w hq => ?_) ?_
            · obtain ⟨a0, a1, a2, a3, a4⟩ := HCp.out w (HXL.out.trans (hq.mono HXL.out.size)); obtain ⟨c0, c1, c2, c3, c4⟩ := HCq.out w (HXL.out.trans (hq.mono HXL.out.size)); obtain ⟨d0, d1, d2, d3, d4⟩ := HCr.out w (HXL.out.trans (hq.mono HXL.out.size))
              go_simp
            simp only [PT]
            refine tkS 2 (.agg #[.slice r.A r.n r.c, .slice r.B r.k r.d, .int .i64 r.am, .int .i64 r.rd, .int .i64 r.hd]) hHeld (fun w hq => ?_) ?_
            · obtain ⟨a0, a1, a2, a3, a4⟩ := HCp.out w (HXL.out.trans (hq.mono HXL.out.size)); obtain ⟨c0, c1, c2, c3, c4⟩ := HCq.out w (HXL.out.trans (hq.mono HXL.out.size)); obtain ⟨d0, d1, d2, d3, d4⟩ := HCr.out w (HXL.out.trans (hq.mono HXL.out.size))
              go_simp
            simp only [PT]
            refine tk 5 (.bool false) hHeld (fun w => ?_) ?_
            · go_simp
            simp only [PT]
            refine one_step 3 (by kernel_rfl) rfl (fun Kq hKq => ?_)
            go_simp
            have hS1 : Below w8.heap.size w8 (y0.alloc (.cells #[.slice p.A p.n p.c, .slice p.B p.k p.d, .int .i64 p.am, .int .i64 p.rd, .int .i64 p.hd, .slice q.A q.n q.c, .slice q.B q.k q.d, .int .i64 q.am, .int .i64 q.rd, .int .i64 q.hd, .slice r.A r.n r.c, .slice r.B r.k r.d, .int .i64 r.am, .int .i64 r.rd, .int .i64 r.hd] 25)) := hSd.alloc hSd.size _
            refine hKq.out _ _ hS1 (fun hHeld0 => ?_)
            clear hKq Kq hHeld
            have hHeld := hHeld0
            clear hHeld0
            try simp only [PT]
            refine one_step 4 (by kernel_rfl) rfl (fun Kq hKq => ?_)
            go_simp
            go_at_call 16
            (with_reducible refine (HA3.out y0 (HXL.out.trans (hSd.mono HXL.out.size))).mono ?_)
            rintro e y2 ⟨rfl, hbx⟩
            have hS2 : Below w8.heap.size w8 y2 := hS1.trans (hbx.mono hS1.size)
            clear hbx
            refine hKq.out _ _ hS2 (fun hHeld0 => ?_)
            clear hKq Kq hHeld
            have hHeld := hHeld0
            clear hHeld0
            try simp only [PT]
            refine tk 6 (.bool false) hHeld (fun w => ?_) ?_
            · go_simp
            simp only [PT]
            refine tkO 7 hHeld ?_
            simp only [PT]
            refine tk 8 (.bool false) hHeld (fun w => ?_) ?_
            · go_simp
            simp only [PT]
            refine tk 9 (.bool true) hHeld (fun w => ?_) ?_
            · go_simp
            simp only [PT]
            refine tk 10 (.bool true) hHeld (fun w => ?_) ?_
            · go_simp
            simp only [PT]
            refine tkS 11 (.agg #[.slice r.A r.n r.c, .slice r.B r.k r.d, .int .i64 r.am, .int .i64 r.rd, .int .i64 r.hd]) hHeld (fun w hq => ?_) ?_
            · obtain ⟨a0, a1, a2, a3, a4⟩ := HCp.out w (HXL.out.trans (hq.mono HXL.out.size)); obtain ⟨c0, c1, c2, c3, c4⟩ := HCq.out w (HXL.out.trans (hq.mono HXL.out.size)); obtain ⟨d0, d1, d2, d3, d4⟩ := HCr.out w (HXL.out.trans (hq.mono HXL.out.size))
              go_simp
            simp only [PT]
            refine tkS 12 (.agg #[.slice p.A p.n p.c, .slice p.B p.k p.d, .int .i64 p.am, .int .i64 p.rd, .int .i64 p.hd]) hHeld (fun w hq => ?_) ?_
            · obtain ⟨a0, a1, a2, a3, a4⟩ := HCp.out w (HXL.out.trans (hq.mono HXL.out.size)); obtain ⟨c0, c1, c2, c3, c4⟩ := HCq.out w (HXL.out.trans (hq.mono HXL.out.size)); obtain ⟨d0, d1, d2, d3, d4⟩ := HCr.out w (HXL.out.trans (hq.mono HXL.out.size))
              go_simp
            simp only [PT]
            refine tkS 13 (.agg #[.slice q.A q.n q.c, .slice q.B q.k q.d, .int .i64 q.am, .int .i64 q.rd, .int .i64 q.hd]) hHeld (fun w hq => ?_) ?_
            · obtain ⟨a0, a1, a2, a3, a4⟩ := HCp.out w (HXL.out.trans (hq.mono HXL.out.size)); obtain ⟨c0, c1, c2, c3, c4⟩ := HCq.out w (HXL.out.trans (hq.mono HXL.out.size)); obtain ⟨d0, d1, d2, d3, d4⟩ := HCr.out w (HXL.out.trans (hq.mono HXL.out.size))
              go_simp
            simp only [PT]
            refine tk 16 (.bool false) hHeld (fun w => ?_) ?_
            · go_simp
            simp only [PT]
            refine one_step 14 (by kernel_rfl) rfl (fun Kq hKq => ?_)
            go_simp
            have hS3 : Below w8.heap.size w8 (y2.alloc (.cells #[.slice r.A r.n r.c, .slice r.B r.k r.d, .int .i64 r.am, .int .i64 r.rd, .int .i64 r.hd, .slice p.A p.n p.c, .slice p.B p.k p.d, .int .i64 p.am, .int .i64 p.rd, .int .i64 p.hd, .slice q.A q.n q.c, .slice q.B q.k q.d, .int .i64 q.am, .int .i64 q.rd, .int .i64 q.hd] 25)) := hS2.alloc hS2.size _
            refine hKq.out _ _ hS3 (fun hHeld0 => ?_)
            clear hKq Kq hHeld
            have hHeld := hHeld0
            clear hHeld0
            try simp only [PT]
            refine one_step 15 (by kernel_rfl) rfl (fun Kq hKq => ?_)
            go_simp
            go_at_call 16
            (with_reducible refine (HB3.out y2 (HXL.out.trans (hS2.mono HXL.out.size))).mono ?_)
            rintro e y4 ⟨rfl, hbx⟩
            have hS4 : Below w8.heap.size w8 y4 := hS3.trans (hbx.mono hS3.size)
            clear hbx
            refine hKq.out _ _ hS4 (fun hHeld0 => ?_)
            clear hKq Kq hHeld
            have hHeld := hHeld0
            clear hHeld0
            try simp only [PT]
            refine tk 17 (.bool false) hHeld (fun w => ?_) ?_
            · go_simp
            simp only [PT]
            refine tkO 18 hHeld ?_
            simp only [PT]
            refine tk 19 (.bool false) hHeld (fun w => ?_) ?_
            · go_simp
            simp only [PT]
            refine tk 20 (.bool true) hHeld (fun w => ?_) ?_
            · go_simp
            simp only [PT]
            refine tk 21 (.bool true) hHeld (fun w => ?_) ?_
            · go_simp
            simp only [PT]
            refine tk 22 (.bool true) hHeld (fun w => ?_) ?_
            · go_simp
            simp only [PT]
            refine tkS 23 (.agg #[.slice p.A p.n p.c, .slice p.B p.k p.d, .int .i64 p.am, .int .i64 p.rd, .int .i64 p.hd]) hHeld (fun w hq => ?_) ?_
            · obtain ⟨a0, a1, a2, a3, a4⟩ := HCp.out w (HXL.out.trans (hq.mono HXL.out.size)); obtain ⟨c0, c1, c2, c3, c4⟩ := HCq.out w (HXL.out.trans (hq.mono HXL.out.size)); obtain ⟨d0, d1, d2, d3, d4⟩ := HCr.out w (HXL.out.trans (hq.mono HXL.out.size))
              go_simp
            simp only [PT]
            refine tkS 26 (.agg #[.slice p.A p.n p.c, .slice p.B p.k p.d, .int .i64 p.am, .int .i64 p.rd, .int .i64 p.hd]) hHeld (fun w hq => ?_) ?_
            · obtain ⟨a0, a1, a2, a3, a4⟩ := HCp.out w (HXL.out.trans (hq.mono HXL.out.size)); obtain ⟨c0, c1, c2, c3, c4⟩ := HCq.out w (HXL.out.trans (hq.mono HXL.out.size)); obtain ⟨d0, d1, d2, d3, d4⟩ := HCr.out w (HXL.out.trans (hq.mono HXL.out.size))
              go_simp
            simp only [PT]
            refine one_step 24 (by kernel_rfl) rfl (fun Kq hKq => ?_)
            go_simp
            have hS5 : Below w8.heap.size w8 (y4.alloc (.cells #[.slice p.A p.n p.c, .slice p.B p.k p.d, .int .i64 p.am, .int .i64 p.rd, .int .i64 p.hd] 25)) := hS4.alloc hS4.size _
            refine hKq.out _ _ hS5 (fun hHeld0 => ?_)
            clear hKq Kq hHeld
            have hHeld := hHeld0
            clear hHeld0
            try simp only [PT]
            refine one_step 25 (by kernel_rfl) rfl (fun Kq hKq => ?_)
            go_simp
            go_at_call 16
            (with_reducible refine (HA1.out y4 (HXL.out.trans (hS4.mono HXL.out.size))).mono ?_)
            rintro e y6 ⟨rfl, hbx⟩
            have hS6 : Below w8.heap.size w8 y6 := hS5.trans (hbx.mono hS5.size)
            clear hbx
            refine hKq.out _ _ hS6 (fun hHeld0 => ?_)
            clear hKq Kq hHeld
            have hHeld := hHeld0
            clear hHeld0
            try simp only [PT]
            refine one_step 27 (by kernel_rfl) rfl (fun Kq hKq => ?_)
            go_simp
            go_at_call 15
            (with_reducible refine (HTp.out _ (HXL.out.trans (hS6.mono HXL.out.size))).mono ?_)
            rintro e y7 ⟨rfl, hbx⟩
            have hS7 : Below w8.heap.size w8 y7 := hS6.trans (hbx.mono hS6.size)
            clear hbx
            refine hKq.out _ _ hS7 (fun hHeld0 => ?_)
            clear hKq Kq hHeld
            have hHeld := hHeld0
            clear hHeld0
            try simp only [PT]
            refine tk 28 (.bool true) hHeld (fun w => ?_) ?_
            · go_simp
            simp only [PT]
            refine tk 29 (.bool true) hHeld (fun w => ?_) ?_
            · go_simp
            simp only [PT]
            refine tk 30 (.bool true) hHeld (fun w => ?_) ?_
            · go_simp
            simp only [PT]
            refine tkS 31 (.agg #[.slice p.A p.n p.c, .slice p.B p.k p.d, .int .i64 p.am, .int .i64 p.rd, .int .i64 p.hd]) hHeld (fun w hq => ?_) ?_
            · obtain ⟨a0, a1, a2, a3, a4⟩ := HCp.out w (HXL.out.trans (hq.mono HXL.out.size)); obtain ⟨c0, c1, c2, c3, c4⟩ := HCq.out w (HXL.out.trans (hq.mono HXL.out.size)); obtain ⟨d0, d1, d2, d3, d4⟩ := HCr.out w (HXL.out.trans (hq.mono HXL.out.size))
              go_simp
            simp only [PT]
            refine tkS 32 (.agg #[.slice q.A q.n q.c, .slice q.B q.k q.d, .int .i64 q.am, .int .i64 q.rd, .int .i64 q.hd]) hHeld (fun w hq => ?_) ?_
            · obtain ⟨a0, a1, a2, a3, a4⟩ := HCp.out w (HXL.out.trans (hq.mono HXL.out.size)); obtain ⟨c0, c1, c2, c3, c4⟩ := HCq.out w (HXL.out.trans (hq.mono HXL.out.size)); obtain ⟨d0, d1, d2, d3, d4⟩ := HCr.out w (HXL.out.trans (hq.mono HXL.out.size))
              go_simp
            simp only [PT]
            refine tkS 33 (.agg #[.slice r.A r.n r.c, .slice r.B r.k r.d, .int .i64 r.am, .int .i64 r.rd, .int .i64 r.hd]) hHeld (fun w hq => ?_) ?_
            · obtain ⟨a0, a1, a2, a3, a4⟩ := HCp.out w (HXL.out.trans (hq.mono HXL.out.size)); obtain ⟨c0, c1, c2, c3, c4⟩ := HCq.out w (HXL.out.trans (hq.mono HXL.out.size)); obtain ⟨d0, d1, d2, d3, d4⟩ := HCr.out w (HXL.out.trans (hq.mono HXL.out.size))
              go_simp
            simp only [PT]
            refine tkS 34 (.agg #[.slice p.A p.n p.c, .slice p.B p.k p.d, .int .i64 p.am, .int .i64 p.rd, .int .i64 p.hd]) hHeld (fun w hq => ?_) ?_
            · obtain ⟨a0, a1, a2, a3, a4⟩ := HCp.out w (HXL.out.trans (hq.mono HXL.out.size)); obtain ⟨c0, c1, c2, c3, c4⟩ := HCq.out w (HXL.out.trans (hq.mono HXL.out.size)); obtain ⟨d0, d1, d2, d3, d4⟩ := HCr.out w (HXL.out.trans (hq.mono HXL.out.size))
              go_simp
            simp only [PT]
            refine one_step 35 (by kernel_rfl) rfl (fun Kq hKq => ?_)
            go_simp
            have hS8 : Below w8.heap.size w8 (y7.alloc (.cells #[.slice p.A p.n p.c, .slice p.B p.k p.d, .int .i64 p.am, .int .i64 p.rd, .int .i64 p.hd, .slice q.A q.n q.c, .slice q.B q.k q.d, .int .i64 q.am, .int .i64 q.rd, .int .i64 q.hd, .slice r.A r.n r.c, .slice r.B r.k r.d, .int .i64 r.am, .int .i64 r.rd, .int .i64 r.hd, .slice p.A p.n p.c, .slice p.B p.k p.d, .int .i64 p.am, .int .i64 p.rd, .int .i64 p.hd] 25)) := hS7.alloc hS7.size _
            refine hKq.out _ _ hS8 (fun hHeld0 => ?_)
            clear hKq Kq hHeld
            have hHeld := hHeld0
            clear hHeld0
            try simp only [PT]
            refine one_step 36 (by kernel_rfl) rfl (fun Kq hKq => ?_)
            go_simp
            go_at_call 16
            (with_reducible refine (HA4.out y7 (HXL.out.trans (hS7.mono HXL.out.size))).mono ?_)
            rintro e y9 ⟨rfl, hbx⟩
            have hS9 : Below w8.heap.size w8 y9 := hS8.trans (hbx.mono hS8.size)
            clear hbx
            refine hKq.out _ _ hS9 (fun hHeld0 => ?_)
            clear hKq Kq hHeld
            have hHeld := hHeld0
            clear hHeld0
            try simp only [PT]
            refine tk 37 (.bool true) hHeld (fun w => ?_) ?_
            · go_simp
            simp only [PT]
            refine tk 38 (.bool true) hHeld (fun w => ?_) ?_
            · go_simp
            simp only [PT]
            refine tk 39 (.bool true) hHeld (fun w => ?_) ?_
            · go_simp
            simp only [PT]
            refine wpAnyH_done (by kernel_rfl) ?_ _
            clear hHeld
            go_wp2
            go_ret
            exact ⟨by first | rfl | simp, HB0.out.trans ((HXL.out.trans (hS9.mono HXL.out.size)).mono HB0.out.size)⟩
          · simp only [Bool.true_and, Bool.false_and, Bool.and_true, Bool.and_false] at HA3 HB3
            go_enter Try.func7, Try.ntmps7
            go_wp2_with (first
              | (go_at_call 9
                 rw [HW.out]
                 (with_reducible refine (HAW.out).mono ?_)
                 rintro e w1 ⟨rfl, hbx⟩
                 have HX1 := Lib.hid (HX0.out.trans (hbx.mono HX0.out.size))
                 obtain ⟨p0z, p1z, p2z, p3z, p4z⟩ := HCp.out w1 HX1.out
                 obtain ⟨q0z, q1z, q2z, q3z, q4z⟩ := HCq.out w1 HX1.out
                 obtain ⟨r0z, r1z, r2z, r3z, r4z⟩ := HCr.out w1 HX1.out
                 clear hbx)
              | (go_at_call 10
                 (with_reducible refine (HFp.out _ HX1.out).mono ?_)
                 rintro e w2 ⟨rfl, hbx⟩
                 have HX2 := Lib.hid (HX1.out.trans (hbx.mono HX1.out.size))
                 obtain ⟨p0z, p1z, p2z, p3z, p4z⟩ := HCp.out w2 HX2.out
                 obtain ⟨q0z, q1z, q2z, q3z, q4z⟩ := HCq.out w2 HX2.out
                 obtain ⟨r0z, r1z, r2z, r3z, r4z⟩ := HCr.out w2 HX2.out
                 clear hbx)
              | (go_at_call 10
                 (with_reducible refine (HFq.out _ HX2.out).mono ?_)
                 rintro e w3 ⟨rfl, hbx⟩
                 have HX3 := Lib.hid (HX2.out.trans (hbx.mono HX2.out.size))
                 obtain ⟨p0z, p1z, p2z, p3z, p4z⟩ := HCp.out w3 HX3.out
                 obtain ⟨q0z, q1z, q2z, q3z, q4z⟩ := HCq.out w3 HX3.out
                 obtain ⟨r0z, r1z, r2z, r3z, r4z⟩ := HCr.out w3 HX3.out
                 clear hbx)
              | (go_at_call 10
                 (with_reducible refine (HFr.out _ HX3.out).mono ?_)
                 rintro e w4 ⟨rfl, hbx⟩
                 have HX4 := Lib.hid (HX3.out.trans (hbx.mono HX3.out.size))
                 obtain ⟨p0z, p1z, p2z, p3z, p4z⟩ := HCp.out w4 HX4.out
                 obtain ⟨q0z, q1z, q2z, q3z, q4z⟩ := HCq.out w4 HX4.out
                 obtain ⟨r0z, r1z, r2z, r3z, r4z⟩ := HCr.out w4 HX4.out
                 clear hbx)
              | (go_at_call 16
                 (with_reducible refine (HAN.out _ HX4.out).mono ?_)
                 rintro e w5 ⟨rfl, hbx⟩
                 have HX5 := Lib.hid (HX4.out.trans (hbx.mono HX4.out.size))
                 obtain ⟨p0z, p1z, p2z, p3z, p4z⟩ := HCp.out w5 HX5.out
                 obtain ⟨q0z, q1z, q2z, q3z, q4z⟩ := HCq.out w5 HX5.out
                 obtain ⟨r0z, r1z, r2z, r3z, r4z⟩ := HCr.out w5 HX5.out
                 clear hbx)
              | (go_at_call 15
                 (with_reducible refine (HTp.out _ HX5.out).mono ?_)
                 rintro e w6 ⟨rfl, hbx⟩
                 have HX6 := Lib.hid (HX5.out.trans (hbx.mono HX5.out.size))
                 obtain ⟨p0z, p1z, p2z, p3z, p4z⟩ := HCp.out w6 HX6.out
                 obtain ⟨q0z, q1z, q2z, q3z, q4z⟩ := HCq.out w6 HX6.out
                 obtain ⟨r0z, r1z, r2z, r3z, r4z⟩ := HCr.out w6 HX6.out
                 clear hbx)
              | (go_at_call 15
                 (with_reducible refine (HTq.out _ HX6.out).mono ?_)
                 rintro e w7 ⟨rfl, hbx⟩
                 have HX7 := Lib.hid (HX6.out.trans (hbx.mono HX6.out.size))
                 obtain ⟨p0z, p1z, p2z, p3z, p4z⟩ := HCp.out w7 HX7.out
                 obtain ⟨q0z, q1z, q2z, q3z, q4z⟩ := HCq.out w7 HX7.out
                 obtain ⟨r0z, r1z, r2z, r3z, r4z⟩ := HCr.out w7 HX7.out
                 clear hbx)
              | (go_at_call 15
                 (with_reducible refine (HTr.out _ HX7.out).mono ?_)
                 rintro e w8 ⟨rfl, hbx⟩
                 have HX8 := Lib.hid (HX7.out.trans (hbx.mono HX7.out.size))
                 obtain ⟨p0z, p1z, p2z, p3z, p4z⟩ := HCp.out w8 HX8.out
                 obtain ⟨q0z, q1z, q2z, q3z, q4z⟩ := HCq.out w8 HX8.out
                 obtain ⟨r0z, r1z, r2z, r3z, r4z⟩ := HCr.out w8 HX8.out
                 clear hbx))
            clear p0z p1z p2z p3z p4z q0z q1z q2z q3z q4z r0z r1z r2z r3z r4z
            have HXL := Lib.hid HX8.out
            have hSd : Below w8.heap.size w8 w8.drew := (Below.refl _ w8).drew
            refine wp_region_held_drew (S := fun X => Below w8.heap.size w8 X) (by kernel_rfl) hSd (fun hHeld => ?_)
            obtain ⟨y0, hY0⟩ : ∃ Y, w8.drew = Y := ⟨_, rfl⟩
            rw [hY0] at hSd hHeld ⊢
            clear hY0
            refine tkS 0 (.agg #[.slice p.A p.n p.c, .slice p.B p.k p.d, .int .i64 p.am, .int .i64 p.rd, .int .i64 p.hd]) hHeld (fun w hq => ?_) ?_
            · obtain ⟨a0, a1, a2, a3, a4⟩ := HCp.out w (HXL.out.trans (hq.mono HXL.out.size)); obtain ⟨c0, c1, c2, c3, c4⟩ := HCq.out w (HXL.out.trans (hq.mono HXL.out.size)); obtain ⟨d0, d1, d2, d3, d4⟩ := HCr.out w (HXL.out.trans (hq.mono HXL.out.size))
              go_simp
            simp only [PT]
            refine tkS 1 (.agg #[.slice q.A q.n q.c, .slice q.B q.k q.d, .int .i64 q.am, .int .i64 q.rd, .int .i64 q.hd]) hHeld (fun w hq => ?_) ?_
            · obtain ⟨a0, a1, a2, a3, a4⟩ := HCp.out w (HXL.out.trans (hq.mono HXL.out.size)); obtain ⟨c0, c1, c2, c3, c4⟩ := HCq.out w (HXL.out.trans (hq.mono HXL.out.size)); obtain ⟨d0, d1, d2, d3, d4⟩ := HCr.out w (HXL.out.trans (hq.mono HXL.out.size))
              go_simp
            simp only [PT]
            refine tkS 2 (.agg #[.slice r.A r.n r.c, .slice r.B r.k r.d, .int .i64 r.am, .int .i64 r.rd, .int .i64 r.hd]) hHeld (fun w hq => ?_) ?_
            · obtain ⟨a0, a1, a2, a3, a4⟩ := HCp.out w (HXL.out.trans (hq.mono HXL.out.size)); obtain ⟨c0, c1, c2, c3, c4⟩ := HCq.out w (HXL.out.trans (hq.mono HXL.out.size)); obtain ⟨d0, d1, d2, d3, d4⟩ := HCr.out w (HXL.out.trans (hq.mono HXL.out.size))
              go_simp
            simp only [PT]
            refine tk 5 (.bool true) hHeld (fun w => ?_) ?_
            · go_simp
            simp only [PT]
            refine one_step 3 (by kernel_rfl) rfl (fun Kq hKq => ?_)
            go_simp
            have hS1 : Below w8.heap.size w8 (y0.alloc (.cells #[.slice p.A p.n p.c, .slice p.B p.k p.d, .int .i64 p.am, .int .i64 p.rd, .int .i64 p.hd, .slice q.A q.n q.c, .slice q.B q.k q.d, .int .i64 q.am, .int .i64 q.rd, .int .i64 q.hd, .slice r.A r.n r.c, .slice r.B r.k r.d, .int .i64 r.am, .int .i64 r.rd, .int .i64 r.hd] 25)) := hSd.alloc hSd.size _
            refine hKq.out _ _ hS1 (fun hHeld0 => ?_)
            clear hKq Kq hHeld
            have hHeld := hHeld0
            clear hHeld0
            try simp only [PT]
            refine one_step 4 (by kernel_rfl) rfl (fun Kq hKq => ?_)
            go_simp
            go_at_call 16
            (with_reducible refine (HA3.out y0 (HXL.out.trans (hSd.mono HXL.out.size))).mono ?_)
            rintro e y2 ⟨rfl, hbx⟩
            have hS2 : Below w8.heap.size w8 y2 := hS1.trans (hbx.mono hS1.size)
            clear hbx
            refine hKq.out _ _ hS2 (fun hHeld0 => ?_)
            clear hKq Kq hHeld
            have hHeld := hHeld0
            clear hHeld0
            try simp only [PT]
            refine tk 6 (.bool true) hHeld (fun w => ?_) ?_
            · go_simp
            simp only [PT]
            refine tk 7 (.bool M2) hHeld (fun w => ?_) ?_
            · go_simp
            simp only [PT]
            refine tk 8 (.bool M2) hHeld (fun w => ?_) ?_
            · go_simp
            simp only [PT]
            refine tk 9 (.bool true) hHeld (fun w => ?_) ?_
            · go_simp
            simp only [PT]
            refine tk 10 (.bool true) hHeld (fun w => ?_) ?_
            · go_simp
            simp only [PT]
            refine tkS 11 (.agg #[.slice r.A r.n r.c, .slice r.B r.k r.d, .int .i64 r.am, .int .i64 r.rd, .int .i64 r.hd]) hHeld (fun w hq => ?_) ?_
            · obtain ⟨a0, a1, a2, a3, a4⟩ := HCp.out w (HXL.out.trans (hq.mono HXL.out.size)); obtain ⟨c0, c1, c2, c3, c4⟩ := HCq.out w (HXL.out.trans (hq.mono HXL.out.size)); obtain ⟨d0, d1, d2, d3, d4⟩ := HCr.out w (HXL.out.trans (hq.mono HXL.out.size))
              go_simp
            simp only [PT]
            refine tkS 12 (.agg #[.slice p.A p.n p.c, .slice p.B p.k p.d, .int .i64 p.am, .int .i64 p.rd, .int .i64 p.hd]) hHeld (fun w hq => ?_) ?_
            · obtain ⟨a0, a1, a2, a3, a4⟩ := HCp.out w (HXL.out.trans (hq.mono HXL.out.size)); obtain ⟨c0, c1, c2, c3, c4⟩ := HCq.out w (HXL.out.trans (hq.mono HXL.out.size)); obtain ⟨d0, d1, d2, d3, d4⟩ := HCr.out w (HXL.out.trans (hq.mono HXL.out.size))
              go_simp
            simp only [PT]
            refine tkS 13 (.agg #[.slice q.A q.n q.c, .slice q.B q.k q.d, .int .i64 q.am, .int .i64 q.rd, .int .i64 q.hd]) hHeld (fun w hq => ?_) ?_
            · obtain ⟨a0, a1, a2, a3, a4⟩ := HCp.out w (HXL.out.trans (hq.mono HXL.out.size)); obtain ⟨c0, c1, c2, c3, c4⟩ := HCq.out w (HXL.out.trans (hq.mono HXL.out.size)); obtain ⟨d0, d1, d2, d3, d4⟩ := HCr.out w (HXL.out.trans (hq.mono HXL.out.size))
              go_simp
            simp only [PT]
            refine tk 16 (.bool true) hHeld (fun w => ?_) ?_
            · go_simp
            simp only [PT]
            refine one_step 14 (by kernel_rfl) rfl (fun Kq hKq => ?_)
            go_simp
            have hS3 : Below w8.heap.size w8 (y2.alloc (.cells #[.slice r.A r.n r.c, .slice r.B r.k r.d, .int .i64 r.am, .int .i64 r.rd, .int .i64 r.hd, .slice p.A p.n p.c, .slice p.B p.k p.d, .int .i64 p.am, .int .i64 p.rd, .int .i64 p.hd, .slice q.A q.n q.c, .slice q.B q.k q.d, .int .i64 q.am, .int .i64 q.rd, .int .i64 q.hd] 25)) := hS2.alloc hS2.size _
            refine hKq.out _ _ hS3 (fun hHeld0 => ?_)
            clear hKq Kq hHeld
            have hHeld := hHeld0
            clear hHeld0
            try simp only [PT]
            refine one_step 15 (by kernel_rfl) rfl (fun Kq hKq => ?_)
            go_simp
            go_at_call 16
            (with_reducible refine (HB3.out y2 (HXL.out.trans (hS2.mono HXL.out.size))).mono ?_)
            rintro e y4 ⟨rfl, hbx⟩
            have hS4 : Below w8.heap.size w8 y4 := hS3.trans (hbx.mono hS3.size)
            clear hbx
            refine hKq.out _ _ hS4 (fun hHeld0 => ?_)
            clear hKq Kq hHeld
            have hHeld := hHeld0
            clear hHeld0
            try simp only [PT]
            refine tk 17 (.bool true) hHeld (fun w => ?_) ?_
            · go_simp
            simp only [PT]
            refine tk 18 (.bool M2) hHeld (fun w => ?_) ?_
            · go_simp
            simp only [PT]
            refine tk 19 (.bool M2) hHeld (fun w => ?_) ?_
            · go_simp
            simp only [PT]
            refine tk 20 (.bool true) hHeld (fun w => ?_) ?_
            · go_simp
            simp only [PT]
            refine tk 21 (.bool true) hHeld (fun w => ?_) ?_
            · go_simp
            simp only [PT]
            refine tk 22 (.bool true) hHeld (fun w => ?_) ?_
            · go_simp
            simp only [PT]
            refine tkS 23 (.agg #[.slice p.A p.n p.c, .slice p.B p.k p.d, .int .i64 p.am, .int .i64 p.rd, .int .i64 p.hd]) hHeld (fun w hq => ?_) ?_
            · obtain ⟨a0, a1, a2, a3, a4⟩ := HCp.out w (HXL.out.trans (hq.mono HXL.out.size)); obtain ⟨c0, c1, c2, c3, c4⟩ := HCq.out w (HXL.out.trans (hq.mono HXL.out.size)); obtain ⟨d0, d1, d2, d3, d4⟩ := HCr.out w (HXL.out.trans (hq.mono HXL.out.size))
              go_simp
            simp only [PT]
            refine tkS 26 (.agg #[.slice p.A p.n p.c, .slice p.B p.k p.d, .int .i64 p.am, .int .i64 p.rd, .int .i64 p.hd]) hHeld (fun w hq => ?_) ?_
            · obtain ⟨a0, a1, a2, a3, a4⟩ := HCp.out w (HXL.out.trans (hq.mono HXL.out.size)); obtain ⟨c0, c1, c2, c3, c4⟩ := HCq.out w (HXL.out.trans (hq.mono HXL.out.size)); obtain ⟨d0, d1, d2, d3, d4⟩ := HCr.out w (HXL.out.trans (hq.mono HXL.out.size))
              go_simp
            simp only [PT]
            refine one_step 24 (by kernel_rfl) rfl (fun Kq hKq => ?_)
            go_simp
            have hS5 : Below w8.heap.size w8 (y4.alloc (.cells #[.slice p.A p.n p.c, .slice p.B p.k p.d, .int .i64 p.am, .int .i64 p.rd, .int .i64 p.hd] 25)) := hS4.alloc hS4.size _
            refine hKq.out _ _ hS5 (fun hHeld0 => ?_)
            clear hKq Kq hHeld
            have hHeld := hHeld0
            clear hHeld0
            try simp only [PT]
            refine one_step 25 (by kernel_rfl) rfl (fun Kq hKq => ?_)
            go_simp
            go_at_call 16
            (with_reducible refine (HA1.out y4 (HXL.out.trans (hS4.mono HXL.out.size))).mono ?_)
            rintro e y6 ⟨rfl, hbx⟩
            have hS6 : Below w8.heap.size w8 y6 := hS5.trans (hbx.mono hS5.size)
            clear hbx
            refine hKq.out _ _ hS6 (fun hHeld0 => ?_)
            clear hKq Kq hHeld
            have hHeld := hHeld0
            clear hHeld0
            try simp only [PT]
            refine one_step 27 (by kernel_rfl) rfl (fun Kq hKq => ?_)
            go_simp
            go_at_call 15
            (with_reducible refine (HTp.out _ (HXL.out.trans (hS6.mono HXL.out.size))).mono ?_)
            rintro e y7 ⟨rfl, hbx⟩
            have hS7 : Below w8.heap.size w8 y7 := hS6.trans (hbx.mono hS6.size)
            clear hbx
            refine hKq.out _ _ hS7 (fun hHeld0 => ?_)
            clear hKq Kq hHeld
            have hHeld := hHeld0
            clear hHeld0
            try simp only [PT]
            refine tk 28 (.bool true) hHeld (fun w => ?_) ?_
            · go_simp
            simp only [PT]
            refine tk 29 (.bool true) hHeld (fun w => ?_) ?_
            · go_simp
            simp only [PT]
            refine tk 30 (.bool true) hHeld (fun w => ?_) ?_
            · go_simp
            simp only [PT]
            refine tkS 31 (.agg #[.slice p.A p.n p.c, .slice p.B p.k p.d, .int .i64 p.am, .int .i64 p.rd, .int .i64 p.hd]) hHeld (fun w hq => ?_) ?_
            · obtain ⟨a0, a1, a2, a3, a4⟩ := HCp.out w (HXL.out.trans (hq.mono HXL.out.size)); obtain ⟨c0, c1, c2, c3, c4⟩ := HCq.out w (HXL.out.trans (hq.mono HXL.out.size)); obtain ⟨d0, d1, d2, d3, d4⟩ := HCr.out w (HXL.out.trans (hq.mono HXL.out.size))
              go_simp
            simp only [PT]
            refine tkS 32 (.agg #[.slice q.A q.n q.c, .slice q.B q.k q.d, .int .i64 q.am, .int .i64 q.rd, .int .i64 q.hd]) hHeld (fun w hq => ?_) ?_
            · obtain ⟨a0, a1, a2, a3, a4⟩ := HCp.out w (HXL.out.trans (hq.mono HXL.out.size)); obtain ⟨c0, c1, c2, c3, c4⟩ := HCq.out w (HXL.out.trans (hq.mono HXL.out.size)); obtain ⟨d0, d1, d2, d3, d4⟩ := HCr.out w (HXL.out.trans (hq.mono HXL.out.size))
              go_simp
            simp only [PT]
            refine tkS 33 (.agg #[.slice r.A r.n r.c, .slice r.B r.k r.d, .int .i64 r.am, .int .i64 r.rd, .int .i64 r.hd]) hHeld (fun w hq => ?_) ?_
            · obtain ⟨a0, a1, a2, a3, a4⟩ := HCp.out w (HXL.out.trans (hq.mono HXL.out.size)); obtain ⟨c0, c1, c2, c3, c4⟩ := HCq.out w (HXL.out.trans (hq.mono HXL.out.size)); obtain ⟨d0, d1, d2, d3, d4⟩ := HCr.out w (HXL.out.trans (hq.mono HXL.out.size))
              go_simp
            simp only [PT]
            refine tkS 34 (.agg #[.slice p.A p.n p.c, .slice p.B p.k p.d, .int .i64 p.am, .int .i64 p.rd, .int .i64 p.hd]) hHeld (fun w hq => ?_) ?_
            · obtain ⟨a0, a1, a2, a3, a4⟩ := HCp.out w (HXL.out.trans (hq.mono HXL.out.size)); obtain ⟨c0, c1, c2, c3, c4⟩ := HCq.out w (HXL.out.trans (hq.mono HXL.out.size)); obtain ⟨d0, d1, d2, d3, d4⟩ := HCr.out w (HXL.out.trans (hq.mono HXL.out.size))
              go_simp
            simp only [PT]
            refine one_step 35 (by kernel_rfl) rfl (fun Kq hKq => ?_)
            go_simp
            have hS8 : Below w8.heap.size w8 (y7.alloc (.cells #[.slice p.A p.n p.c, .slice p.B p.k p.d, .int .i64 p.am, .int .i64 p.rd, .int .i64 p.hd, .slice q.A q.n q.c, .slice q.B q.k q.d, .int .i64 q.am, .int .i64 q.rd, .int .i64 q.hd, .slice r.A r.n r.c, .slice r.B r.k r.d, .int .i64 r.am, .int .i64 r.rd, .int .i64 r.hd, .slice p.A p.n p.c, .slice p.B p.k p.d, .int .i64 p.am, .int .i64 p.rd, .int .i64 p.hd] 25)) := hS7.alloc hS7.size _
            refine hKq.out _ _ hS8 (fun hHeld0 => ?_)
            clear hKq Kq hHeld
            have hHeld := hHeld0
            clear hHeld0
            try simp only [PT]
            refine one_step 36 (by kernel_rfl) rfl (fun Kq hKq => ?_)
            go_simp
            go_at_call 16
            (with_reducible refine (HA4.out y7 (HXL.out.trans (hS7.mono HXL.out.size))).mono ?_)
            rintro e y9 ⟨rfl, hbx⟩
            have hS9 : Below w8.heap.size w8 y9 := hS8.trans (hbx.mono hS8.size)
            clear hbx
            refine hKq.out _ _ hS9 (fun hHeld0 => ?_)
            clear hKq Kq hHeld
            have hHeld := hHeld0
            clear hHeld0
            try simp only [PT]
            refine tk 37 (.bool true) hHeld (fun w => ?_) ?_
            · go_simp
            simp only [PT]
            refine tk 38 (.bool true) hHeld (fun w => ?_) ?_
            · go_simp
            simp only [PT]
            refine tk 39 (.bool true) hHeld (fun w => ?_) ?_
            · go_simp
            simp only [PT]
            refine wpAnyH_done (by kernel_rfl) ?_ _
            clear hHeld
            go_wp2
            go_ret
            exact ⟨by first | rfl | simp, HB0.out.trans ((HXL.out.trans (hS9.mono HXL.out.size)).mono HB0.out.size)⟩
  all_goals
    clear ha hb hd
    go_enter Try.func7, Try.ntmps7
    go_wp2_with (first
      | (go_at_call 9
         rw [HW.out]
         (with_reducible refine (HAW.out).mono ?_)
         rintro e w1 ⟨rfl, hbx⟩
         have HX1 := Lib.hid (HX0.out.trans (hbx.mono HX0.out.size))
         obtain ⟨p0z, p1z, p2z, p3z, p4z⟩ := HCp.out w1 HX1.out
         obtain ⟨q0z, q1z, q2z, q3z, q4z⟩ := HCq.out w1 HX1.out
         obtain ⟨r0z, r1z, r2z, r3z, r4z⟩ := HCr.out w1 HX1.out
         clear hbx)
      | (go_at_call 10
         (with_reducible refine (HFp.out _ HX1.out).mono ?_)
         rintro e w2 ⟨rfl, hbx⟩
         have HX2 := Lib.hid (HX1.out.trans (hbx.mono HX1.out.size))
         obtain ⟨p0z, p1z, p2z, p3z, p4z⟩ := HCp.out w2 HX2.out
         obtain ⟨q0z, q1z, q2z, q3z, q4z⟩ := HCq.out w2 HX2.out
         obtain ⟨r0z, r1z, r2z, r3z, r4z⟩ := HCr.out w2 HX2.out
         clear hbx)
      | (go_at_call 10
         (with_reducible refine (HFq.out _ HX2.out).mono ?_)
         rintro e w3 ⟨rfl, hbx⟩
         have HX3 := Lib.hid (HX2.out.trans (hbx.mono HX2.out.size))
         obtain ⟨p0z, p1z, p2z, p3z, p4z⟩ := HCp.out w3 HX3.out
         obtain ⟨q0z, q1z, q2z, q3z, q4z⟩ := HCq.out w3 HX3.out
         obtain ⟨r0z, r1z, r2z, r3z, r4z⟩ := HCr.out w3 HX3.out
         clear hbx)
      | (go_at_call 10
         (with_reducible refine (HFr.out _ HX3.out).mono ?_)
         rintro e w4 ⟨rfl, hbx⟩
         have HX4 := Lib.hid (HX3.out.trans (hbx.mono HX3.out.size))
         obtain ⟨p0z, p1z, p2z, p3z, p4z⟩ := HCp.out w4 HX4.out
         obtain ⟨q0z, q1z, q2z, q3z, q4z⟩ := HCq.out w4 HX4.out
         obtain ⟨r0z, r1z, r2z, r3z, r4z⟩ := HCr.out w4 HX4.out
         clear hbx)
      | (go_at_call 16
         (with_reducible refine (HAN.out _ HX4.out).mono ?_)
         rintro e w5 ⟨rfl, hbx⟩
         have HX5 := Lib.hid (HX4.out.trans (hbx.mono HX4.out.size))
         obtain ⟨p0z, p1z, p2z, p3z, p4z⟩ := HCp.out w5 HX5.out
         obtain ⟨q0z, q1z, q2z, q3z, q4z⟩ := HCq.out w5 HX5.out
         obtain ⟨r0z, r1z, r2z, r3z, r4z⟩ := HCr.out w5 HX5.out
         clear hbx))
    go_ret
    exact ⟨rfl, HB0.out.trans (HX5.out.mono HB0.out.size)⟩
end Go.Proofs.Ytjjjfckkglcdfaa
