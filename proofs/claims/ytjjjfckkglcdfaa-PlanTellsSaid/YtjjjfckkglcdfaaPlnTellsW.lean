/- The walk over the law PlanTells. -/
import Derived.Test.YtjjjfckkglcdfaaPlnHave
import Derived.Test.YtjjjfckkglcdfaaBasTakeS
namespace Go.Proofs.Ytjjjfckkglcdfaa
set_option maxRecDepth 100000
set_option linter.unusedVariables false
set_option linter.unusedSimpArgs false
open Go.RowKit

set_option maxHeartbeats 8000000 in
theorem ptells_any (HO : PlnOk) (p q : Pl) (A : Option Addr) (n c : Nat) (l : List Pl) (k g : Int) (w : World) (hp : PlIn w p) (hq : PlIn w q) (hl : Pls w A n c l) :
    Calls Try.prog 3 #[plV p, plV q, .slice A n c, .int .i64 k, .int .i64 g] w fun e w' => e = .returned (.bool true) ∧ Below w.heap.size w w' := by
  have hLL := hl.len
  simp only [plV]
  obtain ⟨W0, hW0⟩ : ∃ W0, ((w.alloc (.cells #[.slice p.A p.n p.c, .slice p.B p.k p.d, .int .i64 p.am, .int .i64 p.rd, .int .i64 p.hd] 25))).alloc (.cells #[.slice q.A q.n q.c, .slice q.B q.k q.d, .int .i64 q.am, .int .i64 q.rd, .int .i64 q.hd] 25) = W0 := ⟨_, rfl⟩
  have hB0 : Below w.heap.size w W0 := by rw [← hW0]; exact (one_alloc w _).alloc (by simp) _
  have hbp : BoxP W0 w.heap.size p := by rw [← hW0]; exact heap_alloc2_old w _ _
  have hbq : BoxP W0 (w.heap.size + 1) q := by rw [← hW0]; exact heap_alloc2_new w _ _
  have hpp : PlIn W0 p := hp.below hB0
  have HCp := Lib.hid (show ∀ X, Below W0.heap.size W0 X → X.cell? ⟨w.heap.size, 0, none⟩ = some (.slice p.A p.n p.c) ∧ X.cell? ⟨w.heap.size, 1, none⟩ = some (.slice p.B p.k p.d) ∧ X.cell? ⟨w.heap.size, 2, none⟩ = some (.int .i64 p.am) ∧ X.cell? ⟨w.heap.size, 3, none⟩ = some (.int .i64 p.rd) ∧ X.cell? ⟨w.heap.size, 4, none⟩ = some (.int .i64 p.hd) from fun X hX => (hbp.below hX).cells)
  have HPp := Lib.hid (show ∀ X, Below W0.heap.size W0 X → PlIn X p from fun X hX => hpp.below hX)
  have hpq : PlIn W0 q := hq.below hB0
  have HCq := Lib.hid (show ∀ X, Below W0.heap.size W0 X → X.cell? ⟨w.heap.size + 1, 0, none⟩ = some (.slice q.A q.n q.c) ∧ X.cell? ⟨w.heap.size + 1, 1, none⟩ = some (.slice q.B q.k q.d) ∧ X.cell? ⟨w.heap.size + 1, 2, none⟩ = some (.int .i64 q.am) ∧ X.cell? ⟨w.heap.size + 1, 3, none⟩ = some (.int .i64 q.rd) ∧ X.cell? ⟨w.heap.size + 1, 4, none⟩ = some (.int .i64 q.hd) from fun X hX => (hbq.below hX).cells)
  have HPq := Lib.hid (show ∀ X, Below W0.heap.size W0 X → PlIn X q from fun X hX => hpq.below hX)
  have HB0 := Lib.hid hB0
  have HW := Lib.hid hW0
  have hl0 : Pls W0 A n c l := hl.below hB0
  have HPL := Lib.hid (show ∀ X, Below W0.heap.size W0 X → Pls X A n c l from fun X hX => hl0.below hX)
  have HX0 := Lib.hid (Below.refl W0.heap.size W0)
  clear hl hl0 hW0 hB0 hbp hpp hp hbq hpq hq
  have HAW := Lib.hid (pawake_any HO W0)
  have HFP := Lib.hid (fun X hX => pfew_any p X (HPp.out X hX))
  have HFQ := Lib.hid (fun X hX => pfew_any q X (HPq.out X hX))
  have HFA := Lib.hid (fun X hX => pfewall_any A n c l X (HPL.out X hX))
  simp only [plV] at HFP HFQ
  obtain ⟨a, ha⟩ : ∃ a, fewB p = a := ⟨_, rfl⟩
  obtain ⟨b, hb⟩ : ∃ b, fewB q = b := ⟨_, rfl⟩
  obtain ⟨d, hd⟩ : ∃ d, fewAllB l = d := ⟨_, rfl⟩
  rw [ha] at HFP
  rw [hb] at HFQ
  rw [hd] at HFA
  cases a
  case' true =>
    cases b
    case' true =>
      cases d
  case true.true.true =>
    have fp := few_iff.1 ha
    have fq := few_iff.1 hb
    have fl := fewall_iff.1 hd
    clear ha hb hd
    have HRF := Lib.hid (fun X hX => rfit_any p X (HPp.out X hX))
    have HRA := Lib.hid (fun X hX => rall_any A n c l X (HPL.out X hX))
    have HRS := Lib.hid (fun X hX => rsame_any p q X (HPp.out X hX) (HPq.out X hX))
    have HRN := Lib.hid (fun X hX => rnext_any p k X (HPp.out X hX))
    have HRL := Lib.hid (fun X hX => rleast_any p g X (HPp.out X hX))
    have HRC := Lib.hid (fun X hX => rcycle_any p X (HPp.out X hX))
    have hbp : p.n ≤ 1000 ∧ p.k ≤ 1000 := by omega
    have hbq : q.n ≤ 1000 ∧ q.k ≤ 1000 := by omega
    have HF := Lib.hid (fun X hX => HO.fit p X (HPp.out X hX) hbp.1 hbp.2)
    have HA := Lib.hid (fun X hX => HO.all A n c l X (HPL.out X hX) (by omega) (fun x hx => by have := fl.2 x hx; omega))
    have HS := Lib.hid (fun X hX => HO.same p q X (HPp.out X hX) (HPq.out X hX) hbp.1 hbp.2 hbq.1 hbq.2)
    have HN := Lib.hid (fun X hX => HO.next p k X (HPp.out X hX) hbp.1 hbp.2)
    have HL := Lib.hid (fun X hX => HO.least p g X (HPp.out X hX) hbp.1 hbp.2)
    have HC := Lib.hid (fun X hX => HO.cycle p X (HPp.out X hX) hbp.1 hbp.2)
    simp only [plV] at HRF HRS HRN HRL HRC HF HS HN HL HC
    obtain ⟨vF, hvF⟩ : ∃ v, fitP p = v := ⟨_, rfl⟩
    obtain ⟨vA, hvA⟩ : ∃ v, allP l = v := ⟨_, rfl⟩
    obtain ⟨vS, hvS⟩ : ∃ v, samePl p q = v := ⟨_, rfl⟩
    obtain ⟨vN, hvN⟩ : ∃ v, nextP p k = v := ⟨_, rfl⟩
    obtain ⟨vL, hvL⟩ : ∃ v, leastP p g = v := ⟨_, rfl⟩
    obtain ⟨vC, hvC⟩ : ∃ v, cycP p = v := ⟨_, rfl⟩
    simp only [hvF] at HRF HF
    simp only [hvA] at HRA HA
    simp only [hvS] at HRS HS
    simp only [hvN] at HRN HN
    simp only [hvL] at HRL HL
    simp only [hvC] at HRC HC
    clear hvF hvA hvS hvN hvL hvC fp fq fl hbp hbq
    go_enter Try.func3, Try.ntmps3
    go_wp2_with (first
      | (go_at_call 9
         rw [HW.out]
         (with_reducible refine (HAW.out).mono ?_)
         rintro e w1 ⟨rfl, hbx⟩
         have HX1 := Lib.hid (HX0.out.trans (hbx.mono HX0.out.size))
         obtain ⟨p0z, p1z, p2z, p3z, p4z⟩ := HCp.out w1 HX1.out
         obtain ⟨q0z, q1z, q2z, q3z, q4z⟩ := HCq.out w1 HX1.out
         clear hbx)
      | (go_at_call 10
         (with_reducible refine (HFP.out _ HX1.out).mono ?_)
         rintro e w2 ⟨rfl, hbx⟩
         have HX2 := Lib.hid (HX1.out.trans (hbx.mono HX1.out.size))
         obtain ⟨p0z, p1z, p2z, p3z, p4z⟩ := HCp.out w2 HX2.out
         obtain ⟨q0z, q1z, q2z, q3z, q4z⟩ := HCq.out w2 HX2.out
         clear hbx)
      | (go_at_call 10
         (with_reducible refine (HFQ.out _ HX2.out).mono ?_)
         rintro e w3 ⟨rfl, hbx⟩
         have HX3 := Lib.hid (HX2.out.trans (hbx.mono HX2.out.size))
         obtain ⟨p0z, p1z, p2z, p3z, p4z⟩ := HCp.out w3 HX3.out
         obtain ⟨q0z, q1z, q2z, q3z, q4z⟩ := HCq.out w3 HX3.out
         clear hbx)
      | (go_at_call 11
         (with_reducible refine (HFA.out _ HX3.out).mono ?_)
         rintro e w4 ⟨rfl, hbx⟩
         have HX4 := Lib.hid (HX3.out.trans (hbx.mono HX3.out.size))
         obtain ⟨p0z, p1z, p2z, p3z, p4z⟩ := HCp.out w4 HX4.out
         obtain ⟨q0z, q1z, q2z, q3z, q4z⟩ := HCq.out w4 HX4.out
         clear hbx)
      | (go_at_call 12
         (with_reducible refine (HRF.out _ HX4.out).mono ?_)
         rintro e w5 ⟨rfl, hbx⟩
         have HX5 := Lib.hid (HX4.out.trans (hbx.mono HX4.out.size))
         obtain ⟨p0z, p1z, p2z, p3z, p4z⟩ := HCp.out w5 HX5.out
         obtain ⟨q0z, q1z, q2z, q3z, q4z⟩ := HCq.out w5 HX5.out
         clear hbx)
      | (go_at_call 13
         (with_reducible refine (HRA.out _ HX5.out).mono ?_)
         rintro e w6 ⟨rfl, hbx⟩
         have HX6 := Lib.hid (HX5.out.trans (hbx.mono HX5.out.size))
         obtain ⟨p0z, p1z, p2z, p3z, p4z⟩ := HCp.out w6 HX6.out
         obtain ⟨q0z, q1z, q2z, q3z, q4z⟩ := HCq.out w6 HX6.out
         clear hbx)
      | (go_at_call 14
         (with_reducible refine (HRS.out _ HX6.out).mono ?_)
         rintro e w7 ⟨rfl, hbx⟩
         have HX7 := Lib.hid (HX6.out.trans (hbx.mono HX6.out.size))
         obtain ⟨p0z, p1z, p2z, p3z, p4z⟩ := HCp.out w7 HX7.out
         obtain ⟨q0z, q1z, q2z, q3z, q4z⟩ := HCq.out w7 HX7.out
         clear hbx))
    clear p0z p1z p2z p3z p4z q0z q1z q2z q3z q4z
    have hSd : Below w7.heap.size w7 w7.drew := (Below.refl _ w7).drew
    refine wp_region_held_drew (S := fun X => Below w7.heap.size w7 X) (by kernel_rfl) hSd (fun hHeld => ?_)
    refine tkS 0 (.agg #[.slice p.A p.n p.c, .slice p.B p.k p.d, .int .i64 p.am, .int .i64 p.rd, .int .i64 p.hd]) hHeld (fun w hq => ?_) ?_
    · obtain ⟨a0, a1, a2, a3, a4⟩ := HCp.out w (HX7.out.trans (hq.mono HX7.out.size)); obtain ⟨c0, c1, c2, c3, c4⟩ := HCq.out w (HX7.out.trans (hq.mono HX7.out.size))
      go_simp
    simp only [PT]
    refine tk 2 (.bool vF) hHeld (fun w => ?_) ?_
    · go_simp
    simp only [PT]
    refine one_step 1 (by kernel_rfl) rfl (fun Kq hKq => ?_)
    go_simp
    go_at_call 15
    (with_reducible refine (HF.out _ (HX7.out.trans (hSd.mono HX7.out.size))).mono ?_)
    rintro e y1 ⟨rfl, hbx⟩
    have hS1 : Below w7.heap.size w7 y1 := hSd.trans (hbx.mono hSd.size)
    clear hbx
    refine hKq.out _ _ hS1 (fun hHeld0 => ?_)
    clear hKq Kq hHeld
    have hHeld := hHeld0
    clear hHeld0
    try simp only [PT]
    refine tk 3 (.bool true) hHeld (fun w => ?_) ?_
    · go_simp
    simp only [PT]
    refine tk 4 (.bool true) hHeld (fun w => ?_) ?_
    · go_simp
    simp only [PT]
    refine tk 5 (.slice A n c) hHeld (fun w => ?_) ?_
    · go_simp
    simp only [PT]
    refine tk 7 (.bool vA) hHeld (fun w => ?_) ?_
    · go_simp
    simp only [PT]
    refine one_step 6 (by kernel_rfl) rfl (fun Kq hKq => ?_)
    go_simp
    go_at_call 16
    (with_reducible refine (HA.out _ (HX7.out.trans (hS1.mono HX7.out.size))).mono ?_)
    rintro e y2 ⟨rfl, hbx⟩
    have hS2 : Below w7.heap.size w7 y2 := hS1.trans (hbx.mono hS1.size)
    clear hbx
    refine hKq.out _ _ hS2 (fun hHeld0 => ?_)
    clear hKq Kq hHeld
    have hHeld := hHeld0
    clear hHeld0
    try simp only [PT]
    refine tk 8 (.bool true) hHeld (fun w => ?_) ?_
    · go_simp
    simp only [PT]
    refine tk 9 (.bool true) hHeld (fun w => ?_) ?_
    · go_simp
    simp only [PT]
    refine tk 10 (.bool true) hHeld (fun w => ?_) ?_
    · go_simp
    simp only [PT]
    refine tkS 11 (.agg #[.slice p.A p.n p.c, .slice p.B p.k p.d, .int .i64 p.am, .int .i64 p.rd, .int .i64 p.hd]) hHeld (fun w hq => ?_) ?_
    · obtain ⟨a0, a1, a2, a3, a4⟩ := HCp.out w (HX7.out.trans (hq.mono HX7.out.size)); obtain ⟨c0, c1, c2, c3, c4⟩ := HCq.out w (HX7.out.trans (hq.mono HX7.out.size))
      go_simp
    simp only [PT]
    refine tkS 12 (.agg #[.slice q.A q.n q.c, .slice q.B q.k q.d, .int .i64 q.am, .int .i64 q.rd, .int .i64 q.hd]) hHeld (fun w hq => ?_) ?_
    · obtain ⟨a0, a1, a2, a3, a4⟩ := HCp.out w (HX7.out.trans (hq.mono HX7.out.size)); obtain ⟨c0, c1, c2, c3, c4⟩ := HCq.out w (HX7.out.trans (hq.mono HX7.out.size))
      go_simp
    simp only [PT]
    refine tk 14 (.bool vS) hHeld (fun w => ?_) ?_
    · go_simp
    simp only [PT]
    refine one_step 13 (by kernel_rfl) rfl (fun Kq hKq => ?_)
    go_simp
    go_at_call 17
    (with_reducible refine (HS.out _ (HX7.out.trans (hS2.mono HX7.out.size))).mono ?_)
    rintro e y3 ⟨rfl, hbx⟩
    have hS3 : Below w7.heap.size w7 y3 := hS2.trans (hbx.mono hS2.size)
    clear hbx
    refine hKq.out _ _ hS3 (fun hHeld0 => ?_)
    clear hKq Kq hHeld
    have hHeld := hHeld0
    clear hHeld0
    try simp only [PT]
    refine tk 15 (.bool true) hHeld (fun w => ?_) ?_
    · go_simp
    simp only [PT]
    refine tk 16 (.bool true) hHeld (fun w => ?_) ?_
    · go_simp
    simp only [PT]
    refine tk 17 (.bool true) hHeld (fun w => ?_) ?_
    · go_simp
    simp only [PT]
    refine tkS 18 (.agg #[.slice p.A p.n p.c, .slice p.B p.k p.d, .int .i64 p.am, .int .i64 p.rd, .int .i64 p.hd]) hHeld (fun w hq => ?_) ?_
    · obtain ⟨a0, a1, a2, a3, a4⟩ := HCp.out w (HX7.out.trans (hq.mono HX7.out.size)); obtain ⟨c0, c1, c2, c3, c4⟩ := HCq.out w (HX7.out.trans (hq.mono HX7.out.size))
      go_simp
    simp only [PT]
    refine tk 19 (.int .i64 k) hHeld (fun w => ?_) ?_
    · go_simp
    simp only [PT]
    refine tkS 21 (.agg #[.slice p.A p.n p.c, .slice p.B p.k p.d, .int .i64 p.am, .int .i64 p.rd, .int .i64 p.hd]) hHeld (fun w hq => ?_) ?_
    · obtain ⟨a0, a1, a2, a3, a4⟩ := HCp.out w (HX7.out.trans (hq.mono HX7.out.size)); obtain ⟨c0, c1, c2, c3, c4⟩ := HCq.out w (HX7.out.trans (hq.mono HX7.out.size))
      go_simp
    simp only [PT]
    refine tk 22 (.int .i64 k) hHeld (fun w => ?_) ?_
    · go_simp
    simp only [PT]
    refine one_step 20 (by kernel_rfl) rfl (fun Kq hKq => ?_)
    go_simp
    go_at_call 18
    (with_reducible refine (HN.out _ (HX7.out.trans (hS3.mono HX7.out.size))).mono ?_)
    rintro e y4 ⟨rfl, hbx⟩
    have hS4 : Below w7.heap.size w7 y4 := hS3.trans (hbx.mono hS3.size)
    clear hbx
    refine hKq.out _ _ hS4 (fun hHeld0 => ?_)
    clear hKq Kq hHeld
    have hHeld := hHeld0
    clear hHeld0
    try simp only [PT]
    refine one_step 23 (by kernel_rfl) rfl (fun Kq hKq => ?_)
    go_simp
    go_at_call 19
    (with_reducible refine (HRN.out _ (HX7.out.trans (hS4.mono HX7.out.size))).mono ?_)
    rintro e y5 ⟨rfl, hbx⟩
    have hS5 : Below w7.heap.size w7 y5 := hS4.trans (hbx.mono hS4.size)
    clear hbx
    refine hKq.out _ _ hS5 (fun hHeld0 => ?_)
    clear hKq Kq hHeld
    have hHeld := hHeld0
    clear hHeld0
    try simp only [PT]
    refine tk 24 (.bool true) hHeld (fun w => ?_) ?_
    · go_simp
    simp only [PT]
    refine tk 25 (.bool true) hHeld (fun w => ?_) ?_
    · go_simp
    simp only [PT]
    refine tk 26 (.bool true) hHeld (fun w => ?_) ?_
    · go_simp
    simp only [PT]
    refine tkS 27 (.agg #[.slice p.A p.n p.c, .slice p.B p.k p.d, .int .i64 p.am, .int .i64 p.rd, .int .i64 p.hd]) hHeld (fun w hq => ?_) ?_
    · obtain ⟨a0, a1, a2, a3, a4⟩ := HCp.out w (HX7.out.trans (hq.mono HX7.out.size)); obtain ⟨c0, c1, c2, c3, c4⟩ := HCq.out w (HX7.out.trans (hq.mono HX7.out.size))
      go_simp
    simp only [PT]
    refine tk 28 (.int .i64 g) hHeld (fun w => ?_) ?_
    · go_simp
    simp only [PT]
    refine tkS 30 (.agg #[.slice p.A p.n p.c, .slice p.B p.k p.d, .int .i64 p.am, .int .i64 p.rd, .int .i64 p.hd]) hHeld (fun w hq => ?_) ?_
    · obtain ⟨a0, a1, a2, a3, a4⟩ := HCp.out w (HX7.out.trans (hq.mono HX7.out.size)); obtain ⟨c0, c1, c2, c3, c4⟩ := HCq.out w (HX7.out.trans (hq.mono HX7.out.size))
      go_simp
    simp only [PT]
    refine tk 31 (.int .i64 g) hHeld (fun w => ?_) ?_
    · go_simp
    simp only [PT]
    refine one_step 29 (by kernel_rfl) rfl (fun Kq hKq => ?_)
    go_simp
    go_at_call 20
    (with_reducible refine (HL.out _ (HX7.out.trans (hS5.mono HX7.out.size))).mono ?_)
    rintro e y6 ⟨rfl, hbx⟩
    have hS6 : Below w7.heap.size w7 y6 := hS5.trans (hbx.mono hS5.size)
    clear hbx
    refine hKq.out _ _ hS6 (fun hHeld0 => ?_)
    clear hKq Kq hHeld
    have hHeld := hHeld0
    clear hHeld0
    try simp only [PT]
    refine one_step 32 (by kernel_rfl) rfl (fun Kq hKq => ?_)
    go_simp
    go_at_call 21
    (with_reducible refine (HRL.out _ (HX7.out.trans (hS6.mono HX7.out.size))).mono ?_)
    rintro e y7 ⟨rfl, hbx⟩
    have hS7 : Below w7.heap.size w7 y7 := hS6.trans (hbx.mono hS6.size)
    clear hbx
    refine hKq.out _ _ hS7 (fun hHeld0 => ?_)
    clear hKq Kq hHeld
    have hHeld := hHeld0
    clear hHeld0
    try simp only [PT]
    refine tk 33 (.bool true) hHeld (fun w => ?_) ?_
    · go_simp
    simp only [PT]
    refine tk 34 (.bool true) hHeld (fun w => ?_) ?_
    · go_simp
    simp only [PT]
    refine tk 35 (.bool true) hHeld (fun w => ?_) ?_
    · go_simp
    simp only [PT]
    refine tkS 36 (.agg #[.slice p.A p.n p.c, .slice p.B p.k p.d, .int .i64 p.am, .int .i64 p.rd, .int .i64 p.hd]) hHeld (fun w hq => ?_) ?_
    · obtain ⟨a0, a1, a2, a3, a4⟩ := HCp.out w (HX7.out.trans (hq.mono HX7.out.size)); obtain ⟨c0, c1, c2, c3, c4⟩ := HCq.out w (HX7.out.trans (hq.mono HX7.out.size))
      go_simp
    simp only [PT]
    refine tkS 38 (.agg #[.slice p.A p.n p.c, .slice p.B p.k p.d, .int .i64 p.am, .int .i64 p.rd, .int .i64 p.hd]) hHeld (fun w hq => ?_) ?_
    · obtain ⟨a0, a1, a2, a3, a4⟩ := HCp.out w (HX7.out.trans (hq.mono HX7.out.size)); obtain ⟨c0, c1, c2, c3, c4⟩ := HCq.out w (HX7.out.trans (hq.mono HX7.out.size))
      go_simp
    simp only [PT]
    refine one_step 37 (by kernel_rfl) rfl (fun Kq hKq => ?_)
    go_simp
    go_at_call 22
    (with_reducible refine (HC.out _ (HX7.out.trans (hS7.mono HX7.out.size))).mono ?_)
    rintro e y8 ⟨rfl, hbx⟩
    have hS8 : Below w7.heap.size w7 y8 := hS7.trans (hbx.mono hS7.size)
    clear hbx
    refine hKq.out _ _ hS8 (fun hHeld0 => ?_)
    clear hKq Kq hHeld
    have hHeld := hHeld0
    clear hHeld0
    try simp only [PT]
    refine one_step 39 (by kernel_rfl) rfl (fun Kq hKq => ?_)
    go_simp
    go_at_call 23
    (with_reducible refine (HRC.out _ (HX7.out.trans (hS8.mono HX7.out.size))).mono ?_)
    rintro e y9 ⟨rfl, hbx⟩
    have hS9 : Below w7.heap.size w7 y9 := hS8.trans (hbx.mono hS8.size)
    clear hbx
    refine hKq.out _ _ hS9 (fun hHeld0 => ?_)
    clear hKq Kq hHeld
    have hHeld := hHeld0
    clear hHeld0
    try simp only [PT]
    refine tk 40 (.bool true) hHeld (fun w => ?_) ?_
    · go_simp
    simp only [PT]
    refine tk 41 (.bool true) hHeld (fun w => ?_) ?_
    · go_simp
    simp only [PT]
    refine tk 42 (.bool true) hHeld (fun w => ?_) ?_
    · go_simp
    simp only [PT]
    refine wpAnyH_done (by kernel_rfl) ?_ _
    clear hHeld
    go_wp2
    go_ret
    exact ⟨rfl, HB0.out.trans ((HX7.out.trans (hS9.mono HX7.out.size)).mono HB0.out.size)⟩
  all_goals
    clear ha hb hd
    go_enter Try.func3, Try.ntmps3
    go_wp2_with (first
      | (go_at_call 9
         rw [HW.out]
         (with_reducible refine (HAW.out).mono ?_)
         rintro e w1 ⟨rfl, hbx⟩
         have HX1 := Lib.hid (HX0.out.trans (hbx.mono HX0.out.size))
         obtain ⟨p0z, p1z, p2z, p3z, p4z⟩ := HCp.out w1 HX1.out
         obtain ⟨q0z, q1z, q2z, q3z, q4z⟩ := HCq.out w1 HX1.out
         clear hbx)
      | (go_at_call 10
         (with_reducible refine (HFP.out _ HX1.out).mono ?_)
         rintro e w2 ⟨rfl, hbx⟩
         have HX2 := Lib.hid (HX1.out.trans (hbx.mono HX1.out.size))
         obtain ⟨p0z, p1z, p2z, p3z, p4z⟩ := HCp.out w2 HX2.out
         obtain ⟨q0z, q1z, q2z, q3z, q4z⟩ := HCq.out w2 HX2.out
         clear hbx)
      | (go_at_call 10
         (with_reducible refine (HFQ.out _ HX2.out).mono ?_)
         rintro e w3 ⟨rfl, hbx⟩
         have HX3 := Lib.hid (HX2.out.trans (hbx.mono HX2.out.size))
         obtain ⟨p0z, p1z, p2z, p3z, p4z⟩ := HCp.out w3 HX3.out
         obtain ⟨q0z, q1z, q2z, q3z, q4z⟩ := HCq.out w3 HX3.out
         clear hbx)
      | (go_at_call 11
         (with_reducible refine (HFA.out _ HX3.out).mono ?_)
         rintro e w4 ⟨rfl, hbx⟩
         have HX4 := Lib.hid (HX3.out.trans (hbx.mono HX3.out.size))
         obtain ⟨p0z, p1z, p2z, p3z, p4z⟩ := HCp.out w4 HX4.out
         obtain ⟨q0z, q1z, q2z, q3z, q4z⟩ := HCq.out w4 HX4.out
         clear hbx))
    go_ret
    exact ⟨rfl, HB0.out.trans (HX4.out.mono HB0.out.size)⟩
end Go.Proofs.Ytjjjfckkglcdfaa
