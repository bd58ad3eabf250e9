/- Joined texts: The law StageTells: the walk. The walk over the law StageGreen. The law StageGreen: sgreen_held. -/
import Derived.Test.YtcgakgbnhlmcaaaStJG
/- The law StageTells: the walk. -/
namespace Go.Proofs.Ytcgakgbnhlmcaaa
set_option maxRecDepth 100000
set_option linter.unusedVariables false
set_option linter.unusedSimpArgs false
open Go.RowKit

set_option maxHeartbeats 16000000 in
theorem stells_much (HO : StgOk) (HT : LmpText) (A : Option Addr) (n c : Nat) (l : List Pl) (s : Sg) (x : Int) (w : World) (hl : Pls w A n c l) (hts : SmG s) (hfw : fewAllB l = true) (hx1 : 60 < x) (hx2 : ¬ x ≤ 2000) :
    Calls Try.prog 3 #[.slice A n c, sgV s, .int .i64 x] w fun e w' => e = .returned (.bool true) ∧ Below w.heap.size w w' := by
  have hsm := hl.small
  have hlen := hl.len
  simp only [sgV]
  obtain ⟨W0, hW0⟩ : ∃ W0, w.alloc (.cells #[.int .i64 s.pl, .int .i64 s.st, .int .i64 s.nx, .int .i64 s.ph, .int .i64 s.t, .int .i64 s.hd, .int .i64 s.hl, .int .i64 s.ak, .int .i64 s.wt, .bool s.sp] 24) = W0 := ⟨_, rfl⟩
  have hB0 : Below w.heap.size w W0 := by rw [← hW0]; exact one_alloc w _
  have hbs : BoxG W0 w.heap.size s := by rw [← hW0]; exact BoxG.new w s
  have HPL := Lib.hid (show ∀ X, Below W0.heap.size W0 X → Pls X A n c l from fun X hX => (hl.below hB0).below hX)
  have HBS := Lib.hid (show ∀ X, Below W0.heap.size W0 X → BoxG X w.heap.size s from fun X hX => hbs.below hX)
  have HLL := Lib.hid hlen
  have HB0 := Lib.hid hB0
  have HW := Lib.hid hW0
  have HAW := Lib.hid (sawake16_any HO HT W0)
  have HFW := Lib.hid (fun X hX => pfewall_any A n c l X (HPL.out X hX))
  clear hW0 hB0 hbs hl
  rw [hfw] at HFW
  obtain ⟨hl5, hfp⟩ := fewall_iff.1 hfw
  have hn1000 : n ≤ 1000 := by omega
  have hmem : ∀ p ∈ l, p.n ≤ 1000 ∧ p.k ≤ 1000 := fun p hp => by have := hfp p hp; omega
  have HMY := Lib.hid (fun X hX => HO.may A n c l s X (HPL.out X hX) hts hn1000 hmem)
  have HRM := Lib.hid (fun X hX => rsmay_any A n c l s X (HPL.out X hX) hts)
  have HR1 := Lib.hid (fun X hX => HO.run A n c l s x X (HPL.out X hX) hts hn1000 hmem)
  have HR2 := Lib.hid (fun X hX => rrun_any A n c l s x X (HPL.out X hX) hts)
  have HLA := Lib.hid (fun X hX => HO.lamps A n c l s X (HPL.out X hX) hts hn1000 hmem)
  have HRL := Lib.hid (show ∀ X, Below W0.heap.size W0 X → Calls Try.prog 16 #[.slice A n c, sgV s] X (GivesL (lampsS l s) X) from fun X hX => (rlamps_own A n c l s X (HPL.out X hX) hts).mono fun _ _ h => h.gives)
  have HTK := Lib.hid (fun X hX => HO.tick A n c l s X (HPL.out X hX) hts hn1000 hmem)
  have HRT := Lib.hid (fun X hX => rtick_any A n c l s X (HPL.out X hX) hts)
  have HN1 := Lib.hid (fun X (_ : Below W0.heap.size W0 X) => HO.new X)
  have HN2 := Lib.hid (fun X (_ : Below W0.heap.size W0 X) => rnew_any X)
  obtain ⟨M, hM⟩ : ∃ M, mayS l s = M := ⟨_, rfl⟩
  obtain ⟨g, hg⟩ : ∃ g, runG l s x = g := ⟨_, rfl⟩
  obtain ⟨R, hR⟩ : ∃ R, runL l s x = R := ⟨_, rfl⟩
  obtain ⟨t, ht⟩ : ∃ t, tickS l s = t := ⟨_, rfl⟩
  obtain ⟨L, hL⟩ : ∃ L, lampsS l s = L := ⟨_, rfl⟩
  obtain ⟨m, hm⟩ : ∃ m, newG = m := ⟨_, rfl⟩
  rw [hM] at HMY HRM
  rw [hg, hR] at HR1 HR2
  rw [ht] at HTK HRT
  rw [hL] at HLA HRL
  rw [hm] at HN1 HN2
  simp only [GivesG, GivesGL, sgV] at HMY HRM HR1 HR2 HLA HRL HTK HRT HN1 HN2
  clear hM hg hR ht hL hm hmem hfp hfw
  go_enter Try.func3, Try.ntmps3
  go_wp2_with (first
    | (go_at_call 9
       rw [HW.out]
       (with_reducible refine (HAW.out).mono ?_)
       rintro e w1 ⟨rfl, hbx⟩
       have HX1 := Lib.hid hbx
       clear hbx)
    | (go_at_call 10
       (with_reducible refine (HFW.out _ HX1.out).mono ?_)
       rintro e w2 ⟨rfl, hbx⟩
       have HX2 := Lib.hid (HX1.out.trans (hbx.mono HX1.out.size))
       obtain ⟨a0, a1, a2, a3, a4, a5, a6, a7, a8, a9⟩ := (HBS.out w2 HX2.out).cells
       clear hbx)
    | (go_at_call 11
       (with_reducible refine (HRM.out _ HX2.out).mono ?_)
       rintro e w3 ⟨rfl, hbx⟩
       have HX3 := Lib.hid (HX2.out.trans (hbx.mono HX2.out.size))
       obtain ⟨c0, c1, c2, c3, c4, c5, c6, c7, c8, c9⟩ := (HBS.out w3 HX3.out).cells
       clear hbx)
    | (go_at_call 12
       (with_reducible refine (HR1.out _ HX3.out).mono ?_)
       rintro e w4 ⟨A4, n4, c4', r4, rfl, hl4, hr4, hbx⟩
       have HX4 := Lib.hid (HX3.out.trans (hbx.mono HX3.out.size))
       have hb5 := one_alloc w4 (.cells #[.int .i64 g.pl, .int .i64 g.st, .int .i64 g.nx, .int .i64 g.ph, .int .i64 g.t, .int .i64 g.hd, .int .i64 g.hl, .int .i64 g.ak, .int .i64 g.wt, .bool g.sp] 24)
       have hbg := BoxG.new w4 g
       have HX5 := Lib.hid (HX4.out.trans (hb5.mono HX4.out.size))
       have HG4 := Lib.hid (show ∀ X, Below (w4.alloc (.cells #[.int .i64 g.pl, .int .i64 g.st, .int .i64 g.nx, .int .i64 g.ph, .int .i64 g.t, .int .i64 g.hd, .int .i64 g.hl, .int .i64 g.ak, .int .i64 g.wt, .bool g.sp] 24)).heap.size (w4.alloc (.cells #[.int .i64 g.pl, .int .i64 g.st, .int .i64 g.nx, .int .i64 g.ph, .int .i64 g.t, .int .i64 g.hd, .int .i64 g.hl, .int .i64 g.ak, .int .i64 g.wt, .bool g.sp] 24)) X → BoxG X w4.heap.size g from fun X hX => hbg.below hX)
       have HL4 := Lib.hid (show ∀ X, Below (w4.alloc (.cells #[.int .i64 g.pl, .int .i64 g.st, .int .i64 g.nx, .int .i64 g.ph, .int .i64 g.t, .int .i64 g.hd, .int .i64 g.hl, .int .i64 g.ak, .int .i64 g.wt, .bool g.sp] 24)).heap.size (w4.alloc (.cells #[.int .i64 g.pl, .int .i64 g.st, .int .i64 g.nx, .int .i64 g.ph, .int .i64 g.t, .int .i64 g.hd, .int .i64 g.hl, .int .i64 g.ak, .int .i64 g.wt, .bool g.sp] 24)) X → Lns X A4 n4 c4' r4 from fun X hX => (hl4.below hb5).below hX)
       have HQ4 := Lib.hid hr4
       obtain ⟨d0, d1, d2, d3, d4, d5, d6, d7, d8, d9⟩ := (HBS.out _ HX5.out).cells
       clear hbx hl4 hr4 hb5 hbg
       try simp only [sgV])
    | (go_at_call 13
       (with_reducible refine (HR2.out _ HX5.out).mono ?_)
       rintro e w6 ⟨A6, n6, c6', r6, rfl, hl6, hr6, hbx⟩
       have HX6 := Lib.hid (HX5.out.trans (hbx.mono HX5.out.size))
       have hb7 := one_alloc w6 (.cells #[.int .i64 g.pl, .int .i64 g.st, .int .i64 g.nx, .int .i64 g.ph, .int .i64 g.t, .int .i64 g.hd, .int .i64 g.hl, .int .i64 g.ak, .int .i64 g.wt, .bool g.sp] 24)
       have hbg := BoxG.new w6 g
       have HX7 := Lib.hid (HX6.out.trans (hb7.mono HX6.out.size))
       have HG6 := Lib.hid (show ∀ X, Below (w6.alloc (.cells #[.int .i64 g.pl, .int .i64 g.st, .int .i64 g.nx, .int .i64 g.ph, .int .i64 g.t, .int .i64 g.hd, .int .i64 g.hl, .int .i64 g.ak, .int .i64 g.wt, .bool g.sp] 24)).heap.size (w6.alloc (.cells #[.int .i64 g.pl, .int .i64 g.st, .int .i64 g.nx, .int .i64 g.ph, .int .i64 g.t, .int .i64 g.hd, .int .i64 g.hl, .int .i64 g.ak, .int .i64 g.wt, .bool g.sp] 24)) X → BoxG X w6.heap.size g from fun X hX => hbg.below hX)
       have HL6 := Lib.hid (show ∀ X, Below (w6.alloc (.cells #[.int .i64 g.pl, .int .i64 g.st, .int .i64 g.nx, .int .i64 g.ph, .int .i64 g.t, .int .i64 g.hd, .int .i64 g.hl, .int .i64 g.ak, .int .i64 g.wt, .bool g.sp] 24)).heap.size (w6.alloc (.cells #[.int .i64 g.pl, .int .i64 g.st, .int .i64 g.nx, .int .i64 g.ph, .int .i64 g.t, .int .i64 g.hd, .int .i64 g.hl, .int .i64 g.ak, .int .i64 g.wt, .bool g.sp] 24)) X → Lns X A6 n6 c6' r6 from fun X hX => (hl6.below hb7).below hX)
       have HQ6 := Lib.hid hr6
       have HY6 := Lib.hid (hbx.trans (hb7.mono hbx.size))
       clear hbx hl6 hr6 hb7 hbg
       try simp only [sgV])
    | (go_at_call 14
       (with_reducible refine (rrows_any _ _ _ _ _ _ _ _ _ (HL4.out _ HY6.out) (HL6.out _ (Below.refl _ _))).mono ?_)
       rintro e w8 ⟨he, hbx⟩
       obtain rfl : e = .returned (.bool true) := by rw [he, HQ4.out, HQ6.out]; simp
       have HX8 := Lib.hid (HX7.out.trans (hbx.mono HX7.out.size))
       have HY8 := Lib.hid (HY6.out.trans (hbx.mono HY6.out.size))
       have HZ8 := Lib.hid hbx
       clear hbx he))
  have HF := Lib.hid (show ∀ X, Below w8.heap.size w8 X → X.cell? ⟨w.heap.size, 0, none⟩ = some (.int .i64 s.pl) ∧ X.cell? ⟨w.heap.size, 1, none⟩ = some (.int .i64 s.st) ∧ X.cell? ⟨w.heap.size, 2, none⟩ = some (.int .i64 s.nx) ∧ X.cell? ⟨w.heap.size, 3, none⟩ = some (.int .i64 s.ph) ∧ X.cell? ⟨w.heap.size, 4, none⟩ = some (.int .i64 s.t) ∧ X.cell? ⟨w.heap.size, 5, none⟩ = some (.int .i64 s.hd) ∧ X.cell? ⟨w.heap.size, 6, none⟩ = some (.int .i64 s.hl) ∧ X.cell? ⟨w.heap.size, 7, none⟩ = some (.int .i64 s.ak) ∧ X.cell? ⟨w.heap.size, 8, none⟩ = some (.int .i64 s.wt) ∧ X.cell? ⟨w.heap.size, 9, none⟩ = some (.bool s.sp) ∧ X.cell? ⟨w4.heap.size, 0, none⟩ = some (.int .i64 g.pl) ∧ X.cell? ⟨w4.heap.size, 1, none⟩ = some (.int .i64 g.st) ∧ X.cell? ⟨w4.heap.size, 2, none⟩ = some (.int .i64 g.nx) ∧ X.cell? ⟨w4.heap.size, 3, none⟩ = some (.int .i64 g.ph) ∧ X.cell? ⟨w4.heap.size, 4, none⟩ = some (.int .i64 g.t) ∧ X.cell? ⟨w4.heap.size, 5, none⟩ = some (.int .i64 g.hd) ∧ X.cell? ⟨w4.heap.size, 6, none⟩ = some (.int .i64 g.hl) ∧ X.cell? ⟨w4.heap.size, 7, none⟩ = some (.int .i64 g.ak) ∧ X.cell? ⟨w4.heap.size, 8, none⟩ = some (.int .i64 g.wt) ∧ X.cell? ⟨w4.heap.size, 9, none⟩ = some (.bool g.sp) ∧ X.cell? ⟨w6.heap.size, 0, none⟩ = some (.int .i64 g.pl) ∧ X.cell? ⟨w6.heap.size, 1, none⟩ = some (.int .i64 g.st) ∧ X.cell? ⟨w6.heap.size, 2, none⟩ = some (.int .i64 g.nx) ∧ X.cell? ⟨w6.heap.size, 3, none⟩ = some (.int .i64 g.ph) ∧ X.cell? ⟨w6.heap.size, 4, none⟩ = some (.int .i64 g.t) ∧ X.cell? ⟨w6.heap.size, 5, none⟩ = some (.int .i64 g.hd) ∧ X.cell? ⟨w6.heap.size, 6, none⟩ = some (.int .i64 g.hl) ∧ X.cell? ⟨w6.heap.size, 7, none⟩ = some (.int .i64 g.ak) ∧ X.cell? ⟨w6.heap.size, 8, none⟩ = some (.int .i64 g.wt) ∧ X.cell? ⟨w6.heap.size, 9, none⟩ = some (.bool g.sp) from fun X hX => by
    obtain ⟨a0, a1, a2, a3, a4, a5, a6, a7, a8, a9⟩ := (HBS.out X (HX8.out.trans (hX.mono HX8.out.size))).cells
    obtain ⟨b0, b1, b2, b3, b4, b5, b6, b7, b8, b9⟩ := (HG4.out X (HY8.out.trans (hX.mono HY8.out.size))).cells
    obtain ⟨e0, e1, e2, e3, e4, e5, e6, e7, e8, e9⟩ := (HG6.out X (HZ8.out.trans (hX.mono HZ8.out.size))).cells
    exact ⟨a0, a1, a2, a3, a4, a5, a6, a7, a8, a9, b0, b1, b2, b3, b4, b5, b6, b7, b8, b9, e0, e1, e2, e3, e4, e5, e6, e7, e8, e9⟩)
  have hSd : Below w8.heap.size w8 w8.drew := (Below.refl _ w8).drew
  refine wp_region_held_drew (S := fun X => Below w8.heap.size w8 X) (by kernel_rfl) hSd (fun hHeld => ?_)
  obtain ⟨y0, hY0⟩ : ∃ Y, w8.drew = Y := ⟨_, rfl⟩
  rw [hY0] at hSd hHeld ⊢
  clear hY0
  refine tk 0 (.slice A n c) hHeld (fun w => ?_) ?_
  · go_simp
  simp only [PT]
  refine tkS 1 (.agg #[.int .i64 s.pl, .int .i64 s.st, .int .i64 s.nx, .int .i64 s.ph, .int .i64 s.t, .int .i64 s.hd, .int .i64 s.hl, .int .i64 s.ak, .int .i64 s.wt, .bool s.sp]) hHeld (fun w hq => ?_) ?_
  · obtain ⟨z0, z1, z2, z3, z4, z5, z6, z7, z8, z9, z10, z11, z12, z13, z14, z15, z16, z17, z18, z19, z20, z21, z22, z23, z24, z25, z26, z27, z28, z29⟩ := HF.out w hq
    go_simp
  simp only [PT]
  refine tk 4 (.slice A n c) hHeld (fun w => ?_) ?_
  · go_simp
  simp only [PT]
  refine tkS 5 (.agg #[.int .i64 s.pl, .int .i64 s.st, .int .i64 s.nx, .int .i64 s.ph, .int .i64 s.t, .int .i64 s.hd, .int .i64 s.hl, .int .i64 s.ak, .int .i64 s.wt, .bool s.sp]) hHeld (fun w hq => ?_) ?_
  · obtain ⟨z0, z1, z2, z3, z4, z5, z6, z7, z8, z9, z10, z11, z12, z13, z14, z15, z16, z17, z18, z19, z20, z21, z22, z23, z24, z25, z26, z27, z28, z29⟩ := HF.out w hq
    go_simp
  simp only [PT]
  refine one_step 2 (by kernel_rfl) rfl (fun Kq hKq => ?_)
  go_simp
  go_at_call 15
  (with_reducible refine (HLA.out _ (HX8.out.trans (hSd.mono HX8.out.size))).mono ?_)
  rintro e y1 ⟨A1, n1, c1, rfl, hi1, hbx⟩
  have HI1 := Lib.hid hi1
  clear hi1
  have hS1 : Below w8.heap.size w8 y1 := hSd.trans (hbx.mono hSd.size)
  clear hbx
  refine hKq.out _ _ hS1 (fun hHeld0 => ?_)
  clear hKq Kq hHeld
  have hHeld := hHeld0
  clear hHeld0
  try simp only [PT]
  refine two_steps 3 6 (by kernel_rfl) rfl rfl (fun Kq hKq => ?_) (fun Kq hKq => ?_)
  · have HZ1 := HI1
    go_simp
    obtain ⟨y2, hYn⟩ : ∃ Y, y1.alloc (.cells #[.slice A1 n1 c1] 32) = Y := ⟨_, rfl⟩
    have hbx : Below y1.heap.size y1 y2 := by rw [← hYn]; exact one_alloc _ _
    have hS2 : Below w8.heap.size w8 y2 := hS1.trans (hbx.mono hS1.size)
    have HI1 := Lib.hid (HI1.out.below hbx)
    have HQ1 := Lib.hid (show Lns y2 (some ⟨y1.heap.size, 0, none⟩) 1 1 [⟨A1, n1, c1, L⟩] from by rw [← hYn]; exact one_lns HZ1.out)
    rw [hYn]
    clear hYn
    clear hbx
    refine hKq.out _ _ hS2 (fun hHeld0 => ?_)
    clear hKq Kq hHeld
    have hHeld := hHeld0
    clear hHeld0
    try simp only [PT]
    refine one_step 6 (by kernel_rfl) rfl (fun Kq hKq => ?_)
    go_simp
    go_at_call 16
    (with_reducible refine (HRL.out _ (HX8.out.trans (hS2.mono HX8.out.size))).mono ?_)
    rintro e y3 ⟨A2, n2, c2, rfl, hi2, hbx⟩
    have HI2 := Lib.hid hi2
    clear hi2
    have hS3 : Below w8.heap.size w8 y3 := hS2.trans (hbx.mono hS2.size)
    have HI1 := Lib.hid (HI1.out.below hbx)
    have HQ1 := Lib.hid (HQ1.out.below hbx)
    clear hbx
    refine hKq.out _ _ hS3 (fun hHeld0 => ?_)
    clear hKq Kq hHeld
    have hHeld := hHeld0
    clear hHeld0
    try simp only [PT]
    refine one_step 7 (by kernel_rfl) rfl (fun Kq hKq => ?_)
    have HZ2 := HI2
    go_simp
    obtain ⟨y4, hYn⟩ : ∃ Y, y3.alloc (.cells #[.slice A2 n2 c2] 32) = Y := ⟨_, rfl⟩
    have hbx : Below y3.heap.size y3 y4 := by rw [← hYn]; exact one_alloc _ _
    have hS4 : Below w8.heap.size w8 y4 := hS3.trans (hbx.mono hS3.size)
    have HI1 := Lib.hid (HI1.out.below hbx)
    have HQ1 := Lib.hid (HQ1.out.below hbx)
    have HI2 := Lib.hid (HI2.out.below hbx)
    have HQ2 := Lib.hid (show Lns y4 (some ⟨y3.heap.size, 0, none⟩) 1 1 [⟨A2, n2, c2, L⟩] from by rw [← hYn]; exact one_lns HZ2.out)
    rw [hYn]
    clear hYn
    clear hbx
    refine hKq.out _ _ hS4 (fun hHeld0 => ?_)
    clear hKq Kq hHeld
    have hHeld := hHeld0
    clear hHeld0
    try simp only [PT]
    refine one_step 8 (by kernel_rfl) rfl (fun Kq hKq => ?_)
    go_simp
    go_at_call 14
    (with_reducible refine (rrows_any _ _ _ _ _ _ _ _ _ HQ1.out HQ2.out).mono ?_)
    rintro e y5 ⟨he, hbx⟩
    obtain rfl : e = .returned (.bool true) := by rw [he]; simp
    clear he
    have hS5 : Below w8.heap.size w8 y5 := hS4.trans (hbx.mono hS4.size)
    have HI1 := Lib.hid (HI1.out.below hbx)
    have HQ1 := Lib.hid (HQ1.out.below hbx)
    have HI2 := Lib.hid (HI2.out.below hbx)
    have HQ2 := Lib.hid (HQ2.out.below hbx)
    clear hbx
    refine hKq.out _ _ hS5 (fun hHeld0 => ?_)
    clear hKq Kq hHeld
    have hHeld := hHeld0
    clear hHeld0
    try simp only [PT]
    refine tk 9 (.bool true) hHeld (fun w => ?_) ?_
    · go_simp
    simp only [PT]
    refine wpAnyH_done (by kernel_rfl) ?_ _
    clear hHeld
    go_wp2
    have HX9 := Lib.hid (HX8.out.trans (hS5.mono HX8.out.size))
    have HF9 := Lib.hid (fun X (hX : Below y5.heap.size y5 X) => HF.out X (hS5.trans (hX.mono hS5.size)))
    obtain ⟨W9, hW9⟩ : ∃ W9, y5 = W9 := ⟨_, rfl⟩
    rw [hW9] at HX9 HF9 ⊢
    clear hW9
    have hSd : Below W9.heap.size W9 W9.drew := (Below.refl _ W9).drew
    refine wp_region_held_drew (S := fun X => Below W9.heap.size W9 X) (by kernel_rfl) hSd (fun hHeld => ?_)
    obtain ⟨y0, hY0⟩ : ∃ Y, W9.drew = Y := ⟨_, rfl⟩
    rw [hY0] at hSd hHeld ⊢
    clear hY0
    refine tk 0 (.slice A n c) hHeld (fun w => ?_) ?_
    · go_simp
    simp only [PT]
    refine tkS 1 (.agg #[.int .i64 s.pl, .int .i64 s.st, .int .i64 s.nx, .int .i64 s.ph, .int .i64 s.t, .int .i64 s.hd, .int .i64 s.hl, .int .i64 s.ak, .int .i64 s.wt, .bool s.sp]) hHeld (fun w hq => ?_) ?_
    · obtain ⟨z0, z1, z2, z3, z4, z5, z6, z7, z8, z9, z10, z11, z12, z13, z14, z15, z16, z17, z18, z19, z20, z21, z22, z23, z24, z25, z26, z27, z28, z29⟩ := HF9.out w hq
      go_simp
    simp only [PT]
    refine tk 3 (.bool M) hHeld (fun w => ?_) ?_
    · go_simp
    simp only [PT]
    refine one_step 2 (by kernel_rfl) rfl (fun Kq hKq => ?_)
    go_simp
    go_at_call 17
    (with_reducible refine (HMY.out _ (HX9.out.trans (hSd.mono HX9.out.size))).mono ?_)
    rintro e y1 ⟨rfl, hbx⟩
    have hS1 : Below W9.heap.size W9 y1 := hSd.trans (hbx.mono hSd.size)
    clear hbx
    refine hKq.out _ _ hS1 (fun hHeld0 => ?_)
    clear hKq Kq hHeld
    have hHeld := hHeld0
    clear hHeld0
    try simp only [PT]
    refine tk 4 (.bool true) hHeld (fun w => ?_) ?_
    · (go_simp; try simp)
    simp only [PT]
    refine tk 5 (.bool true) hHeld (fun w => ?_) ?_
    · go_simp
    simp only [PT]
    refine tk 6 (.slice A n c) hHeld (fun w => ?_) ?_
    · go_simp
    simp only [PT]
    refine tkS 7 (.agg #[.int .i64 s.pl, .int .i64 s.st, .int .i64 s.nx, .int .i64 s.ph, .int .i64 s.t, .int .i64 s.hd, .int .i64 s.hl, .int .i64 s.ak, .int .i64 s.wt, .bool s.sp]) hHeld (fun w hq => ?_) ?_
    · obtain ⟨z0, z1, z2, z3, z4, z5, z6, z7, z8, z9, z10, z11, z12, z13, z14, z15, z16, z17, z18, z19, z20, z21, z22, z23, z24, z25, z26, z27, z28, z29⟩ := HF9.out w hq
      go_simp
    simp only [PT]
    refine tk 9 (.slice A n c) hHeld (fun w => ?_) ?_
    · go_simp
    simp only [PT]
    refine tkS 10 (.agg #[.int .i64 s.pl, .int .i64 s.st, .int .i64 s.nx, .int .i64 s.ph, .int .i64 s.t, .int .i64 s.hd, .int .i64 s.hl, .int .i64 s.ak, .int .i64 s.wt, .bool s.sp]) hHeld (fun w hq => ?_) ?_
    · obtain ⟨z0, z1, z2, z3, z4, z5, z6, z7, z8, z9, z10, z11, z12, z13, z14, z15, z16, z17, z18, z19, z20, z21, z22, z23, z24, z25, z26, z27, z28, z29⟩ := HF9.out w hq
      go_simp
    simp only [PT]
    refine one_step 8 (by kernel_rfl) rfl (fun Kq hKq => ?_)
    go_simp
    go_at_call 18
    (with_reducible refine (HTK.out _ (HX9.out.trans (hS1.mono HX9.out.size))).mono ?_)
    rintro e y2 ⟨rfl, hbx⟩
    have hS2 : Below W9.heap.size W9 y2 := hS1.trans (hbx.mono hS1.size)
    clear hbx
    refine hKq.out _ _ hS2 (fun hHeld0 => ?_)
    clear hKq Kq hHeld
    have hHeld := hHeld0
    clear hHeld0
    try simp only [PT]
    refine one_step 11 (by kernel_rfl) rfl (fun Kq hKq => ?_)
    go_simp
    go_at_call 19
    (with_reducible refine (HRT.out _ (HX9.out.trans (hS2.mono HX9.out.size))).mono ?_)
    rintro e y3 ⟨rfl, hbx⟩
    have hS3 : Below W9.heap.size W9 y3 := hS2.trans (hbx.mono hS2.size)
    clear hbx
    refine hKq.out _ _ hS3 (fun hHeld0 => ?_)
    clear hKq Kq hHeld
    have hHeld := hHeld0
    clear hHeld0
    try simp only [PT]
    refine tk 12 (.bool true) hHeld (fun w => ?_) ?_
    · (refine (run_eq_sig (f := t) (g := t) rfl rfl rfl).trans ?_; rw [show decide (t = t) = true from decide_eq_true rfl])
    simp only [PT]
    refine tk 13 (.bool true) hHeld (fun w => ?_) ?_
    · go_simp
    simp only [PT]
    refine tk 14 (.bool true) hHeld (fun w => ?_) ?_
    · go_simp
    simp only [PT]
    refine tkS 15 (.agg #[.int .i64 g.pl, .int .i64 g.st, .int .i64 g.nx, .int .i64 g.ph, .int .i64 g.t, .int .i64 g.hd, .int .i64 g.hl, .int .i64 g.ak, .int .i64 g.wt, .bool g.sp]) hHeld (fun w hq => ?_) ?_
    · obtain ⟨z0, z1, z2, z3, z4, z5, z6, z7, z8, z9, z10, z11, z12, z13, z14, z15, z16, z17, z18, z19, z20, z21, z22, z23, z24, z25, z26, z27, z28, z29⟩ := HF9.out w hq
      go_simp
    simp only [PT]
    refine tkS 16 (.agg #[.int .i64 g.pl, .int .i64 g.st, .int .i64 g.nx, .int .i64 g.ph, .int .i64 g.t, .int .i64 g.hd, .int .i64 g.hl, .int .i64 g.ak, .int .i64 g.wt, .bool g.sp]) hHeld (fun w hq => ?_) ?_
    · obtain ⟨z0, z1, z2, z3, z4, z5, z6, z7, z8, z9, z10, z11, z12, z13, z14, z15, z16, z17, z18, z19, z20, z21, z22, z23, z24, z25, z26, z27, z28, z29⟩ := HF9.out w hq
      go_simp
    simp only [PT]
    refine tk 17 (.bool true) hHeld (fun w => ?_) ?_
    · (refine (run_eq_sig (f := g) (g := g) rfl rfl rfl).trans ?_; rw [show decide (g = g) = true from decide_eq_true rfl])
    simp only [PT]
    refine tk 18 (.bool true) hHeld (fun w => ?_) ?_
    · go_simp
    simp only [PT]
    refine tk 19 (.bool true) hHeld (fun w => ?_) ?_
    · go_simp
    simp only [PT]
    refine tk 20 (.bool true) hHeld (fun w => ?_) ?_
    · go_simp
    simp only [PT]
    refine tk 21 (.bool true) hHeld (fun w => ?_) ?_
    · go_simp
    simp only [PT]
    refine tk 22 (.bool true) hHeld (fun w => ?_) ?_
    · go_simp
    simp only [PT]
    refine tk 23 (.bool true) hHeld (fun w => ?_) ?_
    · go_simp
    simp only [PT]
    refine tk 24 (.bool true) hHeld (fun w => ?_) ?_
    · go_simp
    simp only [PT]
    refine tk 25 (.bool true) hHeld (fun w => ?_) ?_
    · go_simp
    simp only [PT]
    refine one_step 26 (by kernel_rfl) rfl (fun Kq hKq => ?_)
    go_simp
    go_at_call 20
    (with_reducible refine (HN1.out _ (HX9.out.trans (hS3.mono HX9.out.size))).mono ?_)
    rintro e y4 ⟨rfl, hbx⟩
    have hS4 : Below W9.heap.size W9 y4 := hS3.trans (hbx.mono hS3.size)
    clear hbx
    refine hKq.out _ _ hS4 (fun hHeld0 => ?_)
    clear hKq Kq hHeld
    have hHeld := hHeld0
    clear hHeld0
    try simp only [PT]
    refine one_step 27 (by kernel_rfl) rfl (fun Kq hKq => ?_)
    go_simp
    go_at_call 21
    (with_reducible refine (HN2.out _ (HX9.out.trans (hS4.mono HX9.out.size))).mono ?_)
    rintro e y5 ⟨rfl, hbx⟩
    have hS5 : Below W9.heap.size W9 y5 := hS4.trans (hbx.mono hS4.size)
    clear hbx
    refine hKq.out _ _ hS5 (fun hHeld0 => ?_)
    clear hKq Kq hHeld
    have hHeld := hHeld0
    clear hHeld0
    try simp only [PT]
    refine tk 28 (.bool true) hHeld (fun w => ?_) ?_
    · (refine (run_eq_sig (f := m) (g := m) rfl rfl rfl).trans ?_; rw [show decide (m = m) = true from decide_eq_true rfl])
    simp only [PT]
    refine tk 29 (.bool true) hHeld (fun w => ?_) ?_
    · go_simp
    simp only [PT]
    refine tk 30 (.bool true) hHeld (fun w => ?_) ?_
    · go_simp
    simp only [PT]
    refine wpAnyH_done (by kernel_rfl) ?_ _
    clear hHeld
    go_wp2
    go_ret
    exact ⟨rfl, HB0.out.trans ((HX9.out.trans (hS5.mono HX9.out.size)).mono HB0.out.size)⟩
  · go_simp
    go_at_call 16
    (with_reducible refine (HRL.out _ (HX8.out.trans (hS1.mono HX8.out.size))).mono ?_)
    rintro e y2 ⟨A2, n2, c2, rfl, hi2, hbx⟩
    have HI2 := Lib.hid hi2
    clear hi2
    have hS2 : Below w8.heap.size w8 y2 := hS1.trans (hbx.mono hS1.size)
    have HI1 := Lib.hid (HI1.out.below hbx)
    clear hbx
    refine hKq.out _ _ hS2 (fun hHeld0 => ?_)
    clear hKq Kq hHeld
    have hHeld := hHeld0
    clear hHeld0
    try simp only [PT]
    refine two_steps 3 7 (by kernel_rfl) rfl rfl (fun Kq hKq => ?_) (fun Kq hKq => ?_)
    · have HZ1 := HI1
      go_simp
      obtain ⟨y3, hYn⟩ : ∃ Y, y2.alloc (.cells #[.slice A1 n1 c1] 32) = Y := ⟨_, rfl⟩
      have hbx : Below y2.heap.size y2 y3 := by rw [← hYn]; exact one_alloc _ _
      have hS3 : Below w8.heap.size w8 y3 := hS2.trans (hbx.mono hS2.size)
      have HI1 := Lib.hid (HI1.out.below hbx)
      have HI2 := Lib.hid (HI2.out.below hbx)
      have HQ1 := Lib.hid (show Lns y3 (some ⟨y2.heap.size, 0, none⟩) 1 1 [⟨A1, n1, c1, L⟩] from by rw [← hYn]; exact one_lns HZ1.out)
      rw [hYn]
      clear hYn
      clear hbx
      refine hKq.out _ _ hS3 (fun hHeld0 => ?_)
      clear hKq Kq hHeld
      have hHeld := hHeld0
      clear hHeld0
      try simp only [PT]
      refine one_step 7 (by kernel_rfl) rfl (fun Kq hKq => ?_)
      have HZ2 := HI2
      go_simp
      obtain ⟨y4, hYn⟩ : ∃ Y, y3.alloc (.cells #[.slice A2 n2 c2] 32) = Y := ⟨_, rfl⟩
      have hbx : Below y3.heap.size y3 y4 := by rw [← hYn]; exact one_alloc _ _
      have hS4 : Below w8.heap.size w8 y4 := hS3.trans (hbx.mono hS3.size)
      have HI1 := Lib.hid (HI1.out.below hbx)
      have HI2 := Lib.hid (HI2.out.below hbx)
      have HQ1 := Lib.hid (HQ1.out.below hbx)
      have HQ2 := Lib.hid (show Lns y4 (some ⟨y3.heap.size, 0, none⟩) 1 1 [⟨A2, n2, c2, L⟩] from by rw [← hYn]; exact one_lns HZ2.out)
      rw [hYn]
      clear hYn
      clear hbx
      refine hKq.out _ _ hS4 (fun hHeld0 => ?_)
      clear hKq Kq hHeld
      have hHeld := hHeld0
      clear hHeld0
      try simp only [PT]
      refine one_step 8 (by kernel_rfl) rfl (fun Kq hKq => ?_)
      go_simp
      go_at_call 14
      (with_reducible refine (rrows_any _ _ _ _ _ _ _ _ _ HQ1.out HQ2.out).mono ?_)
      rintro e y5 ⟨he, hbx⟩
      obtain rfl : e = .returned (.bool true) := by rw [he]; simp
      clear he
      have hS5 : Below w8.heap.size w8 y5 := hS4.trans (hbx.mono hS4.size)
      have HI1 := Lib.hid (HI1.out.below hbx)
      have HI2 := Lib.hid (HI2.out.below hbx)
      have HQ1 := Lib.hid (HQ1.out.below hbx)
      have HQ2 := Lib.hid (HQ2.out.below hbx)
      clear hbx
      refine hKq.out _ _ hS5 (fun hHeld0 => ?_)
      clear hKq Kq hHeld
      have hHeld := hHeld0
      clear hHeld0
      try simp only [PT]
      refine tk 9 (.bool true) hHeld (fun w => ?_) ?_
      · go_simp
      simp only [PT]
      refine wpAnyH_done (by kernel_rfl) ?_ _
      clear hHeld
      go_wp2
      have HX9 := Lib.hid (HX8.out.trans (hS5.mono HX8.out.size))
      have HF9 := Lib.hid (fun X (hX : Below y5.heap.size y5 X) => HF.out X (hS5.trans (hX.mono hS5.size)))
      obtain ⟨W9, hW9⟩ : ∃ W9, y5 = W9 := ⟨_, rfl⟩
      rw [hW9] at HX9 HF9 ⊢
      clear hW9
      have hSd : Below W9.heap.size W9 W9.drew := (Below.refl _ W9).drew
      refine wp_region_held_drew (S := fun X => Below W9.heap.size W9 X) (by kernel_rfl) hSd (fun hHeld => ?_)
      obtain ⟨y0, hY0⟩ : ∃ Y, W9.drew = Y := ⟨_, rfl⟩
      rw [hY0] at hSd hHeld ⊢
      clear hY0
      refine tk 0 (.slice A n c) hHeld (fun w => ?_) ?_
      · go_simp
      simp only [PT]
      refine tkS 1 (.agg #[.int .i64 s.pl, .int .i64 s.st, .int .i64 s.nx, .int .i64 s.ph, .int .i64 s.t, .int .i64 s.hd, .int .i64 s.hl, .int .i64 s.ak, .int .i64 s.wt, .bool s.sp]) hHeld (fun w hq => ?_) ?_
      · obtain ⟨z0, z1, z2, z3, z4, z5, z6, z7, z8, z9, z10, z11, z12, z13, z14, z15, z16, z17, z18, z19, z20, z21, z22, z23, z24, z25, z26, z27, z28, z29⟩ := HF9.out w hq
        go_simp
      simp only [PT]
      refine tk 3 (.bool M) hHeld (fun w => ?_) ?_
      · go_simp
      simp only [PT]
      refine one_step 2 (by kernel_rfl) rfl (fun Kq hKq => ?_)
      go_simp
      go_at_call 17
      (with_reducible refine (HMY.out _ (HX9.out.trans (hSd.mono HX9.out.size))).mono ?_)
      rintro e y1 ⟨rfl, hbx⟩
      have hS1 : Below W9.heap.size W9 y1 := hSd.trans (hbx.mono hSd.size)
      clear hbx
      refine hKq.out _ _ hS1 (fun hHeld0 => ?_)
      clear hKq Kq hHeld
      have hHeld := hHeld0
      clear hHeld0
      try simp only [PT]
      refine tk 4 (.bool true) hHeld (fun w => ?_) ?_
      · (go_simp; try simp)
      simp only [PT]
      refine tk 5 (.bool true) hHeld (fun w => ?_) ?_
      · go_simp
      simp only [PT]
      refine tk 6 (.slice A n c) hHeld (fun w => ?_) ?_
      · go_simp
      simp only [PT]
      refine tkS 7 (.agg #[.int .i64 s.pl, .int .i64 s.st, .int .i64 s.nx, .int .i64 s.ph, .int .i64 s.t, .int .i64 s.hd, .int .i64 s.hl, .int .i64 s.ak, .int .i64 s.wt, .bool s.sp]) hHeld (fun w hq => ?_) ?_
      · obtain ⟨z0, z1, z2, z3, z4, z5, z6, z7, z8, z9, z10, z11, z12, z13, z14, z15, z16, z17, z18, z19, z20, z21, z22, z23, z24, z25, z26, z27, z28, z29⟩ := HF9.out w hq
        go_simp
      simp only [PT]
      refine tk 9 (.slice A n c) hHeld (fun w => ?_) ?_
      · go_simp
      simp only [PT]
      refine tkS 10 (.agg #[.int .i64 s.pl, .int .i64 s.st, .int .i64 s.nx, .int .i64 s.ph, .int .i64 s.t, .int .i64 s.hd, .int .i64 s.hl, .int .i64 s.ak, .int .i64 s.wt, .bool s.sp]) hHeld (fun w hq => ?_) ?_
      · obtain ⟨z0, z1, z2, z3, z4, z5, z6, z7, z8, z9, z10, z11, z12, z13, z14, z15, z16, z17, z18, z19, z20, z21, z22, z23, z24, z25, z26, z27, z28, z29⟩ := HF9.out w hq
        go_simp
      simp only [PT]
      refine one_step 8 (by kernel_rfl) rfl (fun Kq hKq => ?_)
      go_simp
      go_at_call 18
      (with_reducible refine (HTK.out _ (HX9.out.trans (hS1.mono HX9.out.size))).mono ?_)
      rintro e y2 ⟨rfl, hbx⟩
      have hS2 : Below W9.heap.size W9 y2 := hS1.trans (hbx.mono hS1.size)
      clear hbx
      refine hKq.out _ _ hS2 (fun hHeld0 => ?_)
      clear hKq Kq hHeld
      have hHeld := hHeld0
      clear hHeld0
      try simp only [PT]
      refine one_step 11 (by kernel_rfl) rfl (fun Kq hKq => ?_)
      go_simp
      go_at_call 19
      (with_reducible refine (HRT.out _ (HX9.out.trans (hS2.mono HX9.out.size))).mono ?_)
      rintro e y3 ⟨rfl, hbx⟩
      have hS3 : Below W9.heap.size W9 y3 := hS2.trans (hbx.mono hS2.size)
      clear hbx
      refine hKq.out _ _ hS3 (fun hHeld0 => ?_)
      clear hKq Kq hHeld
      have hHeld := hHeld0
      clear hHeld0
      try simp only [PT]
      refine tk 12 (.bool true) hHeld (fun w => ?_) ?_
      · (refine (run_eq_sig (f := t) (g := t) rfl rfl rfl).trans ?_; rw [show decide (t = t) = true from decide_eq_true rfl])
      simp only [PT]
      refine tk 13 (.bool true) hHeld (fun w => ?_) ?_
      · go_simp
      simp only [PT]
      refine tk 14 (.bool true) hHeld (fun w => ?_) ?_
      · go_simp
      simp only [PT]
      refine tkS 15 (.agg #[.int .i64 g.pl, .int .i64 g.st, .int .i64 g.nx, .int .i64 g.ph, .int .i64 g.t, .int .i64 g.hd, .int .i64 g.hl, .int .i64 g.ak, .int .i64 g.wt, .bool g.sp]) hHeld (fun w hq => ?_) ?_
      · obtain ⟨z0, z1, z2, z3, z4, z5, z6, z7, z8, z9, z10, z11, z12, z13, z14, z15, z16, z17, z18, z19, z20, z21, z22, z23, z24, z25, z26, z27, z28, z29⟩ := HF9.out w hq
        go_simp
      simp only [PT]
      refine tkS 16 (.agg #[.int .i64 g.pl, .int .i64 g.st, .int .i64 g.nx, .int .i64 g.ph, .int .i64 g.t, .int .i64 g.hd, .int .i64 g.hl, .int .i64 g.ak, .int .i64 g.wt, .bool g.sp]) hHeld (fun w hq => ?_) ?_
      · obtain ⟨z0, z1, z2, z3, z4, z5, z6, z7, z8, z9, z10, z11, z12, z13, z14, z15, z16, z17, z18, z19, z20, z21, z22, z23, z24, z25, z26, z27, z28, z29⟩ := HF9.out w hq
        go_simp
      simp only [PT]
      refine tk 17 (.bool true) hHeld (fun w => ?_) ?_
      · (refine (run_eq_sig (f := g) (g := g) rfl rfl rfl).trans ?_; rw [show decide (g = g) = true from decide_eq_true rfl])
      simp only [PT]
      refine tk 18 (.bool true) hHeld (fun w => ?_) ?_
      · go_simp
      simp only [PT]
      refine tk 19 (.bool true) hHeld (fun w => ?_) ?_
      · go_simp
      simp only [PT]
      refine tk 20 (.bool true) hHeld (fun w => ?_) ?_
      · go_simp
      simp only [PT]
      refine tk 21 (.bool true) hHeld (fun w => ?_) ?_
      · go_simp
      simp only [PT]
      refine tk 22 (.bool true) hHeld (fun w => ?_) ?_
      · go_simp
      simp only [PT]
      refine tk 23 (.bool true) hHeld (fun w => ?_) ?_
      · go_simp
      simp only [PT]
      refine tk 24 (.bool true) hHeld (fun w => ?_) ?_
      · go_simp
      simp only [PT]
      refine tk 25 (.bool true) hHeld (fun w => ?_) ?_
      · go_simp
      simp only [PT]
      refine one_step 26 (by kernel_rfl) rfl (fun Kq hKq => ?_)
      go_simp
      go_at_call 20
      (with_reducible refine (HN1.out _ (HX9.out.trans (hS3.mono HX9.out.size))).mono ?_)
      rintro e y4 ⟨rfl, hbx⟩
      have hS4 : Below W9.heap.size W9 y4 := hS3.trans (hbx.mono hS3.size)
      clear hbx
      refine hKq.out _ _ hS4 (fun hHeld0 => ?_)
      clear hKq Kq hHeld
      have hHeld := hHeld0
      clear hHeld0
      try simp only [PT]
      refine one_step 27 (by kernel_rfl) rfl (fun Kq hKq => ?_)
      go_simp
      go_at_call 21
      (with_reducible refine (HN2.out _ (HX9.out.trans (hS4.mono HX9.out.size))).mono ?_)
      rintro e y5 ⟨rfl, hbx⟩
      have hS5 : Below W9.heap.size W9 y5 := hS4.trans (hbx.mono hS4.size)
      clear hbx
      refine hKq.out _ _ hS5 (fun hHeld0 => ?_)
      clear hKq Kq hHeld
      have hHeld := hHeld0
      clear hHeld0
      try simp only [PT]
      refine tk 28 (.bool true) hHeld (fun w => ?_) ?_
      · (refine (run_eq_sig (f := m) (g := m) rfl rfl rfl).trans ?_; rw [show decide (m = m) = true from decide_eq_true rfl])
      simp only [PT]
      refine tk 29 (.bool true) hHeld (fun w => ?_) ?_
      · go_simp
      simp only [PT]
      refine tk 30 (.bool true) hHeld (fun w => ?_) ?_
      · go_simp
      simp only [PT]
      refine wpAnyH_done (by kernel_rfl) ?_ _
      clear hHeld
      go_wp2
      go_ret
      exact ⟨rfl, HB0.out.trans ((HX9.out.trans (hS5.mono HX9.out.size)).mono HB0.out.size)⟩
    · have HZ2 := HI2
      go_simp
      obtain ⟨y3, hYn⟩ : ∃ Y, y2.alloc (.cells #[.slice A2 n2 c2] 32) = Y := ⟨_, rfl⟩
      have hbx : Below y2.heap.size y2 y3 := by rw [← hYn]; exact one_alloc _ _
      have hS3 : Below w8.heap.size w8 y3 := hS2.trans (hbx.mono hS2.size)
      have HI1 := Lib.hid (HI1.out.below hbx)
      have HI2 := Lib.hid (HI2.out.below hbx)
      have HQ2 := Lib.hid (show Lns y3 (some ⟨y2.heap.size, 0, none⟩) 1 1 [⟨A2, n2, c2, L⟩] from by rw [← hYn]; exact one_lns HZ2.out)
      rw [hYn]
      clear hYn
      clear hbx
      refine hKq.out _ _ hS3 (fun hHeld0 => ?_)
      clear hKq Kq hHeld
      have hHeld := hHeld0
      clear hHeld0
      try simp only [PT]
      refine one_step 3 (by kernel_rfl) rfl (fun Kq hKq => ?_)
      have HZ1 := HI1
      go_simp
      obtain ⟨y4, hYn⟩ : ∃ Y, y3.alloc (.cells #[.slice A1 n1 c1] 32) = Y := ⟨_, rfl⟩
      have hbx : Below y3.heap.size y3 y4 := by rw [← hYn]; exact one_alloc _ _
      have hS4 : Below w8.heap.size w8 y4 := hS3.trans (hbx.mono hS3.size)
      have HI1 := Lib.hid (HI1.out.below hbx)
      have HI2 := Lib.hid (HI2.out.below hbx)
      have HQ2 := Lib.hid (HQ2.out.below hbx)
      have HQ1 := Lib.hid (show Lns y4 (some ⟨y3.heap.size, 0, none⟩) 1 1 [⟨A1, n1, c1, L⟩] from by rw [← hYn]; exact one_lns HZ1.out)
      rw [hYn]
      clear hYn
      clear hbx
      refine hKq.out _ _ hS4 (fun hHeld0 => ?_)
      clear hKq Kq hHeld
      have hHeld := hHeld0
      clear hHeld0
      try simp only [PT]
      refine one_step 8 (by kernel_rfl) rfl (fun Kq hKq => ?_)
      go_simp
      go_at_call 14
      (with_reducible refine (rrows_any _ _ _ _ _ _ _ _ _ HQ1.out HQ2.out).mono ?_)
      rintro e y5 ⟨he, hbx⟩
      obtain rfl : e = .returned (.bool true) := by rw [he]; simp
      clear he
      have hS5 : Below w8.heap.size w8 y5 := hS4.trans (hbx.mono hS4.size)
      have HI1 := Lib.hid (HI1.out.below hbx)
      have HI2 := Lib.hid (HI2.out.below hbx)
      have HQ2 := Lib.hid (HQ2.out.below hbx)
      have HQ1 := Lib.hid (HQ1.out.below hbx)
      clear hbx
      refine hKq.out _ _ hS5 (fun hHeld0 => ?_)
      clear hKq Kq hHeld
      have hHeld := hHeld0
      clear hHeld0
      try simp only [PT]
      refine tk 9 (.bool true) hHeld (fun w => ?_) ?_
      · go_simp
      simp only [PT]
      refine wpAnyH_done (by kernel_rfl) ?_ _
      clear hHeld
      go_wp2
      have HX9 := Lib.hid (HX8.out.trans (hS5.mono HX8.out.size))
      have HF9 := Lib.hid (fun X (hX : Below y5.heap.size y5 X) => HF.out X (hS5.trans (hX.mono hS5.size)))
      obtain ⟨W9, hW9⟩ : ∃ W9, y5 = W9 := ⟨_, rfl⟩
      rw [hW9] at HX9 HF9 ⊢
      clear hW9
      have hSd : Below W9.heap.size W9 W9.drew := (Below.refl _ W9).drew
      refine wp_region_held_drew (S := fun X => Below W9.heap.size W9 X) (by kernel_rfl) hSd (fun hHeld => ?_)
      obtain ⟨y0, hY0⟩ : ∃ Y, W9.drew = Y := ⟨_, rfl⟩
      rw [hY0] at hSd hHeld ⊢
      clear hY0
      refine tk 0 (.slice A n c) hHeld (fun w => ?_) ?_
      · go_simp
      simp only [PT]
      refine tkS 1 (.agg #[.int .i64 s.pl, .int .i64 s.st, .int .i64 s.nx, .int .i64 s.ph, .int .i64 s.t, .int .i64 s.hd, .int .i64 s.hl, .int .i64 s.ak, .int .i64 s.wt, .bool s.sp]) hHeld (fun w hq => ?_) ?_
      · obtain ⟨z0, z1, z2, z3, z4, z5, z6, z7, z8, z9, z10, z11, z12, z13, z14, z15, z16, z17, z18, z19, z20, z21, z22, z23, z24, z25, z26, z27, z28, z29⟩ := HF9.out w hq
        go_simp
      simp only [PT]
      refine tk 3 (.bool M) hHeld (fun w => ?_) ?_
      · go_simp
      simp only [PT]
      refine one_step 2 (by kernel_rfl) rfl (fun Kq hKq => ?_)
      go_simp
      go_at_call 17
      (with_reducible refine (HMY.out _ (HX9.out.trans (hSd.mono HX9.out.size))).mono ?_)
      rintro e y1 ⟨rfl, hbx⟩
      have hS1 : Below W9.heap.size W9 y1 := hSd.trans (hbx.mono hSd.size)
      clear hbx
      refine hKq.out _ _ hS1 (fun hHeld0 => ?_)
      clear hKq Kq hHeld
      have hHeld := hHeld0
      clear hHeld0
      try simp only [PT]
      refine tk 4 (.bool true) hHeld (fun w => ?_) ?_
      · (go_simp; try simp)
      simp only [PT]
      refine tk 5 (.bool true) hHeld (fun w => ?_) ?_
      · go_simp
      simp only [PT]
      refine tk 6 (.slice A n c) hHeld (fun w => ?_) ?_
      · go_simp
      simp only [PT]
      refine tkS 7 (.agg #[.int .i64 s.pl, .int .i64 s.st, .int .i64 s.nx, .int .i64 s.ph, .int .i64 s.t, .int .i64 s.hd, .int .i64 s.hl, .int .i64 s.ak, .int .i64 s.wt, .bool s.sp]) hHeld (fun w hq => ?_) ?_
      · obtain ⟨z0, z1, z2, z3, z4, z5, z6, z7, z8, z9, z10, z11, z12, z13, z14, z15, z16, z17, z18, z19, z20, z21, z22, z23, z24, z25, z26, z27, z28, z29⟩ := HF9.out w hq
        go_simp
      simp only [PT]
      refine tk 9 (.slice A n c) hHeld (fun w => ?_) ?_
      · go_simp
      simp only [PT]
      refine tkS 10 (.agg #[.int .i64 s.pl, .int .i64 s.st, .int .i64 s.nx, .int .i64 s.ph, .int .i64 s.t, .int .i64 s.hd, .int .i64 s.hl, .int .i64 s.ak, .int .i64 s.wt, .bool s.sp]) hHeld (fun w hq => ?_) ?_
      · obtain ⟨z0, z1, z2, z3, z4, z5, z6, z7, z8, z9, z10, z11, z12, z13, z14, z15, z16, z17, z18, z19, z20, z21, z22, z23, z24, z25, z26, z27, z28, z29⟩ := HF9.out w hq
        go_simp
      simp only [PT]
      refine one_step 8 (by kernel_rfl) rfl (fun Kq hKq => ?_)
      go_simp
      go_at_call 18
      (with_reducible refine (HTK.out _ (HX9.out.trans (hS1.mono HX9.out.size))).mono ?_)
      rintro e y2 ⟨rfl, hbx⟩
      have hS2 : Below W9.heap.size W9 y2 := hS1.trans (hbx.mono hS1.size)
      clear hbx
      refine hKq.out _ _ hS2 (fun hHeld0 => ?_)
      clear hKq Kq hHeld
      have hHeld := hHeld0
      clear hHeld0
      try simp only [PT]
      refine one_step 11 (by kernel_rfl) rfl (fun Kq hKq => ?_)
      go_simp
      go_at_call 19
      (with_reducible refine (HRT.out _ (HX9.out.trans (hS2.mono HX9.out.size))).mono ?_)
      rintro e y3 ⟨rfl, hbx⟩
      have hS3 : Below W9.heap.size W9 y3 := hS2.trans (hbx.mono hS2.size)
      clear hbx
      refine hKq.out _ _ hS3 (fun hHeld0 => ?_)
      clear hKq Kq hHeld
      have hHeld := hHeld0
      clear hHeld0
      try simp only [PT]
      refine tk 12 (.bool true) hHeld (fun w => ?_) ?_
      · (refine (run_eq_sig (f := t) (g := t) rfl rfl rfl).trans ?_; rw [show decide (t = t) = true from decide_eq_true rfl])
      simp only [PT]
      refine tk 13 (.bool true) hHeld (fun w => ?_) ?_
      · go_simp
      simp only [PT]
      refine tk 14 (.bool true) hHeld (fun w => ?_) ?_
      · go_simp
      simp only [PT]
      refine tkS 15 (.agg #[.int .i64 g.pl, .int .i64 g.st, .int .i64 g.nx, .int .i64 g.ph, .int .i64 g.t, .int .i64 g.hd, .int .i64 g.hl, .int .i64 g.ak, .int .i64 g.wt, .bool g.sp]) hHeld (fun w hq => ?_) ?_
      · obtain ⟨z0, z1, z2, z3, z4, z5, z6, z7, z8, z9, z10, z11, z12, z13, z14, z15, z16, z17, z18, z19, z20, z21, z22, z23, z24, z25, z26, z27, z28, z29⟩ := HF9.out w hq
        go_simp
      simp only [PT]
      refine tkS 16 (.agg #[.int .i64 g.pl, .int .i64 g.st, .int .i64 g.nx, .int .i64 g.ph, .int .i64 g.t, .int .i64 g.hd, .int .i64 g.hl, .int .i64 g.ak, .int .i64 g.wt, .bool g.sp]) hHeld (fun w hq => ?_) ?_
      · obtain ⟨z0, z1, z2, z3, z4, z5, z6, z7, z8, z9, z10, z11, z12, z13, z14, z15, z16, z17, z18, z19, z20, z21, z22, z23, z24, z25, z26, z27, z28, z29⟩ := HF9.out w hq
        go_simp
      simp only [PT]
      refine tk 17 (.bool true) hHeld (fun w => ?_) ?_
      · (refine (run_eq_sig (f := g) (g := g) rfl rfl rfl).trans ?_; rw [show decide (g = g) = true from decide_eq_true rfl])
      simp only [PT]
      refine tk 18 (.bool true) hHeld (fun w => ?_) ?_
      · go_simp
      simp only [PT]
      refine tk 19 (.bool true) hHeld (fun w => ?_) ?_
      · go_simp
      simp only [PT]
      refine tk 20 (.bool true) hHeld (fun w => ?_) ?_
      · go_simp
      simp only [PT]
      refine tk 21 (.bool true) hHeld (fun w => ?_) ?_
      · go_simp
      simp only [PT]
      refine tk 22 (.bool true) hHeld (fun w => ?_) ?_
      · go_simp
      simp only [PT]
      refine tk 23 (.bool true) hHeld (fun w => ?_) ?_
      · go_simp
      simp only [PT]
      refine tk 24 (.bool true) hHeld (fun w => ?_) ?_
      · go_simp
      simp only [PT]
      refine tk 25 (.bool true) hHeld (fun w => ?_) ?_
      · go_simp
      simp only [PT]
      refine one_step 26 (by kernel_rfl) rfl (fun Kq hKq => ?_)
      go_simp
      go_at_call 20
      (with_reducible refine (HN1.out _ (HX9.out.trans (hS3.mono HX9.out.size))).mono ?_)
      rintro e y4 ⟨rfl, hbx⟩
      have hS4 : Below W9.heap.size W9 y4 := hS3.trans (hbx.mono hS3.size)
      clear hbx
      refine hKq.out _ _ hS4 (fun hHeld0 => ?_)
      clear hKq Kq hHeld
      have hHeld := hHeld0
      clear hHeld0
      try simp only [PT]
      refine one_step 27 (by kernel_rfl) rfl (fun Kq hKq => ?_)
      go_simp
      go_at_call 21
      (with_reducible refine (HN2.out _ (HX9.out.trans (hS4.mono HX9.out.size))).mono ?_)
      rintro e y5 ⟨rfl, hbx⟩
      have hS5 : Below W9.heap.size W9 y5 := hS4.trans (hbx.mono hS4.size)
      clear hbx
      refine hKq.out _ _ hS5 (fun hHeld0 => ?_)
      clear hKq Kq hHeld
      have hHeld := hHeld0
      clear hHeld0
      try simp only [PT]
      refine tk 28 (.bool true) hHeld (fun w => ?_) ?_
      · (refine (run_eq_sig (f := m) (g := m) rfl rfl rfl).trans ?_; rw [show decide (m = m) = true from decide_eq_true rfl])
      simp only [PT]
      refine tk 29 (.bool true) hHeld (fun w => ?_) ?_
      · go_simp
      simp only [PT]
      refine tk 30 (.bool true) hHeld (fun w => ?_) ?_
      · go_simp
      simp only [PT]
      refine wpAnyH_done (by kernel_rfl) ?_ _
      clear hHeld
      go_wp2
      go_ret
      exact ⟨rfl, HB0.out.trans ((HX9.out.trans (hS5.mono HX9.out.size)).mono HB0.out.size)⟩
end Go.Proofs.Ytcgakgbnhlmcaaa


/- The walk over the law StageGreen. -/
namespace Go.Proofs.Ytcgakgbnhlmcaaa
set_option maxRecDepth 100000
set_option linter.unusedVariables false
set_option linter.unusedSimpArgs false
open Go.RowKit

theorem info_stg3 {a b c : Value} : (Try.prog.info? 43).map (·.size) = some (#[a, b, c] : Array Value).size := by
  have h : (Try.prog.info? 43).map (·.size) = some 3 := by kernel_rfl
  exact h
theorem one_stg3 (a b c : Int) : (#[.int .i64 a, .int .i64 b, .int .i64 c] : Array Value).all (·.oneCell') = true := all_row (l := [.int .i64 a, .int .i64 b, .int .i64 c]) fun v hv => by
  simp only [List.mem_cons, List.not_mem_nil, or_false] at hv
  rcases hv with rfl | rfl | rfl <;> rfl
/-- a green's end, or its going on -/
theorem green_ways {l : List Pl} {s : Sg} (h : MayS l s) (hp : s.ph = 0) :
    (0 < s.hd ∧ tickS l s = { s with t := s.t + 1, hd := s.hd - 1, hl := s.hl + 1 }) ∨
    (s.hd = 0 ∧ tickS l s = { s with t := s.t + 1 } ∧ s.t + 1 < (stgAt (planAt l s.pl) s.st).mx) ∨
    (s.hd = 0 ∧ (stgAt (planAt l s.pl) s.st).mn ≤ s.t + 1 ∧ (s.sp = true ∨ s.ak ≠ -1 ∨ s.wt ≠ -1 ∨ (stgAt (planAt l s.pl) s.st).mx ≤ s.t + 1) ∧ (tickS l s).ph = 1 ∧ (tickS l s).st = s.st ∧ (tickS l s).t = 0) := by
  have hd0 := h.held.h0
  rw [tickS, if_pos (mayS_iff.2 h), if_pos hp, greenT]
  by_cases hd : 0 < s.hd
  · rw [if_pos hd]; exact .inl ⟨hd, rfl⟩
  · rw [if_neg hd]
    right
    by_cases he : endsS (planAt l s.pl) s = true
    · rw [if_pos he]
      right
      have h2 := he
      simp only [endsS, Bool.and_eq_true, Bool.or_eq_true, decide_eq_true_eq] at h2
      exact ⟨by omega, h2.1, h2.2, rfl, rfl, rfl⟩
    · rw [if_neg he]
      left
      refine ⟨by omega, rfl, ?_⟩
      obtain ⟨m0, m1, m2⟩ := stg_ok (plan_fit h) h.range.s0 h.range.s1
      by_cases hm : (stgAt (planAt l s.pl) s.st).mn ≤ s.t + 1
      · exact ends_no he hm
      · omega
end Go.Proofs.Ytcgakgbnhlmcaaa


/- The law StageGreen: sgreen_held. -/
namespace Go.Proofs.Ytcgakgbnhlmcaaa
set_option maxRecDepth 100000
set_option linter.unusedVariables false
set_option linter.unusedSimpArgs false
open Go.RowKit

set_option maxHeartbeats 16000000 in
theorem sgreen_held (HO : StgOk) (HT : LmpText) (A : Option Addr) (n c : Nat) (l : List Pl) (s : Sg) (w : World) (hl : Pls w A n c l) (hts : SmG s) (hfw : fewAllB l = true) (hm : mayS l s = true) (hph : s.ph = 0) (hcg : (tickS l s).ph = 0) (hcs : 0 < s.hd) :
    Calls Try.prog 5 #[.slice A n c, sgV s] w fun e w' => e = .returned (.bool true) ∧ Below w.heap.size w w' := by
  have hsm := hl.small
  have hlen := hl.len
  simp only [sgV]
  obtain ⟨W0, hW0⟩ : ∃ W0, w.alloc (.cells #[.int .i64 s.pl, .int .i64 s.st, .int .i64 s.nx, .int .i64 s.ph, .int .i64 s.t, .int .i64 s.hd, .int .i64 s.hl, .int .i64 s.ak, .int .i64 s.wt, .bool s.sp] 24) = W0 := ⟨_, rfl⟩
  have hB0 : Below w.heap.size w W0 := by rw [← hW0]; exact one_alloc w _
  have hbs : BoxG W0 w.heap.size s := by rw [← hW0]; exact BoxG.new w s
  have HPL := Lib.hid (show ∀ X, Below W0.heap.size W0 X → Pls X A n c l from fun X hX => (hl.below hB0).below hX)
  have HBS := Lib.hid (show ∀ X, Below W0.heap.size W0 X → BoxG X w.heap.size s from fun X hX => hbs.below hX)
  have HLL := Lib.hid hlen
  have HB0 := Lib.hid hB0
  have HW := Lib.hid hW0
  have HAW := Lib.hid (sawake16_any HO HT W0)
  have HFW := Lib.hid (fun X hX => pfewall_any A n c l X (HPL.out X hX))
  clear hW0 hB0 hbs hl
  rw [hfw] at HFW
  obtain ⟨hl5, hfp⟩ := fewall_iff.1 hfw
  have hn1000 : n ≤ 1000 := by omega
  have hmem : ∀ p ∈ l, p.n ≤ 1000 ∧ p.k ≤ 1000 := fun p hp => by have := hfp p hp; omega
  have HMY := Lib.hid (fun X hX => HO.may A n c l s X (HPL.out X hX) hts hn1000 hmem)
  rw [hm] at HMY
  have hms := mayS_iff.1 hm
  have hph1 : (s.ph != 0) = false := by rw [hph]; rfl
  have hways := green_ways hms hph
  have HTK := Lib.hid (fun X hX => HO.tick A n c l s X (HPL.out X hX) hts hn1000 hmem)
  obtain ⟨g, hg⟩ : ∃ g, tickS l s = g := ⟨_, rfl⟩
  rw [hg] at HTK hways hcg
  have HCG := Lib.hid hcg
  have hsml := may_small hms
  have hheld := hms.held
  have g0 := hms.p0
  have g1 : s.pl < n := by have := hms.p1; rw [hlen] at this; exact this
  obtain ⟨j, hj⟩ := Int.eq_ofNat_of_zero_le g0
  have hjn : j < n := by omega
  obtain ⟨q1, q2⟩ := plan_of (HPL.out W0 (Below.refl _ _)) hjn
  rw [← hj] at q1 q2
  have hs0 := hms.range.s0
  have hs1 := hms.range.s1
  have hfit := plan_fit hms
  obtain ⟨q, hq⟩ : ∃ q, planAt l s.pl = q := ⟨_, rfl⟩
  rw [hq] at hways q1 q2 hs1 hfit hheld
  have hhd2 := (fit_iff.1 hfit).hd2
  have hqk := q1.s.len
  have hst1 : s.st < q.k := by rw [hqk] at hs1; exact hs1
  obtain ⟨b, off, p0, rfl, -⟩ := (HPL.out W0 (Below.refl _ _)).at_ 0 (by omega)
  obtain ⟨bs, os, x, hB, hx, -, -, -, -, -⟩ := q1.s.at_ s.st.toNat (by omega)
  have hxs : stgAt q s.st = x := hx
  rw [hxs] at hways
  have HQC := Lib.hid (show ∀ X, Below W0.heap.size W0 X → X.cell? ⟨b, off + j * 5 + 1, none⟩ = some (.slice (some ⟨bs, os, none⟩) q.k q.d) ∧ X.cell? ⟨bs, os + s.st.toNat * 3, none⟩ = some (.int .i64 x.g) ∧ X.cell? ⟨bs, os + s.st.toNat * 3 + 1, none⟩ = some (.int .i64 x.mn) ∧ X.cell? ⟨bs, os + s.st.toNat * 3 + 2, none⟩ = some (.int .i64 x.mx) from fun X hX => by
    obtain ⟨b2, off2, p2, hA2, hp2, hm2, -, hi2, z0, z1, z2, z3, z4⟩ := (HPL.out X hX).at_ j hjn
    cases hA2
    have hqe : q = p2 := by rw [← hq, hj, planAt, Int.toNat_natCast, hp2]
    rw [← hqe] at z1 hi2
    obtain ⟨b3, off3, x2, hB2, hx2, -, -, y0, y1, y2⟩ := hi2.s.at_ s.st.toNat (by omega)
    rw [hB] at hB2
    cases hB2
    obtain rfl := hx.symm.trans hx2
    rw [hB] at z1
    exact ⟨z1, y0, y1, y2⟩)
  have hstn : (s.st.toNat : Int) = s.st := Int.toNat_of_nonneg hs0
  have hstk : s.st.toNat < q.k := by omega
  simp only [GivesG, sgV] at HTK HMY
  have HH := Lib.hid hheld
  have HWY := Lib.hid hways
  have HSM := Lib.hid hsml
  have HCS := Lib.hid hcs
  have HD2 := Lib.hid hhd2
  have HJ := Lib.hid hj
  clear hj hm hmem hfp hfw hms hg hcg hcs q1 q2 hq hx hxs hB hheld hways hsml hfit hqk hs1 hph hhd2
  go_enter Try.func5, Try.ntmps5
  go_wp2_with (first
    | (go_at_call 9
       rw [HW.out]
       (with_reducible refine (HAW.out).mono ?_)
       rintro e w1 ⟨rfl, hbx⟩
       have HX1 := Lib.hid hbx
       clear hbx)
    | (go_at_call 10
       (with_reducible refine (HFW.out _ HX1.out).mono ?_)
       rintro e w2 ⟨rfl, hbx⟩
       have HX2 := Lib.hid (HX1.out.trans (hbx.mono HX1.out.size))
       clear hbx))
  have HF := Lib.hid (show ∀ X, Below w2.heap.size w2 X → X.cell? ⟨w.heap.size, 0, none⟩ = some (.int .i64 s.pl) ∧ X.cell? ⟨w.heap.size, 1, none⟩ = some (.int .i64 s.st) ∧ X.cell? ⟨w.heap.size, 2, none⟩ = some (.int .i64 s.nx) ∧ X.cell? ⟨w.heap.size, 3, none⟩ = some (.int .i64 s.ph) ∧ X.cell? ⟨w.heap.size, 4, none⟩ = some (.int .i64 s.t) ∧ X.cell? ⟨w.heap.size, 5, none⟩ = some (.int .i64 s.hd) ∧ X.cell? ⟨w.heap.size, 6, none⟩ = some (.int .i64 s.hl) ∧ X.cell? ⟨w.heap.size, 7, none⟩ = some (.int .i64 s.ak) ∧ X.cell? ⟨w.heap.size, 8, none⟩ = some (.int .i64 s.wt) ∧ X.cell? ⟨w.heap.size, 9, none⟩ = some (.bool s.sp) ∧ X.cell? ⟨b, off + j * 5 + 1, none⟩ = some (.slice (some ⟨bs, os, none⟩) q.k q.d) from fun X hX => by
    have hX0 := HX2.out.trans (hX.mono HX2.out.size)
    obtain ⟨y0, y1, y2, y3, y4, y5, y6, y7, y8, y9⟩ := (HBS.out X hX0).cells
    exact ⟨y0, y1, y2, y3, y4, y5, y6, y7, y8, y9, (HQC.out X hX0).1⟩)
  have hSd : Below w2.heap.size w2 w2.drew := (Below.refl _ w2).drew
  refine wp_region_held_drew (S := fun X => Below w2.heap.size w2 X) (by kernel_rfl) hSd (fun hHeld => ?_)
  refine tk 0 (.bool true) hHeld (fun w => ?_) ?_
  · go_simp
  simp only [PT]
  refine tk 1 (.bool false) hHeld (fun w => ?_) ?_
  · go_simp
  simp only [PT]
  refine tk 2 (.bool false) hHeld (fun w => ?_) ?_
  · go_simp
  simp only [PT]
  refine tk 3 (.bool true) hHeld (fun w => ?_) ?_
  · go_simp
  simp only [PT]
  refine tk 4 (.bool false) hHeld (fun w => ?_) ?_
  · go_simp
  simp only [PT]
  refine tk 5 (.bool false) hHeld (fun w => ?_) ?_
  · go_simp
  simp only [PT]
  refine tk 6 (.bool false) hHeld (fun w => ?_) ?_
  · go_simp
  simp only [PT]
  refine tk 7 (.slice (some ⟨b, off, none⟩) n c) hHeld (fun w => ?_) ?_
  · go_simp
  simp only [PT]
  refine tkS 8 (.agg #[.int .i64 s.pl, .int .i64 s.st, .int .i64 s.nx, .int .i64 s.ph, .int .i64 s.t, .int .i64 s.hd, .int .i64 s.hl, .int .i64 s.ak, .int .i64 s.wt, .bool s.sp]) hHeld (fun w hq => ?_) ?_
  · obtain ⟨z0, z1, z2, z3, z4, z5, z6, z7, z8, z9, z10⟩ := HF.out w hq
    go_simp
  simp only [PT]
  refine one_step 9 (by kernel_rfl) rfl (fun Kq hKq => ?_)
  go_simp
  go_at_call 17
  (with_reducible refine (HMY.out _ (HX2.out.trans (hSd.mono HX2.out.size))).mono ?_)
  rintro e y1 ⟨rfl, hbx⟩
  have hS1 : Below w2.heap.size w2 y1 := hSd.trans (hbx.mono hSd.size)
  clear hbx
  refine hKq.out _ _ hS1 (fun hHeld0 => ?_)
  clear hKq Kq hHeld
  have hHeld := hHeld0
  clear hHeld0
  try simp only [PT]
  refine tk 10 (.bool false) hHeld (fun w => ?_) ?_
  · go_simp
  simp only [PT]
  refine tk 11 (.bool false) hHeld (fun w => ?_) ?_
  · go_simp
  simp only [PT]
  refine tk 12 (.bool false) hHeld (fun w => ?_) ?_
  · go_simp
  simp only [PT]
  refine tk 13 (.pointer (some ⟨w.heap.size, 3, none⟩)) hHeld (fun w => ?_) ?_
  · go_simp
  simp only [PT]
  refine tkS 14 (.int .i64 s.ph) hHeld (fun w hq => ?_) ?_
  · obtain ⟨z0, z1, z2, z3, z4, z5, z6, z7, z8, z9, z10⟩ := HF.out w hq
    go_simp
  simp only [PT]
  refine tk 15 (.bool false) hHeld (fun w => ?_) ?_
  · (go_simp; try exact hph1)
  simp only [PT]
  refine tk 16 (.bool false) hHeld (fun w => ?_) ?_
  · go_simp
  simp only [PT]
  refine tk 17 (.bool false) hHeld (fun w => ?_) ?_
  · go_simp
  simp only [PT]
  refine tk 18 (.pointer (some ⟨w.heap.size, 0, none⟩)) hHeld (fun w => ?_) ?_
  · go_simp
  simp only [PT]
  refine tkS 19 (.int .i64 s.pl) hHeld (fun w hq => ?_) ?_
  · obtain ⟨z0, z1, z2, z3, z4, z5, z6, z7, z8, z9, z10⟩ := HF.out w hq
    go_simp
  simp only [PT]
  refine tk 20 (.bool false) hHeld (fun w => ?_) ?_
  · (go_simp; try omega)
  simp only [PT]
  refine tk 21 (.bool false) hHeld (fun w => ?_) ?_
  · go_simp
  simp only [PT]
  refine tk 22 (.bool false) hHeld (fun w => ?_) ?_
  · go_simp
  simp only [PT]
  refine tk 23 (.pointer (some ⟨w.heap.size, 0, none⟩)) hHeld (fun w => ?_) ?_
  · go_simp
  simp only [PT]
  refine tkS 24 (.int .i64 s.pl) hHeld (fun w hq => ?_) ?_
  · obtain ⟨z0, z1, z2, z3, z4, z5, z6, z7, z8, z9, z10⟩ := HF.out w hq
    go_simp
  simp only [PT]
  refine tk 25 (.slice (some ⟨b, off, none⟩) n c) hHeld (fun w => ?_) ?_
  · go_simp
  simp only [PT]
  refine tk 26 (.int .i64 (n : Int)) hHeld (fun w => ?_) ?_
  · go_simp
  simp only [PT]
  refine tk 27 (.bool false) hHeld (fun w => ?_) ?_
  · (go_simp; try omega)
  simp only [PT]
  refine tk 28 (.bool false) hHeld (fun w => ?_) ?_
  · go_simp
  simp only [PT]
  refine tk 29 (.bool false) hHeld (fun w => ?_) ?_
  · go_simp
  simp only [PT]
  refine tk 30 (.pointer (some ⟨w.heap.size, 1, none⟩)) hHeld (fun w => ?_) ?_
  · go_simp
  simp only [PT]
  refine tkS 31 (.int .i64 s.st) hHeld (fun w hq => ?_) ?_
  · obtain ⟨z0, z1, z2, z3, z4, z5, z6, z7, z8, z9, z10⟩ := HF.out w hq
    go_simp
  simp only [PT]
  refine tk 32 (.bool false) hHeld (fun w => ?_) ?_
  · (go_simp; try omega)
  simp only [PT]
  refine tk 33 (.bool false) hHeld (fun w => ?_) ?_
  · go_simp
  simp only [PT]
  refine tk 34 (.bool false) hHeld (fun w => ?_) ?_
  · go_simp
  simp only [PT]
  refine tk 35 (.pointer (some ⟨w.heap.size, 1, none⟩)) hHeld (fun w => ?_) ?_
  · go_simp
  simp only [PT]
  refine tkS 36 (.int .i64 s.st) hHeld (fun w hq => ?_) ?_
  · obtain ⟨z0, z1, z2, z3, z4, z5, z6, z7, z8, z9, z10⟩ := HF.out w hq
    go_simp
  simp only [PT]
  refine tk 37 (.slice (some ⟨b, off, none⟩) n c) hHeld (fun w => ?_) ?_
  · go_simp
  simp only [PT]
  refine tk 38 (.pointer (some ⟨w.heap.size, 0, none⟩)) hHeld (fun w => ?_) ?_
  · go_simp
  simp only [PT]
  refine tkS 39 (.int .i64 s.pl) hHeld (fun w hq => ?_) ?_
  · obtain ⟨z0, z1, z2, z3, z4, z5, z6, z7, z8, z9, z10⟩ := HF.out w hq
    go_simp
  simp only [PT]
  refine tk 40 (.pointer (some ⟨b, off + j * 5, none⟩)) hHeld (fun w => ?_) ?_
  · (go_simp; try rw [HJ.out]; try go_simp)
  simp only [PT]
  refine tk 41 (.pointer (some ⟨b, off + j * 5 + 1, none⟩)) hHeld (fun w => ?_) ?_
  · go_simp
  simp only [PT]
  refine tkS 42 (.slice (some ⟨bs, os, none⟩) q.k q.d) hHeld (fun w hq => ?_) ?_
  · obtain ⟨z0, z1, z2, z3, z4, z5, z6, z7, z8, z9, z10⟩ := HF.out w hq
    go_simp
  simp only [PT]
  refine tk 43 (.int .i64 (q.k : Int)) hHeld (fun w => ?_) ?_
  · go_simp
  simp only [PT]
  refine tk 44 (.bool false) hHeld (fun w => ?_) ?_
  · (go_simp; try omega)
  simp only [PT]
  refine tk 45 (.bool false) hHeld (fun w => ?_) ?_
  · go_simp
  simp only [PT]
  refine wpAnyH_done (by kernel_rfl) ?_ _
  clear hHeld
  have HX3 := Lib.hid (HX2.out.trans (hS1.mono HX2.out.size))
  obtain ⟨c0, c1, c2, c3, c4, c5, c6, c7, c8, c9⟩ := (HBS.out y1 HX3.out).cells
  go_wp2_with (first
    | (go_at_call 18
       (with_reducible refine (HTK.out _ HX3.out).mono ?_)
       rintro e w4 ⟨rfl, hbx⟩
       have HX4 := Lib.hid (HX3.out.trans (hbx.mono HX3.out.size))
       clear hbx
       try simp only [sgV]))
  obtain ⟨W5, hW5⟩ : ∃ W5, w4.alloc (.cells #[.int .i64 g.pl, .int .i64 g.st, .int .i64 g.nx, .int .i64 g.ph, .int .i64 g.t, .int .i64 g.hd, .int .i64 g.hl, .int .i64 g.ak, .int .i64 g.wt, .bool g.sp] 24) = W5 := ⟨_, rfl⟩
  have hb5 := one_alloc w4 (.cells #[.int .i64 g.pl, .int .i64 g.st, .int .i64 g.nx, .int .i64 g.ph, .int .i64 g.t, .int .i64 g.hd, .int .i64 g.hl, .int .i64 g.ak, .int .i64 g.wt, .bool g.sp] 24)
  have hbg := BoxG.new w4 g
  rw [hW5] at hb5 hbg ⊢
  have HX5 := Lib.hid (HX4.out.trans (hb5.mono HX4.out.size))
  have HG := Lib.hid (show ∀ X, Below W5.heap.size W5 X → BoxG X w4.heap.size g from fun X hX => hbg.below hX)
  have HF6 := Lib.hid (show ∀ X, Below W5.heap.size W5 X → X.cell? ⟨w.heap.size, 0, none⟩ = some (.int .i64 s.pl) ∧ X.cell? ⟨w.heap.size, 1, none⟩ = some (.int .i64 s.st) ∧ X.cell? ⟨b, off + j * 5 + 1, none⟩ = some (.slice (some ⟨bs, os, none⟩) q.k q.d) ∧ X.cell? ⟨bs, os + s.st.toNat * 3, none⟩ = some (.int .i64 x.g) ∧ X.cell? ⟨bs, os + s.st.toNat * 3 + 1, none⟩ = some (.int .i64 x.mn) ∧ X.cell? ⟨bs, os + s.st.toNat * 3 + 2, none⟩ = some (.int .i64 x.mx) from fun X hX => by
    have hX0 := HX5.out.trans (hX.mono HX5.out.size)
    exact ⟨(HBS.out X hX0).cells.c0, (HBS.out X hX0).cells.c1, HQC.out X hX0⟩)
  clear hb5 hbg hW5 c0 c1 c2 c3 c4 c5 c6 c7 c8 c9
  have hSd : Below W5.heap.size W5 W5.drew := (Below.refl _ W5).drew
  refine wp_region_held_drew (S := fun X => Below W5.heap.size W5 X) (by kernel_rfl) hSd (fun hHeld => ?_)
  refine tk 0 (.slice (some ⟨b, off, none⟩) n c) hHeld (fun w => ?_) ?_
  · go_simp
  simp only [PT]
  refine tk 1 (.pointer (some ⟨w.heap.size, 0, none⟩)) hHeld (fun w => ?_) ?_
  · go_simp
  simp only [PT]
  refine tkS 2 (.int .i64 s.pl) hHeld (fun w hq => ?_) ?_
  · obtain ⟨z0, z1, z2, z3, z4, z5⟩ := HF6.out w hq
    go_simp
  simp only [PT]
  refine tk 3 (.pointer (some ⟨b, off + j * 5, none⟩)) hHeld (fun w => ?_) ?_
  · (go_simp; try rw [HJ.out]; try go_simp)
  simp only [PT]
  refine tk 4 (.pointer (some ⟨b, off + j * 5 + 1, none⟩)) hHeld (fun w => ?_) ?_
  · go_simp
  simp only [PT]
  refine tkS 5 (.slice (some ⟨bs, os, none⟩) q.k q.d) hHeld (fun w hq => ?_) ?_
  · obtain ⟨z0, z1, z2, z3, z4, z5⟩ := HF6.out w hq
    go_simp
  simp only [PT]
  refine tk 6 (.pointer (some ⟨w.heap.size, 1, none⟩)) hHeld (fun w => ?_) ?_
  · go_simp
  simp only [PT]
  refine tkS 7 (.int .i64 s.st) hHeld (fun w hq => ?_) ?_
  · obtain ⟨z0, z1, z2, z3, z4, z5⟩ := HF6.out w hq
    go_simp
  simp only [PT]
  refine tk 8 (.pointer (some ⟨bs, os + s.st.toNat * 3, none⟩)) hHeld (fun w => ?_) ?_
  · go_simp
  simp only [PT]
  refine tkS 9 (.agg #[.int .i64 x.g, .int .i64 x.mn, .int .i64 x.mx]) hHeld (fun w hq => ?_) ?_
  · obtain ⟨z0, z1, z2, z3, z4, z5⟩ := HF6.out w hq
    go_simp
  simp only [PT]
  refine one_step 10 (by kernel_rfl) rfl (fun Kq hKq => ?_)
  go_simp
  have hS1 : Below W5.heap.size W5 (W5.drew.alloc (.cells #[.int .i64 0, .int .i64 0, .int .i64 0] 43 (0, 0))) := hSd.alloc hSd.size _
  refine hKq.out _ _ hS1 (fun hHeld0 => ?_)
  clear hKq Kq hHeld
  have hHeld := hHeld0
  clear hHeld0
  try simp only [PT]
  refine one_step 11 (by kernel_rfl) rfl (fun Kq hKq => ?_)
  refine step_store_part 43 _ _ rfl W5.heap.size 0 (.agg #[.int .i64 x.g, .int .i64 x.mn, .int .i64 x.mx]) #[.int .i64 x.g, .int .i64 x.mn, .int .i64 x.mx] rfl rfl rfl 43 #[.int .i64 0, .int .i64 0, .int .i64 0] #[.int .i64 x.g, .int .i64 x.mn, .int .i64 x.mx] (heap_alloc_new W5.drew _) info_stg3 (by simp) (one_stg3 _ _ _) rfl rfl ?_
  intro W6 hg6 hX6 hz6
  have hS2 : Below W5.heap.size W5 W6 := Below.grows hS1 hg6 hS1.size (Nat.le_refl _)
  clear hg6 hz6
  refine hKq.out _ _ hS2 (fun hHeld0 => ?_)
  clear hKq Kq hHeld
  have hHeld := hHeld0
  clear hHeld0
  try simp only [PT]
  refine wpAnyH_done (by kernel_rfl) ?_ _
  clear hHeld
  have HX6 := Lib.hid (HX5.out.trans (hS2.mono HX5.out.size))
  obtain ⟨c0, c1, c2, c3, c4, c5, c6, c7, c8, c9⟩ := (HBS.out W6 HX6.out).cells
  obtain ⟨d0, d1, d2, d3, d4, d5, d6, d7, d8, d9⟩ := (HG.out W6 hS2).cells
  have x0 : W6.cell? ⟨W5.heap.size, 0, none⟩ = some (.int .i64 x.g) := (cell_of_row _ _ _ _ _ _ hX6).trans rfl
  have x1 : W6.cell? ⟨W5.heap.size, 1, none⟩ = some (.int .i64 x.mn) := (cell_of_row _ _ _ _ _ _ hX6).trans rfl
  have x2 : W6.cell? ⟨W5.heap.size, 2, none⟩ = some (.int .i64 x.mx) := (cell_of_row _ _ _ _ _ _ hX6).trans rfl
  have t0 := HSM.out.1
  have t1 := HSM.out.2
  have w1 : wrap64 (s.t + 1) = s.t + 1 := by unfold wrap64; omega
  have k0 := HH.out.h0
  have k1 := HH.out.h1
  have k2 := HH.out.h2
  have k3 := HH.out.h3
  have k4 := HD2.out
  have w2' : wrap64 (s.hd - 1) = s.hd - 1 := by unfold wrap64; omega
  have w3 : wrap64 (s.hl + 1) = s.hl + 1 := by unfold wrap64; omega
  clear hX6
  have hu1 : ∀ b : Bool, ¬ ((undef : Value) = Value.bool b) := fun b h => by cases h
  have hu2 : ∀ b : Bool, ¬ (some (undef : Value) = some (Value.bool b)) := fun b h => by cases h
  have hcs := HCS.out
  rcases HWY.out with ⟨hd, rfl⟩ | ⟨hd, rfl, hmx⟩ | ⟨hd, hmn, hask, gp, gs, gt⟩
  · simp only at d0 d1 d2 d3 d4 d5 d6 d7 d8 d9
    have hpz : (s.ph == 0) = true := by simpa using hph1
    clear hcs
    go_wp2
    go_ret
    exact ⟨by first | rfl | simp, HB0.out.trans (HX6.out.mono HB0.out.size)⟩
  · omega
  · omega
end Go.Proofs.Ytcgakgbnhlmcaaa

