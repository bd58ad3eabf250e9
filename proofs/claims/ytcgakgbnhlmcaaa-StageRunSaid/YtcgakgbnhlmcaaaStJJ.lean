/- Joined texts: The law StageGreen: sgreen_max. Amber, and all red, tick by tick. A machine that stops is all red at last. The law StageStops: what it asks ahead; rows that stay. -/
import Derived.Test.YtcgakgbnhlmcaaaStJH
import Derived.Test.YtcgakgbnhlmcaaaStJG
/- The law StageGreen: sgreen_max. -/
namespace Go.Proofs.Ytcgakgbnhlmcaaa
set_option maxRecDepth 100000
set_option linter.unusedVariables false
set_option linter.unusedSimpArgs false
open Go.RowKit

set_option maxHeartbeats 16000000 in
theorem sgreen_max (HO : StgOk) (HT : LmpText) (A : Option Addr) (n c : Nat) (l : List Pl) (s : Sg) (w : World) (hl : Pls w A n c l) (hts : SmG s) (hfw : fewAllB l = true) (hm : mayS l s = true) (hph : s.ph = 0) (hcg : (tickS l s).ph = 1) (hcs : s.hd = 0 ∧ s.sp = false ∧ s.ak = -1 ∧ s.wt = -1) :
    Calls Try.prog 5 #[.slice A n c, sgV s] w fun e w' => e = .returned (.bool true) ∧ Below w.heap.size w w' := by
  have hsm := hl.small
  have hlen := hl.len
  simp only [sgV]
  obtain ⟨W0, hW0⟩ : ∃ W0, w.alloc (.cells #[.int .i64 s.pl, .int .i64 s.st, .int .i64 s.nx, .int .i64 s.ph, .int .i64 s.t, .int .i64 s.hd, .int .i64 s.hl, .int .i64 s.ak, .int .i64 s.wt, .bool s.sp] 24) = W0 := ⟨_, rfl⟩
  have hB0 : Below w.heap.size w W0 := by rw [← hW0]; exact one_alloc w _
  have hbs : BoxG W0 w.heap.size s := by rw [← hW0]; exact BoxG.new w s
  have HPL := Lib.hid (show ∀ X, Below W0.heap.size W0 X → Pls X A n c l from fun X hX => (hl.below hB0).below hX)
  have HBS := Lib.hid (show ∀ X, Below W0.heap.size W0 X → BoxG X w.heap.size s from fun X hX => hbs.below hX)
  have HLL := Lib.hid hlen
  have HB0 := Lib.hid hB0
  have HW := Lib.hid hW0
  have HAW := Lib.hid (sawake16_any HO HT W0)
  have HFW := Lib.hid (fun X hX => pfewall_any A n c l X (HPL.out X hX))
  clear hW0 hB0 hbs hl
  rw [hfw] at HFW
  obtain ⟨hl5, hfp⟩ := fewall_iff.1 hfw
  have hn1000 : n ≤ 1000 := by omega
  have hmem : ∀ p ∈ l, p.n ≤ 1000 ∧ p.k ≤ 1000 := fun p hp => by have := hfp p hp; omega
  have HMY := Lib.hid (fun X hX => HO.may A n c l s X (HPL.out X hX) hts hn1000 hmem)
  rw [hm] at HMY
  have hms := mayS_iff.1 hm
  have hph1 : (s.ph != 0) = false := by rw [hph]; rfl
  have hways := green_ways hms hph
  have HTK := Lib.hid (fun X hX => HO.tick A n c l s X (HPL.out X hX) hts hn1000 hmem)
  obtain ⟨g, hg⟩ : ∃ g, tickS l s = g := ⟨_, rfl⟩
  rw [hg] at HTK hways hcg
  have HCG := Lib.hid hcg
  have hsml := may_small hms
  have hheld := hms.held
  have g0 := hms.p0
  have g1 : s.pl < n := by have := hms.p1; rw [hlen] at this; exact this
  obtain ⟨j, hj⟩ := Int.eq_ofNat_of_zero_le g0
  have hjn : j < n := by omega
  obtain ⟨q1, q2⟩ := plan_of (HPL.out W0 (Below.refl _ _)) hjn
  rw [← hj] at q1 q2
  have hs0 := hms.range.s0
  have hs1 := hms.range.s1
  have hfit := plan_fit hms
  obtain ⟨q, hq⟩ : ∃ q, planAt l s.pl = q := ⟨_, rfl⟩
  rw [hq] at hways q1 q2 hs1 hfit hheld
  have hhd2 := (fit_iff.1 hfit).hd2
  have hqk := q1.s.len
  have hst1 : s.st < q.k := by rw [hqk] at hs1; exact hs1
  obtain ⟨b, off, p0, rfl, -⟩ := (HPL.out W0 (Below.refl _ _)).at_ 0 (by omega)
  obtain ⟨bs, os, x, hB, hx, -, -, -, -, -⟩ := q1.s.at_ s.st.toNat (by omega)
  have hxs : stgAt q s.st = x := hx
  rw [hxs] at hways
  have HQC := Lib.hid (show ∀ X, Below W0.heap.size W0 X → X.cell? ⟨b, off + j * 5 + 1, none⟩ = some (.slice (some ⟨bs, os, none⟩) q.k q.d) ∧ X.cell? ⟨bs, os + s.st.toNat * 3, none⟩ = some (.int .i64 x.g) ∧ X.cell? ⟨bs, os + s.st.toNat * 3 + 1, none⟩ = some (.int .i64 x.mn) ∧ X.cell? ⟨bs, os + s.st.toNat * 3 + 2, none⟩ = some (.int .i64 x.mx) from fun X hX => by
    obtain ⟨b2, off2, p2, hA2, hp2, hm2, -, hi2, z0, z1, z2, z3, z4⟩ := (HPL.out X hX).at_ j hjn
    cases hA2
    have hqe : q = p2 := by rw [← hq, hj, planAt, Int.toNat_natCast, hp2]
    rw [← hqe] at z1 hi2
    obtain ⟨b3, off3, x2, hB2, hx2, -, -, y0, y1, y2⟩ := hi2.s.at_ s.st.toNat (by omega)
    rw [hB] at hB2
    cases hB2
    obtain rfl := hx.symm.trans hx2
    rw [hB] at z1
    exact ⟨z1, y0, y1, y2⟩)
  have hstn : (s.st.toNat : Int) = s.st := Int.toNat_of_nonneg hs0
  have hstk : s.st.toNat < q.k := by omega
  simp only [GivesG, sgV] at HTK HMY
  have HH := Lib.hid hheld
  have HWY := Lib.hid hways
  have HSM := Lib.hid hsml
  have HCS := Lib.hid hcs
  have HD2 := Lib.hid hhd2
  have HJ := Lib.hid hj
  clear hj hm hmem hfp hfw hms hg hcg hcs q1 q2 hq hx hxs hB hheld hways hsml hfit hqk hs1 hph hhd2
  go_enter Try.func5, Try.ntmps5
  go_wp2_with (first
    | (go_at_call 9
       rw [HW.out]
       (with_reducible refine (HAW.out).mono ?_)
       rintro e w1 ⟨rfl, hbx⟩
       have HX1 := Lib.hid hbx
       clear hbx)
    | (go_at_call 10
       (with_reducible refine (HFW.out _ HX1.out).mono ?_)
       rintro e w2 ⟨rfl, hbx⟩
       have HX2 := Lib.hid (HX1.out.trans (hbx.mono HX1.out.size))
       clear hbx))
  have HF := Lib.hid (show ∀ X, Below w2.heap.size w2 X → X.cell? ⟨w.heap.size, 0, none⟩ = some (.int .i64 s.pl) ∧ X.cell? ⟨w.heap.size, 1, none⟩ = some (.int .i64 s.st) ∧ X.cell? ⟨w.heap.size, 2, none⟩ = some (.int .i64 s.nx) ∧ X.cell? ⟨w.heap.size, 3, none⟩ = some (.int .i64 s.ph) ∧ X.cell? ⟨w.heap.size, 4, none⟩ = some (.int .i64 s.t) ∧ X.cell? ⟨w.heap.size, 5, none⟩ = some (.int .i64 s.hd) ∧ X.cell? ⟨w.heap.size, 6, none⟩ = some (.int .i64 s.hl) ∧ X.cell? ⟨w.heap.size, 7, none⟩ = some (.int .i64 s.ak) ∧ X.cell? ⟨w.heap.size, 8, none⟩ = some (.int .i64 s.wt) ∧ X.cell? ⟨w.heap.size, 9, none⟩ = some (.bool s.sp) ∧ X.cell? ⟨b, off + j * 5 + 1, none⟩ = some (.slice (some ⟨bs, os, none⟩) q.k q.d) from fun X hX => by
    have hX0 := HX2.out.trans (hX.mono HX2.out.size)
    obtain ⟨y0, y1, y2, y3, y4, y5, y6, y7, y8, y9⟩ := (HBS.out X hX0).cells
    exact ⟨y0, y1, y2, y3, y4, y5, y6, y7, y8, y9, (HQC.out X hX0).1⟩)
  have hSd : Below w2.heap.size w2 w2.drew := (Below.refl _ w2).drew
  refine wp_region_held_drew (S := fun X => Below w2.heap.size w2 X) (by kernel_rfl) hSd (fun hHeld => ?_)
  refine tk 0 (.bool true) hHeld (fun w => ?_) ?_
  · go_simp
  simp only [PT]
  refine tk 1 (.bool false) hHeld (fun w => ?_) ?_
  · go_simp
  simp only [PT]
  refine tk 2 (.bool false) hHeld (fun w => ?_) ?_
  · go_simp
  simp only [PT]
  refine tk 3 (.bool true) hHeld (fun w => ?_) ?_
  · go_simp
  simp only [PT]
  refine tk 4 (.bool false) hHeld (fun w => ?_) ?_
  · go_simp
  simp only [PT]
  refine tk 5 (.bool false) hHeld (fun w => ?_) ?_
  · go_simp
  simp only [PT]
  refine tk 6 (.bool false) hHeld (fun w => ?_) ?_
  · go_simp
  simp only [PT]
  refine tk 7 (.slice (some ⟨b, off, none⟩) n c) hHeld (fun w => ?_) ?_
  · go_simp
  simp only [PT]
  refine tkS 8 (.agg #[.int .i64 s.pl, .int .i64 s.st, .int .i64 s.nx, .int .i64 s.ph, .int .i64 s.t, .int .i64 s.hd, .int .i64 s.hl, .int .i64 s.ak, .int .i64 s.wt, .bool s.sp]) hHeld (fun w hq => ?_) ?_
  · obtain ⟨z0, z1, z2, z3, z4, z5, z6, z7, z8, z9, z10⟩ := HF.out w hq
    go_simp
  simp only [PT]
  refine one_step 9 (by kernel_rfl) rfl (fun Kq hKq => ?_)
  go_simp
  go_at_call 17
  (with_reducible refine (HMY.out _ (HX2.out.trans (hSd.mono HX2.out.size))).mono ?_)
  rintro e y1 ⟨rfl, hbx⟩
  have hS1 : Below w2.heap.size w2 y1 := hSd.trans (hbx.mono hSd.size)
  clear hbx
  refine hKq.out _ _ hS1 (fun hHeld0 => ?_)
  clear hKq Kq hHeld
  have hHeld := hHeld0
  clear hHeld0
  try simp only [PT]
  refine tk 10 (.bool false) hHeld (fun w => ?_) ?_
  · go_simp
  simp only [PT]
  refine tk 11 (.bool false) hHeld (fun w => ?_) ?_
  · go_simp
  simp only [PT]
  refine tk 12 (.bool false) hHeld (fun w => ?_) ?_
  · go_simp
  simp only [PT]
  refine tk 13 (.pointer (some ⟨w.heap.size, 3, none⟩)) hHeld (fun w => ?_) ?_
  · go_simp
  simp only [PT]
  refine tkS 14 (.int .i64 s.ph) hHeld (fun w hq => ?_) ?_
  · obtain ⟨z0, z1, z2, z3, z4, z5, z6, z7, z8, z9, z10⟩ := HF.out w hq
    go_simp
  simp only [PT]
  refine tk 15 (.bool false) hHeld (fun w => ?_) ?_
  · (go_simp; try exact hph1)
  simp only [PT]
  refine tk 16 (.bool false) hHeld (fun w => ?_) ?_
  · go_simp
  simp only [PT]
  refine tk 17 (.bool false) hHeld (fun w => ?_) ?_
  · go_simp
  simp only [PT]
  refine tk 18 (.pointer (some ⟨w.heap.size, 0, none⟩)) hHeld (fun w => ?_) ?_
  · go_simp
  simp only [PT]
  refine tkS 19 (.int .i64 s.pl) hHeld (fun w hq => ?_) ?_
  · obtain ⟨z0, z1, z2, z3, z4, z5, z6, z7, z8, z9, z10⟩ := HF.out w hq
    go_simp
  simp only [PT]
  refine tk 20 (.bool false) hHeld (fun w => ?_) ?_
  · (go_simp; try omega)
  simp only [PT]
  refine tk 21 (.bool false) hHeld (fun w => ?_) ?_
  · go_simp
  simp only [PT]
  refine tk 22 (.bool false) hHeld (fun w => ?_) ?_
  · go_simp
  simp only [PT]
  refine tk 23 (.pointer (some ⟨w.heap.size, 0, none⟩)) hHeld (fun w => ?_) ?_
  · go_simp
  simp only [PT]
  refine tkS 24 (.int .i64 s.pl) hHeld (fun w hq => ?_) ?_
  · obtain ⟨z0, z1, z2, z3, z4, z5, z6, z7, z8, z9, z10⟩ := HF.out w hq
    go_simp
  simp only [PT]
  refine tk 25 (.slice (some ⟨b, off, none⟩) n c) hHeld (fun w => ?_) ?_
  · go_simp
  simp only [PT]
  refine tk 26 (.int .i64 (n : Int)) hHeld (fun w => ?_) ?_
  · go_simp
  simp only [PT]
  refine tk 27 (.bool false) hHeld (fun w => ?_) ?_
  · (go_simp; try omega)
  simp only [PT]
  refine tk 28 (.bool false) hHeld (fun w => ?_) ?_
  · go_simp
  simp only [PT]
  refine tk 29 (.bool false) hHeld (fun w => ?_) ?_
  · go_simp
  simp only [PT]
  refine tk 30 (.pointer (some ⟨w.heap.size, 1, none⟩)) hHeld (fun w => ?_) ?_
  · go_simp
  simp only [PT]
  refine tkS 31 (.int .i64 s.st) hHeld (fun w hq => ?_) ?_
  · obtain ⟨z0, z1, z2, z3, z4, z5, z6, z7, z8, z9, z10⟩ := HF.out w hq
    go_simp
  simp only [PT]
  refine tk 32 (.bool false) hHeld (fun w => ?_) ?_
  · (go_simp; try omega)
  simp only [PT]
  refine tk 33 (.bool false) hHeld (fun w => ?_) ?_
  · go_simp
  simp only [PT]
  refine tk 34 (.bool false) hHeld (fun w => ?_) ?_
  · go_simp
  simp only [PT]
  refine tk 35 (.pointer (some ⟨w.heap.size, 1, none⟩)) hHeld (fun w => ?_) ?_
  · go_simp
  simp only [PT]
  refine tkS 36 (.int .i64 s.st) hHeld (fun w hq => ?_) ?_
  · obtain ⟨z0, z1, z2, z3, z4, z5, z6, z7, z8, z9, z10⟩ := HF.out w hq
    go_simp
  simp only [PT]
  refine tk 37 (.slice (some ⟨b, off, none⟩) n c) hHeld (fun w => ?_) ?_
  · go_simp
  simp only [PT]
  refine tk 38 (.pointer (some ⟨w.heap.size, 0, none⟩)) hHeld (fun w => ?_) ?_
  · go_simp
  simp only [PT]
  refine tkS 39 (.int .i64 s.pl) hHeld (fun w hq => ?_) ?_
  · obtain ⟨z0, z1, z2, z3, z4, z5, z6, z7, z8, z9, z10⟩ := HF.out w hq
    go_simp
  simp only [PT]
  refine tk 40 (.pointer (some ⟨b, off + j * 5, none⟩)) hHeld (fun w => ?_) ?_
  · (go_simp; try rw [HJ.out]; try go_simp)
  simp only [PT]
  refine tk 41 (.pointer (some ⟨b, off + j * 5 + 1, none⟩)) hHeld (fun w => ?_) ?_
  · go_simp
  simp only [PT]
  refine tkS 42 (.slice (some ⟨bs, os, none⟩) q.k q.d) hHeld (fun w hq => ?_) ?_
  · obtain ⟨z0, z1, z2, z3, z4, z5, z6, z7, z8, z9, z10⟩ := HF.out w hq
    go_simp
  simp only [PT]
  refine tk 43 (.int .i64 (q.k : Int)) hHeld (fun w => ?_) ?_
  · go_simp
  simp only [PT]
  refine tk 44 (.bool false) hHeld (fun w => ?_) ?_
  · (go_simp; try omega)
  simp only [PT]
  refine tk 45 (.bool false) hHeld (fun w => ?_) ?_
  · go_simp
  simp only [PT]
  refine wpAnyH_done (by kernel_rfl) ?_ _
  clear hHeld
  have HX3 := Lib.hid (HX2.out.trans (hS1.mono HX2.out.size))
  obtain ⟨c0, c1, c2, c3, c4, c5, c6, c7, c8, c9⟩ := (HBS.out y1 HX3.out).cells
  go_wp2_with (first
    | (go_at_call 18
       (with_reducible refine (HTK.out _ HX3.out).mono ?_)
       rintro e w4 ⟨rfl, hbx⟩
       have HX4 := Lib.hid (HX3.out.trans (hbx.mono HX3.out.size))
       clear hbx
       try simp only [sgV]))
  obtain ⟨W5, hW5⟩ : ∃ W5, w4.alloc (.cells #[.int .i64 g.pl, .int .i64 g.st, .int .i64 g.nx, .int .i64 g.ph, .int .i64 g.t, .int .i64 g.hd, .int .i64 g.hl, .int .i64 g.ak, .int .i64 g.wt, .bool g.sp] 24) = W5 := ⟨_, rfl⟩
  have hb5 := one_alloc w4 (.cells #[.int .i64 g.pl, .int .i64 g.st, .int .i64 g.nx, .int .i64 g.ph, .int .i64 g.t, .int .i64 g.hd, .int .i64 g.hl, .int .i64 g.ak, .int .i64 g.wt, .bool g.sp] 24)
  have hbg := BoxG.new w4 g
  rw [hW5] at hb5 hbg ⊢
  have HX5 := Lib.hid (HX4.out.trans (hb5.mono HX4.out.size))
  have HG := Lib.hid (show ∀ X, Below W5.heap.size W5 X → BoxG X w4.heap.size g from fun X hX => hbg.below hX)
  have HF6 := Lib.hid (show ∀ X, Below W5.heap.size W5 X → X.cell? ⟨w.heap.size, 0, none⟩ = some (.int .i64 s.pl) ∧ X.cell? ⟨w.heap.size, 1, none⟩ = some (.int .i64 s.st) ∧ X.cell? ⟨b, off + j * 5 + 1, none⟩ = some (.slice (some ⟨bs, os, none⟩) q.k q.d) ∧ X.cell? ⟨bs, os + s.st.toNat * 3, none⟩ = some (.int .i64 x.g) ∧ X.cell? ⟨bs, os + s.st.toNat * 3 + 1, none⟩ = some (.int .i64 x.mn) ∧ X.cell? ⟨bs, os + s.st.toNat * 3 + 2, none⟩ = some (.int .i64 x.mx) from fun X hX => by
    have hX0 := HX5.out.trans (hX.mono HX5.out.size)
    exact ⟨(HBS.out X hX0).cells.c0, (HBS.out X hX0).cells.c1, HQC.out X hX0⟩)
  clear hb5 hbg hW5 c0 c1 c2 c3 c4 c5 c6 c7 c8 c9
  have hSd : Below W5.heap.size W5 W5.drew := (Below.refl _ W5).drew
  refine wp_region_held_drew (S := fun X => Below W5.heap.size W5 X) (by kernel_rfl) hSd (fun hHeld => ?_)
  refine tk 0 (.slice (some ⟨b, off, none⟩) n c) hHeld (fun w => ?_) ?_
  · go_simp
  simp only [PT]
  refine tk 1 (.pointer (some ⟨w.heap.size, 0, none⟩)) hHeld (fun w => ?_) ?_
  · go_simp
  simp only [PT]
  refine tkS 2 (.int .i64 s.pl) hHeld (fun w hq => ?_) ?_
  · obtain ⟨z0, z1, z2, z3, z4, z5⟩ := HF6.out w hq
    go_simp
  simp only [PT]
  refine tk 3 (.pointer (some ⟨b, off + j * 5, none⟩)) hHeld (fun w => ?_) ?_
  · (go_simp; try rw [HJ.out]; try go_simp)
  simp only [PT]
  refine tk 4 (.pointer (some ⟨b, off + j * 5 + 1, none⟩)) hHeld (fun w => ?_) ?_
  · go_simp
  simp only [PT]
  refine tkS 5 (.slice (some ⟨bs, os, none⟩) q.k q.d) hHeld (fun w hq => ?_) ?_
  · obtain ⟨z0, z1, z2, z3, z4, z5⟩ := HF6.out w hq
    go_simp
  simp only [PT]
  refine tk 6 (.pointer (some ⟨w.heap.size, 1, none⟩)) hHeld (fun w => ?_) ?_
  · go_simp
  simp only [PT]
  refine tkS 7 (.int .i64 s.st) hHeld (fun w hq => ?_) ?_
  · obtain ⟨z0, z1, z2, z3, z4, z5⟩ := HF6.out w hq
    go_simp
  simp only [PT]
  refine tk 8 (.pointer (some ⟨bs, os + s.st.toNat * 3, none⟩)) hHeld (fun w => ?_) ?_
  · go_simp
  simp only [PT]
  refine tkS 9 (.agg #[.int .i64 x.g, .int .i64 x.mn, .int .i64 x.mx]) hHeld (fun w hq => ?_) ?_
  · obtain ⟨z0, z1, z2, z3, z4, z5⟩ := HF6.out w hq
    go_simp
  simp only [PT]
  refine one_step 10 (by kernel_rfl) rfl (fun Kq hKq => ?_)
  go_simp
  have hS1 : Below W5.heap.size W5 (W5.drew.alloc (.cells #[.int .i64 0, .int .i64 0, .int .i64 0] 43 (0, 0))) := hSd.alloc hSd.size _
  refine hKq.out _ _ hS1 (fun hHeld0 => ?_)
  clear hKq Kq hHeld
  have hHeld := hHeld0
  clear hHeld0
  try simp only [PT]
  refine one_step 11 (by kernel_rfl) rfl (fun Kq hKq => ?_)
  refine step_store_part 43 _ _ rfl W5.heap.size 0 (.agg #[.int .i64 x.g, .int .i64 x.mn, .int .i64 x.mx]) #[.int .i64 x.g, .int .i64 x.mn, .int .i64 x.mx] rfl rfl rfl 43 #[.int .i64 0, .int .i64 0, .int .i64 0] #[.int .i64 x.g, .int .i64 x.mn, .int .i64 x.mx] (heap_alloc_new W5.drew _) info_stg3 (by simp) (one_stg3 _ _ _) rfl rfl ?_
  intro W6 hg6 hX6 hz6
  have hS2 : Below W5.heap.size W5 W6 := Below.grows hS1 hg6 hS1.size (Nat.le_refl _)
  clear hg6 hz6
  refine hKq.out _ _ hS2 (fun hHeld0 => ?_)
  clear hKq Kq hHeld
  have hHeld := hHeld0
  clear hHeld0
  try simp only [PT]
  refine wpAnyH_done (by kernel_rfl) ?_ _
  clear hHeld
  have HX6 := Lib.hid (HX5.out.trans (hS2.mono HX5.out.size))
  obtain ⟨c0, c1, c2, c3, c4, c5, c6, c7, c8, c9⟩ := (HBS.out W6 HX6.out).cells
  obtain ⟨d0, d1, d2, d3, d4, d5, d6, d7, d8, d9⟩ := (HG.out W6 hS2).cells
  have x0 : W6.cell? ⟨W5.heap.size, 0, none⟩ = some (.int .i64 x.g) := (cell_of_row _ _ _ _ _ _ hX6).trans rfl
  have x1 : W6.cell? ⟨W5.heap.size, 1, none⟩ = some (.int .i64 x.mn) := (cell_of_row _ _ _ _ _ _ hX6).trans rfl
  have x2 : W6.cell? ⟨W5.heap.size, 2, none⟩ = some (.int .i64 x.mx) := (cell_of_row _ _ _ _ _ _ hX6).trans rfl
  have t0 := HSM.out.1
  have t1 := HSM.out.2
  have w1 : wrap64 (s.t + 1) = s.t + 1 := by unfold wrap64; omega
  have k0 := HH.out.h0
  have k1 := HH.out.h1
  have k2 := HH.out.h2
  have k3 := HH.out.h3
  have k4 := HD2.out
  have w2' : wrap64 (s.hd - 1) = s.hd - 1 := by unfold wrap64; omega
  have w3 : wrap64 (s.hl + 1) = s.hl + 1 := by unfold wrap64; omega
  clear hX6
  have hu1 : ∀ b : Bool, ¬ ((undef : Value) = Value.bool b) := fun b h => by cases h
  have hu2 : ∀ b : Bool, ¬ (some (undef : Value) = some (Value.bool b)) := fun b h => by cases h
  have hcs := HCS.out
  have hcg := HCG.out
  rcases HWY.out with ⟨hd, rfl⟩ | ⟨hd, rfl, hmx⟩ | ⟨hd, hmn, hask, gp, gs, gt⟩
  · have := hcs.1; omega
  · simp only at hcg
    have : (s.ph == 0) = true := by simpa using hph1
    rw [hcg] at this
    cases this
  · clear hcg
    have gp0 : (g.ph == 0) = false := by rw [gp]; rfl
    have gp1 : (g.ph == 1) = true := by rw [gp]; rfl
    have gsb : (g.st == s.st) = true := by rw [gs]; simp
    have gtb : (g.t == 0) = true := by rw [gt]; rfl
    have hdb : (s.hd == 0) = true := by rw [hd]; rfl
    have hmb : decide (x.mn ≤ s.t + 1) = true := decide_eq_true hmn
    clear gp gs gt hd
    rw [hcs.2.1] at c9
    have hab : (s.ak != -1) = false := by rw [hcs.2.2.1]; rfl
    have hwb : (s.wt != -1) = false := by rw [hcs.2.2.2]; rfl
    have hmx : x.mx ≤ s.t + 1 := by
      obtain ⟨-, z1, z2, z3⟩ := hcs
      rcases hask with h | h | h | h
      · rw [z1] at h; cases h
      · exact (h z2).elim
      · exact (h z3).elim
      · exact h
    clear hask hcs
    go_wp2
    go_ret
    exact ⟨by first | rfl | simp, HB0.out.trans (HX6.out.mono HB0.out.size)⟩
end Go.Proofs.Ytcgakgbnhlmcaaa


/- Amber, and all red, tick by tick. -/
namespace Go.Proofs.Ytcgakgbnhlmcaaa
set_option maxRecDepth 100000
set_option linter.unusedVariables false
set_option linter.unusedSimpArgs false
open Go.RowKit

theorem sg_t0 {u : Sg} (h : u.t = 0) : u = { u with t := 0 } := by
  obtain ⟨pl, st, nx, ph, t, hd, hl, ak, wt, sp⟩ := u
  simp only at h
  rw [h]
theorem amber_ticks {l : List Pl} {u : Sg} (h : MayS l u) (hp : u.ph = 1) (ht : u.t = 0) : ∀ k : Nat, (k : Int) < (planAt l u.pl).am → ticksS l u k = { u with t := (k : Int) }
  | 0, _ => sg_t0 ht
  | k + 1, hk => by
    have ih := amber_ticks h hp ht k (by omega)
    have hm := may_ticks h k
    rw [ticksS]
    rw [ih] at hm ⊢
    rw [tickS, if_pos (mayS_iff.2 hm), if_neg (by simp only; omega), if_pos hp, amberT, if_neg]
    · simp
    · simp only
      omega
theorem amber_end {l : List Pl} {u : Sg} (h : MayS l u) (hp : u.ph = 1) (ht : u.t + 1 = (planAt l u.pl).am) : tickS l u = { u with ph := 2, t := 0 } := by
  rw [tickS, if_pos (mayS_iff.2 h), if_neg (by omega), if_pos hp, amberT, if_pos ht]
theorem red_next {l : List Pl} {u : Sg} (h : MayS l u) (hp : u.ph = 2) (ht : u.t + 1 < (planAt l u.pl).rd) : tickS l u = { u with t := u.t + 1 } := by
  have hn : redN (planAt l u.pl) u = u.t + 1 := if_pos (by omega)
  rw [tickS, if_pos (mayS_iff.2 h), if_neg (by omega), if_neg (by omega), redT, hn, if_pos (.inl ht)]
theorem red_ticks {l : List Pl} {u : Sg} (h : MayS l u) (hp : u.ph = 2) (ht : u.t = 0) : ∀ k : Nat, (k : Int) < (planAt l u.pl).rd → ticksS l u k = { u with t := (k : Int) }
  | 0, _ => sg_t0 ht
  | k + 1, hk => by
    have ih := red_ticks h hp ht k (by omega)
    have hm := may_ticks h k
    rw [ticksS]
    rw [ih] at hm ⊢
    rw [red_next hm hp (by simp only; omega)]
    simp
/-- behind all red: it stays, or the next stage is green -/
theorem red_end {l : List Pl} {u : Sg} (h : MayS l u) (hp : u.ph = 2) (ht : u.t + 1 = (planAt l u.pl).rd) : tickS l u = if u.sp = true then { u with t := u.t + 1 } else if u.wt = -1 then { u with ph := 0, st := u.nx, t := 0 } else { u with pl := u.wt, wt := -1, nx := 0, ph := 0, st := 0, t := 0 } := by
  have hn : redN (planAt l u.pl) u = u.t + 1 := if_pos (by omega)
  rw [tickS, if_pos (mayS_iff.2 h), if_neg (by omega), if_neg (by omega), redT, hn]
  by_cases hs : u.sp = true
  · rw [if_pos (.inr hs), if_pos hs]
  · rw [if_neg (by rintro (h1 | h1); omega; exact hs h1), if_neg hs]
/-- in all red every lamp is red -/
theorem lamps_red {l : List Pl} {u : Sg} (h : MayS l u) (hp : u.ph = 2) : lampsS l u = List.replicate (planAt l u.pl).m.length 0 := by
  obtain ⟨k, hk⟩ := Int.eq_ofNat_of_zero_le h.range.s0
  have hk1 : k < (planAt l u.pl).s.length := by have := h.range.s1; omega
  rw [lampsS, if_pos (mayS_iff.2 h), hk, hp, show_is (plan_fit h) hk1 (by decide) (by decide)]
  refine List.ext_getElem (by simp) fun i h1 h2 => ?_
  simp [lampP]
/-- amber, then all red: what two runs make -/
theorem between {l : List Pl} {u : Sg} (h : MayS l u) (hp : u.ph = 1) (ht : u.t = 0) (A R : Nat) (hA : (planAt l u.pl).am = (A : Int) + 1) (hR : (planAt l u.pl).rd = (R : Int) + 1) :
    ticksS l u A = { u with t := (A : Int) } ∧ ticksS l (ticksS l u A) (R + 1) = { u with ph := 2, t := (R : Int) } ∧
    (∀ k : Nat, k ≤ R → ticksS l (ticksS l u A) (k + 1) = { u with ph := 2, t := (k : Int) }) := by
  have ha := amber_ticks h hp ht A (by omega)
  have hm := may_ticks h A
  have hall : ∀ k : Nat, k ≤ R → ticksS l (ticksS l u A) (k + 1) = { u with ph := 2, t := (k : Int) } := fun k hk => by
    rw [Nat.add_comm, ticks_add]
    have e1 : ticksS l (ticksS l u A) 1 = { u with ph := 2, t := 0 } := by
      rw [ha] at hm ⊢
      rw [ticksS, ticksS, amber_end hm hp (by simp only; omega)]
    have hm1 := may_ticks hm 1
    rw [e1] at hm1 ⊢
    rw [red_ticks hm1 rfl rfl k (by simp only; omega)]
  exact ⟨ha, hall R (Nat.le_refl _), hall⟩
theorem rows_red {l : List Pl} {v : Sg} {u : Sg} (hv : MayS l v) : ∀ R : Nat, (∀ k : Nat, k < R → ticksS l v (k + 1) = { u with ph := 2, t := (k : Int) }) → ∀ x ∈ rowsS l v R, x = List.replicate (planAt l u.pl).m.length 0
  | 0, _, x, hx => by cases hx
  | R + 1, h, x, hx => by
    rw [rowsS] at hx
    rcases List.mem_append.1 hx with hx | hx
    · exact rows_red hv R (fun k hk => h k (by omega)) x hx
    · rw [List.mem_singleton.1 hx]
      have hm := may_ticks hv (R + 1)
      rw [h R (by omega)] at hm ⊢
      exact lamps_red hm rfl
end Go.Proofs.Ytcgakgbnhlmcaaa


/- A machine that stops is all red at last. -/
namespace Go.Proofs.Ytcgakgbnhlmcaaa
set_option maxRecDepth 100000
set_option linter.unusedVariables false
set_option linter.unusedSimpArgs false
open Go.RowKit

/-- how many ticks at most till it is all red, of a machine that stops -/
def muG (p : Pl) (s : Sg) : Int := if s.ph = 0 then (if s.t + 1 < (stgAt p s.st).mn then (stgAt p s.st).mn - s.t else 1) + p.am + p.rd else if s.ph = 1 then p.am - s.t + p.rd else p.rd - s.t
theorem mu_zero {l : List Pl} {s : Sg} (h : MayS l s) : 0 ≤ muG (planAt l s.pl) s ∧ (muG (planAt l s.pl) s = 0 → s.ph = 2 ∧ s.t = (planAt l s.pl).rd) := by
  have hf := plan_fit h
  have hff := fit_iff.1 hf
  have a1 := hff.am1
  have r1 := hff.rd1
  have p0 := h.range.p0
  have p1 := h.range.p1
  rw [muG]
  by_cases h0 : s.ph = 0
  · rw [if_pos h0]
    by_cases hm : s.t + 1 < (stgAt (planAt l s.pl) s.st).mn
    · rw [if_pos hm]; exact ⟨by omega, fun e => by omega⟩
    · rw [if_neg hm]; exact ⟨by omega, fun e => by omega⟩
  · rw [if_neg h0]
    have ho := h.other h0
    by_cases h1 : s.ph = 1
    · rw [if_pos h1]
      have := ho.am h1
      exact ⟨by omega, fun e => by omega⟩
    · rw [if_neg h1]
      have := ho.rd h1
      exact ⟨by omega, fun e => ⟨by omega, by omega⟩⟩
theorem mu_tick {l : List Pl} {s : Sg} (h : MayS l s) (hs : s.sp = true) : (tickS l s).pl = s.pl ∧ (tickS l s).sp = true ∧ (0 < muG (planAt l s.pl) s → muG (planAt l s.pl) (tickS l s) ≤ muG (planAt l s.pl) s - 1) := by
  have hf := plan_fit h
  have hff := fit_iff.1 hf
  have a1 := hff.am1
  have r1 := hff.rd1
  have p0 := h.range.p0
  have p1 := h.range.p1
  obtain ⟨m0, m1, m2⟩ := stg_ok hf h.range.s0 h.range.s1
  rw [tickS, if_pos (mayS_iff.2 h)]
  by_cases h0 : s.ph = 0
  · rw [if_pos h0]
    have hd : s.hd = 0 := (h.green h0).t2 hs
    rw [greenT, if_neg (by omega)]
    by_cases he : endsS (planAt l s.pl) s = true
    · rw [if_pos he]
      have h2 := he
      simp only [endsS, Bool.and_eq_true, decide_eq_true_eq] at h2
      refine ⟨rfl, hs, fun _ => ?_⟩
      rw [muG, muG, if_neg (by simp), if_pos (by simp), if_pos h0, if_neg (show ¬ (s.t + 1 < (stgAt (planAt l s.pl) s.st).mn) by omega)]
      simp only
      omega
    · rw [if_neg he]
      refine ⟨rfl, hs, fun _ => ?_⟩
      have hm : ¬ (stgAt (planAt l s.pl) s.st).mn ≤ s.t + 1 := fun hm => he (by rw [endsS, decide_eq_true hm, hs]; rfl)
      rw [muG, muG, if_pos (by simpa using h0), if_pos h0, if_pos (show s.t + 1 < (stgAt (planAt l s.pl) s.st).mn by omega)]
      simp only
      split <;> omega
  · rw [if_neg h0]
    have ho := h.other h0
    by_cases h1 : s.ph = 1
    · rw [if_pos h1, amberT]
      have := ho.am h1
      by_cases ha : s.t + 1 = (planAt l s.pl).am
      · rw [if_pos ha]
        refine ⟨rfl, hs, fun _ => ?_⟩
        rw [muG, muG, if_neg (by simp), if_neg (by simp), if_neg h0, if_pos h1]
        simp only
        omega
      · rw [if_neg ha]
        refine ⟨rfl, hs, fun _ => ?_⟩
        rw [muG, muG, if_neg (by simpa using h0), if_pos (by simpa using h1), if_neg h0, if_pos h1]
        simp only
        omega
    · rw [if_neg h1, redT, if_pos (.inr hs)]
      refine ⟨rfl, hs, fun hp => ?_⟩
      rw [muG, if_neg h0, if_neg h1] at hp
      rw [muG, muG, if_neg (by simpa using h0), if_neg (by simpa using h1), if_neg h0, if_neg h1]
      simp only
      rw [redN, if_pos (by omega)]
      omega
theorem red_stays {l : List Pl} {s : Sg} (h : MayS l s) (hs : s.sp = true) (hp : s.ph = 2) (ht : s.t = (planAt l s.pl).rd) : tickS l s = s := by
  rw [tickS, if_pos (mayS_iff.2 h), if_neg (by omega), if_neg (by omega), redT, if_pos (.inr hs), redN, if_neg (by omega)]
theorem stays_all {l : List Pl} {s : Sg} (h : MayS l s) (ht : tickS l s = s) : ∀ k, ticksS l s k = s
  | 0 => rfl
  | k + 1 => by rw [ticksS, stays_all h ht k, ht]
theorem mu_ticks {l : List Pl} {s : Sg} (h : MayS l s) (hs : s.sp = true) : ∀ k : Nat, (ticksS l s k).pl = s.pl ∧ (ticksS l s k).sp = true ∧ (muG (planAt l s.pl) (ticksS l s k) = 0 ∨ muG (planAt l s.pl) (ticksS l s k) ≤ muG (planAt l s.pl) s - k)
  | 0 => ⟨rfl, hs, .inr (by simp [ticksS])⟩
  | k + 1 => by
    obtain ⟨e1, e2, e3⟩ := mu_ticks h hs k
    have hm := may_ticks h k
    obtain ⟨f1, f2, f3⟩ := mu_tick hm e2
    obtain ⟨z0, z1⟩ := mu_zero hm
    rw [e1] at f3 z0 z1
    rw [ticksS]
    refine ⟨f1.trans e1, f2, ?_⟩
    rcases e3 with e3 | e3
    · obtain ⟨y1, y2⟩ := z1 e3
      rw [red_stays hm e2 y1 (by rw [e1]; exact y2)]
      exact .inl e3
    · rcases Int.lt_or_le 0 (muG (planAt l s.pl) (ticksS l s k)) with hp | hp
      · have := f3 hp
        right
        omega
      · obtain ⟨y1, y2⟩ := z1 (by omega)
        rw [red_stays hm e2 y1 (by rw [e1]; exact y2)]
        exact .inl (by omega)
/-- behind Max, Amber and Red ticks it is all red, and stays so -/
theorem stops {l : List Pl} {s : Sg} (h : MayS l s) (hs : s.sp = true) (N : Nat) (hN : (N : Int) = (stgAt (planAt l s.pl) s.st).mx + (planAt l s.pl).am + (planAt l s.pl).rd) :
    (ticksS l s N).ph = 2 ∧ (ticksS l s N).t = (planAt l s.pl).rd ∧ (ticksS l s N).pl = s.pl ∧ ∀ k, ticksS l (ticksS l s N) k = ticksS l s N := by
  have hf := plan_fit h
  have hff := fit_iff.1 hf
  obtain ⟨m0, m1, m2⟩ := stg_ok hf h.range.s0 h.range.s1
  obtain ⟨e1, e2, e3⟩ := mu_ticks h hs N
  have hm := may_ticks h N
  obtain ⟨z0, z1⟩ := mu_zero hm
  rw [e1] at z0 z1
  have hmu : muG (planAt l s.pl) s ≤ N := by
    rw [muG, hN]
    by_cases h0 : s.ph = 0
    · rw [if_pos h0]
      have hg := h.green h0
      have := hg.t0
      have := h.held.h1
      split <;> omega
    · rw [if_neg h0]
      have ho := h.other h0
      have := ho.t
      have := hff.am1
      split <;> omega
  obtain ⟨y1, y2⟩ := z1 (by omega)
  exact ⟨y1, y2, e1, stays_all hm (red_stays hm e2 y1 (by rw [e1]; exact y2))⟩
end Go.Proofs.Ytcgakgbnhlmcaaa


/- The law StageStops: what it asks ahead; rows that stay. -/
namespace Go.Proofs.Ytcgakgbnhlmcaaa
set_option maxRecDepth 100000
set_option linter.unusedVariables false
set_option linter.unusedSimpArgs false
open Go.RowKit

theorem rows_still {l : List Pl} {v : Sg} (h : ∀ k, ticksS l v k = v) : ∀ R, ∀ x ∈ rowsS l v R, x = lampsS l v
  | 0, x, hx => by cases hx
  | R + 1, x, hx => by
    rw [rowsS] at hx
    rcases List.mem_append.1 hx with hx | hx
    · exact rows_still h R x hx
    · rw [List.mem_singleton.1 hx, h]
set_option maxHeartbeats 8000000 in
theorem sstops_a (HO : StgOk) (HT : LmpText) (A : Option Addr) (n c : Nat) (l : List Pl) (s : Sg) (x : Int) (w : World) (hl : Pls w A n c l) (hts : SmG s) (hfw : fewAllB l = false) :
    Calls Try.prog 7 #[.slice A n c, sgV s, .int .i64 x] w fun e w' => e = .returned (.bool true) ∧ Below w.heap.size w w' := by
  have hsm := hl.small
  have hlen := hl.len
  simp only [sgV]
  obtain ⟨W0, hW0⟩ : ∃ W0, w.alloc (.cells #[.int .i64 s.pl, .int .i64 s.st, .int .i64 s.nx, .int .i64 s.ph, .int .i64 s.t, .int .i64 s.hd, .int .i64 s.hl, .int .i64 s.ak, .int .i64 s.wt, .bool s.sp] 24) = W0 := ⟨_, rfl⟩
  have hB0 : Below w.heap.size w W0 := by rw [← hW0]; exact one_alloc w _
  have hbs : BoxG W0 w.heap.size s := by rw [← hW0]; exact BoxG.new w s
  have HPL := Lib.hid (show ∀ X, Below W0.heap.size W0 X → Pls X A n c l from fun X hX => (hl.below hB0).below hX)
  have HBS := Lib.hid (show ∀ X, Below W0.heap.size W0 X → BoxG X w.heap.size s from fun X hX => hbs.below hX)
  have HLL := Lib.hid hlen
  have HB0 := Lib.hid hB0
  have HW := Lib.hid hW0
  have HAW := Lib.hid (sawake16_any HO HT W0)
  have HFW := Lib.hid (fun X hX => pfewall_any A n c l X (HPL.out X hX))
  clear hW0 hB0 hbs hl
  rw [hfw] at HFW
  clear hfw
  go_enter Try.func7, Try.ntmps7
  go_wp2_with (first
      | (go_at_call 9
         rw [HW.out]
         (with_reducible refine (HAW.out).mono ?_)
         rintro e w1 ⟨rfl, hbx⟩
         have HX1 := Lib.hid hbx
         clear hbx)
      | (go_at_call 10
         (with_reducible refine (HFW.out _ HX1.out).mono ?_)
         rintro e w2 ⟨rfl, hbx⟩
         have HX2 := Lib.hid (HX1.out.trans (hbx.mono HX1.out.size))
         clear hbx))
  have HF := Lib.hid (show ∀ X, Below w2.heap.size w2 X → X.cell? ⟨w.heap.size, 0, none⟩ = some (.int .i64 s.pl) ∧ X.cell? ⟨w.heap.size, 1, none⟩ = some (.int .i64 s.st) ∧ X.cell? ⟨w.heap.size, 2, none⟩ = some (.int .i64 s.nx) ∧ X.cell? ⟨w.heap.size, 3, none⟩ = some (.int .i64 s.ph) ∧ X.cell? ⟨w.heap.size, 4, none⟩ = some (.int .i64 s.t) ∧ X.cell? ⟨w.heap.size, 5, none⟩ = some (.int .i64 s.hd) ∧ X.cell? ⟨w.heap.size, 6, none⟩ = some (.int .i64 s.hl) ∧ X.cell? ⟨w.heap.size, 7, none⟩ = some (.int .i64 s.ak) ∧ X.cell? ⟨w.heap.size, 8, none⟩ = some (.int .i64 s.wt) ∧ X.cell? ⟨w.heap.size, 9, none⟩ = some (.bool s.sp) from fun X hX => by
    have hX0 := HX2.out.trans (hX.mono HX2.out.size)
    obtain ⟨y0, y1, y2, y3, y4, y5, y6, y7, y8, y9⟩ := (HBS.out X hX0).cells
    exact ⟨y0, y1, y2, y3, y4, y5, y6, y7, y8, y9⟩)
  have hSd : Below w2.heap.size w2 w2.drew := (Below.refl _ w2).drew
  refine wp_region_held_drew (S := fun X => Below w2.heap.size w2 X) (by kernel_rfl) hSd (fun hHeld => ?_)
  obtain ⟨y0, hY0⟩ : ∃ Y, w2.drew = Y := ⟨_, rfl⟩
  rw [hY0] at hSd hHeld ⊢
  clear hY0
  refine tk 0 (.bool true) hHeld (fun w => ?_) ?_
  · go_simp
  simp only [PT]
  refine tk 1 (.bool false) hHeld (fun w => ?_) ?_
  · go_simp
  simp only [PT]
  refine tk 2 (.bool false) hHeld (fun w => ?_) ?_
  · go_simp
  simp only [PT]
  refine tk 3 (.bool false) hHeld (fun w => ?_) ?_
  · go_simp
  simp only [PT]
  refine tk 4 (.bool true) hHeld (fun w => ?_) ?_
  · go_simp
  simp only [PT]
  refine tk 5 (.bool true) hHeld (fun w => ?_) ?_
  · go_simp
  simp only [PT]
  refine tk 6 (.bool true) hHeld (fun w => ?_) ?_
  · go_simp
  simp only [PT]
  refine tkO 7 hHeld ?_
  simp only [PT]
  refine tkO 8 hHeld ?_
  simp only [PT]
  refine tkO 9 hHeld ?_
  simp only [PT]
  refine tkO 10 hHeld ?_
  simp only [PT]
  refine tk 11 (.bool true) hHeld (fun w => ?_) ?_
  · go_simp
  simp only [PT]
  refine tk 12 (.bool true) hHeld (fun w => ?_) ?_
  · go_simp
  simp only [PT]
  refine tkO 13 hHeld ?_
  simp only [PT]
  refine tkO 14 hHeld ?_
  simp only [PT]
  refine tkO 15 hHeld ?_
  simp only [PT]
  refine tk 16 (.bool true) hHeld (fun w => ?_) ?_
  · go_simp
  simp only [PT]
  refine tk 17 (.bool true) hHeld (fun w => ?_) ?_
  · go_simp
  simp only [PT]
  refine tkO 18 hHeld ?_
  simp only [PT]
  refine tkO 19 hHeld ?_
  simp only [PT]
  refine tk 20 (.bool true) hHeld (fun w => ?_) ?_
  · go_simp
  simp only [PT]
  refine tk 21 (.bool true) hHeld (fun w => ?_) ?_
  · go_simp
  simp only [PT]
  refine tkO 22 hHeld ?_
  simp only [PT]
  refine tkO 23 hHeld ?_
  simp only [PT]
  refine tk 24 (.bool true) hHeld (fun w => ?_) ?_
  · go_simp
  simp only [PT]
  refine tk 25 (.bool true) hHeld (fun w => ?_) ?_
  · go_simp
  simp only [PT]
  refine tkO 26 hHeld ?_
  simp only [PT]
  refine tkO 27 hHeld ?_
  simp only [PT]
  refine tkO 28 hHeld ?_
  simp only [PT]
  refine tk 29 (.bool true) hHeld (fun w => ?_) ?_
  · go_simp
  simp only [PT]
  refine tk 30 (.bool true) hHeld (fun w => ?_) ?_
  · go_simp
  simp only [PT]
  refine tkO 31 hHeld ?_
  simp only [PT]
  refine tkO 32 hHeld ?_
  simp only [PT]
  refine tkO 33 hHeld ?_
  simp only [PT]
  refine tkO 34 hHeld ?_
  simp only [PT]
  refine tkO 35 hHeld ?_
  simp only [PT]
  refine tk 36 (.bool true) hHeld (fun w => ?_) ?_
  · go_simp
  simp only [PT]
  refine tk 37 (.bool true) hHeld (fun w => ?_) ?_
  · go_simp
  simp only [PT]
  refine tkO 38 hHeld ?_
  simp only [PT]
  refine tkO 39 hHeld ?_
  simp only [PT]
  refine tkO 40 hHeld ?_
  simp only [PT]
  refine tk 41 (.bool true) hHeld (fun w => ?_) ?_
  · go_simp
  simp only [PT]
  refine tk 42 (.bool true) hHeld (fun w => ?_) ?_
  · go_simp
  simp only [PT]
  refine tkO 43 hHeld ?_
  simp only [PT]
  refine tkO 44 hHeld ?_
  simp only [PT]
  refine tkO 45 hHeld ?_
  simp only [PT]
  refine tkO 46 hHeld ?_
  simp only [PT]
  refine tkO 47 hHeld ?_
  simp only [PT]
  refine tkO 48 hHeld ?_
  simp only [PT]
  refine tkO 49 hHeld ?_
  simp only [PT]
  refine tkO 50 hHeld ?_
  simp only [PT]
  refine tkO 51 hHeld ?_
  simp only [PT]
  refine tkO 52 hHeld ?_
  simp only [PT]
  refine tk 53 (.bool true) hHeld (fun w => ?_) ?_
  · go_simp
  simp only [PT]
  refine wpAnyH_done (by kernel_rfl) ?_ _
  clear hHeld
  go_wp2
  go_ret
  exact ⟨rfl, HB0.out.trans ((HX2.out.trans (hSd.mono HX2.out.size)).mono HB0.out.size)⟩
set_option maxHeartbeats 8000000 in
theorem sstops_b (HO : StgOk) (HT : LmpText) (A : Option Addr) (n c : Nat) (l : List Pl) (s : Sg) (x : Int) (w : World) (hl : Pls w A n c l) (hts : SmG s) (hfw : fewAllB l = true) (hm : mayS l s = false) :
    Calls Try.prog 7 #[.slice A n c, sgV s, .int .i64 x] w fun e w' => e = .returned (.bool true) ∧ Below w.heap.size w w' := by
  have hsm := hl.small
  have hlen := hl.len
  simp only [sgV]
  obtain ⟨W0, hW0⟩ : ∃ W0, w.alloc (.cells #[.int .i64 s.pl, .int .i64 s.st, .int .i64 s.nx, .int .i64 s.ph, .int .i64 s.t, .int .i64 s.hd, .int .i64 s.hl, .int .i64 s.ak, .int .i64 s.wt, .bool s.sp] 24) = W0 := ⟨_, rfl⟩
  have hB0 : Below w.heap.size w W0 := by rw [← hW0]; exact one_alloc w _
  have hbs : BoxG W0 w.heap.size s := by rw [← hW0]; exact BoxG.new w s
  have HPL := Lib.hid (show ∀ X, Below W0.heap.size W0 X → Pls X A n c l from fun X hX => (hl.below hB0).below hX)
  have HBS := Lib.hid (show ∀ X, Below W0.heap.size W0 X → BoxG X w.heap.size s from fun X hX => hbs.below hX)
  have HLL := Lib.hid hlen
  have HB0 := Lib.hid hB0
  have HW := Lib.hid hW0
  have HAW := Lib.hid (sawake16_any HO HT W0)
  have HFW := Lib.hid (fun X hX => pfewall_any A n c l X (HPL.out X hX))
  clear hW0 hB0 hbs hl
  rw [hfw] at HFW
  obtain ⟨hl5, hfp⟩ := fewall_iff.1 hfw
  have hn1000 : n ≤ 1000 := by omega
  have hmem : ∀ p ∈ l, p.n ≤ 1000 ∧ p.k ≤ 1000 := fun p hp => by have := hfp p hp; omega
  have HMY := Lib.hid (fun X hX => HO.may A n c l s X (HPL.out X hX) hts hn1000 hmem)
  rw [hm] at HMY
  simp only [sgV] at HMY
  clear hm hmem hfp hfw
  go_enter Try.func7, Try.ntmps7
  go_wp2_with (first
      | (go_at_call 9
         rw [HW.out]
         (with_reducible refine (HAW.out).mono ?_)
         rintro e w1 ⟨rfl, hbx⟩
         have HX1 := Lib.hid hbx
         clear hbx)
      | (go_at_call 10
         (with_reducible refine (HFW.out _ HX1.out).mono ?_)
         rintro e w2 ⟨rfl, hbx⟩
         have HX2 := Lib.hid (HX1.out.trans (hbx.mono HX1.out.size))
         clear hbx))
  have HF := Lib.hid (show ∀ X, Below w2.heap.size w2 X → X.cell? ⟨w.heap.size, 0, none⟩ = some (.int .i64 s.pl) ∧ X.cell? ⟨w.heap.size, 1, none⟩ = some (.int .i64 s.st) ∧ X.cell? ⟨w.heap.size, 2, none⟩ = some (.int .i64 s.nx) ∧ X.cell? ⟨w.heap.size, 3, none⟩ = some (.int .i64 s.ph) ∧ X.cell? ⟨w.heap.size, 4, none⟩ = some (.int .i64 s.t) ∧ X.cell? ⟨w.heap.size, 5, none⟩ = some (.int .i64 s.hd) ∧ X.cell? ⟨w.heap.size, 6, none⟩ = some (.int .i64 s.hl) ∧ X.cell? ⟨w.heap.size, 7, none⟩ = some (.int .i64 s.ak) ∧ X.cell? ⟨w.heap.size, 8, none⟩ = some (.int .i64 s.wt) ∧ X.cell? ⟨w.heap.size, 9, none⟩ = some (.bool s.sp) from fun X hX => by
    have hX0 := HX2.out.trans (hX.mono HX2.out.size)
    obtain ⟨y0, y1, y2, y3, y4, y5, y6, y7, y8, y9⟩ := (HBS.out X hX0).cells
    exact ⟨y0, y1, y2, y3, y4, y5, y6, y7, y8, y9⟩)
  have hSd : Below w2.heap.size w2 w2.drew := (Below.refl _ w2).drew
  refine wp_region_held_drew (S := fun X => Below w2.heap.size w2 X) (by kernel_rfl) hSd (fun hHeld => ?_)
  obtain ⟨y0, hY0⟩ : ∃ Y, w2.drew = Y := ⟨_, rfl⟩
  rw [hY0] at hSd hHeld ⊢
  clear hY0
  refine tk 0 (.bool true) hHeld (fun w => ?_) ?_
  · go_simp
  simp only [PT]
  refine tk 1 (.bool false) hHeld (fun w => ?_) ?_
  · go_simp
  simp only [PT]
  refine tk 2 (.bool false) hHeld (fun w => ?_) ?_
  · go_simp
  simp only [PT]
  refine tk 3 (.bool true) hHeld (fun w => ?_) ?_
  · go_simp
  simp only [PT]
  refine tk 4 (.bool false) hHeld (fun w => ?_) ?_
  · go_simp
  simp only [PT]
  refine tk 5 (.bool false) hHeld (fun w => ?_) ?_
  · go_simp
  simp only [PT]
  refine tk 6 (.bool false) hHeld (fun w => ?_) ?_
  · go_simp
  simp only [PT]
  refine tk 7 (.slice A n c) hHeld (fun w => ?_) ?_
  · go_simp
  simp only [PT]
  refine tkS 8 (.agg #[.int .i64 s.pl, .int .i64 s.st, .int .i64 s.nx, .int .i64 s.ph, .int .i64 s.t, .int .i64 s.hd, .int .i64 s.hl, .int .i64 s.ak, .int .i64 s.wt, .bool s.sp]) hHeld (fun w hq => ?_) ?_
  · obtain ⟨z0, z1, z2, z3, z4, z5, z6, z7, z8, z9⟩ := HF.out w hq
    go_simp
  simp only [PT]
  refine one_step 9 (by kernel_rfl) rfl (fun Kq hKq => ?_)
  go_simp
  go_at_call 17
  (with_reducible refine (HMY.out _ (HX2.out.trans (hSd.mono HX2.out.size))).mono ?_)
  rintro e y1 ⟨rfl, hbx⟩
  have hS1 : Below w2.heap.size w2 y1 := hSd.trans (hbx.mono hSd.size)
  clear hbx
  refine hKq.out _ _ hS1 (fun hHeld0 => ?_)
  clear hKq Kq hHeld
  have hHeld := hHeld0
  clear hHeld0
  try simp only [PT]
  refine tk 10 (.bool true) hHeld (fun w => ?_) ?_
  · go_simp
  simp only [PT]
  refine tk 11 (.bool true) hHeld (fun w => ?_) ?_
  · go_simp
  simp only [PT]
  refine tk 12 (.bool true) hHeld (fun w => ?_) ?_
  · go_simp
  simp only [PT]
  refine tkO 13 hHeld ?_
  simp only [PT]
  refine tkO 14 hHeld ?_
  simp only [PT]
  refine tkO 15 hHeld ?_
  simp only [PT]
  refine tk 16 (.bool true) hHeld (fun w => ?_) ?_
  · go_simp
  simp only [PT]
  refine tk 17 (.bool true) hHeld (fun w => ?_) ?_
  · go_simp
  simp only [PT]
  refine tkO 18 hHeld ?_
  simp only [PT]
  refine tkO 19 hHeld ?_
  simp only [PT]
  refine tk 20 (.bool true) hHeld (fun w => ?_) ?_
  · go_simp
  simp only [PT]
  refine tk 21 (.bool true) hHeld (fun w => ?_) ?_
  · go_simp
  simp only [PT]
  refine tkO 22 hHeld ?_
  simp only [PT]
  refine tkO 23 hHeld ?_
  simp only [PT]
  refine tk 24 (.bool true) hHeld (fun w => ?_) ?_
  · go_simp
  simp only [PT]
  refine tk 25 (.bool true) hHeld (fun w => ?_) ?_
  · go_simp
  simp only [PT]
  refine tkO 26 hHeld ?_
  simp only [PT]
  refine tkO 27 hHeld ?_
  simp only [PT]
  refine tkO 28 hHeld ?_
  simp only [PT]
  refine tk 29 (.bool true) hHeld (fun w => ?_) ?_
  · go_simp
  simp only [PT]
  refine tk 30 (.bool true) hHeld (fun w => ?_) ?_
  · go_simp
  simp only [PT]
  refine tkO 31 hHeld ?_
  simp only [PT]
  refine tkO 32 hHeld ?_
  simp only [PT]
  refine tkO 33 hHeld ?_
  simp only [PT]
  refine tkO 34 hHeld ?_
  simp only [PT]
  refine tkO 35 hHeld ?_
  simp only [PT]
  refine tk 36 (.bool true) hHeld (fun w => ?_) ?_
  · go_simp
  simp only [PT]
  refine tk 37 (.bool true) hHeld (fun w => ?_) ?_
  · go_simp
  simp only [PT]
  refine tkO 38 hHeld ?_
  simp only [PT]
  refine tkO 39 hHeld ?_
  simp only [PT]
  refine tkO 40 hHeld ?_
  simp only [PT]
  refine tk 41 (.bool true) hHeld (fun w => ?_) ?_
  · go_simp
  simp only [PT]
  refine tk 42 (.bool true) hHeld (fun w => ?_) ?_
  · go_simp
  simp only [PT]
  refine tkO 43 hHeld ?_
  simp only [PT]
  refine tkO 44 hHeld ?_
  simp only [PT]
  refine tkO 45 hHeld ?_
  simp only [PT]
  refine tkO 46 hHeld ?_
  simp only [PT]
  refine tkO 47 hHeld ?_
  simp only [PT]
  refine tkO 48 hHeld ?_
  simp only [PT]
  refine tkO 49 hHeld ?_
  simp only [PT]
  refine tkO 50 hHeld ?_
  simp only [PT]
  refine tkO 51 hHeld ?_
  simp only [PT]
  refine tkO 52 hHeld ?_
  simp only [PT]
  refine tk 53 (.bool true) hHeld (fun w => ?_) ?_
  · go_simp
  simp only [PT]
  refine wpAnyH_done (by kernel_rfl) ?_ _
  clear hHeld
  go_wp2
  go_ret
  exact ⟨rfl, HB0.out.trans ((HX2.out.trans (hS1.mono HX2.out.size)).mono HB0.out.size)⟩
set_option maxHeartbeats 8000000 in
theorem sstops_c (HO : StgOk) (HT : LmpText) (A : Option Addr) (n c : Nat) (l : List Pl) (s : Sg) (x : Int) (w : World) (hl : Pls w A n c l) (hts : SmG s) (hfw : fewAllB l = true) (hm : mayS l s = true) (hsp : s.sp = false) :
    Calls Try.prog 7 #[.slice A n c, sgV s, .int .i64 x] w fun e w' => e = .returned (.bool true) ∧ Below w.heap.size w w' := by
  have hsm := hl.small
  have hlen := hl.len
  simp only [sgV]
  obtain ⟨W0, hW0⟩ : ∃ W0, w.alloc (.cells #[.int .i64 s.pl, .int .i64 s.st, .int .i64 s.nx, .int .i64 s.ph, .int .i64 s.t, .int .i64 s.hd, .int .i64 s.hl, .int .i64 s.ak, .int .i64 s.wt, .bool s.sp] 24) = W0 := ⟨_, rfl⟩
  have hB0 : Below w.heap.size w W0 := by rw [← hW0]; exact one_alloc w _
  have hbs : BoxG W0 w.heap.size s := by rw [← hW0]; exact BoxG.new w s
  have HPL := Lib.hid (show ∀ X, Below W0.heap.size W0 X → Pls X A n c l from fun X hX => (hl.below hB0).below hX)
  have HBS := Lib.hid (show ∀ X, Below W0.heap.size W0 X → BoxG X w.heap.size s from fun X hX => hbs.below hX)
  have HLL := Lib.hid hlen
  have HB0 := Lib.hid hB0
  have HW := Lib.hid hW0
  have HAW := Lib.hid (sawake16_any HO HT W0)
  have HFW := Lib.hid (fun X hX => pfewall_any A n c l X (HPL.out X hX))
  clear hW0 hB0 hbs hl
  rw [hfw] at HFW
  obtain ⟨hl5, hfp⟩ := fewall_iff.1 hfw
  have hn1000 : n ≤ 1000 := by omega
  have hmem : ∀ p ∈ l, p.n ≤ 1000 ∧ p.k ≤ 1000 := fun p hp => by have := hfp p hp; omega
  have HMY := Lib.hid (fun X hX => HO.may A n c l s X (HPL.out X hX) hts hn1000 hmem)
  rw [hm] at HMY
  simp only [sgV] at HMY
  have HSP := Lib.hid hsp
  clear hm hmem hfp hfw hsp
  go_enter Try.func7, Try.ntmps7
  go_wp2_with (first
      | (go_at_call 9
         rw [HW.out]
         (with_reducible refine (HAW.out).mono ?_)
         rintro e w1 ⟨rfl, hbx⟩
         have HX1 := Lib.hid hbx
         clear hbx)
      | (go_at_call 10
         (with_reducible refine (HFW.out _ HX1.out).mono ?_)
         rintro e w2 ⟨rfl, hbx⟩
         have HX2 := Lib.hid (HX1.out.trans (hbx.mono HX1.out.size))
         clear hbx))
  have HF := Lib.hid (show ∀ X, Below w2.heap.size w2 X → X.cell? ⟨w.heap.size, 0, none⟩ = some (.int .i64 s.pl) ∧ X.cell? ⟨w.heap.size, 1, none⟩ = some (.int .i64 s.st) ∧ X.cell? ⟨w.heap.size, 2, none⟩ = some (.int .i64 s.nx) ∧ X.cell? ⟨w.heap.size, 3, none⟩ = some (.int .i64 s.ph) ∧ X.cell? ⟨w.heap.size, 4, none⟩ = some (.int .i64 s.t) ∧ X.cell? ⟨w.heap.size, 5, none⟩ = some (.int .i64 s.hd) ∧ X.cell? ⟨w.heap.size, 6, none⟩ = some (.int .i64 s.hl) ∧ X.cell? ⟨w.heap.size, 7, none⟩ = some (.int .i64 s.ak) ∧ X.cell? ⟨w.heap.size, 8, none⟩ = some (.int .i64 s.wt) ∧ X.cell? ⟨w.heap.size, 9, none⟩ = some (.bool s.sp) from fun X hX => by
    have hX0 := HX2.out.trans (hX.mono HX2.out.size)
    obtain ⟨y0, y1, y2, y3, y4, y5, y6, y7, y8, y9⟩ := (HBS.out X hX0).cells
    exact ⟨y0, y1, y2, y3, y4, y5, y6, y7, y8, y9⟩)
  have hSd : Below w2.heap.size w2 w2.drew := (Below.refl _ w2).drew
  refine wp_region_held_drew (S := fun X => Below w2.heap.size w2 X) (by kernel_rfl) hSd (fun hHeld => ?_)
  obtain ⟨y0, hY0⟩ : ∃ Y, w2.drew = Y := ⟨_, rfl⟩
  rw [hY0] at hSd hHeld ⊢
  clear hY0
  refine tk 0 (.bool true) hHeld (fun w => ?_) ?_
  · go_simp
  simp only [PT]
  refine tk 1 (.bool false) hHeld (fun w => ?_) ?_
  · go_simp
  simp only [PT]
  refine tk 2 (.bool false) hHeld (fun w => ?_) ?_
  · go_simp
  simp only [PT]
  refine tk 3 (.bool true) hHeld (fun w => ?_) ?_
  · go_simp
  simp only [PT]
  refine tk 4 (.bool false) hHeld (fun w => ?_) ?_
  · go_simp
  simp only [PT]
  refine tk 5 (.bool false) hHeld (fun w => ?_) ?_
  · go_simp
  simp only [PT]
  refine tk 6 (.bool false) hHeld (fun w => ?_) ?_
  · go_simp
  simp only [PT]
  refine tk 7 (.slice A n c) hHeld (fun w => ?_) ?_
  · go_simp
  simp only [PT]
  refine tkS 8 (.agg #[.int .i64 s.pl, .int .i64 s.st, .int .i64 s.nx, .int .i64 s.ph, .int .i64 s.t, .int .i64 s.hd, .int .i64 s.hl, .int .i64 s.ak, .int .i64 s.wt, .bool s.sp]) hHeld (fun w hq => ?_) ?_
  · obtain ⟨z0, z1, z2, z3, z4, z5, z6, z7, z8, z9⟩ := HF.out w hq
    go_simp
  simp only [PT]
  refine one_step 9 (by kernel_rfl) rfl (fun Kq hKq => ?_)
  go_simp
  go_at_call 17
  (with_reducible refine (HMY.out _ (HX2.out.trans (hSd.mono HX2.out.size))).mono ?_)
  rintro e y1 ⟨rfl, hbx⟩
  have hS1 : Below w2.heap.size w2 y1 := hSd.trans (hbx.mono hSd.size)
  clear hbx
  refine hKq.out _ _ hS1 (fun hHeld0 => ?_)
  clear hKq Kq hHeld
  have hHeld := hHeld0
  clear hHeld0
  try simp only [PT]
  refine tk 10 (.bool false) hHeld (fun w => ?_) ?_
  · go_simp
  simp only [PT]
  refine tk 11 (.bool false) hHeld (fun w => ?_) ?_
  · go_simp
  simp only [PT]
  refine tk 12 (.bool false) hHeld (fun w => ?_) ?_
  · go_simp
  simp only [PT]
  refine tk 13 (.pointer (some ⟨w.heap.size, 9, none⟩)) hHeld (fun w => ?_) ?_
  · go_simp
  simp only [PT]
  refine tkS 14 (.bool s.sp) hHeld (fun w hq => ?_) ?_
  · obtain ⟨z0, z1, z2, z3, z4, z5, z6, z7, z8, z9⟩ := HF.out w hq
    go_simp
  simp only [PT]
  refine tk 15 (.bool true) hHeld (fun w => ?_) ?_
  · (go_simp; try rw [HSP.out]; try rfl)
  simp only [PT]
  refine tk 16 (.bool true) hHeld (fun w => ?_) ?_
  · go_simp
  simp only [PT]
  refine tk 17 (.bool true) hHeld (fun w => ?_) ?_
  · go_simp
  simp only [PT]
  refine tkO 18 hHeld ?_
  simp only [PT]
  refine tkO 19 hHeld ?_
  simp only [PT]
  refine tk 20 (.bool true) hHeld (fun w => ?_) ?_
  · go_simp
  simp only [PT]
  refine tk 21 (.bool true) hHeld (fun w => ?_) ?_
  · go_simp
  simp only [PT]
  refine tkO 22 hHeld ?_
  simp only [PT]
  refine tkO 23 hHeld ?_
  simp only [PT]
  refine tk 24 (.bool true) hHeld (fun w => ?_) ?_
  · go_simp
  simp only [PT]
  refine tk 25 (.bool true) hHeld (fun w => ?_) ?_
  · go_simp
  simp only [PT]
  refine tkO 26 hHeld ?_
  simp only [PT]
  refine tkO 27 hHeld ?_
  simp only [PT]
  refine tkO 28 hHeld ?_
  simp only [PT]
  refine tk 29 (.bool true) hHeld (fun w => ?_) ?_
  · go_simp
  simp only [PT]
  refine tk 30 (.bool true) hHeld (fun w => ?_) ?_
  · go_simp
  simp only [PT]
  refine tkO 31 hHeld ?_
  simp only [PT]
  refine tkO 32 hHeld ?_
  simp only [PT]
  refine tkO 33 hHeld ?_
  simp only [PT]
  refine tkO 34 hHeld ?_
  simp only [PT]
  refine tkO 35 hHeld ?_
  simp only [PT]
  refine tk 36 (.bool true) hHeld (fun w => ?_) ?_
  · go_simp
  simp only [PT]
  refine tk 37 (.bool true) hHeld (fun w => ?_) ?_
  · go_simp
  simp only [PT]
  refine tkO 38 hHeld ?_
  simp only [PT]
  refine tkO 39 hHeld ?_
  simp only [PT]
  refine tkO 40 hHeld ?_
  simp only [PT]
  refine tk 41 (.bool true) hHeld (fun w => ?_) ?_
  · go_simp
  simp only [PT]
  refine tk 42 (.bool true) hHeld (fun w => ?_) ?_
  · go_simp
  simp only [PT]
  refine tkO 43 hHeld ?_
  simp only [PT]
  refine tkO 44 hHeld ?_
  simp only [PT]
  refine tkO 45 hHeld ?_
  simp only [PT]
  refine tkO 46 hHeld ?_
  simp only [PT]
  refine tkO 47 hHeld ?_
  simp only [PT]
  refine tkO 48 hHeld ?_
  simp only [PT]
  refine tkO 49 hHeld ?_
  simp only [PT]
  refine tkO 50 hHeld ?_
  simp only [PT]
  refine tkO 51 hHeld ?_
  simp only [PT]
  refine tkO 52 hHeld ?_
  simp only [PT]
  refine tk 53 (.bool true) hHeld (fun w => ?_) ?_
  · go_simp
  simp only [PT]
  refine wpAnyH_done (by kernel_rfl) ?_ _
  clear hHeld
  go_wp2
  go_ret
  exact ⟨rfl, HB0.out.trans ((HX2.out.trans (hS1.mono HX2.out.size)).mono HB0.out.size)⟩
set_option maxHeartbeats 8000000 in
theorem sstops_d (HO : StgOk) (HT : LmpText) (A : Option Addr) (n c : Nat) (l : List Pl) (s : Sg) (x : Int) (w : World) (hl : Pls w A n c l) (hts : SmG s) (hfw : fewAllB l = true) (hm : mayS l s = true) (hsp : s.sp = true) (hx : x < 0) :
    Calls Try.prog 7 #[.slice A n c, sgV s, .int .i64 x] w fun e w' => e = .returned (.bool true) ∧ Below w.heap.size w w' := by
  have hsm := hl.small
  have hlen := hl.len
  simp only [sgV]
  obtain ⟨W0, hW0⟩ : ∃ W0, w.alloc (.cells #[.int .i64 s.pl, .int .i64 s.st, .int .i64 s.nx, .int .i64 s.ph, .int .i64 s.t, .int .i64 s.hd, .int .i64 s.hl, .int .i64 s.ak, .int .i64 s.wt, .bool s.sp] 24) = W0 := ⟨_, rfl⟩
  have hB0 : Below w.heap.size w W0 := by rw [← hW0]; exact one_alloc w _
  have hbs : BoxG W0 w.heap.size s := by rw [← hW0]; exact BoxG.new w s
  have HPL := Lib.hid (show ∀ X, Below W0.heap.size W0 X → Pls X A n c l from fun X hX => (hl.below hB0).below hX)
  have HBS := Lib.hid (show ∀ X, Below W0.heap.size W0 X → BoxG X w.heap.size s from fun X hX => hbs.below hX)
  have HLL := Lib.hid hlen
  have HB0 := Lib.hid hB0
  have HW := Lib.hid hW0
  have HAW := Lib.hid (sawake16_any HO HT W0)
  have HFW := Lib.hid (fun X hX => pfewall_any A n c l X (HPL.out X hX))
  clear hW0 hB0 hbs hl
  rw [hfw] at HFW
  obtain ⟨hl5, hfp⟩ := fewall_iff.1 hfw
  have hn1000 : n ≤ 1000 := by omega
  have hmem : ∀ p ∈ l, p.n ≤ 1000 ∧ p.k ≤ 1000 := fun p hp => by have := hfp p hp; omega
  have HMY := Lib.hid (fun X hX => HO.may A n c l s X (HPL.out X hX) hts hn1000 hmem)
  rw [hm] at HMY
  simp only [sgV] at HMY
  have HSP := Lib.hid hsp
  clear hm hmem hfp hfw hsp
  go_enter Try.func7, Try.ntmps7
  go_wp2_with (first
      | (go_at_call 9
         rw [HW.out]
         (with_reducible refine (HAW.out).mono ?_)
         rintro e w1 ⟨rfl, hbx⟩
         have HX1 := Lib.hid hbx
         clear hbx)
      | (go_at_call 10
         (with_reducible refine (HFW.out _ HX1.out).mono ?_)
         rintro e w2 ⟨rfl, hbx⟩
         have HX2 := Lib.hid (HX1.out.trans (hbx.mono HX1.out.size))
         clear hbx))
  have HF := Lib.hid (show ∀ X, Below w2.heap.size w2 X → X.cell? ⟨w.heap.size, 0, none⟩ = some (.int .i64 s.pl) ∧ X.cell? ⟨w.heap.size, 1, none⟩ = some (.int .i64 s.st) ∧ X.cell? ⟨w.heap.size, 2, none⟩ = some (.int .i64 s.nx) ∧ X.cell? ⟨w.heap.size, 3, none⟩ = some (.int .i64 s.ph) ∧ X.cell? ⟨w.heap.size, 4, none⟩ = some (.int .i64 s.t) ∧ X.cell? ⟨w.heap.size, 5, none⟩ = some (.int .i64 s.hd) ∧ X.cell? ⟨w.heap.size, 6, none⟩ = some (.int .i64 s.hl) ∧ X.cell? ⟨w.heap.size, 7, none⟩ = some (.int .i64 s.ak) ∧ X.cell? ⟨w.heap.size, 8, none⟩ = some (.int .i64 s.wt) ∧ X.cell? ⟨w.heap.size, 9, none⟩ = some (.bool s.sp) from fun X hX => by
    have hX0 := HX2.out.trans (hX.mono HX2.out.size)
    obtain ⟨y0, y1, y2, y3, y4, y5, y6, y7, y8, y9⟩ := (HBS.out X hX0).cells
    exact ⟨y0, y1, y2, y3, y4, y5, y6, y7, y8, y9⟩)
  have hSd : Below w2.heap.size w2 w2.drew := (Below.refl _ w2).drew
  refine wp_region_held_drew (S := fun X => Below w2.heap.size w2 X) (by kernel_rfl) hSd (fun hHeld => ?_)
  obtain ⟨y0, hY0⟩ : ∃ Y, w2.drew = Y := ⟨_, rfl⟩
  rw [hY0] at hSd hHeld ⊢
  clear hY0
  refine tk 0 (.bool true) hHeld (fun w => ?_) ?_
  · go_simp
  simp only [PT]
  refine tk 1 (.bool false) hHeld (fun w => ?_) ?_
  · go_simp
  simp only [PT]
  refine tk 2 (.bool false) hHeld (fun w => ?_) ?_
  · go_simp
  simp only [PT]
  refine tk 3 (.bool true) hHeld (fun w => ?_) ?_
  · go_simp
  simp only [PT]
  refine tk 4 (.bool false) hHeld (fun w => ?_) ?_
  · go_simp
  simp only [PT]
  refine tk 5 (.bool false) hHeld (fun w => ?_) ?_
  · go_simp
  simp only [PT]
  refine tk 6 (.bool false) hHeld (fun w => ?_) ?_
  · go_simp
  simp only [PT]
  refine tk 7 (.slice A n c) hHeld (fun w => ?_) ?_
  · go_simp
  simp only [PT]
  refine tkS 8 (.agg #[.int .i64 s.pl, .int .i64 s.st, .int .i64 s.nx, .int .i64 s.ph, .int .i64 s.t, .int .i64 s.hd, .int .i64 s.hl, .int .i64 s.ak, .int .i64 s.wt, .bool s.sp]) hHeld (fun w hq => ?_) ?_
  · obtain ⟨z0, z1, z2, z3, z4, z5, z6, z7, z8, z9⟩ := HF.out w hq
    go_simp
  simp only [PT]
  refine one_step 9 (by kernel_rfl) rfl (fun Kq hKq => ?_)
  go_simp
  go_at_call 17
  (with_reducible refine (HMY.out _ (HX2.out.trans (hSd.mono HX2.out.size))).mono ?_)
  rintro e y1 ⟨rfl, hbx⟩
  have hS1 : Below w2.heap.size w2 y1 := hSd.trans (hbx.mono hSd.size)
  clear hbx
  refine hKq.out _ _ hS1 (fun hHeld0 => ?_)
  clear hKq Kq hHeld
  have hHeld := hHeld0
  clear hHeld0
  try simp only [PT]
  refine tk 10 (.bool false) hHeld (fun w => ?_) ?_
  · go_simp
  simp only [PT]
  refine tk 11 (.bool false) hHeld (fun w => ?_) ?_
  · go_simp
  simp only [PT]
  refine tk 12 (.bool false) hHeld (fun w => ?_) ?_
  · go_simp
  simp only [PT]
  refine tk 13 (.pointer (some ⟨w.heap.size, 9, none⟩)) hHeld (fun w => ?_) ?_
  · go_simp
  simp only [PT]
  refine tkS 14 (.bool s.sp) hHeld (fun w hq => ?_) ?_
  · obtain ⟨z0, z1, z2, z3, z4, z5, z6, z7, z8, z9⟩ := HF.out w hq
    go_simp
  simp only [PT]
  refine tk 15 (.bool false) hHeld (fun w => ?_) ?_
  · (go_simp; try rw [HSP.out]; try rfl)
  simp only [PT]
  refine tk 16 (.bool false) hHeld (fun w => ?_) ?_
  · go_simp
  simp only [PT]
  refine tk 17 (.bool false) hHeld (fun w => ?_) ?_
  · go_simp
  simp only [PT]
  refine tk 18 (.int .i64 x) hHeld (fun w => ?_) ?_
  · go_simp
  simp only [PT]
  refine tk 19 (.bool true) hHeld (fun w => ?_) ?_
  · (go_simp; try omega)
  simp only [PT]
  refine tk 20 (.bool true) hHeld (fun w => ?_) ?_
  · go_simp
  simp only [PT]
  refine tk 21 (.bool true) hHeld (fun w => ?_) ?_
  · go_simp
  simp only [PT]
  refine tkO 22 hHeld ?_
  simp only [PT]
  refine tkO 23 hHeld ?_
  simp only [PT]
  refine tk 24 (.bool true) hHeld (fun w => ?_) ?_
  · go_simp
  simp only [PT]
  refine tk 25 (.bool true) hHeld (fun w => ?_) ?_
  · go_simp
  simp only [PT]
  refine tkO 26 hHeld ?_
  simp only [PT]
  refine tkO 27 hHeld ?_
  simp only [PT]
  refine tkO 28 hHeld ?_
  simp only [PT]
  refine tk 29 (.bool true) hHeld (fun w => ?_) ?_
  · go_simp
  simp only [PT]
  refine tk 30 (.bool true) hHeld (fun w => ?_) ?_
  · go_simp
  simp only [PT]
  refine tkO 31 hHeld ?_
  simp only [PT]
  refine tkO 32 hHeld ?_
  simp only [PT]
  refine tkO 33 hHeld ?_
  simp only [PT]
  refine tkO 34 hHeld ?_
  simp only [PT]
  refine tkO 35 hHeld ?_
  simp only [PT]
  refine tk 36 (.bool true) hHeld (fun w => ?_) ?_
  · go_simp
  simp only [PT]
  refine tk 37 (.bool true) hHeld (fun w => ?_) ?_
  · go_simp
  simp only [PT]
  refine tkO 38 hHeld ?_
  simp only [PT]
  refine tkO 39 hHeld ?_
  simp only [PT]
  refine tkO 40 hHeld ?_
  simp only [PT]
  refine tk 41 (.bool true) hHeld (fun w => ?_) ?_
  · go_simp
  simp only [PT]
  refine tk 42 (.bool true) hHeld (fun w => ?_) ?_
  · go_simp
  simp only [PT]
  refine tkO 43 hHeld ?_
  simp only [PT]
  refine tkO 44 hHeld ?_
  simp only [PT]
  refine tkO 45 hHeld ?_
  simp only [PT]
  refine tkO 46 hHeld ?_
  simp only [PT]
  refine tkO 47 hHeld ?_
  simp only [PT]
  refine tkO 48 hHeld ?_
  simp only [PT]
  refine tkO 49 hHeld ?_
  simp only [PT]
  refine tkO 50 hHeld ?_
  simp only [PT]
  refine tkO 51 hHeld ?_
  simp only [PT]
  refine tkO 52 hHeld ?_
  simp only [PT]
  refine tk 53 (.bool true) hHeld (fun w => ?_) ?_
  · go_simp
  simp only [PT]
  refine wpAnyH_done (by kernel_rfl) ?_ _
  clear hHeld
  go_wp2
  go_ret
  exact ⟨rfl, HB0.out.trans ((HX2.out.trans (hS1.mono HX2.out.size)).mono HB0.out.size)⟩
set_option maxHeartbeats 8000000 in
theorem sstops_e (HO : StgOk) (HT : LmpText) (A : Option Addr) (n c : Nat) (l : List Pl) (s : Sg) (x : Int) (w : World) (hl : Pls w A n c l) (hts : SmG s) (hfw : fewAllB l = true) (hm : mayS l s = true) (hsp : s.sp = true) (hx : 60 < x) :
    Calls Try.prog 7 #[.slice A n c, sgV s, .int .i64 x] w fun e w' => e = .returned (.bool true) ∧ Below w.heap.size w w' := by
  have hsm := hl.small
  have hlen := hl.len
  simp only [sgV]
  obtain ⟨W0, hW0⟩ : ∃ W0, w.alloc (.cells #[.int .i64 s.pl, .int .i64 s.st, .int .i64 s.nx, .int .i64 s.ph, .int .i64 s.t, .int .i64 s.hd, .int .i64 s.hl, .int .i64 s.ak, .int .i64 s.wt, .bool s.sp] 24) = W0 := ⟨_, rfl⟩
  have hB0 : Below w.heap.size w W0 := by rw [← hW0]; exact one_alloc w _
  have hbs : BoxG W0 w.heap.size s := by rw [← hW0]; exact BoxG.new w s
  have HPL := Lib.hid (show ∀ X, Below W0.heap.size W0 X → Pls X A n c l from fun X hX => (hl.below hB0).below hX)
  have HBS := Lib.hid (show ∀ X, Below W0.heap.size W0 X → BoxG X w.heap.size s from fun X hX => hbs.below hX)
  have HLL := Lib.hid hlen
  have HB0 := Lib.hid hB0
  have HW := Lib.hid hW0
  have HAW := Lib.hid (sawake16_any HO HT W0)
  have HFW := Lib.hid (fun X hX => pfewall_any A n c l X (HPL.out X hX))
  clear hW0 hB0 hbs hl
  rw [hfw] at HFW
  obtain ⟨hl5, hfp⟩ := fewall_iff.1 hfw
  have hn1000 : n ≤ 1000 := by omega
  have hmem : ∀ p ∈ l, p.n ≤ 1000 ∧ p.k ≤ 1000 := fun p hp => by have := hfp p hp; omega
  have HMY := Lib.hid (fun X hX => HO.may A n c l s X (HPL.out X hX) hts hn1000 hmem)
  rw [hm] at HMY
  simp only [sgV] at HMY
  have HSP := Lib.hid hsp
  have hx0 : ¬ x < 0 := by omega
  clear hm hmem hfp hfw hsp
  go_enter Try.func7, Try.ntmps7
  go_wp2_with (first
      | (go_at_call 9
         rw [HW.out]
         (with_reducible refine (HAW.out).mono ?_)
         rintro e w1 ⟨rfl, hbx⟩
         have HX1 := Lib.hid hbx
         clear hbx)
      | (go_at_call 10
         (with_reducible refine (HFW.out _ HX1.out).mono ?_)
         rintro e w2 ⟨rfl, hbx⟩
         have HX2 := Lib.hid (HX1.out.trans (hbx.mono HX1.out.size))
         clear hbx))
  have HF := Lib.hid (show ∀ X, Below w2.heap.size w2 X → X.cell? ⟨w.heap.size, 0, none⟩ = some (.int .i64 s.pl) ∧ X.cell? ⟨w.heap.size, 1, none⟩ = some (.int .i64 s.st) ∧ X.cell? ⟨w.heap.size, 2, none⟩ = some (.int .i64 s.nx) ∧ X.cell? ⟨w.heap.size, 3, none⟩ = some (.int .i64 s.ph) ∧ X.cell? ⟨w.heap.size, 4, none⟩ = some (.int .i64 s.t) ∧ X.cell? ⟨w.heap.size, 5, none⟩ = some (.int .i64 s.hd) ∧ X.cell? ⟨w.heap.size, 6, none⟩ = some (.int .i64 s.hl) ∧ X.cell? ⟨w.heap.size, 7, none⟩ = some (.int .i64 s.ak) ∧ X.cell? ⟨w.heap.size, 8, none⟩ = some (.int .i64 s.wt) ∧ X.cell? ⟨w.heap.size, 9, none⟩ = some (.bool s.sp) from fun X hX => by
    have hX0 := HX2.out.trans (hX.mono HX2.out.size)
    obtain ⟨y0, y1, y2, y3, y4, y5, y6, y7, y8, y9⟩ := (HBS.out X hX0).cells
    exact ⟨y0, y1, y2, y3, y4, y5, y6, y7, y8, y9⟩)
  have hSd : Below w2.heap.size w2 w2.drew := (Below.refl _ w2).drew
  refine wp_region_held_drew (S := fun X => Below w2.heap.size w2 X) (by kernel_rfl) hSd (fun hHeld => ?_)
  obtain ⟨y0, hY0⟩ : ∃ Y, w2.drew = Y := ⟨_, rfl⟩
  rw [hY0] at hSd hHeld ⊢
  clear hY0
  refine tk 0 (.bool true) hHeld (fun w => ?_) ?_
  · go_simp
  simp only [PT]
  refine tk 1 (.bool false) hHeld (fun w => ?_) ?_
  · go_simp
  simp only [PT]
  refine tk 2 (.bool false) hHeld (fun w => ?_) ?_
  · go_simp
  simp only [PT]
  refine tk 3 (.bool true) hHeld (fun w => ?_) ?_
  · go_simp
  simp only [PT]
  refine tk 4 (.bool false) hHeld (fun w => ?_) ?_
  · go_simp
  simp only [PT]
  refine tk 5 (.bool false) hHeld (fun w => ?_) ?_
  · go_simp
  simp only [PT]
  refine tk 6 (.bool false) hHeld (fun w => ?_) ?_
  · go_simp
  simp only [PT]
  refine tk 7 (.slice A n c) hHeld (fun w => ?_) ?_
  · go_simp
  simp only [PT]
  refine tkS 8 (.agg #[.int .i64 s.pl, .int .i64 s.st, .int .i64 s.nx, .int .i64 s.ph, .int .i64 s.t, .int .i64 s.hd, .int .i64 s.hl, .int .i64 s.ak, .int .i64 s.wt, .bool s.sp]) hHeld (fun w hq => ?_) ?_
  · obtain ⟨z0, z1, z2, z3, z4, z5, z6, z7, z8, z9⟩ := HF.out w hq
    go_simp
  simp only [PT]
  refine one_step 9 (by kernel_rfl) rfl (fun Kq hKq => ?_)
  go_simp
  go_at_call 17
  (with_reducible refine (HMY.out _ (HX2.out.trans (hSd.mono HX2.out.size))).mono ?_)
  rintro e y1 ⟨rfl, hbx⟩
  have hS1 : Below w2.heap.size w2 y1 := hSd.trans (hbx.mono hSd.size)
  clear hbx
  refine hKq.out _ _ hS1 (fun hHeld0 => ?_)
  clear hKq Kq hHeld
  have hHeld := hHeld0
  clear hHeld0
  try simp only [PT]
  refine tk 10 (.bool false) hHeld (fun w => ?_) ?_
  · go_simp
  simp only [PT]
  refine tk 11 (.bool false) hHeld (fun w => ?_) ?_
  · go_simp
  simp only [PT]
  refine tk 12 (.bool false) hHeld (fun w => ?_) ?_
  · go_simp
  simp only [PT]
  refine tk 13 (.pointer (some ⟨w.heap.size, 9, none⟩)) hHeld (fun w => ?_) ?_
  · go_simp
  simp only [PT]
  refine tkS 14 (.bool s.sp) hHeld (fun w hq => ?_) ?_
  · obtain ⟨z0, z1, z2, z3, z4, z5, z6, z7, z8, z9⟩ := HF.out w hq
    go_simp
  simp only [PT]
  refine tk 15 (.bool false) hHeld (fun w => ?_) ?_
  · (go_simp; try rw [HSP.out]; try rfl)
  simp only [PT]
  refine tk 16 (.bool false) hHeld (fun w => ?_) ?_
  · go_simp
  simp only [PT]
  refine tk 17 (.bool false) hHeld (fun w => ?_) ?_
  · go_simp
  simp only [PT]
  refine tk 18 (.int .i64 x) hHeld (fun w => ?_) ?_
  · go_simp
  simp only [PT]
  refine tk 19 (.bool false) hHeld (fun w => ?_) ?_
  · (go_simp; try omega)
  simp only [PT]
  refine tk 20 (.bool false) hHeld (fun w => ?_) ?_
  · go_simp
  simp only [PT]
  refine tk 21 (.bool false) hHeld (fun w => ?_) ?_
  · go_simp
  simp only [PT]
  refine tk 22 (.int .i64 x) hHeld (fun w => ?_) ?_
  · go_simp
  simp only [PT]
  refine tk 23 (.bool true) hHeld (fun w => ?_) ?_
  · (go_simp; try omega)
  simp only [PT]
  refine tk 24 (.bool true) hHeld (fun w => ?_) ?_
  · go_simp
  simp only [PT]
  refine tk 25 (.bool true) hHeld (fun w => ?_) ?_
  · go_simp
  simp only [PT]
  refine tkO 26 hHeld ?_
  simp only [PT]
  refine tkO 27 hHeld ?_
  simp only [PT]
  refine tkO 28 hHeld ?_
  simp only [PT]
  refine tk 29 (.bool true) hHeld (fun w => ?_) ?_
  · go_simp
  simp only [PT]
  refine tk 30 (.bool true) hHeld (fun w => ?_) ?_
  · go_simp
  simp only [PT]
  refine tkO 31 hHeld ?_
  simp only [PT]
  refine tkO 32 hHeld ?_
  simp only [PT]
  refine tkO 33 hHeld ?_
  simp only [PT]
  refine tkO 34 hHeld ?_
  simp only [PT]
  refine tkO 35 hHeld ?_
  simp only [PT]
  refine tk 36 (.bool true) hHeld (fun w => ?_) ?_
  · go_simp
  simp only [PT]
  refine tk 37 (.bool true) hHeld (fun w => ?_) ?_
  · go_simp
  simp only [PT]
  refine tkO 38 hHeld ?_
  simp only [PT]
  refine tkO 39 hHeld ?_
  simp only [PT]
  refine tkO 40 hHeld ?_
  simp only [PT]
  refine tk 41 (.bool true) hHeld (fun w => ?_) ?_
  · go_simp
  simp only [PT]
  refine tk 42 (.bool true) hHeld (fun w => ?_) ?_
  · go_simp
  simp only [PT]
  refine tkO 43 hHeld ?_
  simp only [PT]
  refine tkO 44 hHeld ?_
  simp only [PT]
  refine tkO 45 hHeld ?_
  simp only [PT]
  refine tkO 46 hHeld ?_
  simp only [PT]
  refine tkO 47 hHeld ?_
  simp only [PT]
  refine tkO 48 hHeld ?_
  simp only [PT]
  refine tkO 49 hHeld ?_
  simp only [PT]
  refine tkO 50 hHeld ?_
  simp only [PT]
  refine tkO 51 hHeld ?_
  simp only [PT]
  refine tkO 52 hHeld ?_
  simp only [PT]
  refine tk 53 (.bool true) hHeld (fun w => ?_) ?_
  · go_simp
  simp only [PT]
  refine wpAnyH_done (by kernel_rfl) ?_ _
  clear hHeld
  go_wp2
  go_ret
  exact ⟨rfl, HB0.out.trans ((HX2.out.trans (hS1.mono HX2.out.size)).mono HB0.out.size)⟩
end Go.Proofs.Ytcgakgbnhlmcaaa

