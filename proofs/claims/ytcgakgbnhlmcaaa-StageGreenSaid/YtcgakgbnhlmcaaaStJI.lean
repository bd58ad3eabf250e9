/- Joined texts: The law StageGreen: sgreen_on. The law StageGreen: sgreen_stop. The law StageGreen: sgreen_ask. The law StageGreen: sgreen_want. -/
import Derived.Test.YtcgakgbnhlmcaaaStJH
/- The law StageGreen: sgreen_on. -/
namespace Go.Proofs.Ytcgakgbnhlmcaaa
set_option maxRecDepth 100000
set_option linter.unusedVariables false
set_option linter.unusedSimpArgs false
open Go.RowKit

set_option maxHeartbeats 16000000 in
theorem sgreen_on (HO : StgOk) (HT : LmpText) (A : Option Addr) (n c : Nat) (l : List Pl) (s : Sg) (w : World) (hl : Pls w A n c l) (hts : SmG s) (hfw : fewAllB l = true) (hm : mayS l s = true) (hph : s.ph = 0) (hcg : (tickS l s).ph = 0) (hcs : s.hd = 0) :
    Calls Try.prog 5 #[.slice A n c, sgV s] w fun e w' => e = .returned (.bool true) ∧ Below w.heap.size w w' := by
  have hsm := hl.small
  have hlen := hl.len
  simp only [sgV]
  obtain ⟨W0, hW0⟩ : ∃ W0, w.alloc (.cells #[.int .i64 s.pl, .int .i64 s.st, .int .i64 s.nx, .int .i64 s.ph, .int .i64 s.t, .int .i64 s.hd, .int .i64 s.hl, .int .i64 s.ak, .int .i64 s.wt, .bool s.sp] 24) = W0 := ⟨_, rfl⟩
  have hB0 : Below w.heap.size w W0 := by rw [← hW0]; exact one_alloc w _
  have hbs : BoxG W0 w.heap.size s := by rw [← hW0]; exact BoxG.new w s
  have HPL := Lib.hid (show ∀ X, Below W0.heap.size W0 X → Pls X A n c l from fun X hX => (hl.below hB0).below hX)
  have HBS := Lib.hid (show ∀ X, Below W0.heap.size W0 X → BoxG X w.heap.size s from fun X hX => hbs.below hX)
  have HLL := Lib.hid hlen
  have HB0 := Lib.hid hB0
  have HW := Lib.hid hW0
  have HAW := Lib.hid (sawake16_any HO HT W0)
  have HFW := Lib.hid (fun X hX => pfewall_any A n c l X (HPL.out X hX))
  clear hW0 hB0 hbs hl
  rw [hfw] at HFW
  obtain ⟨hl5, hfp⟩ := fewall_iff.1 hfw
  have hn1000 : n ≤ 1000 := by omega
  have hmem : ∀ p ∈ l, p.n ≤ 1000 ∧ p.k ≤ 1000 := fun p hp => by have := hfp p hp; omega
  have HMY := Lib.hid (fun X hX => HO.may A n c l s X (HPL.out X hX) hts hn1000 hmem)
  rw [hm] at HMY
  have hms := mayS_iff.1 hm
  have hph1 : (s.ph != 0) = false := by rw [hph]; rfl
  have hways := green_ways hms hph
  have HTK := Lib.hid (fun X hX => HO.tick A n c l s X (HPL.out X hX) hts hn1000 hmem)
  obtain ⟨g, hg⟩ : ∃ g, tickS l s = g := ⟨_, rfl⟩
  rw [hg] at HTK hways hcg
  have HCG := Lib.hid hcg
  have hsml := may_small hms
  have hheld := hms.held
  have g0 := hms.p0
  have g1 : s.pl < n := by have := hms.p1; rw [hlen] at this; exact this
  obtain ⟨j, hj⟩ := Int.eq_ofNat_of_zero_le g0
  have hjn : j < n := by omega
  obtain ⟨q1, q2⟩ := plan_of (HPL.out W0 (Below.refl _ _)) hjn
  rw [← hj] at q1 q2
  have hs0 := hms.range.s0
  have hs1 := hms.range.s1
  have hfit := plan_fit hms
  obtain ⟨q, hq⟩ : ∃ q, planAt l s.pl = q := ⟨_, rfl⟩
  rw [hq] at hways q1 q2 hs1 hfit hheld
  have hhd2 := (fit_iff.1 hfit).hd2
  have hqk := q1.s.len
  have hst1 : s.st < q.k := by rw [hqk] at hs1; exact hs1
  obtain ⟨b, off, p0, rfl, -⟩ := (HPL.out W0 (Below.refl _ _)).at_ 0 (by omega)
  obtain ⟨bs, os, x, hB, hx, -, -, -, -, -⟩ := q1.s.at_ s.st.toNat (by omega)
  have hxs : stgAt q s.st = x := hx
  rw [hxs] at hways
  have HQC := Lib.hid (show ∀ X, Below W0.heap.size W0 X → X.cell? ⟨b, off + j * 5 + 1, none⟩ = some (.slice (some ⟨bs, os, none⟩) q.k q.d) ∧ X.cell? ⟨bs, os + s.st.toNat * 3, none⟩ = some (.int .i64 x.g) ∧ X.cell? ⟨bs, os + s.st.toNat * 3 + 1, none⟩ = some (.int .i64 x.mn) ∧ X.cell? ⟨bs, os + s.st.toNat * 3 + 2, none⟩ = some (.int .i64 x.mx) from fun X hX => by
    obtain ⟨b2, off2, p2, hA2, hp2, hm2, -, hi2, z0, z1, z2, z3, z4⟩ := (HPL.out X hX).at_ j hjn
    cases hA2
    have hqe : q = p2 := by rw [← hq, hj, planAt, Int.toNat_natCast, hp2]
    rw [← hqe] at z1 hi2
    obtain ⟨b3, off3, x2, hB2, hx2, -, -, y0, y1, y2⟩ := hi2.s.at_ s.st.toNat (by omega)
    rw [hB] at hB2
    cases hB2
    obtain rfl := hx.symm.trans hx2
    rw [hB] at z1
    exact ⟨z1, y0, y1, y2⟩)
  have hstn : (s.st.toNat : Int) = s.st := Int.toNat_of_nonneg hs0
  have hstk : s.st.toNat < q.k := by omega
  simp only [GivesG, sgV] at HTK HMY
  have HH := Lib.hid hheld
  have HWY := Lib.hid hways
  have HSM := Lib.hid hsml
  have HCS := Lib.hid hcs
  have HD2 := Lib.hid hhd2
  have HJ := Lib.hid hj
  clear hj hm hmem hfp hfw hms hg hcg hcs q1 q2 hq hx hxs hB hheld hways hsml hfit hqk hs1 hph hhd2
  go_enter Try.func5, Try.ntmps5
  go_wp2_with (first
    | (go_at_call 9
       rw [HW.out]
       (with_reducible refine (HAW.out).mono ?_)
       rintro e w1 ⟨rfl, hbx⟩
       have HX1 := Lib.hid hbx
       clear hbx)
    | (go_at_call 10
       (with_reducible refine (HFW.out _ HX1.out).mono ?_)
       rintro e w2 ⟨rfl, hbx⟩
       have HX2 := Lib.hid (HX1.out.trans (hbx.mono HX1.out.size))
       clear hbx))
  have HF := Lib.hid (show ∀ X, Below w2.heap.size w2 X → X.cell? ⟨w.heap.size, 0, none⟩ = some (.int .i64 s.pl) ∧ X.cell? ⟨w.heap.size, 1, none⟩ = some (.int .i64 s.st) ∧ X.cell? ⟨w.heap.size, 2, none⟩ = some (.int .i64 s.nx) ∧ X.cell? ⟨w.heap.size, 3, none⟩ = some (.int .i64 s.ph) ∧ X.cell? ⟨w.heap.size, 4, none⟩ = some (.int .i64 s.t) ∧ X.cell? ⟨w.heap.size, 5, none⟩ = some (.int .i64 s.hd) ∧ X.cell? ⟨w.heap.size, 6, none⟩ = some (.int .i64 s.hl) ∧ X.cell? ⟨w.heap.size, 7, none⟩ = some (.int .i64 s.ak) ∧ X.cell? ⟨w.heap.size, 8, none⟩ = some (.int .i64 s.wt) ∧ X.cell? ⟨w.heap.size, 9, none⟩ = some (.bool s.sp) ∧ X.cell? ⟨b, off + j * 5 + 1, none⟩ = some (.slice (some ⟨bs, os, none⟩) q.k q.d) from fun X hX => by
    have hX0 := HX2.out.trans (hX.mono HX2.out.size)
    obtain ⟨y0, y1, y2, y3, y4, y5, y6, y7, y8, y9⟩ := (HBS.out X hX0).cells
    exact ⟨y0, y1, y2, y3, y4, y5, y6, y7, y8, y9, (HQC.out X hX0).1⟩)
  have hSd : Below w2.heap.size w2 w2.drew := (Below.refl _ w2).drew
  refine wp_region_held_drew (S := fun X => Below w2.heap.size w2 X) (by kernel_rfl) hSd (fun hHeld => ?_)
  refine tk 0 (.bool true) hHeld (fun w => ?_) ?_
  · go_simp
  simp only [PT]
  refine tk 1 (.bool false) hHeld (fun w => ?_) ?_
  · go_simp
  simp only [PT]
  refine tk 2 (.bool false) hHeld (fun w => ?_) ?_
  · go_simp
  simp only [PT]
  refine tk 3 (.bool true) hHeld (fun w => ?_) ?_
  · go_simp
  simp only [PT]
  refine tk 4 (.bool false) hHeld (fun w => ?_) ?_
  · go_simp
  simp only [PT]
  refine tk 5 (.bool false) hHeld (fun w => ?_) ?_
  · go_simp
  simp only [PT]
  refine tk 6 (.bool false) hHeld (fun w => ?_) ?_
  · go_simp
  simp only [PT]
  refine tk 7 (.slice (some ⟨b, off, none⟩) n c) hHeld (fun w => ?_) ?_
  · go_simp
  simp only [PT]
  refine tkS 8 (.agg #[.int .i64 s.pl, .int .i64 s.st, .int .i64 s.nx, .int .i64 s.ph, .int .i64 s.t, .int .i64 s.hd, .int .i64 s.hl, .int .i64 s.ak, .int .i64 s.wt, .bool s.sp]) hHeld (fun w hq => ?_) ?_
  · obtain ⟨z0, z1, z2, z3, z4, z5, z6, z7, z8, z9, z10⟩ := HF.out w hq
    go_simp
  simp only [PT]
  refine one_step 9 (by kernel_rfl) rfl (fun Kq hKq => ?_)
  go_simp
  go_at_call 17
  (with_reducible refine (HMY.out _ (HX2.out.trans (hSd.mono HX2.out.size))).mono ?_)
  rintro e y1 ⟨rfl, hbx⟩
  have hS1 : Below w2.heap.size w2 y1 := hSd.trans (hbx.mono hSd.size)
  clear hbx
  refine hKq.out _ _ hS1 (fun hHeld0 => ?_)
  clear hKq Kq hHeld
  have hHeld := hHeld0
  clear hHeld0
  try simp only [PT]
  refine tk 10 (.bool false) hHeld (fun w => ?_) ?_
  · go_simp
  simp only [PT]
  refine tk 11 (.bool false) hHeld (fun w => ?_) ?_
  · go_simp
  simp only [PT]
  refine tk 12 (.bool false) hHeld (fun w => ?_) ?_
  · go_simp
  simp only [PT]
  refine tk 13 (.pointer (some ⟨w.heap.size, 3, none⟩)) hHeld (fun w => ?_) ?_
  · go_simp
  simp only [PT]
  refine tkS 14 (.int .i64 s.ph) hHeld (fun w hq => ?_) ?_
  · obtain ⟨z0, z1, z2, z3, z4, z5, z6, z7, z8, z9, z10⟩ := HF.out w hq
    go_simp
  simp only [PT]
  refine tk 15 (.bool false) hHeld (fun w => ?_) ?_
  · (go_simp; try exact hph1)
  simp only [PT]
  refine tk 16 (.bool false) hHeld (fun w => ?_) ?_
  · go_simp
  simp only [PT]
  refine tk 17 (.bool false) hHeld (fun w => ?_) ?_
  · go_simp
  simp only [PT]
  refine tk 18 (.pointer (some ⟨w.heap.size, 0, none⟩)) hHeld (fun w => ?_) ?_
  · go_simp
  simp only [PT]
  refine tkS 19 (.int .i64 s.pl) hHeld (fun w hq => ?_) ?_
  · obtain ⟨z0, z1, z2, z3, z4, z5, z6, z7, z8, z9, z10⟩ := HF.out w hq
    go_simp
  simp only [PT]
  refine tk 20 (.bool false) hHeld (fun w => ?_) ?_
  · (go_simp; try omega)
  simp only [PT]
  refine tk 21 (.bool false) hHeld (fun w => ?_) ?_
  · go_simp
  simp only [PT]
  refine tk 22 (.bool false) hHeld (fun w => ?_) ?_
  · go_simp
  simp only [PT]
  refine tk 23 (.pointer (some ⟨w.heap.size, 0, none⟩)) hHeld (fun w => ?_) ?_
  · go_simp
  simp only [PT]
  refine tkS 24 (.int .i64 s.pl) hHeld (fun w hq => ?_) ?_
  · obtain ⟨z0, z1, z2, z3, z4, z5, z6, z7, z8, z9, z10⟩ := HF.out w hq
    go_simp
  simp only [PT]
  refine tk 25 (.slice (some ⟨b, off, none⟩) n c) hHeld (fun w => ?_) ?_
  · go_simp
  simp only [PT]
  refine tk 26 (.int .i64 (n : Int)) hHeld (fun w => ?_) ?_
  · go_simp
  simp only [PT]
  refine tk 27 (.bool false) hHeld (fun w => ?_) ?_
  · (go_simp; try omega)
  simp only [PT]
  refine tk 28 (.bool false) hHeld (fun w => ?_) ?_
  · go_simp
  simp only [PT]
  refine tk 29 (.bool false) hHeld (fun w => ?_) ?_
  · go_simp
  simp only [PT]
  refine tk 30 (.pointer (some ⟨w.heap.size, 1, none⟩)) hHeld (fun w => ?_) ?_
  · go_simp
  simp only [PT]
  refine tkS 31 (.int .i64 s.st) hHeld (fun w hq => ?_) ?_
  · obtain ⟨z0, z1, z2, z3, z4, z5, z6, z7, z8, z9, z10⟩ := HF.out w hq
    go_simp
  simp only [PT]
  refine tk 32 (.bool false) hHeld (fun w => ?_) ?_
  · (go_simp; try omega)
  simp only [PT]
  refine tk 33 (.bool false) hHeld (fun w => ?_) ?_
  · go_simp
  simp only [PT]
  refine tk 34 (.bool false) hHeld (fun w => ?_) ?_
  · go_simp
  simp only [PT]
  refine tk 35 (.pointer (some ⟨w.heap.size, 1, none⟩)) hHeld (fun w => ?_) ?_
  · go_simp
  simp only [PT]
  refine tkS 36 (.int .i64 s.st) hHeld (fun w hq => ?_) ?_
  · obtain ⟨z0, z1, z2, z3, z4, z5, z6, z7, z8, z9, z10⟩ := HF.out w hq
    go_simp
  simp only [PT]
  refine tk 37 (.slice (some ⟨b, off, none⟩) n c) hHeld (fun w => ?_) ?_
  · go_simp
  simp only [PT]
  refine tk 38 (.pointer (some ⟨w.heap.size, 0, none⟩)) hHeld (fun w => ?_) ?_
  · go_simp
  simp only [PT]
  refine tkS 39 (.int .i64 s.pl) hHeld (fun w hq => ?_) ?_
  · obtain ⟨z0, z1, z2, z3, z4, z5, z6, z7, z8, z9, z10⟩ := HF.out w hq
    go_simp
  simp only [PT]
  refine tk 40 (.pointer (some ⟨b, off + j * 5, none⟩)) hHeld (fun w => ?_) ?_
  · (go_simp; try rw [HJ.out]; try go_simp)
  simp only [PT]
  refine tk 41 (.pointer (some ⟨b, off + j * 5 + 1, none⟩)) hHeld (fun w => ?_) ?_
  · go_simp
  simp only [PT]
  refine tkS 42 (.slice (some ⟨bs, os, none⟩) q.k q.d) hHeld (fun w hq => ?_) ?_
  · obtain ⟨z0, z1, z2, z3, z4, z5, z6, z7, z8, z9, z10⟩ := HF.out w hq
    go_simp
  simp only [PT]
  refine tk 43 (.int .i64 (q.k : Int)) hHeld (fun w => ?_) ?_
  · go_simp
  simp only [PT]
  refine tk 44 (.bool false) hHeld (fun w => ?_) ?_
  · (go_simp; try omega)
  simp only [PT]
  refine tk 45 (.bool false) hHeld (fun w => ?_) ?_
  · go_simp
  simp only [PT]
  refine wpAnyH_done (by kernel_rfl) ?_ _
  clear hHeld
  have HX3 := Lib.hid (HX2.out.trans (hS1.mono HX2.out.size))
  obtain ⟨c0, c1, c2, c3, c4, c5, c6, c7, c8, c9⟩ := (HBS.out y1 HX3.out).cells
  go_wp2_with (first
    | (go_at_call 18
       (with_reducible refine (HTK.out _ HX3.out).mono ?_)
       rintro e w4 ⟨rfl, hbx⟩
       have HX4 := Lib.hid (HX3.out.trans (hbx.mono HX3.out.size))
       clear hbx
       try simp only [sgV]))
  obtain ⟨W5, hW5⟩ : ∃ W5, w4.alloc (.cells #[.int .i64 g.pl, .int .i64 g.st, .int .i64 g.nx, .int .i64 g.ph, .int .i64 g.t, .int .i64 g.hd, .int .i64 g.hl, .int .i64 g.ak, .int .i64 g.wt, .bool g.sp] 24) = W5 := ⟨_, rfl⟩
  have hb5 := one_alloc w4 (.cells #[.int .i64 g.pl, .int .i64 g.st, .int .i64 g.nx, .int .i64 g.ph, .int .i64 g.t, .int .i64 g.hd, .int .i64 g.hl, .int .i64 g.ak, .int .i64 g.wt, .bool g.sp] 24)
  have hbg := BoxG.new w4 g
  rw [hW5] at hb5 hbg ⊢
  have HX5 := Lib.hid (HX4.out.trans (hb5.mono HX4.out.size))
  have HG := Lib.hid (show ∀ X, Below W5.heap.size W5 X → BoxG X w4.heap.size g from fun X hX => hbg.below hX)
  have HF6 := Lib.hid (show ∀ X, Below W5.heap.size W5 X → X.cell? ⟨w.heap.size, 0, none⟩ = some (.int .i64 s.pl) ∧ X.cell? ⟨w.heap.size, 1, none⟩ = some (.int .i64 s.st) ∧ X.cell? ⟨b, off + j * 5 + 1, none⟩ = some (.slice (some ⟨bs, os, none⟩) q.k q.d) ∧ X.cell? ⟨bs, os + s.st.toNat * 3, none⟩ = some (.int .i64 x.g) ∧ X.cell? ⟨bs, os + s.st.toNat * 3 + 1, none⟩ = some (.int .i64 x.mn) ∧ X.cell? ⟨bs, os + s.st.toNat * 3 + 2, none⟩ = some (.int .i64 x.mx) from fun X hX => by
    have hX0 := HX5.out.trans (hX.mono HX5.out.size)
    exact ⟨(HBS.out X hX0).cells.c0, (HBS.out X hX0).cells.c1, HQC.out X hX0⟩)
  clear hb5 hbg hW5 c0 c1 c2 c3 c4 c5 c6 c7 c8 c9
  have hSd : Below W5.heap.size W5 W5.drew := (Below.refl _ W5).drew
  refine wp_region_held_drew (S := fun X => Below W5.heap.size W5 X) (by kernel_rfl) hSd (fun hHeld => ?_)
  refine tk 0 (.slice (some ⟨b, off, none⟩) n c) hHeld (fun w => ?_) ?_
  · go_simp
  simp only [PT]
  refine tk 1 (.pointer (some ⟨w.heap.size, 0, none⟩)) hHeld (fun w => ?_) ?_
  · go_simp
  simp only [PT]
  refine tkS 2 (.int .i64 s.pl) hHeld (fun w hq => ?_) ?_
  · obtain ⟨z0, z1, z2, z3, z4, z5⟩ := HF6.out w hq
    go_simp
  simp only [PT]
  refine tk 3 (.pointer (some ⟨b, off + j * 5, none⟩)) hHeld (fun w => ?_) ?_
  · (go_simp; try rw [HJ.out]; try go_simp)
  simp only [PT]
  refine tk 4 (.pointer (some ⟨b, off + j * 5 + 1, none⟩)) hHeld (fun w => ?_) ?_
  · go_simp
  simp only [PT]
  refine tkS 5 (.slice (some ⟨bs, os, none⟩) q.k q.d) hHeld (fun w hq => ?_) ?_
  · obtain ⟨z0, z1, z2, z3, z4, z5⟩ := HF6.out w hq
    go_simp
  simp only [PT]
  refine tk 6 (.pointer (some ⟨w.heap.size, 1, none⟩)) hHeld (fun w => ?_) ?_
  · go_simp
  simp only [PT]
  refine tkS 7 (.int .i64 s.st) hHeld (fun w hq => ?_) ?_
  · obtain ⟨z0, z1, z2, z3, z4, z5⟩ := HF6.out w hq
    go_simp
  simp only [PT]
  refine tk 8 (.pointer (some ⟨bs, os + s.st.toNat * 3, none⟩)) hHeld (fun w => ?_) ?_
  · go_simp
  simp only [PT]
  refine tkS 9 (.agg #[.int .i64 x.g, .int .i64 x.mn, .int .i64 x.mx]) hHeld (fun w hq => ?_) ?_
  · obtain ⟨z0, z1, z2, z3, z4, z5⟩ := HF6.out w hq
    go_simp
  simp only [PT]
  refine one_step 10 (by kernel_rfl) rfl (fun Kq hKq => ?_)
  go_simp
  have hS1 : Below W5.heap.size W5 (W5.drew.alloc (.cells #[.int .i64 0, .int .i64 0, .int .i64 0] 43 (0, 0))) := hSd.alloc hSd.size _
  refine hKq.out _ _ hS1 (fun hHeld0 => ?_)
  clear hKq Kq hHeld
  have hHeld := hHeld0
  clear hHeld0
  try simp only [PT]
  refine one_step 11 (by kernel_rfl) rfl (fun Kq hKq => ?_)
  refine step_store_part 43 _ _ rfl W5.heap.size 0 (.agg #[.int .i64 x.g, .int .i64 x.mn, .int .i64 x.mx]) #[.int .i64 x.g, .int .i64 x.mn, .int .i64 x.mx] rfl rfl rfl 43 #[.int .i64 0, .int .i64 0, .int .i64 0] #[.int .i64 x.g, .int .i64 x.mn, .int .i64 x.mx] (heap_alloc_new W5.drew _) info_stg3 (by simp) (one_stg3 _ _ _) rfl rfl ?_
  intro W6 hg6 hX6 hz6
  have hS2 : Below W5.heap.size W5 W6 := Below.grows hS1 hg6 hS1.size (Nat.le_refl _)
  clear hg6 hz6
  refine hKq.out _ _ hS2 (fun hHeld0 => ?_)
  clear hKq Kq hHeld
  have hHeld := hHeld0
  clear hHeld0
  try simp only [PT]
  refine wpAnyH_done (by kernel_rfl) ?_ _
  clear hHeld
  have HX6 := Lib.hid (HX5.out.trans (hS2.mono HX5.out.size))
  obtain ⟨c0, c1, c2, c3, c4, c5, c6, c7, c8, c9⟩ := (HBS.out W6 HX6.out).cells
  obtain ⟨d0, d1, d2, d3, d4, d5, d6, d7, d8, d9⟩ := (HG.out W6 hS2).cells
  have x0 : W6.cell? ⟨W5.heap.size, 0, none⟩ = some (.int .i64 x.g) := (cell_of_row _ _ _ _ _ _ hX6).trans rfl
  have x1 : W6.cell? ⟨W5.heap.size, 1, none⟩ = some (.int .i64 x.mn) := (cell_of_row _ _ _ _ _ _ hX6).trans rfl
  have x2 : W6.cell? ⟨W5.heap.size, 2, none⟩ = some (.int .i64 x.mx) := (cell_of_row _ _ _ _ _ _ hX6).trans rfl
  have t0 := HSM.out.1
  have t1 := HSM.out.2
  have w1 : wrap64 (s.t + 1) = s.t + 1 := by unfold wrap64; omega
  have k0 := HH.out.h0
  have k1 := HH.out.h1
  have k2 := HH.out.h2
  have k3 := HH.out.h3
  have k4 := HD2.out
  have w2' : wrap64 (s.hd - 1) = s.hd - 1 := by unfold wrap64; omega
  have w3 : wrap64 (s.hl + 1) = s.hl + 1 := by unfold wrap64; omega
  clear hX6
  have hu1 : ∀ b : Bool, ¬ ((undef : Value) = Value.bool b) := fun b h => by cases h
  have hu2 : ∀ b : Bool, ¬ (some (undef : Value) = some (Value.bool b)) := fun b h => by cases h
  have hcs := HCS.out
  have hcg := HCG.out
  rcases HWY.out with ⟨hd, rfl⟩ | ⟨hd, rfl, hmx⟩ | ⟨hd, hmn, hask, gp, gs, gt⟩
  · omega
  · clear hcg hcs
    simp only at d0 d1 d2 d3 d4 d5 d6 d7 d8 d9
    have hpz : (s.ph == 0) = true := by simpa using hph1
    have hdn : ¬ (0 < s.hd) := by omega
    have hdb : (s.hd == 0) = true := by rw [hd]; rfl
    clear hd
    go_wp2
    go_ret
    exact ⟨by first | rfl | simp, HB0.out.trans (HX6.out.mono HB0.out.size)⟩
  · rw [gp] at hcg; cases hcg
end Go.Proofs.Ytcgakgbnhlmcaaa


/- The law StageGreen: sgreen_stop. -/
namespace Go.Proofs.Ytcgakgbnhlmcaaa
set_option maxRecDepth 100000
set_option linter.unusedVariables false
set_option linter.unusedSimpArgs false
open Go.RowKit

set_option maxHeartbeats 16000000 in
theorem sgreen_stop (HO : StgOk) (HT : LmpText) (A : Option Addr) (n c : Nat) (l : List Pl) (s : Sg) (w : World) (hl : Pls w A n c l) (hts : SmG s) (hfw : fewAllB l = true) (hm : mayS l s = true) (hph : s.ph = 0) (hcg : (tickS l s).ph = 1) (hcs : s.hd = 0 ∧ s.sp = true) :
    Calls Try.prog 5 #[.slice A n c, sgV s] w fun e w' => e = .returned (.bool true) ∧ Below w.heap.size w w' := by
  have hsm := hl.small
  have hlen := hl.len
  simp only [sgV]
  obtain ⟨W0, hW0⟩ : ∃ W0, w.alloc (.cells #[.int .i64 s.pl, .int .i64 s.st, .int .i64 s.nx, .int .i64 s.ph, .int .i64 s.t, .int .i64 s.hd, .int .i64 s.hl, .int .i64 s.ak, .int .i64 s.wt, .bool s.sp] 24) = W0 := ⟨_, rfl⟩
  have hB0 : Below w.heap.size w W0 := by rw [← hW0]; exact one_alloc w _
  have hbs : BoxG W0 w.heap.size s := by rw [← hW0]; exact BoxG.new w s
  have HPL := Lib.hid (show ∀ X, Below W0.heap.size W0 X → Pls X A n c l from fun X hX => (hl.below hB0).below hX)
  have HBS := Lib.hid (show ∀ X, Below W0.heap.size W0 X → BoxG X w.heap.size s from fun X hX => hbs.below hX)
  have HLL := Lib.hid hlen
  have HB0 := Lib.hid hB0
  have HW := Lib.hid hW0
  have HAW := Lib.hid (sawake16_any HO HT W0)
  have HFW := Lib.hid (fun X hX => pfewall_any A n c l X (HPL.out X hX))
  clear hW0 hB0 hbs hl
  rw [hfw] at HFW
  obtain ⟨hl5, hfp⟩ := fewall_iff.1 hfw
  have hn1000 : n ≤ 1000 := by omega
  have hmem : ∀ p ∈ l, p.n ≤ 1000 ∧ p.k ≤ 1000 := fun p hp => by have := hfp p hp; omega
  have HMY := Lib.hid (fun X hX => HO.may A n c l s X (HPL.out X hX) hts hn1000 hmem)
  rw [hm] at HMY
  have hms := mayS_iff.1 hm
  have hph1 : (s.ph != 0) = false := by rw [hph]; rfl
  have hways := green_ways hms hph
  have HTK := Lib.hid (fun X hX => HO.tick A n c l s X (HPL.out X hX) hts hn1000 hmem)
  obtain ⟨g, hg⟩ : ∃ g, tickS l s = g := ⟨_, rfl⟩
  rw [hg] at HTK hways hcg
  have HCG := Lib.hid hcg
  have hsml := may_small hms
  have hheld := hms.held
  have g0 := hms.p0
  have g1 : s.pl < n := by have := hms.p1; rw [hlen] at this; exact this
  obtain ⟨j, hj⟩ := Int.eq_ofNat_of_zero_le g0
  have hjn : j < n := by omega
  obtain ⟨q1, q2⟩ := plan_of (HPL.out W0 (Below.refl _ _)) hjn
  rw [← hj] at q1 q2
  have hs0 := hms.range.s0
  have hs1 := hms.range.s1
  have hfit := plan_fit hms
  obtain ⟨q, hq⟩ : ∃ q, planAt l s.pl = q := ⟨_, rfl⟩
  rw [hq] at hways q1 q2 hs1 hfit hheld
  have hhd2 := (fit_iff.1 hfit).hd2
  have hqk := q1.s.len
  have hst1 : s.st < q.k := by rw [hqk] at hs1; exact hs1
  obtain ⟨b, off, p0, rfl, -⟩ := (HPL.out W0 (Below.refl _ _)).at_ 0 (by omega)
  obtain ⟨bs, os, x, hB, hx, -, -, -, -, -⟩ := q1.s.at_ s.st.toNat (by omega)
  have hxs : stgAt q s.st = x := hx
  rw [hxs] at hways
  have HQC := Lib.hid (show ∀ X, Below W0.heap.size W0 X → X.cell? ⟨b, off + j * 5 + 1, none⟩ = some (.slice (some ⟨bs, os, none⟩) q.k q.d) ∧ X.cell? ⟨bs, os + s.st.toNat * 3, none⟩ = some (.int .i64 x.g) ∧ X.cell? ⟨bs, os + s.st.toNat * 3 + 1, none⟩ = some (.int .i64 x.mn) ∧ X.cell? ⟨bs, os + s.st.toNat * 3 + 2, none⟩ = some (.int .i64 x.mx) from fun X hX => by
    obtain ⟨b2, off2, p2, hA2, hp2, hm2, -, hi2, z0, z1, z2, z3, z4⟩ := (HPL.out X hX).at_ j hjn
    cases hA2
    have hqe : q = p2 := by rw [← hq, hj, planAt, Int.toNat_natCast, hp2]
    rw [← hqe] at z1 hi2
    obtain ⟨b3, off3, x2, hB2, hx2, -, -, y0, y1, y2⟩ := hi2.s.at_ s.st.toNat (by omega)
    rw [hB] at hB2
    cases hB2
    obtain rfl := hx.symm.trans hx2
    rw [hB] at z1
    exact ⟨z1, y0, y1, y2⟩)
  have hstn : (s.st.toNat : Int) = s.st := Int.toNat_of_nonneg hs0
  have hstk : s.st.toNat < q.k := by omega
  simp only [GivesG, sgV] at HTK HMY
  have HH := Lib.hid hheld
  have HWY := Lib.hid hways
  have HSM := Lib.hid hsml
  have HCS := Lib.hid hcs
  have HD2 := Lib.hid hhd2
  have HJ := Lib.hid hj
  clear hj hm hmem hfp hfw hms hg hcg hcs q1 q2 hq hx hxs hB hheld hways hsml hfit hqk hs1 hph hhd2
  go_enter Try.func5, Try.ntmps5
  go_wp2_with (first
    | (go_at_call 9
       rw [HW.out]
       (with_reducible refine (HAW.out).mono ?_)
       rintro e w1 ⟨rfl, hbx⟩
       have HX1 := Lib.hid hbx
       clear hbx)
    | (go_at_call 10
       (with_reducible refine (HFW.out _ HX1.out).mono ?_)
       rintro e w2 ⟨rfl, hbx⟩
       have HX2 := Lib.hid (HX1.out.trans (hbx.mono HX1.out.size))
       clear hbx))
  have HF := Lib.hid (show ∀ X, Below w2.heap.size w2 X → X.cell? ⟨w.heap.size, 0, none⟩ = some (.int .i64 s.pl) ∧ X.cell? ⟨w.heap.size, 1, none⟩ = some (.int .i64 s.st) ∧ X.cell? ⟨w.heap.size, 2, none⟩ = some (.int .i64 s.nx) ∧ X.cell? ⟨w.heap.size, 3, none⟩ = some (.int .i64 s.ph) ∧ X.cell? ⟨w.heap.size, 4, none⟩ = some (.int .i64 s.t) ∧ X.cell? ⟨w.heap.size, 5, none⟩ = some (.int .i64 s.hd) ∧ X.cell? ⟨w.heap.size, 6, none⟩ = some (.int .i64 s.hl) ∧ X.cell? ⟨w.heap.size, 7, none⟩ = some (.int .i64 s.ak) ∧ X.cell? ⟨w.heap.size, 8, none⟩ = some (.int .i64 s.wt) ∧ X.cell? ⟨w.heap.size, 9, none⟩ = some (.bool s.sp) ∧ X.cell? ⟨b, off + j * 5 + 1, none⟩ = some (.slice (some ⟨bs, os, none⟩) q.k q.d) from fun X hX => by
    have hX0 := HX2.out.trans (hX.mono HX2.out.size)
    obtain ⟨y0, y1, y2, y3, y4, y5, y6, y7, y8, y9⟩ := (HBS.out X hX0).cells
    exact ⟨y0, y1, y2, y3, y4, y5, y6, y7, y8, y9, (HQC.out X hX0).1⟩)
  have hSd : Below w2.heap.size w2 w2.drew := (Below.refl _ w2).drew
  refine wp_region_held_drew (S := fun X => Below w2.heap.size w2 X) (by kernel_rfl) hSd (fun hHeld => ?_)
  refine tk 0 (.bool true) hHeld (fun w => ?_) ?_
  · go_simp
  simp only [PT]
  refine tk 1 (.bool false) hHeld (fun w => ?_) ?_
  · go_simp
  simp only [PT]
  refine tk 2 (.bool false) hHeld (fun w => ?_) ?_
  · go_simp
  simp only [PT]
  refine tk 3 (.bool true) hHeld (fun w => ?_) ?_
  · go_simp
  simp only [PT]
  refine tk 4 (.bool false) hHeld (fun w => ?_) ?_
  · go_simp
  simp only [PT]
  refine tk 5 (.bool false) hHeld (fun w => ?_) ?_
  · go_simp
  simp only [PT]
  refine tk 6 (.bool false) hHeld (fun w => ?_) ?_
  · go_simp
  simp only [PT]
  refine tk 7 (.slice (some ⟨b, off, none⟩) n c) hHeld (fun w => ?_) ?_
  · go_simp
  simp only [PT]
  refine tkS 8 (.agg #[.int .i64 s.pl, .int .i64 s.st, .int .i64 s.nx, .int .i64 s.ph, .int .i64 s.t, .int .i64 s.hd, .int .i64 s.hl, .int .i64 s.ak, .int .i64 s.wt, .bool s.sp]) hHeld (fun w hq => ?_) ?_
  · obtain ⟨z0, z1, z2, z3, z4, z5, z6, z7, z8, z9, z10⟩ := HF.out w hq
    go_simp
  simp only [PT]
  refine one_step 9 (by kernel_rfl) rfl (fun Kq hKq => ?_)
  go_simp
  go_at_call 17
  (with_reducible refine (HMY.out _ (HX2.out.trans (hSd.mono HX2.out.size))).mono ?_)
  rintro e y1 ⟨rfl, hbx⟩
  have hS1 : Below w2.heap.size w2 y1 := hSd.trans (hbx.mono hSd.size)
  clear hbx
  refine hKq.out _ _ hS1 (fun hHeld0 => ?_)
  clear hKq Kq hHeld
  have hHeld := hHeld0
  clear hHeld0
  try simp only [PT]
  refine tk 10 (.bool false) hHeld (fun w => ?_) ?_
  · go_simp
  simp only [PT]
  refine tk 11 (.bool false) hHeld (fun w => ?_) ?_
  · go_simp
  simp only [PT]
  refine tk 12 (.bool false) hHeld (fun w => ?_) ?_
  · go_simp
  simp only [PT]
  refine tk 13 (.pointer (some ⟨w.heap.size, 3, none⟩)) hHeld (fun w => ?_) ?_
  · go_simp
  simp only [PT]
  refine tkS 14 (.int .i64 s.ph) hHeld (fun w hq => ?_) ?_
  · obtain ⟨z0, z1, z2, z3, z4, z5, z6, z7, z8, z9, z10⟩ := HF.out w hq
    go_simp
  simp only [PT]
  refine tk 15 (.bool false) hHeld (fun w => ?_) ?_
  · (go_simp; try exact hph1)
  simp only [PT]
  refine tk 16 (.bool false) hHeld (fun w => ?_) ?_
  · go_simp
  simp only [PT]
  refine tk 17 (.bool false) hHeld (fun w => ?_) ?_
  · go_simp
  simp only [PT]
  refine tk 18 (.pointer (some ⟨w.heap.size, 0, none⟩)) hHeld (fun w => ?_) ?_
  · go_simp
  simp only [PT]
  refine tkS 19 (.int .i64 s.pl) hHeld (fun w hq => ?_) ?_
  · obtain ⟨z0, z1, z2, z3, z4, z5, z6, z7, z8, z9, z10⟩ := HF.out w hq
    go_simp
  simp only [PT]
  refine tk 20 (.bool false) hHeld (fun w => ?_) ?_
  · (go_simp; try omega)
  simp only [PT]
  refine tk 21 (.bool false) hHeld (fun w => ?_) ?_
  · go_simp
  simp only [PT]
  refine tk 22 (.bool false) hHeld (fun w => ?_) ?_
  · go_simp
  simp only [PT]
  refine tk 23 (.pointer (some ⟨w.heap.size, 0, none⟩)) hHeld (fun w => ?_) ?_
  · go_simp
  simp only [PT]
  refine tkS 24 (.int .i64 s.pl) hHeld (fun w hq => ?_) ?_
  · obtain ⟨z0, z1, z2, z3, z4, z5, z6, z7, z8, z9, z10⟩ := HF.out w hq
    go_simp
  simp only [PT]
  refine tk 25 (.slice (some ⟨b, off, none⟩) n c) hHeld (fun w => ?_) ?_
  · go_simp
  simp only [PT]
  refine tk 26 (.int .i64 (n : Int)) hHeld (fun w => ?_) ?_
  · go_simp
  simp only [PT]
  refine tk 27 (.bool false) hHeld (fun w => ?_) ?_
  · (go_simp; try omega)
  simp only [PT]
  refine tk 28 (.bool false) hHeld (fun w => ?_) ?_
  · go_simp
  simp only [PT]
  refine tk 29 (.bool false) hHeld (fun w => ?_) ?_
  · go_simp
  simp only [PT]
  refine tk 30 (.pointer (some ⟨w.heap.size, 1, none⟩)) hHeld (fun w => ?_) ?_
  · go_simp
  simp only [PT]
  refine tkS 31 (.int .i64 s.st) hHeld (fun w hq => ?_) ?_
  · obtain ⟨z0, z1, z2, z3, z4, z5, z6, z7, z8, z9, z10⟩ := HF.out w hq
    go_simp
  simp only [PT]
  refine tk 32 (.bool false) hHeld (fun w => ?_) ?_
  · (go_simp; try omega)
  simp only [PT]
  refine tk 33 (.bool false) hHeld (fun w => ?_) ?_
  · go_simp
  simp only [PT]
  refine tk 34 (.bool false) hHeld (fun w => ?_) ?_
  · go_simp
  simp only [PT]
  refine tk 35 (.pointer (some ⟨w.heap.size, 1, none⟩)) hHeld (fun w => ?_) ?_
  · go_simp
  simp only [PT]
  refine tkS 36 (.int .i64 s.st) hHeld (fun w hq => ?_) ?_
  · obtain ⟨z0, z1, z2, z3, z4, z5, z6, z7, z8, z9, z10⟩ := HF.out w hq
    go_simp
  simp only [PT]
  refine tk 37 (.slice (some ⟨b, off, none⟩) n c) hHeld (fun w => ?_) ?_
  · go_simp
  simp only [PT]
  refine tk 38 (.pointer (some ⟨w.heap.size, 0, none⟩)) hHeld (fun w => ?_) ?_
  · go_simp
  simp only [PT]
  refine tkS 39 (.int .i64 s.pl) hHeld (fun w hq => ?_) ?_
  · obtain ⟨z0, z1, z2, z3, z4, z5, z6, z7, z8, z9, z10⟩ := HF.out w hq
    go_simp
  simp only [PT]
  refine tk 40 (.pointer (some ⟨b, off + j * 5, none⟩)) hHeld (fun w => ?_) ?_
  · (go_simp; try rw [HJ.out]; try go_simp)
  simp only [PT]
  refine tk 41 (.pointer (some ⟨b, off + j * 5 + 1, none⟩)) hHeld (fun w => ?_) ?_
  · go_simp
  simp only [PT]
  refine tkS 42 (.slice (some ⟨bs, os, none⟩) q.k q.d) hHeld (fun w hq => ?_) ?_
  · obtain ⟨z0, z1, z2, z3, z4, z5, z6, z7, z8, z9, z10⟩ := HF.out w hq
    go_simp
  simp only [PT]
  refine tk 43 (.int .i64 (q.k : Int)) hHeld (fun w => ?_) ?_
  · go_simp
  simp only [PT]
  refine tk 44 (.bool false) hHeld (fun w => ?_) ?_
  · (go_simp; try omega)
  simp only [PT]
  refine tk 45 (.bool false) hHeld (fun w => ?_) ?_
  · go_simp
  simp only [PT]
  refine wpAnyH_done (by kernel_rfl) ?_ _
  clear hHeld
  have HX3 := Lib.hid (HX2.out.trans (hS1.mono HX2.out.size))
  obtain ⟨c0, c1, c2, c3, c4, c5, c6, c7, c8, c9⟩ := (HBS.out y1 HX3.out).cells
  go_wp2_with (first
    | (go_at_call 18
       (with_reducible refine (HTK.out _ HX3.out).mono ?_)
       rintro e w4 ⟨rfl, hbx⟩
       have HX4 := Lib.hid (HX3.out.trans (hbx.mono HX3.out.size))
       clear hbx
       try simp only [sgV]))
  obtain ⟨W5, hW5⟩ : ∃ W5, w4.alloc (.cells #[.int .i64 g.pl, .int .i64 g.st, .int .i64 g.nx, .int .i64 g.ph, .int .i64 g.t, .int .i64 g.hd, .int .i64 g.hl, .int .i64 g.ak, .int .i64 g.wt, .bool g.sp] 24) = W5 := ⟨_, rfl⟩
  have hb5 := one_alloc w4 (.cells #[.int .i64 g.pl, .int .i64 g.st, .int .i64 g.nx, .int .i64 g.ph, .int .i64 g.t, .int .i64 g.hd, .int .i64 g.hl, .int .i64 g.ak, .int .i64 g.wt, .bool g.sp] 24)
  have hbg := BoxG.new w4 g
  rw [hW5] at hb5 hbg ⊢
  have HX5 := Lib.hid (HX4.out.trans (hb5.mono HX4.out.size))
  have HG := Lib.hid (show ∀ X, Below W5.heap.size W5 X → BoxG X w4.heap.size g from fun X hX => hbg.below hX)
  have HF6 := Lib.hid (show ∀ X, Below W5.heap.size W5 X → X.cell? ⟨w.heap.size, 0, none⟩ = some (.int .i64 s.pl) ∧ X.cell? ⟨w.heap.size, 1, none⟩ = some (.int .i64 s.st) ∧ X.cell? ⟨b, off + j * 5 + 1, none⟩ = some (.slice (some ⟨bs, os, none⟩) q.k q.d) ∧ X.cell? ⟨bs, os + s.st.toNat * 3, none⟩ = some (.int .i64 x.g) ∧ X.cell? ⟨bs, os + s.st.toNat * 3 + 1, none⟩ = some (.int .i64 x.mn) ∧ X.cell? ⟨bs, os + s.st.toNat * 3 + 2, none⟩ = some (.int .i64 x.mx) from fun X hX => by
    have hX0 := HX5.out.trans (hX.mono HX5.out.size)
    exact ⟨(HBS.out X hX0).cells.c0, (HBS.out X hX0).cells.c1, HQC.out X hX0⟩)
  clear hb5 hbg hW5 c0 c1 c2 c3 c4 c5 c6 c7 c8 c9
  have hSd : Below W5.heap.size W5 W5.drew := (Below.refl _ W5).drew
  refine wp_region_held_drew (S := fun X => Below W5.heap.size W5 X) (by kernel_rfl) hSd (fun hHeld => ?_)
  refine tk 0 (.slice (some ⟨b, off, none⟩) n c) hHeld (fun w => ?_) ?_
  · go_simp
  simp only [PT]
  refine tk 1 (.pointer (some ⟨w.heap.size, 0, none⟩)) hHeld (fun w => ?_) ?_
  · go_simp
  simp only [PT]
  refine tkS 2 (.int .i64 s.pl) hHeld (fun w hq => ?_) ?_
  · obtain ⟨z0, z1, z2, z3, z4, z5⟩ := HF6.out w hq
    go_simp
  simp only [PT]
  refine tk 3 (.pointer (some ⟨b, off + j * 5, none⟩)) hHeld (fun w => ?_) ?_
  · (go_simp; try rw [HJ.out]; try go_simp)
  simp only [PT]
  refine tk 4 (.pointer (some ⟨b, off + j * 5 + 1, none⟩)) hHeld (fun w => ?_) ?_
  · go_simp
  simp only [PT]
  refine tkS 5 (.slice (some ⟨bs, os, none⟩) q.k q.d) hHeld (fun w hq => ?_) ?_
  · obtain ⟨z0, z1, z2, z3, z4, z5⟩ := HF6.out w hq
    go_simp
  simp only [PT]
  refine tk 6 (.pointer (some ⟨w.heap.size, 1, none⟩)) hHeld (fun w => ?_) ?_
  · go_simp
  simp only [PT]
  refine tkS 7 (.int .i64 s.st) hHeld (fun w hq => ?_) ?_
  · obtain ⟨z0, z1, z2, z3, z4, z5⟩ := HF6.out w hq
    go_simp
  simp only [PT]
  refine tk 8 (.pointer (some ⟨bs, os + s.st.toNat * 3, none⟩)) hHeld (fun w => ?_) ?_
  · go_simp
  simp only [PT]
  refine tkS 9 (.agg #[.int .i64 x.g, .int .i64 x.mn, .int .i64 x.mx]) hHeld (fun w hq => ?_) ?_
  · obtain ⟨z0, z1, z2, z3, z4, z5⟩ := HF6.out w hq
    go_simp
  simp only [PT]
  refine one_step 10 (by kernel_rfl) rfl (fun Kq hKq => ?_)
  go_simp
  have hS1 : Below W5.heap.size W5 (W5.drew.alloc (.cells #[.int .i64 0, .int .i64 0, .int .i64 0] 43 (0, 0))) := hSd.alloc hSd.size _
  refine hKq.out _ _ hS1 (fun hHeld0 => ?_)
  clear hKq Kq hHeld
  have hHeld := hHeld0
  clear hHeld0
  try simp only [PT]
  refine one_step 11 (by kernel_rfl) rfl (fun Kq hKq => ?_)
  refine step_store_part 43 _ _ rfl W5.heap.size 0 (.agg #[.int .i64 x.g, .int .i64 x.mn, .int .i64 x.mx]) #[.int .i64 x.g, .int .i64 x.mn, .int .i64 x.mx] rfl rfl rfl 43 #[.int .i64 0, .int .i64 0, .int .i64 0] #[.int .i64 x.g, .int .i64 x.mn, .int .i64 x.mx] (heap_alloc_new W5.drew _) info_stg3 (by simp) (one_stg3 _ _ _) rfl rfl ?_
  intro W6 hg6 hX6 hz6
  have hS2 : Below W5.heap.size W5 W6 := Below.grows hS1 hg6 hS1.size (Nat.le_refl _)
  clear hg6 hz6
  refine hKq.out _ _ hS2 (fun hHeld0 => ?_)
  clear hKq Kq hHeld
  have hHeld := hHeld0
  clear hHeld0
  try simp only [PT]
  refine wpAnyH_done (by kernel_rfl) ?_ _
  clear hHeld
  have HX6 := Lib.hid (HX5.out.trans (hS2.mono HX5.out.size))
  obtain ⟨c0, c1, c2, c3, c4, c5, c6, c7, c8, c9⟩ := (HBS.out W6 HX6.out).cells
  obtain ⟨d0, d1, d2, d3, d4, d5, d6, d7, d8, d9⟩ := (HG.out W6 hS2).cells
  have x0 : W6.cell? ⟨W5.heap.size, 0, none⟩ = some (.int .i64 x.g) := (cell_of_row _ _ _ _ _ _ hX6).trans rfl
  have x1 : W6.cell? ⟨W5.heap.size, 1, none⟩ = some (.int .i64 x.mn) := (cell_of_row _ _ _ _ _ _ hX6).trans rfl
  have x2 : W6.cell? ⟨W5.heap.size, 2, none⟩ = some (.int .i64 x.mx) := (cell_of_row _ _ _ _ _ _ hX6).trans rfl
  have t0 := HSM.out.1
  have t1 := HSM.out.2
  have w1 : wrap64 (s.t + 1) = s.t + 1 := by unfold wrap64; omega
  have k0 := HH.out.h0
  have k1 := HH.out.h1
  have k2 := HH.out.h2
  have k3 := HH.out.h3
  have k4 := HD2.out
  have w2' : wrap64 (s.hd - 1) = s.hd - 1 := by unfold wrap64; omega
  have w3 : wrap64 (s.hl + 1) = s.hl + 1 := by unfold wrap64; omega
  clear hX6
  have hu1 : ∀ b : Bool, ¬ ((undef : Value) = Value.bool b) := fun b h => by cases h
  have hu2 : ∀ b : Bool, ¬ (some (undef : Value) = some (Value.bool b)) := fun b h => by cases h
  have hcs := HCS.out
  have hcg := HCG.out
  rcases HWY.out with ⟨hd, rfl⟩ | ⟨hd, rfl, hmx⟩ | ⟨hd, hmn, hask, gp, gs, gt⟩
  · have := hcs.1; omega
  · simp only at hcg
    have : (s.ph == 0) = true := by simpa using hph1
    rw [hcg] at this
    cases this
  · clear hcg
    have gp0 : (g.ph == 0) = false := by rw [gp]; rfl
    have gp1 : (g.ph == 1) = true := by rw [gp]; rfl
    have gsb : (g.st == s.st) = true := by rw [gs]; simp
    have gtb : (g.t == 0) = true := by rw [gt]; rfl
    have hdb : (s.hd == 0) = true := by rw [hd]; rfl
    have hmb : decide (x.mn ≤ s.t + 1) = true := decide_eq_true hmn
    clear gp gs gt hd
    rw [hcs.2] at c9
    clear hask hcs
    go_wp2
    go_ret
    exact ⟨by first | rfl | simp, HB0.out.trans (HX6.out.mono HB0.out.size)⟩
end Go.Proofs.Ytcgakgbnhlmcaaa


/- The law StageGreen: sgreen_ask. -/
namespace Go.Proofs.Ytcgakgbnhlmcaaa
set_option maxRecDepth 100000
set_option linter.unusedVariables false
set_option linter.unusedSimpArgs false
open Go.RowKit

set_option maxHeartbeats 16000000 in
theorem sgreen_ask (HO : StgOk) (HT : LmpText) (A : Option Addr) (n c : Nat) (l : List Pl) (s : Sg) (w : World) (hl : Pls w A n c l) (hts : SmG s) (hfw : fewAllB l = true) (hm : mayS l s = true) (hph : s.ph = 0) (hcg : (tickS l s).ph = 1) (hcs : s.hd = 0 ∧ s.sp = false ∧ s.ak ≠ -1) :
    Calls Try.prog 5 #[.slice A n c, sgV s] w fun e w' => e = .returned (.bool true) ∧ Below w.heap.size w w' := by
  have hsm := hl.small
  have hlen := hl.len
  simp only [sgV]
  obtain ⟨W0, hW0⟩ : ∃ W0, w.alloc (.cells #[.int .i64 s.pl, .int .i64 s.st, .int .i64 s.nx, .int .i64 s.ph, .int .i64 s.t, .int .i64 s.hd, .int .i64 s.hl, .int .i64 s.ak, .int .i64 s.wt, .bool s.sp] 24) = W0 := ⟨_, rfl⟩
  have hB0 : Below w.heap.size w W0 := by rw [← hW0]; exact one_alloc w _
  have hbs : BoxG W0 w.heap.size s := by rw [← hW0]; exact BoxG.new w s
  have HPL := Lib.hid (show ∀ X, Below W0.heap.size W0 X → Pls X A n c l from fun X hX => (hl.below hB0).below hX)
  have HBS := Lib.hid (show ∀ X, Below W0.heap.size W0 X → BoxG X w.heap.size s from fun X hX => hbs.below hX)
  have HLL := Lib.hid hlen
  have HB0 := Lib.hid hB0
  have HW := Lib.hid hW0
  have HAW := Lib.hid (sawake16_any HO HT W0)
  have HFW := Lib.hid (fun X hX => pfewall_any A n c l X (HPL.out X hX))
  clear hW0 hB0 hbs hl
  rw [hfw] at HFW
  obtain ⟨hl5, hfp⟩ := fewall_iff.1 hfw
  have hn1000 : n ≤ 1000 := by omega
  have hmem : ∀ p ∈ l, p.n ≤ 1000 ∧ p.k ≤ 1000 := fun p hp => by have := hfp p hp; omega
  have HMY := Lib.hid (fun X hX => HO.may A n c l s X (HPL.out X hX) hts hn1000 hmem)
  rw [hm] at HMY
  have hms := mayS_iff.1 hm
  have hph1 : (s.ph != 0) = false := by rw [hph]; rfl
  have hways := green_ways hms hph
  have HTK := Lib.hid (fun X hX => HO.tick A n c l s X (HPL.out X hX) hts hn1000 hmem)
  obtain ⟨g, hg⟩ : ∃ g, tickS l s = g := ⟨_, rfl⟩
  rw [hg] at HTK hways hcg
  have HCG := Lib.hid hcg
  have hsml := may_small hms
  have hheld := hms.held
  have g0 := hms.p0
  have g1 : s.pl < n := by have := hms.p1; rw [hlen] at this; exact this
  obtain ⟨j, hj⟩ := Int.eq_ofNat_of_zero_le g0
  have hjn : j < n := by omega
  obtain ⟨q1, q2⟩ := plan_of (HPL.out W0 (Below.refl _ _)) hjn
  rw [← hj] at q1 q2
  have hs0 := hms.range.s0
  have hs1 := hms.range.s1
  have hfit := plan_fit hms
  obtain ⟨q, hq⟩ : ∃ q, planAt l s.pl = q := ⟨_, rfl⟩
  rw [hq] at hways q1 q2 hs1 hfit hheld
  have hhd2 := (fit_iff.1 hfit).hd2
  have hqk := q1.s.len
  have hst1 : s.st < q.k := by rw [hqk] at hs1; exact hs1
  obtain ⟨b, off, p0, rfl, -⟩ := (HPL.out W0 (Below.refl _ _)).at_ 0 (by omega)
  obtain ⟨bs, os, x, hB, hx, -, -, -, -, -⟩ := q1.s.at_ s.st.toNat (by omega)
  have hxs : stgAt q s.st = x := hx
  rw [hxs] at hways
  have HQC := Lib.hid (show ∀ X, Below W0.heap.size W0 X → X.cell? ⟨b, off + j * 5 + 1, none⟩ = some (.slice (some ⟨bs, os, none⟩) q.k q.d) ∧ X.cell? ⟨bs, os + s.st.toNat * 3, none⟩ = some (.int .i64 x.g) ∧ X.cell? ⟨bs, os + s.st.toNat * 3 + 1, none⟩ = some (.int .i64 x.mn) ∧ X.cell? ⟨bs, os + s.st.toNat * 3 + 2, none⟩ = some (.int .i64 x.mx) from fun X hX => by
    obtain ⟨b2, off2, p2, hA2, hp2, hm2, -, hi2, z0, z1, z2, z3, z4⟩ := (HPL.out X hX).at_ j hjn
    cases hA2
    have hqe : q = p2 := by rw [← hq, hj, planAt, Int.toNat_natCast, hp2]
    rw [← hqe] at z1 hi2
    obtain ⟨b3, off3, x2, hB2, hx2, -, -, y0, y1, y2⟩ := hi2.s.at_ s.st.toNat (by omega)
    rw [hB] at hB2
    cases hB2
    obtain rfl := hx.symm.trans hx2
    rw [hB] at z1
    exact ⟨z1, y0, y1, y2⟩)
  have hstn : (s.st.toNat : Int) = s.st := Int.toNat_of_nonneg hs0
  have hstk : s.st.toNat < q.k := by omega
  simp only [GivesG, sgV] at HTK HMY
  have HH := Lib.hid hheld
  have HWY := Lib.hid hways
  have HSM := Lib.hid hsml
  have HCS := Lib.hid hcs
  have HD2 := Lib.hid hhd2
  have HJ := Lib.hid hj
  clear hj hm hmem hfp hfw hms hg hcg hcs q1 q2 hq hx hxs hB hheld hways hsml hfit hqk hs1 hph hhd2
  go_enter Try.func5, Try.ntmps5
  go_wp2_with (first
    | (go_at_call 9
       rw [HW.out]
       (with_reducible refine (HAW.out).mono ?_)
       rintro e w1 ⟨rfl, hbx⟩
       have HX1 := Lib.hid hbx
       clear hbx)
    | (go_at_call 10
       (with_reducible refine (HFW.out _ HX1.out).mono ?_)
       rintro e w2 ⟨rfl, hbx⟩
       have HX2 := Lib.hid (HX1.out.trans (hbx.mono HX1.out.size))
       clear hbx))
  have HF := Lib.hid (show ∀ X, Below w2.heap.size w2 X → X.cell? ⟨w.heap.size, 0, none⟩ = some (.int .i64 s.pl) ∧ X.cell? ⟨w.heap.size, 1, none⟩ = some (.int .i64 s.st) ∧ X.cell? ⟨w.heap.size, 2, none⟩ = some (.int .i64 s.nx) ∧ X.cell? ⟨w.heap.size, 3, none⟩ = some (.int .i64 s.ph) ∧ X.cell? ⟨w.heap.size, 4, none⟩ = some (.int .i64 s.t) ∧ X.cell? ⟨w.heap.size, 5, none⟩ = some (.int .i64 s.hd) ∧ X.cell? ⟨w.heap.size, 6, none⟩ = some (.int .i64 s.hl) ∧ X.cell? ⟨w.heap.size, 7, none⟩ = some (.int .i64 s.ak) ∧ X.cell? ⟨w.heap.size, 8, none⟩ = some (.int .i64 s.wt) ∧ X.cell? ⟨w.heap.size, 9, none⟩ = some (.bool s.sp) ∧ X.cell? ⟨b, off + j * 5 + 1, none⟩ = some (.slice (some ⟨bs, os, none⟩) q.k q.d) from fun X hX => by
    have hX0 := HX2.out.trans (hX.mono HX2.out.size)
    obtain ⟨y0, y1, y2, y3, y4, y5, y6, y7, y8, y9⟩ := (HBS.out X hX0).cells
    exact ⟨y0, y1, y2, y3, y4, y5, y6, y7, y8, y9, (HQC.out X hX0).1⟩)
  have hSd : Below w2.heap.size w2 w2.drew := (Below.refl _ w2).drew
  refine wp_region_held_drew (S := fun X => Below w2.heap.size w2 X) (by kernel_rfl) hSd (fun hHeld => ?_)
  refine tk 0 (.bool true) hHeld (fun w => ?_) ?_
  · go_simp
  simp only [PT]
  refine tk 1 (.bool false) hHeld (fun w => ?_) ?_
  · go_simp
  simp only [PT]
  refine tk 2 (.bool false) hHeld (fun w => ?_) ?_
  · go_simp
  simp only [PT]
  refine tk 3 (.bool true) hHeld (fun w => ?_) ?_
  · go_simp
  simp only [PT]
  refine tk 4 (.bool false) hHeld (fun w => ?_) ?_
  · go_simp
  simp only [PT]
  refine tk 5 (.bool false) hHeld (fun w => ?_) ?_
  · go_simp
  simp only [PT]
  refine tk 6 (.bool false) hHeld (fun w => ?_) ?_
  · go_simp
  simp only [PT]
  refine tk 7 (.slice (some ⟨b, off, none⟩) n c) hHeld (fun w => ?_) ?_
  · go_simp
  simp only [PT]
  refine tkS 8 (.agg #[.int .i64 s.pl, .int .i64 s.st, .int .i64 s.nx, .int .i64 s.ph, .int .i64 s.t, .int .i64 s.hd, .int .i64 s.hl, .int .i64 s.ak, .int .i64 s.wt, .bool s.sp]) hHeld (fun w hq => ?_) ?_
  · obtain ⟨z0, z1, z2, z3, z4, z5, z6, z7, z8, z9, z10⟩ := HF.out w hq
    go_simp
  simp only [PT]
  refine one_step 9 (by kernel_rfl) rfl (fun Kq hKq => ?_)
  go_simp
  go_at_call 17
  (with_reducible refine (HMY.out _ (HX2.out.trans (hSd.mono HX2.out.size))).mono ?_)
  rintro e y1 ⟨rfl, hbx⟩
  have hS1 : Below w2.heap.size w2 y1 := hSd.trans (hbx.mono hSd.size)
  clear hbx
  refine hKq.out _ _ hS1 (fun hHeld0 => ?_)
  clear hKq Kq hHeld
  have hHeld := hHeld0
  clear hHeld0
  try simp only [PT]
  refine tk 10 (.bool false) hHeld (fun w => ?_) ?_
  · go_simp
  simp only [PT]
  refine tk 11 (.bool false) hHeld (fun w => ?_) ?_
  · go_simp
  simp only [PT]
  refine tk 12 (.bool false) hHeld (fun w => ?_) ?_
  · go_simp
  simp only [PT]
  refine tk 13 (.pointer (some ⟨w.heap.size, 3, none⟩)) hHeld (fun w => ?_) ?_
  · go_simp
  simp only [PT]
  refine tkS 14 (.int .i64 s.ph) hHeld (fun w hq => ?_) ?_
  · obtain ⟨z0, z1, z2, z3, z4, z5, z6, z7, z8, z9, z10⟩ := HF.out w hq
    go_simp
  simp only [PT]
  refine tk 15 (.bool false) hHeld (fun w => ?_) ?_
  · (go_simp; try exact hph1)
  simp only [PT]
  refine tk 16 (.bool false) hHeld (fun w => ?_) ?_
  · go_simp
  simp only [PT]
  refine tk 17 (.bool false) hHeld (fun w => ?_) ?_
  · go_simp
  simp only [PT]
  refine tk 18 (.pointer (some ⟨w.heap.size, 0, none⟩)) hHeld (fun w => ?_) ?_
  · go_simp
  simp only [PT]
  refine tkS 19 (.int .i64 s.pl) hHeld (fun w hq => ?_) ?_
  · obtain ⟨z0, z1, z2, z3, z4, z5, z6, z7, z8, z9, z10⟩ := HF.out w hq
    go_simp
  simp only [PT]
  refine tk 20 (.bool false) hHeld (fun w => ?_) ?_
  · (go_simp; try omega)
  simp only [PT]
  refine tk 21 (.bool false) hHeld (fun w => ?_) ?_
  · go_simp
  simp only [PT]
  refine tk 22 (.bool false) hHeld (fun w => ?_) ?_
  · go_simp
  simp only [PT]
  refine tk 23 (.pointer (some ⟨w.heap.size, 0, none⟩)) hHeld (fun w => ?_) ?_
  · go_simp
  simp only [PT]
  refine tkS 24 (.int .i64 s.pl) hHeld (fun w hq => ?_) ?_
  · obtain ⟨z0, z1, z2, z3, z4, z5, z6, z7, z8, z9, z10⟩ := HF.out w hq
    go_simp
  simp only [PT]
  refine tk 25 (.slice (some ⟨b, off, none⟩) n c) hHeld (fun w => ?_) ?_
  · go_simp
  simp only [PT]
  refine tk 26 (.int .i64 (n : Int)) hHeld (fun w => ?_) ?_
  · go_simp
  simp only [PT]
  refine tk 27 (.bool false) hHeld (fun w => ?_) ?_
  · (go_simp; try omega)
  simp only [PT]
  refine tk 28 (.bool false) hHeld (fun w => ?_) ?_
  · go_simp
  simp only [PT]
  refine tk 29 (.bool false) hHeld (fun w => ?_) ?_
  · go_simp
  simp only [PT]
  refine tk 30 (.pointer (some ⟨w.heap.size, 1, none⟩)) hHeld (fun w => ?_) ?_
  · go_simp
  simp only [PT]
  refine tkS 31 (.int .i64 s.st) hHeld (fun w hq => ?_) ?_
  · obtain ⟨z0, z1, z2, z3, z4, z5, z6, z7, z8, z9, z10⟩ := HF.out w hq
    go_simp
  simp only [PT]
  refine tk 32 (.bool false) hHeld (fun w => ?_) ?_
  · (go_simp; try omega)
  simp only [PT]
  refine tk 33 (.bool false) hHeld (fun w => ?_) ?_
  · go_simp
  simp only [PT]
  refine tk 34 (.bool false) hHeld (fun w => ?_) ?_
  · go_simp
  simp only [PT]
  refine tk 35 (.pointer (some ⟨w.heap.size, 1, none⟩)) hHeld (fun w => ?_) ?_
  · go_simp
  simp only [PT]
  refine tkS 36 (.int .i64 s.st) hHeld (fun w hq => ?_) ?_
  · obtain ⟨z0, z1, z2, z3, z4, z5, z6, z7, z8, z9, z10⟩ := HF.out w hq
    go_simp
  simp only [PT]
  refine tk 37 (.slice (some ⟨b, off, none⟩) n c) hHeld (fun w => ?_) ?_
  · go_simp
  simp only [PT]
  refine tk 38 (.pointer (some ⟨w.heap.size, 0, none⟩)) hHeld (fun w => ?_) ?_
  · go_simp
  simp only [PT]
  refine tkS 39 (.int .i64 s.pl) hHeld (fun w hq => ?_) ?_
  · obtain ⟨z0, z1, z2, z3, z4, z5, z6, z7, z8, z9, z10⟩ := HF.out w hq
    go_simp
  simp only [PT]
  refine tk 40 (.pointer (some ⟨b, off + j * 5, none⟩)) hHeld (fun w => ?_) ?_
  · (go_simp; try rw [HJ.out]; try go_simp)
  simp only [PT]
  refine tk 41 (.pointer (some ⟨b, off + j * 5 + 1, none⟩)) hHeld (fun w => ?_) ?_
  · go_simp
  simp only [PT]
  refine tkS 42 (.slice (some ⟨bs, os, none⟩) q.k q.d) hHeld (fun w hq => ?_) ?_
  · obtain ⟨z0, z1, z2, z3, z4, z5, z6, z7, z8, z9, z10⟩ := HF.out w hq
    go_simp
  simp only [PT]
  refine tk 43 (.int .i64 (q.k : Int)) hHeld (fun w => ?_) ?_
  · go_simp
  simp only [PT]
  refine tk 44 (.bool false) hHeld (fun w => ?_) ?_
  · (go_simp; try omega)
  simp only [PT]
  refine tk 45 (.bool false) hHeld (fun w => ?_) ?_
  · go_simp
  simp only [PT]
  refine wpAnyH_done (by kernel_rfl) ?_ _
  clear hHeld
  have HX3 := Lib.hid (HX2.out.trans (hS1.mono HX2.out.size))
  obtain ⟨c0, c1, c2, c3, c4, c5, c6, c7, c8, c9⟩ := (HBS.out y1 HX3.out).cells
  go_wp2_with (first
    | (go_at_call 18
       (with_reducible refine (HTK.out _ HX3.out).mono ?_)
       rintro e w4 ⟨rfl, hbx⟩
       have HX4 := Lib.hid (HX3.out.trans (hbx.mono HX3.out.size))
       clear hbx
       try simp only [sgV]))
  obtain ⟨W5, hW5⟩ : ∃ W5, w4.alloc (.cells #[.int .i64 g.pl, .int .i64 g.st, .int .i64 g.nx, .int .i64 g.ph, .int .i64 g.t, .int .i64 g.hd, .int .i64 g.hl, .int .i64 g.ak, .int .i64 g.wt, .bool g.sp] 24) = W5 := ⟨_, rfl⟩
  have hb5 := one_alloc w4 (.cells #[.int .i64 g.pl, .int .i64 g.st, .int .i64 g.nx, .int .i64 g.ph, .int .i64 g.t, .int .i64 g.hd, .int .i64 g.hl, .int .i64 g.ak, .int .i64 g.wt, .bool g.sp] 24)
  have hbg := BoxG.new w4 g
  rw [hW5] at hb5 hbg ⊢
  have HX5 := Lib.hid (HX4.out.trans (hb5.mono HX4.out.size))
  have HG := Lib.hid (show ∀ X, Below W5.heap.size W5 X → BoxG X w4.heap.size g from fun X hX => hbg.below hX)
  have HF6 := Lib.hid (show ∀ X, Below W5.heap.size W5 X → X.cell? ⟨w.heap.size, 0, none⟩ = some (.int .i64 s.pl) ∧ X.cell? ⟨w.heap.size, 1, none⟩ = some (.int .i64 s.st) ∧ X.cell? ⟨b, off + j * 5 + 1, none⟩ = some (.slice (some ⟨bs, os, none⟩) q.k q.d) ∧ X.cell? ⟨bs, os + s.st.toNat * 3, none⟩ = some (.int .i64 x.g) ∧ X.cell? ⟨bs, os + s.st.toNat * 3 + 1, none⟩ = some (.int .i64 x.mn) ∧ X.cell? ⟨bs, os + s.st.toNat * 3 + 2, none⟩ = some (.int .i64 x.mx) from fun X hX => by
    have hX0 := HX5.out.trans (hX.mono HX5.out.size)
    exact ⟨(HBS.out X hX0).cells.c0, (HBS.out X hX0).cells.c1, HQC.out X hX0⟩)
  clear hb5 hbg hW5 c0 c1 c2 c3 c4 c5 c6 c7 c8 c9
  have hSd : Below W5.heap.size W5 W5.drew := (Below.refl _ W5).drew
  refine wp_region_held_drew (S := fun X => Below W5.heap.size W5 X) (by kernel_rfl) hSd (fun hHeld => ?_)
  refine tk 0 (.slice (some ⟨b, off, none⟩) n c) hHeld (fun w => ?_) ?_
  · go_simp
  simp only [PT]
  refine tk 1 (.pointer (some ⟨w.heap.size, 0, none⟩)) hHeld (fun w => ?_) ?_
  · go_simp
  simp only [PT]
  refine tkS 2 (.int .i64 s.pl) hHeld (fun w hq => ?_) ?_
  · obtain ⟨z0, z1, z2, z3, z4, z5⟩ := HF6.out w hq
    go_simp
  simp only [PT]
  refine tk 3 (.pointer (some ⟨b, off + j * 5, none⟩)) hHeld (fun w => ?_) ?_
  · (go_simp; try rw [HJ.out]; try go_simp)
  simp only [PT]
  refine tk 4 (.pointer (some ⟨b, off + j * 5 + 1, none⟩)) hHeld (fun w => ?_) ?_
  · go_simp
  simp only [PT]
  refine tkS 5 (.slice (some ⟨bs, os, none⟩) q.k q.d) hHeld (fun w hq => ?_) ?_
  · obtain ⟨z0, z1, z2, z3, z4, z5⟩ := HF6.out w hq
    go_simp
  simp only [PT]
  refine tk 6 (.pointer (some ⟨w.heap.size, 1, none⟩)) hHeld (fun w => ?_) ?_
  · go_simp
  simp only [PT]
  refine tkS 7 (.int .i64 s.st) hHeld (fun w hq => ?_) ?_
  · obtain ⟨z0, z1, z2, z3, z4, z5⟩ := HF6.out w hq
    go_simp
  simp only [PT]
  refine tk 8 (.pointer (some ⟨bs, os + s.st.toNat * 3, none⟩)) hHeld (fun w => ?_) ?_
  · go_simp
  simp only [PT]
  refine tkS 9 (.agg #[.int .i64 x.g, .int .i64 x.mn, .int .i64 x.mx]) hHeld (fun w hq => ?_) ?_
  · obtain ⟨z0, z1, z2, z3, z4, z5⟩ := HF6.out w hq
    go_simp
  simp only [PT]
  refine one_step 10 (by kernel_rfl) rfl (fun Kq hKq => ?_)
  go_simp
  have hS1 : Below W5.heap.size W5 (W5.drew.alloc (.cells #[.int .i64 0, .int .i64 0, .int .i64 0] 43 (0, 0))) := hSd.alloc hSd.size _
  refine hKq.out _ _ hS1 (fun hHeld0 => ?_)
  clear hKq Kq hHeld
  have hHeld := hHeld0
  clear hHeld0
  try simp only [PT]
  refine one_step 11 (by kernel_rfl) rfl (fun Kq hKq => ?_)
  refine step_store_part 43 _ _ rfl W5.heap.size 0 (.agg #[.int .i64 x.g, .int .i64 x.mn, .int .i64 x.mx]) #[.int .i64 x.g, .int .i64 x.mn, .int .i64 x.mx] rfl rfl rfl 43 #[.int .i64 0, .int .i64 0, .int .i64 0] #[.int .i64 x.g, .int .i64 x.mn, .int .i64 x.mx] (heap_alloc_new W5.drew _) info_stg3 (by simp) (one_stg3 _ _ _) rfl rfl ?_
  intro W6 hg6 hX6 hz6
  have hS2 : Below W5.heap.size W5 W6 := Below.grows hS1 hg6 hS1.size (Nat.le_refl _)
  clear hg6 hz6
  refine hKq.out _ _ hS2 (fun hHeld0 => ?_)
  clear hKq Kq hHeld
  have hHeld := hHeld0
  clear hHeld0
  try simp only [PT]
  refine wpAnyH_done (by kernel_rfl) ?_ _
  clear hHeld
  have HX6 := Lib.hid (HX5.out.trans (hS2.mono HX5.out.size))
  obtain ⟨c0, c1, c2, c3, c4, c5, c6, c7, c8, c9⟩ := (HBS.out W6 HX6.out).cells
  obtain ⟨d0, d1, d2, d3, d4, d5, d6, d7, d8, d9⟩ := (HG.out W6 hS2).cells
  have x0 : W6.cell? ⟨W5.heap.size, 0, none⟩ = some (.int .i64 x.g) := (cell_of_row _ _ _ _ _ _ hX6).trans rfl
  have x1 : W6.cell? ⟨W5.heap.size, 1, none⟩ = some (.int .i64 x.mn) := (cell_of_row _ _ _ _ _ _ hX6).trans rfl
  have x2 : W6.cell? ⟨W5.heap.size, 2, none⟩ = some (.int .i64 x.mx) := (cell_of_row _ _ _ _ _ _ hX6).trans rfl
  have t0 := HSM.out.1
  have t1 := HSM.out.2
  have w1 : wrap64 (s.t + 1) = s.t + 1 := by unfold wrap64; omega
  have k0 := HH.out.h0
  have k1 := HH.out.h1
  have k2 := HH.out.h2
  have k3 := HH.out.h3
  have k4 := HD2.out
  have w2' : wrap64 (s.hd - 1) = s.hd - 1 := by unfold wrap64; omega
  have w3 : wrap64 (s.hl + 1) = s.hl + 1 := by unfold wrap64; omega
  clear hX6
  have hu1 : ∀ b : Bool, ¬ ((undef : Value) = Value.bool b) := fun b h => by cases h
  have hu2 : ∀ b : Bool, ¬ (some (undef : Value) = some (Value.bool b)) := fun b h => by cases h
  have hcs := HCS.out
  have hcg := HCG.out
  rcases HWY.out with ⟨hd, rfl⟩ | ⟨hd, rfl, hmx⟩ | ⟨hd, hmn, hask, gp, gs, gt⟩
  · have := hcs.1; omega
  · simp only at hcg
    have : (s.ph == 0) = true := by simpa using hph1
    rw [hcg] at this
    cases this
  · clear hcg
    have gp0 : (g.ph == 0) = false := by rw [gp]; rfl
    have gp1 : (g.ph == 1) = true := by rw [gp]; rfl
    have gsb : (g.st == s.st) = true := by rw [gs]; simp
    have gtb : (g.t == 0) = true := by rw [gt]; rfl
    have hdb : (s.hd == 0) = true := by rw [hd]; rfl
    have hmb : decide (x.mn ≤ s.t + 1) = true := decide_eq_true hmn
    clear gp gs gt hd
    rw [hcs.2.1] at c9
    have hab : (s.ak != -1) = true := by rw [bne_iff_ne]; exact hcs.2.2
    clear hask hcs
    go_wp2
    go_ret
    exact ⟨by first | rfl | simp, HB0.out.trans (HX6.out.mono HB0.out.size)⟩
end Go.Proofs.Ytcgakgbnhlmcaaa


/- The law StageGreen: sgreen_want. -/
namespace Go.Proofs.Ytcgakgbnhlmcaaa
set_option maxRecDepth 100000
set_option linter.unusedVariables false
set_option linter.unusedSimpArgs false
open Go.RowKit

set_option maxHeartbeats 16000000 in
theorem sgreen_want (HO : StgOk) (HT : LmpText) (A : Option Addr) (n c : Nat) (l : List Pl) (s : Sg) (w : World) (hl : Pls w A n c l) (hts : SmG s) (hfw : fewAllB l = true) (hm : mayS l s = true) (hph : s.ph = 0) (hcg : (tickS l s).ph = 1) (hcs : s.hd = 0 ∧ s.sp = false ∧ s.ak = -1 ∧ s.wt ≠ -1) :
    Calls Try.prog 5 #[.slice A n c, sgV s] w fun e w' => e = .returned (.bool true) ∧ Below w.heap.size w w' := by
  have hsm := hl.small
  have hlen := hl.len
  simp only [sgV]
  obtain ⟨W0, hW0⟩ : ∃ W0, w.alloc (.cells #[.int .i64 s.pl, .int .i64 s.st, .int .i64 s.nx, .int .i64 s.ph, .int .i64 s.t, .int .i64 s.hd, .int .i64 s.hl, .int .i64 s.ak, .int .i64 s.wt, .bool s.sp] 24) = W0 := ⟨_, rfl⟩
  have hB0 : Below w.heap.size w W0 := by rw [← hW0]; exact one_alloc w _
  have hbs : BoxG W0 w.heap.size s := by rw [← hW0]; exact BoxG.new w s
  have HPL := Lib.hid (show ∀ X, Below W0.heap.size W0 X → Pls X A n c l from fun X hX => (hl.below hB0).below hX)
  have HBS := Lib.hid (show ∀ X, Below W0.heap.size W0 X → BoxG X w.heap.size s from fun X hX => hbs.below hX)
  have HLL := Lib.hid hlen
  have HB0 := Lib.hid hB0
  have HW := Lib.hid hW0
  have HAW := Lib.hid (sawake16_any HO HT W0)
  have HFW := Lib.hid (fun X hX => pfewall_any A n c l X (HPL.out X hX))
  clear hW0 hB0 hbs hl
  rw [hfw] at HFW
  obtain ⟨hl5, hfp⟩ := fewall_iff.1 hfw
  have hn1000 : n ≤ 1000 := by omega
  have hmem : ∀ p ∈ l, p.n ≤ 1000 ∧ p.k ≤ 1000 := fun p hp => by have := hfp p hp; omega
  have HMY := Lib.hid (fun X hX => HO.may A n c l s X (HPL.out X hX) hts hn1000 hmem)
  rw [hm] at HMY
  have hms := mayS_iff.1 hm
  have hph1 : (s.ph != 0) = false := by rw [hph]; rfl
  have hways := green_ways hms hph
  have HTK := Lib.hid (fun X hX => HO.tick A n c l s X (HPL.out X hX) hts hn1000 hmem)
  obtain ⟨g, hg⟩ : ∃ g, tickS l s = g := ⟨_, rfl⟩
  rw [hg] at HTK hways hcg
  have HCG := Lib.hid hcg
  have hsml := may_small hms
  have hheld := hms.held
  have g0 := hms.p0
  have g1 : s.pl < n := by have := hms.p1; rw [hlen] at this; exact this
  obtain ⟨j, hj⟩ := Int.eq_ofNat_of_zero_le g0
  have hjn : j < n := by omega
  obtain ⟨q1, q2⟩ := plan_of (HPL.out W0 (Below.refl _ _)) hjn
  rw [← hj] at q1 q2
  have hs0 := hms.range.s0
  have hs1 := hms.range.s1
  have hfit := plan_fit hms
  obtain ⟨q, hq⟩ : ∃ q, planAt l s.pl = q := ⟨_, rfl⟩
  rw [hq] at hways q1 q2 hs1 hfit hheld
  have hhd2 := (fit_iff.1 hfit).hd2
  have hqk := q1.s.len
  have hst1 : s.st < q.k := by rw [hqk] at hs1; exact hs1
  obtain ⟨b, off, p0, rfl, -⟩ := (HPL.out W0 (Below.refl _ _)).at_ 0 (by omega)
  obtain ⟨bs, os, x, hB, hx, -, -, -, -, -⟩ := q1.s.at_ s.st.toNat (by omega)
  have hxs : stgAt q s.st = x := hx
  rw [hxs] at hways
  have HQC := Lib.hid (show ∀ X, Below W0.heap.size W0 X → X.cell? ⟨b, off + j * 5 + 1, none⟩ = some (.slice (some ⟨bs, os, none⟩) q.k q.d) ∧ X.cell? ⟨bs, os + s.st.toNat * 3, none⟩ = some (.int .i64 x.g) ∧ X.cell? ⟨bs, os + s.st.toNat * 3 + 1, none⟩ = some (.int .i64 x.mn) ∧ X.cell? ⟨bs, os + s.st.toNat * 3 + 2, none⟩ = some (.int .i64 x.mx) from fun X hX => by
    obtain ⟨b2, off2, p2, hA2, hp2, hm2, -, hi2, z0, z1, z2, z3, z4⟩ := (HPL.out X hX).at_ j hjn
    cases hA2
    have hqe : q = p2 := by rw [← hq, hj, planAt, Int.toNat_natCast, hp2]
    rw [← hqe] at z1 hi2
    obtain ⟨b3, off3, x2, hB2, hx2, -, -, y0, y1, y2⟩ := hi2.s.at_ s.st.toNat (by omega)
    rw [hB] at hB2
    cases hB2
    obtain rfl := hx.symm.trans hx2
    rw [hB] at z1
    exact ⟨z1, y0, y1, y2⟩)
  have hstn : (s.st.toNat : Int) = s.st := Int.toNat_of_nonneg hs0
  have hstk : s.st.toNat < q.k := by omega
  simp only [GivesG, sgV] at HTK HMY
  have HH := Lib.hid hheld
  have HWY := Lib.hid hways
  have HSM := Lib.hid hsml
  have HCS := Lib.hid hcs
  have HD2 := Lib.hid hhd2
  have HJ := Lib.hid hj
  clear hj hm hmem hfp hfw hms hg hcg hcs q1 q2 hq hx hxs hB hheld hways hsml hfit hqk hs1 hph hhd2
  go_enter Try.func5, Try.ntmps5
  go_wp2_with (first
    | (go_at_call 9
       rw [HW.out]
       (with_reducible refine (HAW.out).mono ?_)
       rintro e w1 ⟨rfl, hbx⟩
       have HX1 := Lib.hid hbx
       clear hbx)
    | (go_at_call 10
       (with_reducible refine (HFW.out _ HX1.out).mono ?_)
       rintro e w2 ⟨rfl, hbx⟩
       have HX2 := Lib.hid (HX1.out.trans (hbx.mono HX1.out.size))
       clear hbx))
  have HF := Lib.hid (show ∀ X, Below w2.heap.size w2 X → X.cell? ⟨w.heap.size, 0, none⟩ = some (.int .i64 s.pl) ∧ X.cell? ⟨w.heap.size, 1, none⟩ = some (.int .i64 s.st) ∧ X.cell? ⟨w.heap.size, 2, none⟩ = some (.int .i64 s.nx) ∧ X.cell? ⟨w.heap.size, 3, none⟩ = some (.int .i64 s.ph) ∧ X.cell? ⟨w.heap.size, 4, none⟩ = some (.int .i64 s.t) ∧ X.cell? ⟨w.heap.size, 5, none⟩ = some (.int .i64 s.hd) ∧ X.cell? ⟨w.heap.size, 6, none⟩ = some (.int .i64 s.hl) ∧ X.cell? ⟨w.heap.size, 7, none⟩ = some (.int .i64 s.ak) ∧ X.cell? ⟨w.heap.size, 8, none⟩ = some (.int .i64 s.wt) ∧ X.cell? ⟨w.heap.size, 9, none⟩ = some (.bool s.sp) ∧ X.cell? ⟨b, off + j * 5 + 1, none⟩ = some (.slice (some ⟨bs, os, none⟩) q.k q.d) from fun X hX => by
    have hX0 := HX2.out.trans (hX.mono HX2.out.size)
    obtain ⟨y0, y1, y2, y3, y4, y5, y6, y7, y8, y9⟩ := (HBS.out X hX0).cells
    exact ⟨y0, y1, y2, y3, y4, y5, y6, y7, y8, y9, (HQC.out X hX0).1⟩)
  have hSd : Below w2.heap.size w2 w2.drew := (Below.refl _ w2).drew
  refine wp_region_held_drew (S := fun X => Below w2.heap.size w2 X) (by kernel_rfl) hSd (fun hHeld => ?_)
  refine tk 0 (.bool true) hHeld (fun w => ?_) ?_
  · go_simp
  simp only [PT]
  refine tk 1 (.bool false) hHeld (fun w => ?_) ?_
  · go_simp
  simp only [PT]
  refine tk 2 (.bool false) hHeld (fun w => ?_) ?_
  · go_simp
  simp only [PT]
  refine tk 3 (.bool true) hHeld (fun w => ?_) ?_
  · go_simp
  simp only [PT]
  refine tk 4 (.bool false) hHeld (fun w => ?_) ?_
  · go_simp
  simp only [PT]
  refine tk 5 (.bool false) hHeld (fun w => ?_) ?_
  · go_simp
  simp only [PT]
  refine tk 6 (.bool false) hHeld (fun w => ?_) ?_
  · go_simp
  simp only [PT]
  refine tk 7 (.slice (some ⟨b, off, none⟩) n c) hHeld (fun w => ?_) ?_
  · go_simp
  simp only [PT]
  refine tkS 8 (.agg #[.int .i64 s.pl, .int .i64 s.st, .int .i64 s.nx, .int .i64 s.ph, .int .i64 s.t, .int .i64 s.hd, .int .i64 s.hl, .int .i64 s.ak, .int .i64 s.wt, .bool s.sp]) hHeld (fun w hq => ?_) ?_
  · obtain ⟨z0, z1, z2, z3, z4, z5, z6, z7, z8, z9, z10⟩ := HF.out w hq
    go_simp
  simp only [PT]
  refine one_step 9 (by kernel_rfl) rfl (fun Kq hKq => ?_)
  go_simp
  go_at_call 17
  (with_reducible refine (HMY.out _ (HX2.out.trans (hSd.mono HX2.out.size))).mono ?_)
  rintro e y1 ⟨rfl, hbx⟩
  have hS1 : Below w2.heap.size w2 y1 := hSd.trans (hbx.mono hSd.size)
  clear hbx
  refine hKq.out _ _ hS1 (fun hHeld0 => ?_)
  clear hKq Kq hHeld
  have hHeld := hHeld0
  clear hHeld0
  try simp only [PT]
  refine tk 10 (.bool false) hHeld (fun w => ?_) ?_
  · go_simp
  simp only [PT]
  refine tk 11 (.bool false) hHeld (fun w => ?_) ?_
  · go_simp
  simp only [PT]
  refine tk 12 (.bool false) hHeld (fun w => ?_) ?_
  · go_simp
  simp only [PT]
  refine tk 13 (.pointer (some ⟨w.heap.size, 3, none⟩)) hHeld (fun w => ?_) ?_
  · go_simp
  simp only [PT]
  refine tkS 14 (.int .i64 s.ph) hHeld (fun w hq => ?_) ?_
  · obtain ⟨z0, z1, z2, z3, z4, z5, z6, z7, z8, z9, z10⟩ := HF.out w hq
    go_simp
  simp only [PT]
  refine tk 15 (.bool false) hHeld (fun w => ?_) ?_
  · (go_simp; try exact hph1)
  simp only [PT]
  refine tk 16 (.bool false) hHeld (fun w => ?_) ?_
  · go_simp
  simp only [PT]
  refine tk 17 (.bool false) hHeld (fun w => ?_) ?_
  · go_simp
  simp only [PT]
  refine tk 18 (.pointer (some ⟨w.heap.size, 0, none⟩)) hHeld (fun w => ?_) ?_
  · go_simp
  simp only [PT]
  refine tkS 19 (.int .i64 s.pl) hHeld (fun w hq => ?_) ?_
  · obtain ⟨z0, z1, z2, z3, z4, z5, z6, z7, z8, z9, z10⟩ := HF.out w hq
    go_simp
  simp only [PT]
  refine tk 20 (.bool false) hHeld (fun w => ?_) ?_
  · (go_simp; try omega)
  simp only [PT]
  refine tk 21 (.bool false) hHeld (fun w => ?_) ?_
  · go_simp
  simp only [PT]
  refine tk 22 (.bool false) hHeld (fun w => ?_) ?_
  · go_simp
  simp only [PT]
  refine tk 23 (.pointer (some ⟨w.heap.size, 0, none⟩)) hHeld (fun w => ?_) ?_
  · go_simp
  simp only [PT]
  refine tkS 24 (.int .i64 s.pl) hHeld (fun w hq => ?_) ?_
  · obtain ⟨z0, z1, z2, z3, z4, z5, z6, z7, z8, z9, z10⟩ := HF.out w hq
    go_simp
  simp only [PT]
  refine tk 25 (.slice (some ⟨b, off, none⟩) n c) hHeld (fun w => ?_) ?_
  · go_simp
  simp only [PT]
  refine tk 26 (.int .i64 (n : Int)) hHeld (fun w => ?_) ?_
  · go_simp
  simp only [PT]
  refine tk 27 (.bool false) hHeld (fun w => ?_) ?_
  · (go_simp; try omega)
  simp only [PT]
  refine tk 28 (.bool false) hHeld (fun w => ?_) ?_
  · go_simp
  simp only [PT]
  refine tk 29 (.bool false) hHeld (fun w => ?_) ?_
  · go_simp
  simp only [PT]
  refine tk 30 (.pointer (some ⟨w.heap.size, 1, none⟩)) hHeld (fun w => ?_) ?_
  · go_simp
  simp only [PT]
  refine tkS 31 (.int .i64 s.st) hHeld (fun w hq => ?_) ?_
  · obtain ⟨z0, z1, z2, z3, z4, z5, z6, z7, z8, z9, z10⟩ := HF.out w hq
    go_simp
  simp only [PT]
  refine tk 32 (.bool false) hHeld (fun w => ?_) ?_
  · (go_simp; try omega)
  simp only [PT]
  refine tk 33 (.bool false) hHeld (fun w => ?_) ?_
  · go_simp
  simp only [PT]
  refine tk 34 (.bool false) hHeld (fun w => ?_) ?_
  · go_simp
  simp only [PT]
  refine tk 35 (.pointer (some ⟨w.heap.size, 1, none⟩)) hHeld (fun w => ?_) ?_
  · go_simp
  simp only [PT]
  refine tkS 36 (.int .i64 s.st) hHeld (fun w hq => ?_) ?_
  · obtain ⟨z0, z1, z2, z3, z4, z5, z6, z7, z8, z9, z10⟩ := HF.out w hq
    go_simp
  simp only [PT]
  refine tk 37 (.slice (some ⟨b, off, none⟩) n c) hHeld (fun w => ?_) ?_
  · go_simp
  simp only [PT]
  refine tk 38 (.pointer (some ⟨w.heap.size, 0, none⟩)) hHeld (fun w => ?_) ?_
  · go_simp
  simp only [PT]
  refine tkS 39 (.int .i64 s.pl) hHeld (fun w hq => ?_) ?_
  · obtain ⟨z0, z1, z2, z3, z4, z5, z6, z7, z8, z9, z10⟩ := HF.out w hq
    go_simp
  simp only [PT]
  refine tk 40 (.pointer (some ⟨b, off + j * 5, none⟩)) hHeld (fun w => ?_) ?_
  · (go_simp; try rw [HJ.out]; try go_simp)
  simp only [PT]
  refine tk 41 (.pointer (some ⟨b, off + j * 5 + 1, none⟩)) hHeld (fun w => ?_) ?_
  · go_simp
  simp only [PT]
  refine tkS 42 (.slice (some ⟨bs, os, none⟩) q.k q.d) hHeld (fun w hq => ?_) ?_
  · obtain ⟨z0, z1, z2, z3, z4, z5, z6, z7, z8, z9, z10⟩ := HF.out w hq
    go_simp
  simp only [PT]
  refine tk 43 (.int .i64 (q.k : Int)) hHeld (fun w => ?_) ?_
  · go_simp
  simp only [PT]
  refine tk 44 (.bool false) hHeld (fun w => ?_) ?_
  · (go_simp; try omega)
  simp only [PT]
  refine tk 45 (.bool false) hHeld (fun w => ?_) ?_
  · go_simp
  simp only [PT]
  refine wpAnyH_done (by kernel_rfl) ?_ _
  clear hHeld
  have HX3 := Lib.hid (HX2.out.trans (hS1.mono HX2.out.size))
  obtain ⟨c0, c1, c2, c3, c4, c5, c6, c7, c8, c9⟩ := (HBS.out y1 HX3.out).cells
  go_wp2_with (first
    | (go_at_call 18
       (with_reducible refine (HTK.out _ HX3.out).mono ?_)
       rintro e w4 ⟨rfl, hbx⟩
       have HX4 := Lib.hid (HX3.out.trans (hbx.mono HX3.out.size))
       clear hbx
       try simp only [sgV]))
  obtain ⟨W5, hW5⟩ : ∃ W5, w4.alloc (.cells #[.int .i64 g.pl, .int .i64 g.st, .int .i64 g.nx, .int .i64 g.ph, .int .i64 g.t, .int .i64 g.hd, .int .i64 g.hl, .int .i64 g.ak, .int .i64 g.wt, .bool g.sp] 24) = W5 := ⟨_, rfl⟩
  have hb5 := one_alloc w4 (.cells #[.int .i64 g.pl, .int .i64 g.st, .int .i64 g.nx, .int .i64 g.ph, .int .i64 g.t, .int .i64 g.hd, .int .i64 g.hl, .int .i64 g.ak, .int .i64 g.wt, .bool g.sp] 24)
  have hbg := BoxG.new w4 g
  rw [hW5] at hb5 hbg ⊢
  have HX5 := Lib.hid (HX4.out.trans (hb5.mono HX4.out.size))
  have HG := Lib.hid (show ∀ X, Below W5.heap.size W5 X → BoxG X w4.heap.size g from fun X hX => hbg.below hX)
  have HF6 := Lib.hid (show ∀ X, Below W5.heap.size W5 X → X.cell? ⟨w.heap.size, 0, none⟩ = some (.int .i64 s.pl) ∧ X.cell? ⟨w.heap.size, 1, none⟩ = some (.int .i64 s.st) ∧ X.cell? ⟨b, off + j * 5 + 1, none⟩ = some (.slice (some ⟨bs, os, none⟩) q.k q.d) ∧ X.cell? ⟨bs, os + s.st.toNat * 3, none⟩ = some (.int .i64 x.g) ∧ X.cell? ⟨bs, os + s.st.toNat * 3 + 1, none⟩ = some (.int .i64 x.mn) ∧ X.cell? ⟨bs, os + s.st.toNat * 3 + 2, none⟩ = some (.int .i64 x.mx) from fun X hX => by
    have hX0 := HX5.out.trans (hX.mono HX5.out.size)
    exact ⟨(HBS.out X hX0).cells.c0, (HBS.out X hX0).cells.c1, HQC.out X hX0⟩)
  clear hb5 hbg hW5 c0 c1 c2 c3 c4 c5 c6 c7 c8 c9
  have hSd : Below W5.heap.size W5 W5.drew := (Below.refl _ W5).drew
  refine wp_region_held_drew (S := fun X => Below W5.heap.size W5 X) (by kernel_rfl) hSd (fun hHeld => ?_)
  refine tk 0 (.slice (some ⟨b, off, none⟩) n c) hHeld (fun w => ?_) ?_
  · go_simp
  simp only [PT]
  refine tk 1 (.pointer (some ⟨w.heap.size, 0, none⟩)) hHeld (fun w => ?_) ?_
  · go_simp
  simp only [PT]
  refine tkS 2 (.int .i64 s.pl) hHeld (fun w hq => ?_) ?_
  · obtain ⟨z0, z1, z2, z3, z4, z5⟩ := HF6.out w hq
    go_simp
  simp only [PT]
  refine tk 3 (.pointer (some ⟨b, off + j * 5, none⟩)) hHeld (fun w => ?_) ?_
  · (go_simp; try rw [HJ.out]; try go_simp)
  simp only [PT]
  refine tk 4 (.pointer (some ⟨b, off + j * 5 + 1, none⟩)) hHeld (fun w => ?_) ?_
  · go_simp
  simp only [PT]
  refine tkS 5 (.slice (some ⟨bs, os, none⟩) q.k q.d) hHeld (fun w hq => ?_) ?_
  · obtain ⟨z0, z1, z2, z3, z4, z5⟩ := HF6.out w hq
    go_simp
  simp only [PT]
  refine tk 6 (.pointer (some ⟨w.heap.size, 1, none⟩)) hHeld (fun w => ?_) ?_
  · go_simp
  simp only [PT]
  refine tkS 7 (.int .i64 s.st) hHeld (fun w hq => ?_) ?_
  · obtain ⟨z0, z1, z2, z3, z4, z5⟩ := HF6.out w hq
    go_simp
  simp only [PT]
  refine tk 8 (.pointer (some ⟨bs, os + s.st.toNat * 3, none⟩)) hHeld (fun w => ?_) ?_
  · go_simp
  simp only [PT]
  refine tkS 9 (.agg #[.int .i64 x.g, .int .i64 x.mn, .int .i64 x.mx]) hHeld (fun w hq => ?_) ?_
  · obtain ⟨z0, z1, z2, z3, z4, z5⟩ := HF6.out w hq
    go_simp
  simp only [PT]
  refine one_step 10 (by kernel_rfl) rfl (fun Kq hKq => ?_)
  go_simp
  have hS1 : Below W5.heap.size W5 (W5.drew.alloc (.cells #[.int .i64 0, .int .i64 0, .int .i64 0] 43 (0, 0))) := hSd.alloc hSd.size _
  refine hKq.out _ _ hS1 (fun hHeld0 => ?_)
  clear hKq Kq hHeld
  have hHeld := hHeld0
  clear hHeld0
  try simp only [PT]
  refine one_step 11 (by kernel_rfl) rfl (fun Kq hKq => ?_)
  refine step_store_part 43 _ _ rfl W5.heap.size 0 (.agg #[.int .i64 x.g, .int .i64 x.mn, .int .i64 x.mx]) #[.int .i64 x.g, .int .i64 x.mn, .int .i64 x.mx] rfl rfl rfl 43 #[.int .i64 0, .int .i64 0, .int .i64 0] #[.int .i64 x.g, .int .i64 x.mn, .int .i64 x.mx] (heap_alloc_new W5.drew _) info_stg3 (by simp) (one_stg3 _ _ _) rfl rfl ?_
  intro W6 hg6 hX6 hz6
  have hS2 : Below W5.heap.size W5 W6 := Below.grows hS1 hg6 hS1.size (Nat.le_refl _)
  clear hg6 hz6
  refine hKq.out _ _ hS2 (fun hHeld0 => ?_)
  clear hKq Kq hHeld
  have hHeld := hHeld0
  clear hHeld0
  try simp only [PT]
  refine wpAnyH_done (by kernel_rfl) ?_ _
  clear hHeld
  have HX6 := Lib.hid (HX5.out.trans (hS2.mono HX5.out.size))
  obtain ⟨c0, c1, c2, c3, c4, c5, c6, c7, c8, c9⟩ := (HBS.out W6 HX6.out).cells
  obtain ⟨d0, d1, d2, d3, d4, d5, d6, d7, d8, d9⟩ := (HG.out W6 hS2).cells
  have x0 : W6.cell? ⟨W5.heap.size, 0, none⟩ = some (.int .i64 x.g) := (cell_of_row _ _ _ _ _ _ hX6).trans rfl
  have x1 : W6.cell? ⟨W5.heap.size, 1, none⟩ = some (.int .i64 x.mn) := (cell_of_row _ _ _ _ _ _ hX6).trans rfl
  have x2 : W6.cell? ⟨W5.heap.size, 2, none⟩ = some (.int .i64 x.mx) := (cell_of_row _ _ _ _ _ _ hX6).trans rfl
  have t0 := HSM.out.1
  have t1 := HSM.out.2
  have w1 : wrap64 (s.t + 1) = s.t + 1 := by unfold wrap64; omega
  have k0 := HH.out.h0
  have k1 := HH.out.h1
  have k2 := HH.out.h2
  have k3 := HH.out.h3
  have k4 := HD2.out
  have w2' : wrap64 (s.hd - 1) = s.hd - 1 := by unfold wrap64; omega
  have w3 : wrap64 (s.hl + 1) = s.hl + 1 := by unfold wrap64; omega
  clear hX6
  have hu1 : ∀ b : Bool, ¬ ((undef : Value) = Value.bool b) := fun b h => by cases h
  have hu2 : ∀ b : Bool, ¬ (some (undef : Value) = some (Value.bool b)) := fun b h => by cases h
  have hcs := HCS.out
  have hcg := HCG.out
  rcases HWY.out with ⟨hd, rfl⟩ | ⟨hd, rfl, hmx⟩ | ⟨hd, hmn, hask, gp, gs, gt⟩
  · have := hcs.1; omega
  · simp only at hcg
    have : (s.ph == 0) = true := by simpa using hph1
    rw [hcg] at this
    cases this
  · clear hcg
    have gp0 : (g.ph == 0) = false := by rw [gp]; rfl
    have gp1 : (g.ph == 1) = true := by rw [gp]; rfl
    have gsb : (g.st == s.st) = true := by rw [gs]; simp
    have gtb : (g.t == 0) = true := by rw [gt]; rfl
    have hdb : (s.hd == 0) = true := by rw [hd]; rfl
    have hmb : decide (x.mn ≤ s.t + 1) = true := decide_eq_true hmn
    clear gp gs gt hd
    rw [hcs.2.1] at c9
    have hab : (s.ak != -1) = false := by rw [hcs.2.2.1]; rfl
    have hwb : (s.wt != -1) = true := by rw [bne_iff_ne]; exact hcs.2.2.2
    clear hask hcs
    go_wp2
    go_ret
    exact ⟨by first | rfl | simp, HB0.out.trans (HX6.out.mono HB0.out.size)⟩
end Go.Proofs.Ytcgakgbnhlmcaaa

