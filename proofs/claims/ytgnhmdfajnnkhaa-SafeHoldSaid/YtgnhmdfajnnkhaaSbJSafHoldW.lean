/- The walk over the law SafeHold. -/
import Derived.Test.YtgnhmdfajnnkhaaSbJC
namespace Go.Proofs.Ytgnhmdfajnnkhaa
set_option maxRecDepth 100000
set_option linter.unusedVariables false
set_option linter.unusedSimpArgs false
open Go.RowKit

set_option maxHeartbeats 16000000 in
theorem fhold_g (HO : SafOk) (HN : StgOk) (HT : LmpText) (A : Option Addr) (n c : Nat) (l : List Pl) (s : Sg) (B : Option Addr) (m d : Nat) (q : List Ak) (w : World) (hl : Pls w A n c l) (hq : Aks w B m d q) (hts : SmG s) (hfw : fewAllB l = true) (hm60 : m ≤ 60) (hm : mayS l s = true) (hp : (playG l s q m).ph = 0) :
    Calls Try.prog 5 #[.slice A n c, sgV s, .slice B m d] w fun e w' => e = .returned (.bool true) ∧ Below w.heap.size w w' := by
  have hqs := hq.small
  have hsm := hl.small
  have hlen := hl.len
  simp only [sgV]
  obtain ⟨W0, hW0⟩ : ∃ W0, w.alloc (.cells #[.int .i64 s.pl, .int .i64 s.st, .int .i64 s.nx, .int .i64 s.ph, .int .i64 s.t, .int .i64 s.hd, .int .i64 s.hl, .int .i64 s.ak, .int .i64 s.wt, .bool s.sp] 24) = W0 := ⟨_, rfl⟩
  have hB0 : Below w.heap.size w W0 := by rw [← hW0]; exact one_alloc w _
  have hbs : BoxG W0 w.heap.size s := by rw [← hW0]; exact BoxG.new w s
  have HPL := Lib.hid (show ∀ X, Below W0.heap.size W0 X → Pls X A n c l from fun X hX => (hl.below hB0).below hX)
  have HBS := Lib.hid (show ∀ X, Below W0.heap.size W0 X → BoxG X w.heap.size s from fun X hX => hbs.below hX)
  have HLL := Lib.hid hlen
  have HB0 := Lib.hid hB0
  have HW := Lib.hid hW0
  have HAW := Lib.hid (sawake17_any HO HN HT W0)
  have HFW := Lib.hid (fun X hX => pfewall_any A n c l X (HPL.out X hX))
  have HAK := Lib.hid (show ∀ X, Below W0.heap.size W0 X → Aks X B m d q from fun X hX => (hq.below hB0).below hX)
  clear hW0 hB0 hbs hl
  clear hq
  rw [hfw] at HFW
  obtain ⟨hl5, hfp⟩ := fewall_iff.1 hfw
  have hn1000 : n ≤ 1000 := by omega
  have hmem : ∀ p ∈ l, p.n ≤ 1000 ∧ p.k ≤ 1000 := fun p hp => by have := hfp p hp; omega
  have HMY := Lib.hid (fun X hX => HN.may A n c l s X (HPL.out X hX) hts hn1000 hmem)
  rw [hm] at HMY
  have hm61 : ¬ 60 < (m : Int) := by omega
  have hmt := play_may (mayS_iff.1 hm) q m
  have HP := Lib.hid (fun X hX => HO.plays A n c l s B m d q X (HPL.out X hX) hts hn1000 hmem (HAK.out X hX) (by omega))
  have HMT := Lib.hid (fun X hX => HN.may A n c l (playG l s q m) X (HPL.out X hX) (playG_small hts m) hn1000 hmem)
  rw [mayS_iff.2 hmt] at HMT
  obtain ⟨t, ht⟩ : ∃ t, playG l s q m = t := ⟨_, rfl⟩
  obtain ⟨R, hR⟩ : ∃ r, playL l s q m = r := ⟨_, rfl⟩
  rw [ht, hR] at HP
  rw [ht] at HMT hmt hp
  have g0 := hmt.p0
  have g1 : t.pl < n := by have := hmt.p1; rw [hlen] at this; exact this
  have hpn : (t.pl.toNat : Int) = t.pl := Int.toNat_of_nonneg g0
  have hpk : t.pl.toNat < n := by omega
  obtain ⟨b, off, p0, rfl, -⟩ := (HPL.out W0 (Below.refl _ _)).at_ 0 (by omega)
  obtain ⟨r, hr⟩ : ∃ r, planAt l t.pl = r := ⟨_, rfl⟩
  have HQC := Lib.hid (show ∀ X, Below W0.heap.size W0 X → X.cell? ⟨b, off + t.pl.toNat * 5 + 4, none⟩ = some (.int .i64 r.hd) from fun X hX => by
    obtain ⟨b2, off2, p2, hA2, hp2, -, -, -, z0, z1, z2, z3, z4⟩ := (HPL.out X hX).at_ t.pl.toNat hpk
    cases hA2
    have hqe : r = p2 := by rw [← hr, planAt, hp2]
    rw [hqe]
    exact z4)
  have hh := hmt.held
  rw [hr] at hh
  have hhd2 := (fit_iff.1 (plan_fit hmt)).hd2
  rw [hr] at hhd2
  have HV := Lib.hid (show 0 ≤ t.hl ∧ 0 ≤ t.hd ∧ t.hl + t.hd ≤ r.hd ∧ IntKind.i64.wrap (t.hl + t.hd) = t.hl + t.hd from ⟨hh.h1, hh.h0, by have := hh.h3; omega, by have := hh.h1; have := hh.h0; have := hh.h3; rw [IntKind.wrap_i64]; omega⟩)
  have HPB := Lib.hid hp
  simp only [GivesGL, sgV] at HP HMY HMT
  clear hm hmt hmem hfp hfw ht hR hr hh hhd2 hp
  go_enter Try.func5, Try.ntmps5
  go_wp2_with (first
    | (go_at_call 10
       rw [HW.out]
       (with_reducible refine (HAW.out).mono ?_)
       rintro e w1 ⟨rfl, hbx⟩
       have HX1 := Lib.hid hbx
       clear hbx)
    | (go_at_call 11
       (with_reducible refine (HFW.out _ HX1.out).mono ?_)
       rintro e w2 ⟨rfl, hbx⟩
       have HX2 := Lib.hid (HX1.out.trans (hbx.mono HX1.out.size))
       obtain ⟨a0, a1, a2, a3, a4, a5, a6, a7, a8, a9⟩ := (HBS.out w2 HX2.out).cells
       clear hbx)
    | (go_at_call 22
       (with_reducible refine (HMY.out _ HX2.out).mono ?_)
       rintro e w3 ⟨rfl, hbx⟩
       have HX3 := Lib.hid (HX2.out.trans (hbx.mono HX2.out.size))
       obtain ⟨m0, m1, m2, m3, m4, m5, m6, m7, m8, m9⟩ := (HBS.out w3 HX3.out).cells
       clear hbx)
    | (go_at_call 16
       (with_reducible refine (HP.out _ HX3.out).mono ?_)
       rintro e w4 ⟨A4, n4, c4, r4, rfl, hi4, hr4, hbx⟩
       have hbw := one_alloc w4 (.cells #[.int .i64 t.pl, .int .i64 t.st, .int .i64 t.nx, .int .i64 t.ph, .int .i64 t.t, .int .i64 t.hd, .int .i64 t.hl, .int .i64 t.ak, .int .i64 t.wt, .bool t.sp] 24)
       have hbs := hbx.trans (hbw.mono hbx.size)
       have hbg := BoxG.new w4 t
       have HX4 := Lib.hid (HX3.out.trans (hbs.mono HX3.out.size))
       have HG4 := Lib.hid (show ∀ X, Below (w4.alloc (.cells #[.int .i64 t.pl, .int .i64 t.st, .int .i64 t.nx, .int .i64 t.ph, .int .i64 t.t, .int .i64 t.hd, .int .i64 t.hl, .int .i64 t.ak, .int .i64 t.wt, .bool t.sp] 24)).heap.size (w4.alloc (.cells #[.int .i64 t.pl, .int .i64 t.st, .int .i64 t.nx, .int .i64 t.ph, .int .i64 t.t, .int .i64 t.hd, .int .i64 t.hl, .int .i64 t.ak, .int .i64 t.wt, .bool t.sp] 24)) X → BoxG X w4.heap.size t from fun X hX => hbg.below hX)
       have HY4 := Lib.hid (Below.refl (w4.alloc (.cells #[.int .i64 t.pl, .int .i64 t.st, .int .i64 t.nx, .int .i64 t.ph, .int .i64 t.t, .int .i64 t.hd, .int .i64 t.hl, .int .i64 t.ak, .int .i64 t.wt, .bool t.sp] 24)).heap.size (w4.alloc (.cells #[.int .i64 t.pl, .int .i64 t.st, .int .i64 t.nx, .int .i64 t.ph, .int .i64 t.t, .int .i64 t.hd, .int .i64 t.hl, .int .i64 t.ak, .int .i64 t.wt, .bool t.sp] 24)))
       have HI4 := Lib.hid (fun X (hX : Below (w4.alloc (.cells #[.int .i64 t.pl, .int .i64 t.st, .int .i64 t.nx, .int .i64 t.ph, .int .i64 t.t, .int .i64 t.hd, .int .i64 t.hl, .int .i64 t.ak, .int .i64 t.wt, .bool t.sp] 24)).heap.size (w4.alloc (.cells #[.int .i64 t.pl, .int .i64 t.st, .int .i64 t.nx, .int .i64 t.ph, .int .i64 t.t, .int .i64 t.hd, .int .i64 t.hl, .int .i64 t.ak, .int .i64 t.wt, .bool t.sp] 24)) X) => (hi4.below hbw).below hX)
       have HR4 := Lib.hid hr4
       clear hbx hbw hbs hbg hi4 hr4
       try simp only [sgV])
    | (go_at_call 22
       (with_reducible refine (HMT.out _ HX4.out).mono ?_)
       rintro e w5 ⟨rfl, hbx⟩
       have HY4 := Lib.hid (HY4.out.trans (hbx.mono HY4.out.size))
       have HX5 := Lib.hid (HX4.out.trans (hbx.mono HX4.out.size))
       obtain ⟨b4_0, b4_1, b4_2, b4_3, b4_4, b4_5, b4_6, b4_7, b4_8, b4_9⟩ := (HG4.out _ HY4.out).cells
       try simp only at b4_0 b4_1 b4_2 b4_3 b4_4 b4_5 b4_6 b4_7 b4_8 b4_9
       clear hbx))
  have HF := Lib.hid (show ∀ X, Below w5.heap.size w5 X → X.cell? ⟨w4.heap.size, 0, none⟩ = some (.int .i64 t.pl) ∧ X.cell? ⟨w4.heap.size, 3, none⟩ = some (.int .i64 t.ph) ∧ X.cell? ⟨w4.heap.size, 5, none⟩ = some (.int .i64 t.hd) ∧ X.cell? ⟨w4.heap.size, 6, none⟩ = some (.int .i64 t.hl) ∧ X.cell? ⟨b, off + t.pl.toNat * 5 + 4, none⟩ = some (.int .i64 r.hd) from fun X hX => by
    obtain ⟨a0, a1, a2, a3, a4, a5, a6, a7, a8, a9⟩ := (HG4.out X (HY4.out.trans (hX.mono HY4.out.size))).cells
    exact ⟨a0, a3, a5, a6, HQC.out X (HX5.out.trans (hX.mono HX5.out.size))⟩)
  have hSd : Below w5.heap.size w5 w5.drew := (Below.refl _ w5).drew
  refine wp_region_held_drew (S := fun X => Below w5.heap.size w5 X) (by kernel_rfl) hSd (fun hHeld => ?_)
  obtain ⟨y0, hY0⟩ : ∃ Y, w5.drew = Y := ⟨_, rfl⟩
  rw [hY0] at hSd hHeld ⊢
  clear hY0
  refine tk 0 (.pointer (some ⟨w4.heap.size, 6, none⟩)) hHeld (fun w => ?_) ?_
  · go_simp
  simp only [PT]
  refine tkS 1 (.int .i64 t.hl) hHeld (fun w hq => ?_) ?_
  · obtain ⟨z0, z1, z2, z3, z4⟩ := HF.out w hq
    go_simp
  simp only [PT]
  refine tk 2 (.bool true) hHeld (fun w => ?_) ?_
  · (go_simp; try exact HV.out.1)
  simp only [PT]
  refine tk 3 (.bool true) hHeld (fun w => ?_) ?_
  · go_simp
  simp only [PT]
  refine tk 4 (.pointer (some ⟨w4.heap.size, 5, none⟩)) hHeld (fun w => ?_) ?_
  · go_simp
  simp only [PT]
  refine tkS 5 (.int .i64 t.hd) hHeld (fun w hq => ?_) ?_
  · obtain ⟨z0, z1, z2, z3, z4⟩ := HF.out w hq
    go_simp
  simp only [PT]
  refine tk 6 (.bool true) hHeld (fun w => ?_) ?_
  · (go_simp; try exact HV.out.2.1)
  simp only [PT]
  refine tk 7 (.bool true) hHeld (fun w => ?_) ?_
  · go_simp
  simp only [PT]
  refine tk 8 (.bool true) hHeld (fun w => ?_) ?_
  · go_simp
  simp only [PT]
  refine tk 9 (.pointer (some ⟨w4.heap.size, 6, none⟩)) hHeld (fun w => ?_) ?_
  · go_simp
  simp only [PT]
  refine tkS 10 (.int .i64 t.hl) hHeld (fun w hq => ?_) ?_
  · obtain ⟨z0, z1, z2, z3, z4⟩ := HF.out w hq
    go_simp
  simp only [PT]
  refine tk 11 (.pointer (some ⟨w4.heap.size, 5, none⟩)) hHeld (fun w => ?_) ?_
  · go_simp
  simp only [PT]
  refine tkS 12 (.int .i64 t.hd) hHeld (fun w hq => ?_) ?_
  · obtain ⟨z0, z1, z2, z3, z4⟩ := HF.out w hq
    go_simp
  simp only [PT]
  refine tk 13 (.int .i64 (t.hl + t.hd)) hHeld (fun w => ?_) ?_
  · (go_simp; try exact HV.out.2.2.2)
  simp only [PT]
  refine tk 14 (.slice (some ⟨b, off, none⟩) n c) hHeld (fun w => ?_) ?_
  · go_simp
  simp only [PT]
  refine tk 15 (.pointer (some ⟨w4.heap.size, 0, none⟩)) hHeld (fun w => ?_) ?_
  · go_simp
  simp only [PT]
  refine tkS 16 (.int .i64 t.pl) hHeld (fun w hq => ?_) ?_
  · obtain ⟨z0, z1, z2, z3, z4⟩ := HF.out w hq
    go_simp
  simp only [PT]
  refine tk 17 (.pointer (some ⟨b, off + t.pl.toNat * 5, none⟩)) hHeld (fun w => ?_) ?_
  · go_simp
  simp only [PT]
  refine tk 18 (.pointer (some ⟨b, off + t.pl.toNat * 5 + 4, none⟩)) hHeld (fun w => ?_) ?_
  · go_simp
  simp only [PT]
  refine tkS 19 (.int .i64 r.hd) hHeld (fun w hq => ?_) ?_
  · obtain ⟨z0, z1, z2, z3, z4⟩ := HF.out w hq
    go_simp
  simp only [PT]
  refine tk 20 (.bool true) hHeld (fun w => ?_) ?_
  · (go_simp; try exact HV.out.2.2.1)
  simp only [PT]
  refine tk 21 (.bool true) hHeld (fun w => ?_) ?_
  · go_simp
  simp only [PT]
  refine tk 22 (.bool true) hHeld (fun w => ?_) ?_
  · go_simp
  simp only [PT]
  refine tk 23 (.pointer (some ⟨w4.heap.size, 3, none⟩)) hHeld (fun w => ?_) ?_
  · go_simp
  simp only [PT]
  refine tkS 24 (.int .i64 t.ph) hHeld (fun w hq => ?_) ?_
  · obtain ⟨z0, z1, z2, z3, z4⟩ := HF.out w hq
    go_simp
  simp only [PT]
  refine tk 25 (.bool true) hHeld (fun w => ?_) ?_
  · (go_simp; try exact HPB.out)
  simp only [PT]
  refine tk 26 (.bool true) hHeld (fun w => ?_) ?_
  · go_simp
  simp only [PT]
  refine tkO 27 hHeld ?_
  simp only [PT]
  refine tkO 28 hHeld ?_
  simp only [PT]
  refine tkO 29 hHeld ?_
  simp only [PT]
  refine tkO 30 hHeld ?_
  simp only [PT]
  refine tkO 31 hHeld ?_
  simp only [PT]
  refine tkO 32 hHeld ?_
  simp only [PT]
  refine tkO 33 hHeld ?_
  simp only [PT]
  refine tkO 34 hHeld ?_
  simp only [PT]
  refine tk 35 (.bool true) hHeld (fun w => ?_) ?_
  · go_simp
  simp only [PT]
  refine tk 36 (.bool true) hHeld (fun w => ?_) ?_
  · go_simp
  simp only [PT]
  refine tk 37 (.bool true) hHeld (fun w => ?_) ?_
  · go_simp
  simp only [PT]
  refine wpAnyH_done (by kernel_rfl) ?_ _
  clear hHeld
  go_wp2
  go_ret
  exact ⟨by first | rfl | simp, HB0.out.trans ((HX5.out.trans (hSd.mono HX5.out.size)).mono HB0.out.size)⟩
set_option maxHeartbeats 16000000 in
theorem fhold_o (HO : SafOk) (HN : StgOk) (HT : LmpText) (A : Option Addr) (n c : Nat) (l : List Pl) (s : Sg) (B : Option Addr) (m d : Nat) (q : List Ak) (w : World) (hl : Pls w A n c l) (hq : Aks w B m d q) (hts : SmG s) (hfw : fewAllB l = true) (hm60 : m ≤ 60) (hm : mayS l s = true) (hp : (playG l s q m).ph ≠ 0) :
    Calls Try.prog 5 #[.slice A n c, sgV s, .slice B m d] w fun e w' => e = .returned (.bool true) ∧ Below w.heap.size w w' := by
  have hqs := hq.small
  have hsm := hl.small
  have hlen := hl.len
  simp only [sgV]
  obtain ⟨W0, hW0⟩ : ∃ W0, w.alloc (.cells #[.int .i64 s.pl, .int .i64 s.st, .int .i64 s.nx, .int .i64 s.ph, .int .i64 s.t, .int .i64 s.hd, .int .i64 s.hl, .int .i64 s.ak, .int .i64 s.wt, .bool s.sp] 24) = W0 := ⟨_, rfl⟩
  have hB0 : Below w.heap.size w W0 := by rw [← hW0]; exact one_alloc w _
  have hbs : BoxG W0 w.heap.size s := by rw [← hW0]; exact BoxG.new w s
  have HPL := Lib.hid (show ∀ X, Below W0.heap.size W0 X → Pls X A n c l from fun X hX => (hl.below hB0).below hX)
  have HBS := Lib.hid (show ∀ X, Below W0.heap.size W0 X → BoxG X w.heap.size s from fun X hX => hbs.below hX)
  have HLL := Lib.hid hlen
  have HB0 := Lib.hid hB0
  have HW := Lib.hid hW0
  have HAW := Lib.hid (sawake17_any HO HN HT W0)
  have HFW := Lib.hid (fun X hX => pfewall_any A n c l X (HPL.out X hX))
  have HAK := Lib.hid (show ∀ X, Below W0.heap.size W0 X → Aks X B m d q from fun X hX => (hq.below hB0).below hX)
  clear hW0 hB0 hbs hl
  clear hq
  rw [hfw] at HFW
  obtain ⟨hl5, hfp⟩ := fewall_iff.1 hfw
  have hn1000 : n ≤ 1000 := by omega
  have hmem : ∀ p ∈ l, p.n ≤ 1000 ∧ p.k ≤ 1000 := fun p hp => by have := hfp p hp; omega
  have HMY := Lib.hid (fun X hX => HN.may A n c l s X (HPL.out X hX) hts hn1000 hmem)
  rw [hm] at HMY
  have hm61 : ¬ 60 < (m : Int) := by omega
  have hmt := play_may (mayS_iff.1 hm) q m
  have HP := Lib.hid (fun X hX => HO.plays A n c l s B m d q X (HPL.out X hX) hts hn1000 hmem (HAK.out X hX) (by omega))
  have HMT := Lib.hid (fun X hX => HN.may A n c l (playG l s q m) X (HPL.out X hX) (playG_small hts m) hn1000 hmem)
  rw [mayS_iff.2 hmt] at HMT
  obtain ⟨t, ht⟩ : ∃ t, playG l s q m = t := ⟨_, rfl⟩
  obtain ⟨R, hR⟩ : ∃ r, playL l s q m = r := ⟨_, rfl⟩
  rw [ht, hR] at HP
  rw [ht] at HMT hmt hp
  have g0 := hmt.p0
  have g1 : t.pl < n := by have := hmt.p1; rw [hlen] at this; exact this
  have hpn : (t.pl.toNat : Int) = t.pl := Int.toNat_of_nonneg g0
  have hpk : t.pl.toNat < n := by omega
  obtain ⟨b, off, p0, rfl, -⟩ := (HPL.out W0 (Below.refl _ _)).at_ 0 (by omega)
  obtain ⟨r, hr⟩ : ∃ r, planAt l t.pl = r := ⟨_, rfl⟩
  have HQC := Lib.hid (show ∀ X, Below W0.heap.size W0 X → X.cell? ⟨b, off + t.pl.toNat * 5 + 4, none⟩ = some (.int .i64 r.hd) from fun X hX => by
    obtain ⟨b2, off2, p2, hA2, hp2, -, -, -, z0, z1, z2, z3, z4⟩ := (HPL.out X hX).at_ t.pl.toNat hpk
    cases hA2
    have hqe : r = p2 := by rw [← hr, planAt, hp2]
    rw [hqe]
    exact z4)
  have hh := hmt.held
  rw [hr] at hh
  have hhd2 := (fit_iff.1 (plan_fit hmt)).hd2
  rw [hr] at hhd2
  have HV := Lib.hid (show 0 ≤ t.hl ∧ 0 ≤ t.hd ∧ t.hl + t.hd ≤ r.hd ∧ IntKind.i64.wrap (t.hl + t.hd) = t.hl + t.hd from ⟨hh.h1, hh.h0, by have := hh.h3; omega, by have := hh.h1; have := hh.h0; have := hh.h3; rw [IntKind.wrap_i64]; omega⟩)
  have HPB := Lib.hid hp
  have ho := hmt.other hp
  have HZ := Lib.hid (show t.hl = 0 ∧ t.hd = 0 from ⟨ho.l, ho.d⟩)
  clear ho
  simp only [GivesGL, sgV] at HP HMY HMT
  clear hm hmt hmem hfp hfw ht hR hr hh hhd2 hp
  go_enter Try.func5, Try.ntmps5
  go_wp2_with (first
    | (go_at_call 10
       rw [HW.out]
       (with_reducible refine (HAW.out).mono ?_)
       rintro e w1 ⟨rfl, hbx⟩
       have HX1 := Lib.hid hbx
       clear hbx)
    | (go_at_call 11
       (with_reducible refine (HFW.out _ HX1.out).mono ?_)
       rintro e w2 ⟨rfl, hbx⟩
       have HX2 := Lib.hid (HX1.out.trans (hbx.mono HX1.out.size))
       obtain ⟨a0, a1, a2, a3, a4, a5, a6, a7, a8, a9⟩ := (HBS.out w2 HX2.out).cells
       clear hbx)
    | (go_at_call 22
       (with_reducible refine (HMY.out _ HX2.out).mono ?_)
       rintro e w3 ⟨rfl, hbx⟩
       have HX3 := Lib.hid (HX2.out.trans (hbx.mono HX2.out.size))
       obtain ⟨m0, m1, m2, m3, m4, m5, m6, m7, m8, m9⟩ := (HBS.out w3 HX3.out).cells
       clear hbx)
    | (go_at_call 16
       (with_reducible refine (HP.out _ HX3.out).mono ?_)
       rintro e w4 ⟨A4, n4, c4, r4, rfl, hi4, hr4, hbx⟩
       have hbw := one_alloc w4 (.cells #[.int .i64 t.pl, .int .i64 t.st, .int .i64 t.nx, .int .i64 t.ph, .int .i64 t.t, .int .i64 t.hd, .int .i64 t.hl, .int .i64 t.ak, .int .i64 t.wt, .bool t.sp] 24)
       have hbs := hbx.trans (hbw.mono hbx.size)
       have hbg := BoxG.new w4 t
       have HX4 := Lib.hid (HX3.out.trans (hbs.mono HX3.out.size))
       have HG4 := Lib.hid (show ∀ X, Below (w4.alloc (.cells #[.int .i64 t.pl, .int .i64 t.st, .int .i64 t.nx, .int .i64 t.ph, .int .i64 t.t, .int .i64 t.hd, .int .i64 t.hl, .int .i64 t.ak, .int .i64 t.wt, .bool t.sp] 24)).heap.size (w4.alloc (.cells #[.int .i64 t.pl, .int .i64 t.st, .int .i64 t.nx, .int .i64 t.ph, .int .i64 t.t, .int .i64 t.hd, .int .i64 t.hl, .int .i64 t.ak, .int .i64 t.wt, .bool t.sp] 24)) X → BoxG X w4.heap.size t from fun X hX => hbg.below hX)
       have HY4 := Lib.hid (Below.refl (w4.alloc (.cells #[.int .i64 t.pl, .int .i64 t.st, .int .i64 t.nx, .int .i64 t.ph, .int .i64 t.t, .int .i64 t.hd, .int .i64 t.hl, .int .i64 t.ak, .int .i64 t.wt, .bool t.sp] 24)).heap.size (w4.alloc (.cells #[.int .i64 t.pl, .int .i64 t.st, .int .i64 t.nx, .int .i64 t.ph, .int .i64 t.t, .int .i64 t.hd, .int .i64 t.hl, .int .i64 t.ak, .int .i64 t.wt, .bool t.sp] 24)))
       have HI4 := Lib.hid (fun X (hX : Below (w4.alloc (.cells #[.int .i64 t.pl, .int .i64 t.st, .int .i64 t.nx, .int .i64 t.ph, .int .i64 t.t, .int .i64 t.hd, .int .i64 t.hl, .int .i64 t.ak, .int .i64 t.wt, .bool t.sp] 24)).heap.size (w4.alloc (.cells #[.int .i64 t.pl, .int .i64 t.st, .int .i64 t.nx, .int .i64 t.ph, .int .i64 t.t, .int .i64 t.hd, .int .i64 t.hl, .int .i64 t.ak, .int .i64 t.wt, .bool t.sp] 24)) X) => (hi4.below hbw).below hX)
       have HR4 := Lib.hid hr4
       clear hbx hbw hbs hbg hi4 hr4
       try simp only [sgV])
    | (go_at_call 22
       (with_reducible refine (HMT.out _ HX4.out).mono ?_)
       rintro e w5 ⟨rfl, hbx⟩
       have HY4 := Lib.hid (HY4.out.trans (hbx.mono HY4.out.size))
       have HX5 := Lib.hid (HX4.out.trans (hbx.mono HX4.out.size))
       obtain ⟨b4_0, b4_1, b4_2, b4_3, b4_4, b4_5, b4_6, b4_7, b4_8, b4_9⟩ := (HG4.out _ HY4.out).cells
       try simp only at b4_0 b4_1 b4_2 b4_3 b4_4 b4_5 b4_6 b4_7 b4_8 b4_9
       clear hbx))
  have HF := Lib.hid (show ∀ X, Below w5.heap.size w5 X → X.cell? ⟨w4.heap.size, 0, none⟩ = some (.int .i64 t.pl) ∧ X.cell? ⟨w4.heap.size, 3, none⟩ = some (.int .i64 t.ph) ∧ X.cell? ⟨w4.heap.size, 5, none⟩ = some (.int .i64 t.hd) ∧ X.cell? ⟨w4.heap.size, 6, none⟩ = some (.int .i64 t.hl) ∧ X.cell? ⟨b, off + t.pl.toNat * 5 + 4, none⟩ = some (.int .i64 r.hd) from fun X hX => by
    obtain ⟨a0, a1, a2, a3, a4, a5, a6, a7, a8, a9⟩ := (HG4.out X (HY4.out.trans (hX.mono HY4.out.size))).cells
    exact ⟨a0, a3, a5, a6, HQC.out X (HX5.out.trans (hX.mono HX5.out.size))⟩)
  have hSd : Below w5.heap.size w5 w5.drew := (Below.refl _ w5).drew
  refine wp_region_held_drew (S := fun X => Below w5.heap.size w5 X) (by kernel_rfl) hSd (fun hHeld => ?_)
  obtain ⟨y0, hY0⟩ : ∃ Y, w5.drew = Y := ⟨_, rfl⟩
  rw [hY0] at hSd hHeld ⊢
  clear hY0
  refine tk 0 (.pointer (some ⟨w4.heap.size, 6, none⟩)) hHeld (fun w => ?_) ?_
  · go_simp
  simp only [PT]
  refine tkS 1 (.int .i64 t.hl) hHeld (fun w hq => ?_) ?_
  · obtain ⟨z0, z1, z2, z3, z4⟩ := HF.out w hq
    go_simp
  simp only [PT]
  refine tk 2 (.bool true) hHeld (fun w => ?_) ?_
  · (go_simp; try exact HV.out.1)
  simp only [PT]
  refine tk 3 (.bool true) hHeld (fun w => ?_) ?_
  · go_simp
  simp only [PT]
  refine tk 4 (.pointer (some ⟨w4.heap.size, 5, none⟩)) hHeld (fun w => ?_) ?_
  · go_simp
  simp only [PT]
  refine tkS 5 (.int .i64 t.hd) hHeld (fun w hq => ?_) ?_
  · obtain ⟨z0, z1, z2, z3, z4⟩ := HF.out w hq
    go_simp
  simp only [PT]
  refine tk 6 (.bool true) hHeld (fun w => ?_) ?_
  · (go_simp; try exact HV.out.2.1)
  simp only [PT]
  refine tk 7 (.bool true) hHeld (fun w => ?_) ?_
  · go_simp
  simp only [PT]
  refine tk 8 (.bool true) hHeld (fun w => ?_) ?_
  · go_simp
  simp only [PT]
  refine tk 9 (.pointer (some ⟨w4.heap.size, 6, none⟩)) hHeld (fun w => ?_) ?_
  · go_simp
  simp only [PT]
  refine tkS 10 (.int .i64 t.hl) hHeld (fun w hq => ?_) ?_
  · obtain ⟨z0, z1, z2, z3, z4⟩ := HF.out w hq
    go_simp
  simp only [PT]
  refine tk 11 (.pointer (some ⟨w4.heap.size, 5, none⟩)) hHeld (fun w => ?_) ?_
  · go_simp
  simp only [PT]
  refine tkS 12 (.int .i64 t.hd) hHeld (fun w hq => ?_) ?_
  · obtain ⟨z0, z1, z2, z3, z4⟩ := HF.out w hq
    go_simp
  simp only [PT]
  refine tk 13 (.int .i64 (t.hl + t.hd)) hHeld (fun w => ?_) ?_
  · (go_simp; try exact HV.out.2.2.2)
  simp only [PT]
  refine tk 14 (.slice (some ⟨b, off, none⟩) n c) hHeld (fun w => ?_) ?_
  · go_simp
  simp only [PT]
  refine tk 15 (.pointer (some ⟨w4.heap.size, 0, none⟩)) hHeld (fun w => ?_) ?_
  · go_simp
  simp only [PT]
  refine tkS 16 (.int .i64 t.pl) hHeld (fun w hq => ?_) ?_
  · obtain ⟨z0, z1, z2, z3, z4⟩ := HF.out w hq
    go_simp
  simp only [PT]
  refine tk 17 (.pointer (some ⟨b, off + t.pl.toNat * 5, none⟩)) hHeld (fun w => ?_) ?_
  · go_simp
  simp only [PT]
  refine tk 18 (.pointer (some ⟨b, off + t.pl.toNat * 5 + 4, none⟩)) hHeld (fun w => ?_) ?_
  · go_simp
  simp only [PT]
  refine tkS 19 (.int .i64 r.hd) hHeld (fun w hq => ?_) ?_
  · obtain ⟨z0, z1, z2, z3, z4⟩ := HF.out w hq
    go_simp
  simp only [PT]
  refine tk 20 (.bool true) hHeld (fun w => ?_) ?_
  · (go_simp; try exact HV.out.2.2.1)
  simp only [PT]
  refine tk 21 (.bool true) hHeld (fun w => ?_) ?_
  · go_simp
  simp only [PT]
  refine tk 22 (.bool true) hHeld (fun w => ?_) ?_
  · go_simp
  simp only [PT]
  refine tk 23 (.pointer (some ⟨w4.heap.size, 3, none⟩)) hHeld (fun w => ?_) ?_
  · go_simp
  simp only [PT]
  refine tkS 24 (.int .i64 t.ph) hHeld (fun w hq => ?_) ?_
  · obtain ⟨z0, z1, z2, z3, z4⟩ := HF.out w hq
    go_simp
  simp only [PT]
  refine tk 25 (.bool false) hHeld (fun w => ?_) ?_
  · (go_simp; try exact HPB.out)
  simp only [PT]
  refine tk 26 (.bool false) hHeld (fun w => ?_) ?_
  · go_simp
  simp only [PT]
  refine tk 27 (.pointer (some ⟨w4.heap.size, 6, none⟩)) hHeld (fun w => ?_) ?_
  · go_simp
  simp only [PT]
  refine tkS 28 (.int .i64 t.hl) hHeld (fun w hq => ?_) ?_
  · obtain ⟨z0, z1, z2, z3, z4⟩ := HF.out w hq
    go_simp
  simp only [PT]
  refine tk 29 (.bool true) hHeld (fun w => ?_) ?_
  · (go_simp; try exact HZ.out.1)
  simp only [PT]
  refine tk 30 (.bool true) hHeld (fun w => ?_) ?_
  · go_simp
  simp only [PT]
  refine tk 31 (.pointer (some ⟨w4.heap.size, 5, none⟩)) hHeld (fun w => ?_) ?_
  · go_simp
  simp only [PT]
  refine tkS 32 (.int .i64 t.hd) hHeld (fun w hq => ?_) ?_
  · obtain ⟨z0, z1, z2, z3, z4⟩ := HF.out w hq
    go_simp
  simp only [PT]
  refine tk 33 (.bool true) hHeld (fun w => ?_) ?_
  · (go_simp; try exact HZ.out.2)
  simp only [PT]
  refine tk 34 (.bool true) hHeld (fun w => ?_) ?_
  · go_simp
  simp only [PT]
  refine tk 35 (.bool true) hHeld (fun w => ?_) ?_
  · go_simp
  simp only [PT]
  refine tk 36 (.bool true) hHeld (fun w => ?_) ?_
  · go_simp
  simp only [PT]
  refine tk 37 (.bool true) hHeld (fun w => ?_) ?_
  · go_simp
  simp only [PT]
  refine wpAnyH_done (by kernel_rfl) ?_ _
  clear hHeld
  go_wp2
  go_ret
  exact ⟨by first | rfl | simp, HB0.out.trans ((HX5.out.trans (hSd.mono HX5.out.size)).mono HB0.out.size)⟩
set_option maxHeartbeats 16000000 in
theorem fhold_any (HO : SafOk) (HN : StgOk) (HT : LmpText) (A : Option Addr) (n c : Nat) (l : List Pl) (s : Sg) (B : Option Addr) (m d : Nat) (q : List Ak) (w : World) (hl : Pls w A n c l) (hq : Aks w B m d q) (hts : SmG s) :
    Calls Try.prog 5 #[.slice A n c, sgV s, .slice B m d] w fun e w' => e = .returned (.bool true) ∧ Below w.heap.size w w' := by
  have hqs := hq.small
  cases hfw : fewAllB l with
  | false =>
    have hsm := hl.small
    have hlen := hl.len
    simp only [sgV]
    obtain ⟨W0, hW0⟩ : ∃ W0, w.alloc (.cells #[.int .i64 s.pl, .int .i64 s.st, .int .i64 s.nx, .int .i64 s.ph, .int .i64 s.t, .int .i64 s.hd, .int .i64 s.hl, .int .i64 s.ak, .int .i64 s.wt, .bool s.sp] 24) = W0 := ⟨_, rfl⟩
    have hB0 : Below w.heap.size w W0 := by rw [← hW0]; exact one_alloc w _
    have hbs : BoxG W0 w.heap.size s := by rw [← hW0]; exact BoxG.new w s
    have HPL := Lib.hid (show ∀ X, Below W0.heap.size W0 X → Pls X A n c l from fun X hX => (hl.below hB0).below hX)
    have HBS := Lib.hid (show ∀ X, Below W0.heap.size W0 X → BoxG X w.heap.size s from fun X hX => hbs.below hX)
    have HLL := Lib.hid hlen
    have HB0 := Lib.hid hB0
    have HW := Lib.hid hW0
    have HAW := Lib.hid (sawake17_any HO HN HT W0)
    have HFW := Lib.hid (fun X hX => pfewall_any A n c l X (HPL.out X hX))
    clear hW0 hB0 hbs hl
    rw [hfw] at HFW
    clear hfw hq
    go_enter Try.func5, Try.ntmps5
    go_wp2_with (first
        | (go_at_call 10
           rw [HW.out]
           (with_reducible refine (HAW.out).mono ?_)
           rintro e w1 ⟨rfl, hbx⟩
           have HX1 := Lib.hid hbx
           clear hbx)
        | (go_at_call 11
           (with_reducible refine (HFW.out _ HX1.out).mono ?_)
           rintro e w2 ⟨rfl, hbx⟩
           have HX2 := Lib.hid (HX1.out.trans (hbx.mono HX1.out.size))
           obtain ⟨a0, a1, a2, a3, a4, a5, a6, a7, a8, a9⟩ := (HBS.out w2 HX2.out).cells
           clear hbx))
    go_ret
    exact ⟨rfl, HB0.out.trans (HX2.out.mono HB0.out.size)⟩
  | true =>
  by_cases hm60 : 60 < m
  · have hm61 : 60 < (m : Int) := by omega
    have hsm := hl.small
    have hlen := hl.len
    simp only [sgV]
    obtain ⟨W0, hW0⟩ : ∃ W0, w.alloc (.cells #[.int .i64 s.pl, .int .i64 s.st, .int .i64 s.nx, .int .i64 s.ph, .int .i64 s.t, .int .i64 s.hd, .int .i64 s.hl, .int .i64 s.ak, .int .i64 s.wt, .bool s.sp] 24) = W0 := ⟨_, rfl⟩
    have hB0 : Below w.heap.size w W0 := by rw [← hW0]; exact one_alloc w _
    have hbs : BoxG W0 w.heap.size s := by rw [← hW0]; exact BoxG.new w s
    have HPL := Lib.hid (show ∀ X, Below W0.heap.size W0 X → Pls X A n c l from fun X hX => (hl.below hB0).below hX)
    have HBS := Lib.hid (show ∀ X, Below W0.heap.size W0 X → BoxG X w.heap.size s from fun X hX => hbs.below hX)
    have HLL := Lib.hid hlen
    have HB0 := Lib.hid hB0
    have HW := Lib.hid hW0
    have HAW := Lib.hid (sawake17_any HO HN HT W0)
    have HFW := Lib.hid (fun X hX => pfewall_any A n c l X (HPL.out X hX))
    clear hW0 hB0 hbs hl
    rw [hfw] at HFW
    clear hfw hq
    go_enter Try.func5, Try.ntmps5
    go_wp2_with (first
        | (go_at_call 10
           rw [HW.out]
           (with_reducible refine (HAW.out).mono ?_)
           rintro e w1 ⟨rfl, hbx⟩
           have HX1 := Lib.hid hbx
           clear hbx)
        | (go_at_call 11
           (with_reducible refine (HFW.out _ HX1.out).mono ?_)
           rintro e w2 ⟨rfl, hbx⟩
           have HX2 := Lib.hid (HX1.out.trans (hbx.mono HX1.out.size))
           obtain ⟨a0, a1, a2, a3, a4, a5, a6, a7, a8, a9⟩ := (HBS.out w2 HX2.out).cells
           clear hbx))
    go_ret
    exact ⟨rfl, HB0.out.trans (HX2.out.mono HB0.out.size)⟩
  have hm61 : ¬ 60 < (m : Int) := by omega
  cases hm : mayS l s with
  | false =>
    have hsm := hl.small
    have hlen := hl.len
    simp only [sgV]
    obtain ⟨W0, hW0⟩ : ∃ W0, w.alloc (.cells #[.int .i64 s.pl, .int .i64 s.st, .int .i64 s.nx, .int .i64 s.ph, .int .i64 s.t, .int .i64 s.hd, .int .i64 s.hl, .int .i64 s.ak, .int .i64 s.wt, .bool s.sp] 24) = W0 := ⟨_, rfl⟩
    have hB0 : Below w.heap.size w W0 := by rw [← hW0]; exact one_alloc w _
    have hbs : BoxG W0 w.heap.size s := by rw [← hW0]; exact BoxG.new w s
    have HPL := Lib.hid (show ∀ X, Below W0.heap.size W0 X → Pls X A n c l from fun X hX => (hl.below hB0).below hX)
    have HBS := Lib.hid (show ∀ X, Below W0.heap.size W0 X → BoxG X w.heap.size s from fun X hX => hbs.below hX)
    have HLL := Lib.hid hlen
    have HB0 := Lib.hid hB0
    have HW := Lib.hid hW0
    have HAW := Lib.hid (sawake17_any HO HN HT W0)
    have HFW := Lib.hid (fun X hX => pfewall_any A n c l X (HPL.out X hX))
    clear hW0 hB0 hbs hl
    rw [hfw] at HFW
    obtain ⟨hl5, hfp⟩ := fewall_iff.1 hfw
    have hn1000 : n ≤ 1000 := by omega
    have hmem : ∀ p ∈ l, p.n ≤ 1000 ∧ p.k ≤ 1000 := fun p hp => by have := hfp p hp; omega
    have HMY := Lib.hid (fun X hX => HN.may A n c l s X (HPL.out X hX) hts hn1000 hmem)
    rw [hm] at HMY
    simp only [sgV] at HMY
    clear hm hmem hfp hfw hq
    go_enter Try.func5, Try.ntmps5
    go_wp2_with (first
        | (go_at_call 10
           rw [HW.out]
           (with_reducible refine (HAW.out).mono ?_)
           rintro e w1 ⟨rfl, hbx⟩
           have HX1 := Lib.hid hbx
           clear hbx)
        | (go_at_call 11
           (with_reducible refine (HFW.out _ HX1.out).mono ?_)
           rintro e w2 ⟨rfl, hbx⟩
           have HX2 := Lib.hid (HX1.out.trans (hbx.mono HX1.out.size))
           obtain ⟨a0, a1, a2, a3, a4, a5, a6, a7, a8, a9⟩ := (HBS.out w2 HX2.out).cells
           clear hbx)
        | (go_at_call 22
           (with_reducible refine (HMY.out _ HX2.out).mono ?_)
           rintro e w3 ⟨rfl, hbx⟩
           have HX3 := Lib.hid (HX2.out.trans (hbx.mono HX2.out.size))
           obtain ⟨m0, m1, m2, m3, m4, m5, m6, m7, m8, m9⟩ := (HBS.out w3 HX3.out).cells
           clear hbx))
    go_ret
    exact ⟨rfl, HB0.out.trans (HX3.out.mono HB0.out.size)⟩
  | true =>
  by_cases hp : (playG l s q m).ph = 0
  · exact fhold_g HO HN HT A n c l s B m d q w hl hq hts hfw (by omega) hm hp
  · exact fhold_o HO HN HT A n c l s B m d q w hl hq hts hfw (by omega) hm hp
end Go.Proofs.Ytgnhmdfajnnkhaa

