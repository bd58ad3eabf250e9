/- The walk over the law StageGreen. -/
import Derived.Test.YtcgakgbnhlmcaaaStJH
import Derived.Test.YtcgakgbnhlmcaaaStJI
import Derived.Test.YtcgakgbnhlmcaaaStJJ
namespace Go.Proofs.Ytcgakgbnhlmcaaa
set_option maxRecDepth 100000
set_option linter.unusedVariables false
set_option linter.unusedSimpArgs false
open Go.RowKit

set_option maxHeartbeats 16000000 in
theorem sgreen_any (HO : StgOk) (HT : LmpText) (A : Option Addr) (n c : Nat) (l : List Pl) (s : Sg) (w : World) (hl : Pls w A n c l) (hts : SmG s) :
    Calls Try.prog 5 #[.slice A n c, sgV s] w fun e w' => e = .returned (.bool true) ∧ Below w.heap.size w w' := by
  have HLW := Lib.hid hl
  have hsm := hl.small
  have hlen := hl.len
  simp only [sgV]
  obtain ⟨W0, hW0⟩ : ∃ W0, w.alloc (.cells #[.int .i64 s.pl, .int .i64 s.st, .int .i64 s.nx, .int .i64 s.ph, .int .i64 s.t, .int .i64 s.hd, .int .i64 s.hl, .int .i64 s.ak, .int .i64 s.wt, .bool s.sp] 24) = W0 := ⟨_, rfl⟩
  have hB0 : Below w.heap.size w W0 := by rw [← hW0]; exact one_alloc w _
  have hbs : BoxG W0 w.heap.size s := by rw [← hW0]; exact BoxG.new w s
  have HPL := Lib.hid (show ∀ X, Below W0.heap.size W0 X → Pls X A n c l from fun X hX => (hl.below hB0).below hX)
  have HBS := Lib.hid (show ∀ X, Below W0.heap.size W0 X → BoxG X w.heap.size s from fun X hX => hbs.below hX)
  have HLL := Lib.hid hlen
  have HB0 := Lib.hid hB0
  have HW := Lib.hid hW0
  have HAW := Lib.hid (sawake16_any HO HT W0)
  have HFW := Lib.hid (fun X hX => pfewall_any A n c l X (HPL.out X hX))
  clear hW0 hB0 hbs hl
  cases hfw : fewAllB l with
  | false =>
    rw [hfw] at HFW
    clear hfw
    go_enter Try.func5, Try.ntmps5
    go_wp2_with (first
        | (go_at_call 9
           rw [HW.out]
           (with_reducible refine (HAW.out).mono ?_)
           rintro e w1 ⟨rfl, hbx⟩
           have HX1 := Lib.hid hbx
           clear hbx)
        | (go_at_call 10
           (with_reducible refine (HFW.out _ HX1.out).mono ?_)
           rintro e w2 ⟨rfl, hbx⟩
           have HX2 := Lib.hid (HX1.out.trans (hbx.mono HX1.out.size))
           clear hbx))
    have HF := Lib.hid (show ∀ X, Below w2.heap.size w2 X → X.cell? ⟨w.heap.size, 0, none⟩ = some (.int .i64 s.pl) ∧ X.cell? ⟨w.heap.size, 1, none⟩ = some (.int .i64 s.st) ∧ X.cell? ⟨w.heap.size, 2, none⟩ = some (.int .i64 s.nx) ∧ X.cell? ⟨w.heap.size, 3, none⟩ = some (.int .i64 s.ph) ∧ X.cell? ⟨w.heap.size, 4, none⟩ = some (.int .i64 s.t) ∧ X.cell? ⟨w.heap.size, 5, none⟩ = some (.int .i64 s.hd) ∧ X.cell? ⟨w.heap.size, 6, none⟩ = some (.int .i64 s.hl) ∧ X.cell? ⟨w.heap.size, 7, none⟩ = some (.int .i64 s.ak) ∧ X.cell? ⟨w.heap.size, 8, none⟩ = some (.int .i64 s.wt) ∧ X.cell? ⟨w.heap.size, 9, none⟩ = some (.bool s.sp) from fun X hX => by
      have hX0 := HX2.out.trans (hX.mono HX2.out.size)
      obtain ⟨y0, y1, y2, y3, y4, y5, y6, y7, y8, y9⟩ := (HBS.out X hX0).cells
      exact ⟨y0, y1, y2, y3, y4, y5, y6, y7, y8, y9⟩)
    have hSd : Below w2.heap.size w2 w2.drew := (Below.refl _ w2).drew
    refine wp_region_held_drew (S := fun X => Below w2.heap.size w2 X) (by kernel_rfl) hSd (fun hHeld => ?_)
    refine tk 0 (.bool true) hHeld (fun w => ?_) ?_
    · go_simp
    simp only [PT]
    refine tk 1 (.bool false) hHeld (fun w => ?_) ?_
    · go_simp
    simp only [PT]
    refine tk 2 (.bool false) hHeld (fun w => ?_) ?_
    · go_simp
    simp only [PT]
    refine tk 3 (.bool false) hHeld (fun w => ?_) ?_
    · go_simp
    simp only [PT]
    refine tk 4 (.bool true) hHeld (fun w => ?_) ?_
    · go_simp
    simp only [PT]
    refine tk 5 (.bool true) hHeld (fun w => ?_) ?_
    · go_simp
    simp only [PT]
    refine tk 6 (.bool true) hHeld (fun w => ?_) ?_
    · go_simp
    simp only [PT]
    refine tkO 7 hHeld ?_
    simp only [PT]
    refine tkO 8 hHeld ?_
    simp only [PT]
    refine tkO 9 hHeld ?_
    simp only [PT]
    refine tkO 10 hHeld ?_
    simp only [PT]
    refine tk 11 (.bool true) hHeld (fun w => ?_) ?_
    · go_simp
    simp only [PT]
    refine tk 12 (.bool true) hHeld (fun w => ?_) ?_
    · go_simp
    simp only [PT]
    refine tkO 13 hHeld ?_
    simp only [PT]
    refine tkO 14 hHeld ?_
    simp only [PT]
    refine tkO 15 hHeld ?_
    simp only [PT]
    refine tk 16 (.bool true) hHeld (fun w => ?_) ?_
    · go_simp
    simp only [PT]
    refine tk 17 (.bool true) hHeld (fun w => ?_) ?_
    · go_simp
    simp only [PT]
    refine tkO 18 hHeld ?_
    simp only [PT]
    refine tkO 19 hHeld ?_
    simp only [PT]
    refine tkO 20 hHeld ?_
    simp only [PT]
    refine tk 21 (.bool true) hHeld (fun w => ?_) ?_
    · go_simp
    simp only [PT]
    refine tk 22 (.bool true) hHeld (fun w => ?_) ?_
    · go_simp
    simp only [PT]
    refine tkO 23 hHeld ?_
    simp only [PT]
    refine tkO 24 hHeld ?_
    simp only [PT]
    refine tkO 25 hHeld ?_
    simp only [PT]
    refine tkO 26 hHeld ?_
    simp only [PT]
    refine tkO 27 hHeld ?_
    simp only [PT]
    refine tk 28 (.bool true) hHeld (fun w => ?_) ?_
    · go_simp
    simp only [PT]
    refine tk 29 (.bool true) hHeld (fun w => ?_) ?_
    · go_simp
    simp only [PT]
    refine tkO 30 hHeld ?_
    simp only [PT]
    refine tkO 31 hHeld ?_
    simp only [PT]
    refine tkO 32 hHeld ?_
    simp only [PT]
    refine tk 33 (.bool true) hHeld (fun w => ?_) ?_
    · go_simp
    simp only [PT]
    refine tk 34 (.bool true) hHeld (fun w => ?_) ?_
    · go_simp
    simp only [PT]
    refine tkO 35 hHeld ?_
    simp only [PT]
    refine tkO 36 hHeld ?_
    simp only [PT]
    refine tkO 37 hHeld ?_
    simp only [PT]
    refine tkO 38 hHeld ?_
    simp only [PT]
    refine tkO 39 hHeld ?_
    simp only [PT]
    refine tkO 40 hHeld ?_
    simp only [PT]
    refine tkO 41 hHeld ?_
    simp only [PT]
    refine tkO 42 hHeld ?_
    simp only [PT]
    refine tkO 43 hHeld ?_
    simp only [PT]
    refine tkO 44 hHeld ?_
    simp only [PT]
    refine tk 45 (.bool true) hHeld (fun w => ?_) ?_
    · go_simp
    simp only [PT]
    refine wpAnyH_done (by kernel_rfl) ?_ _
    clear hHeld
    go_wp2
    go_ret
    exact ⟨rfl, HB0.out.trans ((HX2.out.trans (hSd.mono HX2.out.size)).mono HB0.out.size)⟩
  | true =>
  rw [hfw] at HFW
  obtain ⟨hl5, hfp⟩ := fewall_iff.1 hfw
  have hn1000 : n ≤ 1000 := by omega
  have hmem : ∀ p ∈ l, p.n ≤ 1000 ∧ p.k ≤ 1000 := fun p hp => by have := hfp p hp; omega
  have HMY := Lib.hid (fun X hX => HO.may A n c l s X (HPL.out X hX) hts hn1000 hmem)
  cases hm : mayS l s with
  | false =>
    rw [hm] at HMY
    simp only [sgV] at HMY
    clear hm hmem hfp hfw
    go_enter Try.func5, Try.ntmps5
    go_wp2_with (first
        | (go_at_call 9
           rw [HW.out]
           (with_reducible refine (HAW.out).mono ?_)
           rintro e w1 ⟨rfl, hbx⟩
           have HX1 := Lib.hid hbx
           clear hbx)
        | (go_at_call 10
           (with_reducible refine (HFW.out _ HX1.out).mono ?_)
           rintro e w2 ⟨rfl, hbx⟩
           have HX2 := Lib.hid (HX1.out.trans (hbx.mono HX1.out.size))
           clear hbx))
    have HF := Lib.hid (show ∀ X, Below w2.heap.size w2 X → X.cell? ⟨w.heap.size, 0, none⟩ = some (.int .i64 s.pl) ∧ X.cell? ⟨w.heap.size, 1, none⟩ = some (.int .i64 s.st) ∧ X.cell? ⟨w.heap.size, 2, none⟩ = some (.int .i64 s.nx) ∧ X.cell? ⟨w.heap.size, 3, none⟩ = some (.int .i64 s.ph) ∧ X.cell? ⟨w.heap.size, 4, none⟩ = some (.int .i64 s.t) ∧ X.cell? ⟨w.heap.size, 5, none⟩ = some (.int .i64 s.hd) ∧ X.cell? ⟨w.heap.size, 6, none⟩ = some (.int .i64 s.hl) ∧ X.cell? ⟨w.heap.size, 7, none⟩ = some (.int .i64 s.ak) ∧ X.cell? ⟨w.heap.size, 8, none⟩ = some (.int .i64 s.wt) ∧ X.cell? ⟨w.heap.size, 9, none⟩ = some (.bool s.sp) from fun X hX => by
      have hX0 := HX2.out.trans (hX.mono HX2.out.size)
      obtain ⟨y0, y1, y2, y3, y4, y5, y6, y7, y8, y9⟩ := (HBS.out X hX0).cells
      exact ⟨y0, y1, y2, y3, y4, y5, y6, y7, y8, y9⟩)
    have hSd : Below w2.heap.size w2 w2.drew := (Below.refl _ w2).drew
    refine wp_region_held_drew (S := fun X => Below w2.heap.size w2 X) (by kernel_rfl) hSd (fun hHeld => ?_)
    refine tk 0 (.bool true) hHeld (fun w => ?_) ?_
    · go_simp
    simp only [PT]
    refine tk 1 (.bool false) hHeld (fun w => ?_) ?_
    · go_simp
    simp only [PT]
    refine tk 2 (.bool false) hHeld (fun w => ?_) ?_
    · go_simp
    simp only [PT]
    refine tk 3 (.bool true) hHeld (fun w => ?_) ?_
    · go_simp
    simp only [PT]
    refine tk 4 (.bool false) hHeld (fun w => ?_) ?_
    · go_simp
    simp only [PT]
    refine tk 5 (.bool false) hHeld (fun w => ?_) ?_
    · go_simp
    simp only [PT]
    refine tk 6 (.bool false) hHeld (fun w => ?_) ?_
    · go_simp
    simp only [PT]
    refine tk 7 (.slice A n c) hHeld (fun w => ?_) ?_
    · go_simp
    simp only [PT]
    refine tkS 8 (.agg #[.int .i64 s.pl, .int .i64 s.st, .int .i64 s.nx, .int .i64 s.ph, .int .i64 s.t, .int .i64 s.hd, .int .i64 s.hl, .int .i64 s.ak, .int .i64 s.wt, .bool s.sp]) hHeld (fun w hq => ?_) ?_
    · obtain ⟨z0, z1, z2, z3, z4, z5, z6, z7, z8, z9⟩ := HF.out w hq
      go_simp
    simp only [PT]
    refine one_step 9 (by kernel_rfl) rfl (fun Kq hKq => ?_)
    go_simp
    go_at_call 17
    (with_reducible refine (HMY.out _ (HX2.out.trans (hSd.mono HX2.out.size))).mono ?_)
    rintro e y1 ⟨rfl, hbx⟩
    have hS1 : Below w2.heap.size w2 y1 := hSd.trans (hbx.mono hSd.size)
    clear hbx
    refine hKq.out _ _ hS1 (fun hHeld0 => ?_)
    clear hKq Kq hHeld
    have hHeld := hHeld0
    clear hHeld0
    try simp only [PT]
    refine tk 10 (.bool true) hHeld (fun w => ?_) ?_
    · go_simp
    simp only [PT]
    refine tk 11 (.bool true) hHeld (fun w => ?_) ?_
    · go_simp
    simp only [PT]
    refine tk 12 (.bool true) hHeld (fun w => ?_) ?_
    · go_simp
    simp only [PT]
    refine tkO 13 hHeld ?_
    simp only [PT]
    refine tkO 14 hHeld ?_
    simp only [PT]
    refine tkO 15 hHeld ?_
    simp only [PT]
    refine tk 16 (.bool true) hHeld (fun w => ?_) ?_
    · go_simp
    simp only [PT]
    refine tk 17 (.bool true) hHeld (fun w => ?_) ?_
    · go_simp
    simp only [PT]
    refine tkO 18 hHeld ?_
    simp only [PT]
    refine tkO 19 hHeld ?_
    simp only [PT]
    refine tkO 20 hHeld ?_
    simp only [PT]
    refine tk 21 (.bool true) hHeld (fun w => ?_) ?_
    · go_simp
    simp only [PT]
    refine tk 22 (.bool true) hHeld (fun w => ?_) ?_
    · go_simp
    simp only [PT]
    refine tkO 23 hHeld ?_
    simp only [PT]
    refine tkO 24 hHeld ?_
    simp only [PT]
    refine tkO 25 hHeld ?_
    simp only [PT]
    refine tkO 26 hHeld ?_
    simp only [PT]
    refine tkO 27 hHeld ?_
    simp only [PT]
    refine tk 28 (.bool true) hHeld (fun w => ?_) ?_
    · go_simp
    simp only [PT]
    refine tk 29 (.bool true) hHeld (fun w => ?_) ?_
    · go_simp
    simp only [PT]
    refine tkO 30 hHeld ?_
    simp only [PT]
    refine tkO 31 hHeld ?_
    simp only [PT]
    refine tkO 32 hHeld ?_
    simp only [PT]
    refine tk 33 (.bool true) hHeld (fun w => ?_) ?_
    · go_simp
    simp only [PT]
    refine tk 34 (.bool true) hHeld (fun w => ?_) ?_
    · go_simp
    simp only [PT]
    refine tkO 35 hHeld ?_
    simp only [PT]
    refine tkO 36 hHeld ?_
    simp only [PT]
    refine tkO 37 hHeld ?_
    simp only [PT]
    refine tkO 38 hHeld ?_
    simp only [PT]
    refine tkO 39 hHeld ?_
    simp only [PT]
    refine tkO 40 hHeld ?_
    simp only [PT]
    refine tkO 41 hHeld ?_
    simp only [PT]
    refine tkO 42 hHeld ?_
    simp only [PT]
    refine tkO 43 hHeld ?_
    simp only [PT]
    refine tkO 44 hHeld ?_
    simp only [PT]
    refine tk 45 (.bool true) hHeld (fun w => ?_) ?_
    · go_simp
    simp only [PT]
    refine wpAnyH_done (by kernel_rfl) ?_ _
    clear hHeld
    go_wp2
    go_ret
    exact ⟨rfl, HB0.out.trans ((HX2.out.trans (hS1.mono HX2.out.size)).mono HB0.out.size)⟩
  | true =>
  rw [hm] at HMY
  by_cases hph : s.ph = 0
  rotate_left
  · have hph1 : (s.ph != 0) = true := by rw [bne_iff_ne]; exact hph
    simp only [sgV] at HMY
    clear hm hmem hfp hfw hph
    go_enter Try.func5, Try.ntmps5
    go_wp2_with (first
        | (go_at_call 9
           rw [HW.out]
           (with_reducible refine (HAW.out).mono ?_)
           rintro e w1 ⟨rfl, hbx⟩
           have HX1 := Lib.hid hbx
           clear hbx)
        | (go_at_call 10
           (with_reducible refine (HFW.out _ HX1.out).mono ?_)
           rintro e w2 ⟨rfl, hbx⟩
           have HX2 := Lib.hid (HX1.out.trans (hbx.mono HX1.out.size))
           clear hbx))
    have HF := Lib.hid (show ∀ X, Below w2.heap.size w2 X → X.cell? ⟨w.heap.size, 0, none⟩ = some (.int .i64 s.pl) ∧ X.cell? ⟨w.heap.size, 1, none⟩ = some (.int .i64 s.st) ∧ X.cell? ⟨w.heap.size, 2, none⟩ = some (.int .i64 s.nx) ∧ X.cell? ⟨w.heap.size, 3, none⟩ = some (.int .i64 s.ph) ∧ X.cell? ⟨w.heap.size, 4, none⟩ = some (.int .i64 s.t) ∧ X.cell? ⟨w.heap.size, 5, none⟩ = some (.int .i64 s.hd) ∧ X.cell? ⟨w.heap.size, 6, none⟩ = some (.int .i64 s.hl) ∧ X.cell? ⟨w.heap.size, 7, none⟩ = some (.int .i64 s.ak) ∧ X.cell? ⟨w.heap.size, 8, none⟩ = some (.int .i64 s.wt) ∧ X.cell? ⟨w.heap.size, 9, none⟩ = some (.bool s.sp) from fun X hX => by
      have hX0 := HX2.out.trans (hX.mono HX2.out.size)
      obtain ⟨y0, y1, y2, y3, y4, y5, y6, y7, y8, y9⟩ := (HBS.out X hX0).cells
      exact ⟨y0, y1, y2, y3, y4, y5, y6, y7, y8, y9⟩)
    have hSd : Below w2.heap.size w2 w2.drew := (Below.refl _ w2).drew
    refine wp_region_held_drew (S := fun X => Below w2.heap.size w2 X) (by kernel_rfl) hSd (fun hHeld => ?_)
    refine tk 0 (.bool true) hHeld (fun w => ?_) ?_
    · go_simp
    simp only [PT]
    refine tk 1 (.bool false) hHeld (fun w => ?_) ?_
    · go_simp
    simp only [PT]
    refine tk 2 (.bool false) hHeld (fun w => ?_) ?_
    · go_simp
    simp only [PT]
    refine tk 3 (.bool true) hHeld (fun w => ?_) ?_
    · go_simp
    simp only [PT]
    refine tk 4 (.bool false) hHeld (fun w => ?_) ?_
    · go_simp
    simp only [PT]
    refine tk 5 (.bool false) hHeld (fun w => ?_) ?_
    · go_simp
    simp only [PT]
    refine tk 6 (.bool false) hHeld (fun w => ?_) ?_
    · go_simp
    simp only [PT]
    refine tk 7 (.slice A n c) hHeld (fun w => ?_) ?_
    · go_simp
    simp only [PT]
    refine tkS 8 (.agg #[.int .i64 s.pl, .int .i64 s.st, .int .i64 s.nx, .int .i64 s.ph, .int .i64 s.t, .int .i64 s.hd, .int .i64 s.hl, .int .i64 s.ak, .int .i64 s.wt, .bool s.sp]) hHeld (fun w hq => ?_) ?_
    · obtain ⟨z0, z1, z2, z3, z4, z5, z6, z7, z8, z9⟩ := HF.out w hq
      go_simp
    simp only [PT]
    refine one_step 9 (by kernel_rfl) rfl (fun Kq hKq => ?_)
    go_simp
    go_at_call 17
    (with_reducible refine (HMY.out _ (HX2.out.trans (hSd.mono HX2.out.size))).mono ?_)
    rintro e y1 ⟨rfl, hbx⟩
    have hS1 : Below w2.heap.size w2 y1 := hSd.trans (hbx.mono hSd.size)
    clear hbx
    refine hKq.out _ _ hS1 (fun hHeld0 => ?_)
    clear hKq Kq hHeld
    have hHeld := hHeld0
    clear hHeld0
    try simp only [PT]
    refine tk 10 (.bool false) hHeld (fun w => ?_) ?_
    · go_simp
    simp only [PT]
    refine tk 11 (.bool false) hHeld (fun w => ?_) ?_
    · go_simp
    simp only [PT]
    refine tk 12 (.bool false) hHeld (fun w => ?_) ?_
    · go_simp
    simp only [PT]
    refine tk 13 (.pointer (some ⟨w.heap.size, 3, none⟩)) hHeld (fun w => ?_) ?_
    · go_simp
    simp only [PT]
    refine tkS 14 (.int .i64 s.ph) hHeld (fun w hq => ?_) ?_
    · obtain ⟨z0, z1, z2, z3, z4, z5, z6, z7, z8, z9⟩ := HF.out w hq
      go_simp
    simp only [PT]
    refine tk 15 (.bool true) hHeld (fun w => ?_) ?_
    · (go_simp; try exact hph1)
    simp only [PT]
    refine tk 16 (.bool true) hHeld (fun w => ?_) ?_
    · go_simp
    simp only [PT]
    refine tk 17 (.bool true) hHeld (fun w => ?_) ?_
    · go_simp
    simp only [PT]
    refine tkO 18 hHeld ?_
    simp only [PT]
    refine tkO 19 hHeld ?_
    simp only [PT]
    refine tkO 20 hHeld ?_
    simp only [PT]
    refine tk 21 (.bool true) hHeld (fun w => ?_) ?_
    · go_simp
    simp only [PT]
    refine tk 22 (.bool true) hHeld (fun w => ?_) ?_
    · go_simp
    simp only [PT]
    refine tkO 23 hHeld ?_
    simp only [PT]
    refine tkO 24 hHeld ?_
    simp only [PT]
    refine tkO 25 hHeld ?_
    simp only [PT]
    refine tkO 26 hHeld ?_
    simp only [PT]
    refine tkO 27 hHeld ?_
    simp only [PT]
    refine tk 28 (.bool true) hHeld (fun w => ?_) ?_
    · go_simp
    simp only [PT]
    refine tk 29 (.bool true) hHeld (fun w => ?_) ?_
    · go_simp
    simp only [PT]
    refine tkO 30 hHeld ?_
    simp only [PT]
    refine tkO 31 hHeld ?_
    simp only [PT]
    refine tkO 32 hHeld ?_
    simp only [PT]
    refine tk 33 (.bool true) hHeld (fun w => ?_) ?_
    · go_simp
    simp only [PT]
    refine tk 34 (.bool true) hHeld (fun w => ?_) ?_
    · go_simp
    simp only [PT]
    refine tkO 35 hHeld ?_
    simp only [PT]
    refine tkO 36 hHeld ?_
    simp only [PT]
    refine tkO 37 hHeld ?_
    simp only [PT]
    refine tkO 38 hHeld ?_
    simp only [PT]
    refine tkO 39 hHeld ?_
    simp only [PT]
    refine tkO 40 hHeld ?_
    simp only [PT]
    refine tkO 41 hHeld ?_
    simp only [PT]
    refine tkO 42 hHeld ?_
    simp only [PT]
    refine tkO 43 hHeld ?_
    simp only [PT]
    refine tkO 44 hHeld ?_
    simp only [PT]
    refine tk 45 (.bool true) hHeld (fun w => ?_) ?_
    · go_simp
    simp only [PT]
    refine wpAnyH_done (by kernel_rfl) ?_ _
    clear hHeld
    go_wp2
    go_ret
    exact ⟨rfl, HB0.out.trans ((HX2.out.trans (hS1.mono HX2.out.size)).mono HB0.out.size)⟩
  have hms := mayS_iff.1 hm
  have hl2 : Pls w A n c l := HLW.out
  rcases green_ways hms hph with ⟨hd, hg⟩ | ⟨hd, hg, -⟩ | ⟨hd, -, -, hg, -⟩
  · exact sgreen_held HO HT A n c l s w hl2 hts hfw hm hph (by rw [hg]; exact hph) hd
  · exact sgreen_on HO HT A n c l s w hl2 hts hfw hm hph (by rw [hg]; exact hph) hd
  · by_cases hs1 : s.sp = true
    rotate_left
    · have hs : s.sp = false := by simpa using hs1
      by_cases ha : s.ak = -1
      · by_cases hw : s.wt = -1
        · exact sgreen_max HO HT A n c l s w hl2 hts hfw hm hph hg ⟨hd, hs, ha, hw⟩
        · exact sgreen_want HO HT A n c l s w hl2 hts hfw hm hph hg ⟨hd, hs, ha, hw⟩
      · exact sgreen_ask HO HT A n c l s w hl2 hts hfw hm hph hg ⟨hd, hs, ha⟩
    · exact sgreen_stop HO HT A n c l s w hl2 hts hfw hm hph hg ⟨hd, hs1⟩
end Go.Proofs.Ytcgakgbnhlmcaaa

