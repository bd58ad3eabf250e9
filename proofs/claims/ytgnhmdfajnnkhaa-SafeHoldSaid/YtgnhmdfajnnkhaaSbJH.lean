/- Joined texts: What a machine of package stage tells: what is next, whether it was spared, whether its green ends, whether all that it is in is there. -/
import Derived.Test.YtgnhmdfajnnkhaaSbJF
/- What a machine of package stage tells: what is next, whether it was spared, whether its green ends, whether all that it is in is there. -/
namespace Go.Proofs.Ytgnhmdfajnnkhaa
set_option maxRecDepth 100000
set_option linter.unusedVariables false
set_option linter.unusedSimpArgs false
open Go.RowKit

set_option maxHeartbeats 8000000 in
theorem following_any (A : Option Addr) (n c : Nat) (l : List Pl) (s : Sg) (w : World) (hl : Pls w A n c l) (h0 : 0 ≤ s.pl) (h1 : s.pl < n) : Calls Try.prog 77 #[mcV A n c s] w fun e w' => e = .returned (.int .i64 (if s.ak = -1 then nextP (planAt l s.pl) s.st else s.ak)) ∧ Below w.heap.size w w' := by
  obtain ⟨W1, hW1⟩ : ∃ W1, w.alloc (.cells #[.slice A n c, .int .i64 s.pl, .int .i64 s.st, .int .i64 s.nx, .int .i64 s.ph, .int .i64 s.t, .int .i64 s.hd, .int .i64 s.hl, .int .i64 s.ak, .int .i64 s.wt, .bool s.sp] 66) = W1 := ⟨_, rfl⟩
  have hB1 : Below w.heap.size w W1 := by rw [← hW1]; exact one_alloc w _
  have hbm : BoxM W1 w.heap.size A n c s := by rw [← hW1]; exact BoxM.new w A n c s
  have HW := Lib.hid hW1
  clear hW1
  have HB1 := Lib.hid hB1
  have HMC := Lib.hid (show ∀ X, Below W1.heap.size W1 X → X.cell? ⟨w.heap.size, 0, none⟩ = some (.slice A n c) ∧ X.cell? ⟨w.heap.size, 1, none⟩ = some (.int .i64 s.pl) ∧ X.cell? ⟨w.heap.size, 2, none⟩ = some (.int .i64 s.st) ∧ X.cell? ⟨w.heap.size, 3, none⟩ = some (.int .i64 s.nx) ∧ X.cell? ⟨w.heap.size, 4, none⟩ = some (.int .i64 s.ph) ∧ X.cell? ⟨w.heap.size, 5, none⟩ = some (.int .i64 s.t) ∧ X.cell? ⟨w.heap.size, 6, none⟩ = some (.int .i64 s.hd) ∧ X.cell? ⟨w.heap.size, 7, none⟩ = some (.int .i64 s.hl) ∧ X.cell? ⟨w.heap.size, 8, none⟩ = some (.int .i64 s.ak) ∧ X.cell? ⟨w.heap.size, 9, none⟩ = some (.int .i64 s.wt) ∧ X.cell? ⟨w.heap.size, 10, none⟩ = some (.bool s.sp) from fun X hX => by
    obtain ⟨cm, c0, c1, c2, c3, c4, c5, c6, c7, c8, c9⟩ := (hbm.below hX).cells
    exact ⟨cm, c0, c1, c2, c3, c4, c5, c6, c7, c8, c9⟩)
  have HOW := Lib.hid (fun X (hX : Below W1.heap.size W1 X) => own_plan A n c l s X ((hl.below hB1).below hX) h0 h1)
  have HQI := Lib.hid (show ∀ X, Below W1.heap.size W1 X → PlIn X (planAt l s.pl) from fun X hX => plan_lies ((hl.below hB1).below hX) h0 h1)
  have HNX := Lib.hid (fun X (hX : Below W1.heap.size W1 X) => pnext_own (planAt l s.pl) s.st X (HQI.out X hX))
  unfold mcV at HOW ⊢
  clear hbm hB1 hl
  obtain ⟨q, hq⟩ : ∃ q, planAt l s.pl = q := ⟨_, rfl⟩
  rw [hq] at HOW HQI HNX ⊢
  clear hq
  unfold plV at HOW HNX
  obtain ⟨N, hN⟩ : ∃ N, nextP q s.st = N := ⟨_, rfl⟩
  rw [hN] at HNX ⊢
  clear hN
  obtain ⟨pl, st, nx, ph, t, hd, hh, ak, wt, sp⟩ := s
  obtain ⟨A', n', c', m, B, k, d, sl, am, rd, hd'⟩ := q
  simp only at *
  obtain ⟨cm, c0, c1, c2, c3, c4, c5, c6, c7, c8, c9⟩ := HMC.out W1 (Below.refl _ _)
  by_cases g : ak = -1
  · have HR := Lib.hid (show (if ak = -1 then N else ak) = N from if_pos g)
    have hb : (ak != -1) = false := by rw [g]; rfl
    rw [HR.out]
    clear g
    go_enter Try.func77, Try.ntmps77
    go_wp2
    try rw [HW.out]
    try go_wp2
    clear cm c0 c1 c2 c3 c4 c5 c6 c7 c8 c9
    have hSd : Below W1.heap.size W1 W1.drew := (Below.refl _ W1).drew
    refine wp_region_held_drew (S := fun X => Below W1.heap.size W1 X) (by kernel_rfl) hSd (fun hHeld => ?_)
    obtain ⟨y0, hY0⟩ : ∃ Y, W1.drew = Y := ⟨_, rfl⟩
    rw [hY0] at hSd hHeld ⊢
    clear hY0
    refine tkS 0 (.agg #[.slice A n c, .int .i64 pl, .int .i64 st, .int .i64 nx, .int .i64 ph, .int .i64 t, .int .i64 hd, .int .i64 hh, .int .i64 ak, .int .i64 wt, .bool sp]) hHeld (fun w hq => ?_) ?_
    · obtain ⟨cm, c0, c1, c2, c3, c4, c5, c6, c7, c8, c9⟩ := HMC.out w hq
      go_simp
    simp only [PT]
    refine tk 2 (.pointer (some ⟨w.heap.size, 1, none⟩)) hHeld (fun w => ?_) ?_
    · go_simp
    simp only [PT]
    refine tk 3 (.pointer (some ⟨w.heap.size, 2, none⟩)) hHeld (fun w => ?_) ?_
    · go_simp
    simp only [PT]
    refine tkS 4 (.int .i64 st) hHeld (fun w hq => ?_) ?_
    · obtain ⟨cm, c0, c1, c2, c3, c4, c5, c6, c7, c8, c9⟩ := HMC.out w hq
      go_simp
    simp only [PT]
    refine one_step 1 (by kernel_rfl) rfl (fun Kq hKq => ?_)
    go_simp
    go_at_call 58
    (with_reducible refine (HOW.out _ hSd).mono ?_)
    rintro e y1 ⟨rfl, hbx⟩
    try simp only [plV]
    have hS1 : Below W1.heap.size W1 y1 := hSd.trans (hbx.mono hSd.size)
    clear hbx
    refine hKq.out _ _ hS1 (fun hHeld0 => ?_)
    clear hKq Kq hHeld
    have hHeld := hHeld0
    clear hHeld0
    try simp only [PT]
    refine one_step 5 (by kernel_rfl) rfl (fun Kq hKq => ?_)
    go_simp
    go_at_call 91
    (with_reducible refine (HNX.out _ hS1).mono ?_)
    rintro e y2 ⟨rfl, hbx⟩
    have hS2 : Below W1.heap.size W1 y2 := hS1.trans (hbx.mono hS1.size)
    clear hbx
    refine hKq.out _ _ hS2 (fun hHeld0 => ?_)
    clear hKq Kq hHeld
    have hHeld := hHeld0
    clear hHeld0
    try simp only [PT]
    refine tk 6 (.int .i64 N) hHeld (fun w => ?_) ?_
    · go_simp
    simp only [PT]
    refine wpAnyH_done (by kernel_rfl) ?_ _
    clear hHeld
    go_wp2
    go_ret
    exact ⟨rfl, HB1.out.trans (hS2.mono HB1.out.size)⟩
  · have HR := Lib.hid (show (if ak = -1 then N else ak) = ak from if_neg g)
    have hb : (ak != -1) = true := by rw [bne_iff_ne]; exact g
    rw [HR.out]
    clear g
    go_enter Try.func77, Try.ntmps77
    go_wp2
    try rw [HW.out]
    try go_wp2
    go_ret
    exact ⟨rfl, HB1.out⟩
theorem held_no {p : Pl} {s : Sg} (h : ¬ HeldS p s) : heldB p s = false := by
  rw [← Bool.not_eq_true, held_iff]
  exact h
theorem held_last {p : Pl} {s : Sg} (h0 : 0 ≤ s.hd) (h1 : 0 ≤ s.hl) : heldB p s = decide (s.hd ≤ p.hd - s.hl) := by
  rw [heldB]
  exact decide_eq_decide.2 ⟨fun h => h.2.2.2, fun h => ⟨h0, h1, by omega, h⟩⟩
set_option maxHeartbeats 8000000 in
theorem spared_any (A : Option Addr) (n c : Nat) (l : List Pl) (s : Sg) (w : World) (hl : Pls w A n c l) (h0 : 0 ≤ s.pl) (h1 : s.pl < n) (hf : fitP (planAt l s.pl) = true) (hs : s.hl < 9223372036854775808) : Calls Try.prog 61 #[mcV A n c s] w fun e w' => e = .returned (.bool (heldB (planAt l s.pl) s)) ∧ Below w.heap.size w w' := by
  have hfd := (fit_iff.1 hf).hd1
  have hfd2 := (fit_iff.1 hf).hd2
  obtain ⟨W1, hW1⟩ : ∃ W1, w.alloc (.cells #[.slice A n c, .int .i64 s.pl, .int .i64 s.st, .int .i64 s.nx, .int .i64 s.ph, .int .i64 s.t, .int .i64 s.hd, .int .i64 s.hl, .int .i64 s.ak, .int .i64 s.wt, .bool s.sp] 66) = W1 := ⟨_, rfl⟩
  have hB1 : Below w.heap.size w W1 := by rw [← hW1]; exact one_alloc w _
  have hbm : BoxM W1 w.heap.size A n c s := by rw [← hW1]; exact BoxM.new w A n c s
  have HW := Lib.hid hW1
  clear hW1
  have HB1 := Lib.hid hB1
  have HMC := Lib.hid (show ∀ X, Below W1.heap.size W1 X → X.cell? ⟨w.heap.size, 0, none⟩ = some (.slice A n c) ∧ X.cell? ⟨w.heap.size, 1, none⟩ = some (.int .i64 s.pl) ∧ X.cell? ⟨w.heap.size, 2, none⟩ = some (.int .i64 s.st) ∧ X.cell? ⟨w.heap.size, 3, none⟩ = some (.int .i64 s.nx) ∧ X.cell? ⟨w.heap.size, 4, none⟩ = some (.int .i64 s.ph) ∧ X.cell? ⟨w.heap.size, 5, none⟩ = some (.int .i64 s.t) ∧ X.cell? ⟨w.heap.size, 6, none⟩ = some (.int .i64 s.hd) ∧ X.cell? ⟨w.heap.size, 7, none⟩ = some (.int .i64 s.hl) ∧ X.cell? ⟨w.heap.size, 8, none⟩ = some (.int .i64 s.ak) ∧ X.cell? ⟨w.heap.size, 9, none⟩ = some (.int .i64 s.wt) ∧ X.cell? ⟨w.heap.size, 10, none⟩ = some (.bool s.sp) from fun X hX => by
    obtain ⟨cm, c0, c1, c2, c3, c4, c5, c6, c7, c8, c9⟩ := (hbm.below hX).cells
    exact ⟨cm, c0, c1, c2, c3, c4, c5, c6, c7, c8, c9⟩)
  have HOW := Lib.hid (fun X (hX : Below W1.heap.size W1 X) => own_plan A n c l s X ((hl.below hB1).below hX) h0 h1)
  have HQI := Lib.hid (show ∀ X, Below W1.heap.size W1 X → PlIn X (planAt l s.pl) from fun X hX => plan_lies ((hl.below hB1).below hX) h0 h1)
  unfold mcV at HOW ⊢
  clear hbm hB1 hl
  obtain ⟨q, hq⟩ : ∃ q, planAt l s.pl = q := ⟨_, rfl⟩
  rw [hq] at HOW HQI hfd hfd2 ⊢
  clear hq hf
  unfold plV at HOW
  by_cases g0 : s.hl < 0
  · rw [held_no (p := q) fun h => by have := h.h1; omega]
    have e0 : decide (0 ≤ s.hl) = false := decide_eq_false (by omega)
    obtain ⟨pl, st, nx, ph, t, hd, hh, ak, wt, sp⟩ := s
    obtain ⟨A', n', c', m, B, k, d, sl, am, rd, hd'⟩ := q
    simp only at *
    go_enter Try.func61, Try.ntmps61
    go_wp2
    rw [HW.out]
    have hSd : Below W1.heap.size W1 W1.drew := (Below.refl _ W1).drew
    refine wp_region_held_drew (S := fun X => Below W1.heap.size W1 X) (by kernel_rfl) hSd (fun hHeld => ?_)
    obtain ⟨y0, hY0⟩ : ∃ Y, W1.drew = Y := ⟨_, rfl⟩
    rw [hY0] at hSd hHeld ⊢
    clear hY0
    refine tk 0 (.pointer (some ⟨w.heap.size, 1, none⟩)) hHeld (fun w => ?_) ?_
    · go_simp
    simp only [PT]
    refine tk 1 (.pointer (some ⟨w.heap.size, 7, none⟩)) hHeld (fun w => ?_) ?_
    · go_simp
    simp only [PT]
    refine tkS 2 (.int .i64 hh) hHeld (fun w hq => ?_) ?_
    · obtain ⟨cm, c0, c1, c2, c3, c4, c5, c6, c7, c8, c9⟩ := HMC.out w hq
      go_simp
    simp only [PT]
    refine tk 3 (.bool false) hHeld (fun w => ?_) ?_
    · go_simp
    simp only [PT]
    refine tk 4 (.bool false) hHeld (fun w => ?_) ?_
    · go_simp
    simp only [PT]
    refine tkO 5 hHeld ?_
    simp only [PT]
    refine tkO 6 hHeld ?_
    simp only [PT]
    refine tkO 7 hHeld ?_
    simp only [PT]
    refine tkO 8 hHeld ?_
    simp only [PT]
    refine tk 9 (.bool false) hHeld (fun w => ?_) ?_
    · go_simp
    simp only [PT]
    refine tk 10 (.bool false) hHeld (fun w => ?_) ?_
    · go_simp
    simp only [PT]
    refine tkO 11 hHeld ?_
    simp only [PT]
    refine tkO 12 hHeld ?_
    simp only [PT]
    refine tkO 13 hHeld ?_
    simp only [PT]
    refine tkO 14 hHeld ?_
    simp only [PT]
    refine tkO 15 hHeld ?_
    simp only [PT]
    refine tkO 16 hHeld ?_
    simp only [PT]
    refine tkO 17 hHeld ?_
    simp only [PT]
    refine tkO 18 hHeld ?_
    simp only [PT]
    refine tkO 19 hHeld ?_
    simp only [PT]
    refine tkO 20 hHeld ?_
    simp only [PT]
    refine tkO 21 hHeld ?_
    simp only [PT]
    refine tk 22 (.bool false) hHeld (fun w => ?_) ?_
    · go_simp
    simp only [PT]
    refine tk 23 (.bool false) hHeld (fun w => ?_) ?_
    · go_simp
    simp only [PT]
    refine wpAnyH_done (by kernel_rfl) ?_ _
    clear hHeld
    go_wp2
    go_ret
    exact ⟨rfl, HB1.out.trans (hSd.mono HB1.out.size)⟩
  have g0' : 0 ≤ s.hl := by omega
  have e0 : decide (0 ≤ s.hl) = true := decide_eq_true g0'
  by_cases g1 : s.hd < 0
  · rw [held_no (p := q) fun h => by have := h.h0; omega]
    have e1 : decide (0 ≤ s.hd) = false := decide_eq_false (by omega)
    obtain ⟨pl, st, nx, ph, t, hd, hh, ak, wt, sp⟩ := s
    obtain ⟨A', n', c', m, B, k, d, sl, am, rd, hd'⟩ := q
    simp only at *
    go_enter Try.func61, Try.ntmps61
    go_wp2
    rw [HW.out]
    have hSd : Below W1.heap.size W1 W1.drew := (Below.refl _ W1).drew
    refine wp_region_held_drew (S := fun X => Below W1.heap.size W1 X) (by kernel_rfl) hSd (fun hHeld => ?_)
    obtain ⟨y0, hY0⟩ : ∃ Y, W1.drew = Y := ⟨_, rfl⟩
    rw [hY0] at hSd hHeld ⊢
    clear hY0
    refine tk 0 (.pointer (some ⟨w.heap.size, 1, none⟩)) hHeld (fun w => ?_) ?_
    · go_simp
    simp only [PT]
    refine tk 1 (.pointer (some ⟨w.heap.size, 7, none⟩)) hHeld (fun w => ?_) ?_
    · go_simp
    simp only [PT]
    refine tkS 2 (.int .i64 hh) hHeld (fun w hq => ?_) ?_
    · obtain ⟨cm, c0, c1, c2, c3, c4, c5, c6, c7, c8, c9⟩ := HMC.out w hq
      go_simp
    simp only [PT]
    refine tk 3 (.bool true) hHeld (fun w => ?_) ?_
    · go_simp
    simp only [PT]
    refine tk 4 (.bool true) hHeld (fun w => ?_) ?_
    · go_simp
    simp only [PT]
    refine tk 5 (.pointer (some ⟨w.heap.size, 1, none⟩)) hHeld (fun w => ?_) ?_
    · go_simp
    simp only [PT]
    refine tk 6 (.pointer (some ⟨w.heap.size, 6, none⟩)) hHeld (fun w => ?_) ?_
    · go_simp
    simp only [PT]
    refine tkS 7 (.int .i64 hd) hHeld (fun w hq => ?_) ?_
    · obtain ⟨cm, c0, c1, c2, c3, c4, c5, c6, c7, c8, c9⟩ := HMC.out w hq
      go_simp
    simp only [PT]
    refine tk 8 (.bool false) hHeld (fun w => ?_) ?_
    · go_simp
    simp only [PT]
    refine tk 9 (.bool false) hHeld (fun w => ?_) ?_
    · go_simp
    simp only [PT]
    refine tk 10 (.bool false) hHeld (fun w => ?_) ?_
    · go_simp
    simp only [PT]
    refine tkO 11 hHeld ?_
    simp only [PT]
    refine tkO 12 hHeld ?_
    simp only [PT]
    refine tkO 13 hHeld ?_
    simp only [PT]
    refine tkO 14 hHeld ?_
    simp only [PT]
    refine tkO 15 hHeld ?_
    simp only [PT]
    refine tkO 16 hHeld ?_
    simp only [PT]
    refine tkO 17 hHeld ?_
    simp only [PT]
    refine tkO 18 hHeld ?_
    simp only [PT]
    refine tkO 19 hHeld ?_
    simp only [PT]
    refine tkO 20 hHeld ?_
    simp only [PT]
    refine tkO 21 hHeld ?_
    simp only [PT]
    refine tk 22 (.bool false) hHeld (fun w => ?_) ?_
    · go_simp
    simp only [PT]
    refine tk 23 (.bool false) hHeld (fun w => ?_) ?_
    · go_simp
    simp only [PT]
    refine wpAnyH_done (by kernel_rfl) ?_ _
    clear hHeld
    go_wp2
    go_ret
    exact ⟨rfl, HB1.out.trans (hSd.mono HB1.out.size)⟩
  have g1' : 0 ≤ s.hd := by omega
  have e1 : decide (0 ≤ s.hd) = true := decide_eq_true g1'
  rw [held_last g1' g0']
  have hw : IntKind.i64.wrap (q.hd - s.hl) = q.hd - s.hl := by rw [IntKind.wrap_i64]; omega
  clear g0 g1
  obtain ⟨pl, st, nx, ph, t, hd, hh, ak, wt, sp⟩ := s
  obtain ⟨A', n', c', m, B, k, d, sl, am, rd, hd'⟩ := q
  simp only at *
  go_enter Try.func61, Try.ntmps61
  go_wp2
  rw [HW.out]
  have hSd : Below W1.heap.size W1 W1.drew := (Below.refl _ W1).drew
  refine wp_region_held_drew (S := fun X => Below W1.heap.size W1 X) (by kernel_rfl) hSd (fun hHeld => ?_)
  obtain ⟨y0, hY0⟩ : ∃ Y, W1.drew = Y := ⟨_, rfl⟩
  rw [hY0] at hSd hHeld ⊢
  clear hY0
  refine tk 0 (.pointer (some ⟨w.heap.size, 1, none⟩)) hHeld (fun w => ?_) ?_
  · go_simp
  simp only [PT]
  refine tk 1 (.pointer (some ⟨w.heap.size, 7, none⟩)) hHeld (fun w => ?_) ?_
  · go_simp
  simp only [PT]
  refine tkS 2 (.int .i64 hh) hHeld (fun w hq => ?_) ?_
  · obtain ⟨cm, c0, c1, c2, c3, c4, c5, c6, c7, c8, c9⟩ := HMC.out w hq
    go_simp
  simp only [PT]
  refine tk 3 (.bool true) hHeld (fun w => ?_) ?_
  · go_simp
  simp only [PT]
  refine tk 4 (.bool true) hHeld (fun w => ?_) ?_
  · go_simp
  simp only [PT]
  refine tk 5 (.pointer (some ⟨w.heap.size, 1, none⟩)) hHeld (fun w => ?_) ?_
  · go_simp
  simp only [PT]
  refine tk 6 (.pointer (some ⟨w.heap.size, 6, none⟩)) hHeld (fun w => ?_) ?_
  · go_simp
  simp only [PT]
  refine tkS 7 (.int .i64 hd) hHeld (fun w hq => ?_) ?_
  · obtain ⟨cm, c0, c1, c2, c3, c4, c5, c6, c7, c8, c9⟩ := HMC.out w hq
    go_simp
  simp only [PT]
  refine tk 8 (.bool true) hHeld (fun w => ?_) ?_
  · go_simp
  simp only [PT]
  refine tk 9 (.bool true) hHeld (fun w => ?_) ?_
  · go_simp
  simp only [PT]
  refine tk 10 (.bool true) hHeld (fun w => ?_) ?_
  · go_simp
  simp only [PT]
  refine tk 11 (.pointer (some ⟨w.heap.size, 1, none⟩)) hHeld (fun w => ?_) ?_
  · go_simp
  simp only [PT]
  refine tk 12 (.pointer (some ⟨w.heap.size, 6, none⟩)) hHeld (fun w => ?_) ?_
  · go_simp
  simp only [PT]
  refine tkS 13 (.int .i64 hd) hHeld (fun w hq => ?_) ?_
  · obtain ⟨cm, c0, c1, c2, c3, c4, c5, c6, c7, c8, c9⟩ := HMC.out w hq
    go_simp
  simp only [PT]
  refine tkS 14 (.agg #[.slice A n c, .int .i64 pl, .int .i64 st, .int .i64 nx, .int .i64 ph, .int .i64 t, .int .i64 hd, .int .i64 hh, .int .i64 ak, .int .i64 wt, .bool sp]) hHeld (fun w hq => ?_) ?_
  · obtain ⟨cm, c0, c1, c2, c3, c4, c5, c6, c7, c8, c9⟩ := HMC.out w hq
    go_simp
  simp only [PT]
  refine tk 17 (.pointer (some ⟨w.heap.size, 1, none⟩)) hHeld (fun w => ?_) ?_
  · go_simp
  simp only [PT]
  refine tk 18 (.pointer (some ⟨w.heap.size, 7, none⟩)) hHeld (fun w => ?_) ?_
  · go_simp
  simp only [PT]
  refine tkS 19 (.int .i64 hh) hHeld (fun w hq => ?_) ?_
  · obtain ⟨cm, c0, c1, c2, c3, c4, c5, c6, c7, c8, c9⟩ := HMC.out w hq
    go_simp
  simp only [PT]
  refine one_step 15 (by kernel_rfl) rfl (fun Kq hKq => ?_)
  go_simp
  go_at_call 58
  (with_reducible refine (HOW.out _ hSd).mono ?_)
  rintro e y1 ⟨rfl, hbx⟩
  try simp only [plV]
  have hS1 : Below W1.heap.size W1 y1 := hSd.trans (hbx.mono hSd.size)
  clear hbx
  refine hKq.out _ _ hS1 (fun hHeld0 => ?_)
  clear hKq Kq hHeld
  have hHeld := hHeld0
  clear hHeld0
  try simp only [PT]
  refine tk 16 (.int .i64 hd') hHeld (fun w => ?_) ?_
  · (go_simp; try rfl)
  simp only [PT]
  refine tk 20 (.int .i64 (hd' - hh)) hHeld (fun w => ?_) ?_
  · (go_simp; try exact hw)
  simp only [PT]
  refine tk 21 (.bool (decide (hd ≤ hd' - hh))) hHeld (fun w => ?_) ?_
  · go_simp
  simp only [PT]
  refine tk 22 (.bool (decide (hd ≤ hd' - hh))) hHeld (fun w => ?_) ?_
  · go_simp
  simp only [PT]
  refine tk 23 (.bool (decide (hd ≤ hd' - hh))) hHeld (fun w => ?_) ?_
  · go_simp
  simp only [PT]
  refine wpAnyH_done (by kernel_rfl) ?_ _
  clear hHeld
  go_wp2
  go_ret
  exact ⟨rfl, HB1.out.trans (hS1.mono HB1.out.size)⟩
/-- does anything let its green end, once that was long enough? -/
def endsM (p : Pl) (s : Sg) : Bool := s.sp || (decide (s.ak ≠ -1) || (decide (s.wt ≠ -1) || decide ((stgAt p s.st).mx ≤ s.t)))
set_option maxHeartbeats 8000000 in
theorem mends_any (A : Option Addr) (n c : Nat) (l : List Pl) (s : Sg) (w : World) (hl : Pls w A n c l) (h0 : 0 ≤ s.pl) (h1 : s.pl < n) (s0 : 0 ≤ s.st) (s1 : s.st < (planAt l s.pl).k) : Calls Try.prog 76 #[mcV A n c s] w fun e w' => e = .returned (.bool (endsM (planAt l s.pl) s)) ∧ Below w.heap.size w w' := by
  obtain ⟨W1, hW1⟩ : ∃ W1, w.alloc (.cells #[.slice A n c, .int .i64 s.pl, .int .i64 s.st, .int .i64 s.nx, .int .i64 s.ph, .int .i64 s.t, .int .i64 s.hd, .int .i64 s.hl, .int .i64 s.ak, .int .i64 s.wt, .bool s.sp] 66) = W1 := ⟨_, rfl⟩
  have hB1 : Below w.heap.size w W1 := by rw [← hW1]; exact one_alloc w _
  have hbm : BoxM W1 w.heap.size A n c s := by rw [← hW1]; exact BoxM.new w A n c s
  have HW := Lib.hid hW1
  clear hW1
  have HB1 := Lib.hid hB1
  have HMC := Lib.hid (show ∀ X, Below W1.heap.size W1 X → X.cell? ⟨w.heap.size, 0, none⟩ = some (.slice A n c) ∧ X.cell? ⟨w.heap.size, 1, none⟩ = some (.int .i64 s.pl) ∧ X.cell? ⟨w.heap.size, 2, none⟩ = some (.int .i64 s.st) ∧ X.cell? ⟨w.heap.size, 3, none⟩ = some (.int .i64 s.nx) ∧ X.cell? ⟨w.heap.size, 4, none⟩ = some (.int .i64 s.ph) ∧ X.cell? ⟨w.heap.size, 5, none⟩ = some (.int .i64 s.t) ∧ X.cell? ⟨w.heap.size, 6, none⟩ = some (.int .i64 s.hd) ∧ X.cell? ⟨w.heap.size, 7, none⟩ = some (.int .i64 s.hl) ∧ X.cell? ⟨w.heap.size, 8, none⟩ = some (.int .i64 s.ak) ∧ X.cell? ⟨w.heap.size, 9, none⟩ = some (.int .i64 s.wt) ∧ X.cell? ⟨w.heap.size, 10, none⟩ = some (.bool s.sp) from fun X hX => by
    obtain ⟨cm, c0, c1, c2, c3, c4, c5, c6, c7, c8, c9⟩ := (hbm.below hX).cells
    exact ⟨cm, c0, c1, c2, c3, c4, c5, c6, c7, c8, c9⟩)
  have HOW := Lib.hid (fun X (hX : Below W1.heap.size W1 X) => own_plan A n c l s X ((hl.below hB1).below hX) h0 h1)
  have HQI := Lib.hid (show ∀ X, Below W1.heap.size W1 X → PlIn X (planAt l s.pl) from fun X hX => plan_lies ((hl.below hB1).below hX) h0 h1)
  have HST := Lib.hid (fun X (hX : Below W1.heap.size W1 X) => stage_own A n c l s X ((hl.below hB1).below hX) h0 h1 s0 s1)
  unfold mcV at HOW ⊢
  clear hbm hB1 hl
  have HE := Lib.hid (show endsM (planAt l s.pl) s = (s.sp || (decide (s.ak ≠ -1) || (decide (s.wt ≠ -1) || decide ((stgAt (planAt l s.pl) s.st).mx ≤ s.t)))) from rfl)
  obtain ⟨R, hR⟩ : ∃ R, endsM (planAt l s.pl) s = R := ⟨_, rfl⟩
  rw [hR] at HE ⊢
  obtain ⟨x, hx⟩ : ∃ x, stgAt (planAt l s.pl) s.st = x := ⟨_, rfl⟩
  rw [hx] at HST HE
  unfold mcV at HST
  clear hR hx HOW HQI s1
  obtain ⟨g, mn, mx⟩ := x
  obtain ⟨pl, st, nx, ph, t, hd, hh, ak, wt, sp⟩ := s
  simp only at *
  cases sp
  · rw [Bool.false_or] at HE
    by_cases g1 : ak = -1
    · rw [decide_eq_false (fun h => h g1), Bool.false_or] at HE
      have b1 : (ak != -1) = false := by rw [g1]; rfl
      clear g1
      by_cases g2 : wt = -1
      · rw [decide_eq_false (fun h => h g2), Bool.false_or] at HE
        have b2 : (wt != -1) = false := by rw [g2]; rfl
        clear g2
        go_enter Try.func76, Try.ntmps76
        go_wp2
        rw [HW.out]
        have hSd : Below W1.heap.size W1 W1.drew := (Below.refl _ W1).drew
        refine wp_region_held_drew (S := fun X => Below W1.heap.size W1 X) (by kernel_rfl) hSd (fun hHeld => ?_)
        obtain ⟨y0, hY0⟩ : ∃ Y, W1.drew = Y := ⟨_, rfl⟩
        rw [hY0] at hSd hHeld ⊢
        clear hY0
        refine tk 0 (.pointer (some ⟨w.heap.size, 1, none⟩)) hHeld (fun w => ?_) ?_
        · go_simp
        simp only [PT]
        refine tk 1 (.pointer (some ⟨w.heap.size, 10, none⟩)) hHeld (fun w => ?_) ?_
        · go_simp
        simp only [PT]
        refine tkS 2 (.bool false) hHeld (fun w hq => ?_) ?_
        · obtain ⟨cm, c0, c1, c2, c3, c4, c5, c6, c7, c8, c9⟩ := HMC.out w hq
          go_simp
        simp only [PT]
        refine tk 3 (.bool false) hHeld (fun w => ?_) ?_
        · go_simp
        simp only [PT]
        refine tk 4 (.pointer (some ⟨w.heap.size, 1, none⟩)) hHeld (fun w => ?_) ?_
        · go_simp
        simp only [PT]
        refine tk 5 (.pointer (some ⟨w.heap.size, 8, none⟩)) hHeld (fun w => ?_) ?_
        · go_simp
        simp only [PT]
        refine tkS 6 (.int .i64 ak) hHeld (fun w hq => ?_) ?_
        · obtain ⟨cm, c0, c1, c2, c3, c4, c5, c6, c7, c8, c9⟩ := HMC.out w hq
          go_simp
        simp only [PT]
        refine tk 7 (.bool false) hHeld (fun w => ?_) ?_
        · go_simp
        simp only [PT]
        refine tk 8 (.bool false) hHeld (fun w => ?_) ?_
        · go_simp
        simp only [PT]
        refine tk 9 (.bool false) hHeld (fun w => ?_) ?_
        · go_simp
        simp only [PT]
        refine tk 10 (.pointer (some ⟨w.heap.size, 1, none⟩)) hHeld (fun w => ?_) ?_
        · go_simp
        simp only [PT]
        refine tk 11 (.pointer (some ⟨w.heap.size, 9, none⟩)) hHeld (fun w => ?_) ?_
        · go_simp
        simp only [PT]
        refine tkS 12 (.int .i64 wt) hHeld (fun w hq => ?_) ?_
        · obtain ⟨cm, c0, c1, c2, c3, c4, c5, c6, c7, c8, c9⟩ := HMC.out w hq
          go_simp
        simp only [PT]
        refine tk 13 (.bool false) hHeld (fun w => ?_) ?_
        · go_simp
        simp only [PT]
        refine tk 14 (.bool false) hHeld (fun w => ?_) ?_
        · go_simp
        simp only [PT]
        refine tk 15 (.bool false) hHeld (fun w => ?_) ?_
        · go_simp
        simp only [PT]
        refine tk 16 (.pointer (some ⟨w.heap.size, 1, none⟩)) hHeld (fun w => ?_) ?_
        · go_simp
        simp only [PT]
        refine tk 17 (.pointer (some ⟨w.heap.size, 5, none⟩)) hHeld (fun w => ?_) ?_
        · go_simp
        simp only [PT]
        refine tkS 18 (.int .i64 t) hHeld (fun w hq => ?_) ?_
        · obtain ⟨cm, c0, c1, c2, c3, c4, c5, c6, c7, c8, c9⟩ := HMC.out w hq
          go_simp
        simp only [PT]
        refine tkS 19 (.agg #[.slice A n c, .int .i64 pl, .int .i64 st, .int .i64 nx, .int .i64 ph, .int .i64 t, .int .i64 hd, .int .i64 hh, .int .i64 ak, .int .i64 wt, .bool false]) hHeld (fun w hq => ?_) ?_
        · obtain ⟨cm, c0, c1, c2, c3, c4, c5, c6, c7, c8, c9⟩ := HMC.out w hq
          go_simp
        simp only [PT]
        refine one_step 20 (by kernel_rfl) rfl (fun Kq hKq => ?_)
        go_simp
        go_at_call 62
        (with_reducible refine (HST.out _ hSd).mono ?_)
        rintro e y1 ⟨rfl, hbx⟩
        try simp only [plV]
        have hS1 : Below W1.heap.size W1 y1 := hSd.trans (hbx.mono hSd.size)
        clear hbx
        refine hKq.out _ _ hS1 (fun hHeld0 => ?_)
        clear hKq Kq hHeld
        have hHeld := hHeld0
        clear hHeld0
        try simp only [PT]
        refine tk 21 (.int .i64 mx) hHeld (fun w => ?_) ?_
        · (go_simp; try rfl)
        simp only [PT]
        refine tk 22 (.bool (decide (mx ≤ t))) hHeld (fun w => ?_) ?_
        · go_simp
        simp only [PT]
        refine tk 23 (.bool (decide (mx ≤ t))) hHeld (fun w => ?_) ?_
        · go_simp
        simp only [PT]
        refine tk 24 (.bool (decide (mx ≤ t))) hHeld (fun w => ?_) ?_
        · go_simp
        simp only [PT]
        refine wpAnyH_done (by kernel_rfl) ?_ _
        clear hHeld
        go_wp2
        go_ret
        exact ⟨by rw [HE.out]; rfl, HB1.out.trans (hS1.mono HB1.out.size)⟩
      · rw [decide_eq_true g2, Bool.true_or] at HE
        have b2 : (wt != -1) = true := by rw [bne_iff_ne]; exact g2
        clear g2
        go_enter Try.func76, Try.ntmps76
        go_wp2
        rw [HW.out]
        have hSd : Below W1.heap.size W1 W1.drew := (Below.refl _ W1).drew
        refine wp_region_held_drew (S := fun X => Below W1.heap.size W1 X) (by kernel_rfl) hSd (fun hHeld => ?_)
        obtain ⟨y0, hY0⟩ : ∃ Y, W1.drew = Y := ⟨_, rfl⟩
        rw [hY0] at hSd hHeld ⊢
        clear hY0
        refine tk 0 (.pointer (some ⟨w.heap.size, 1, none⟩)) hHeld (fun w => ?_) ?_
        · go_simp
        simp only [PT]
        refine tk 1 (.pointer (some ⟨w.heap.size, 10, none⟩)) hHeld (fun w => ?_) ?_
        · go_simp
        simp only [PT]
        refine tkS 2 (.bool false) hHeld (fun w hq => ?_) ?_
        · obtain ⟨cm, c0, c1, c2, c3, c4, c5, c6, c7, c8, c9⟩ := HMC.out w hq
          go_simp
        simp only [PT]
        refine tk 3 (.bool false) hHeld (fun w => ?_) ?_
        · go_simp
        simp only [PT]
        refine tk 4 (.pointer (some ⟨w.heap.size, 1, none⟩)) hHeld (fun w => ?_) ?_
        · go_simp
        simp only [PT]
        refine tk 5 (.pointer (some ⟨w.heap.size, 8, none⟩)) hHeld (fun w => ?_) ?_
        · go_simp
        simp only [PT]
        refine tkS 6 (.int .i64 ak) hHeld (fun w hq => ?_) ?_
        · obtain ⟨cm, c0, c1, c2, c3, c4, c5, c6, c7, c8, c9⟩ := HMC.out w hq
          go_simp
        simp only [PT]
        refine tk 7 (.bool false) hHeld (fun w => ?_) ?_
        · go_simp
        simp only [PT]
        refine tk 8 (.bool false) hHeld (fun w => ?_) ?_
        · go_simp
        simp only [PT]
        refine tk 9 (.bool false) hHeld (fun w => ?_) ?_
        · go_simp
        simp only [PT]
        refine tk 10 (.pointer (some ⟨w.heap.size, 1, none⟩)) hHeld (fun w => ?_) ?_
        · go_simp
        simp only [PT]
        refine tk 11 (.pointer (some ⟨w.heap.size, 9, none⟩)) hHeld (fun w => ?_) ?_
        · go_simp
        simp only [PT]
        refine tkS 12 (.int .i64 wt) hHeld (fun w hq => ?_) ?_
        · obtain ⟨cm, c0, c1, c2, c3, c4, c5, c6, c7, c8, c9⟩ := HMC.out w hq
          go_simp
        simp only [PT]
        refine tk 13 (.bool true) hHeld (fun w => ?_) ?_
        · go_simp
        simp only [PT]
        refine tk 14 (.bool true) hHeld (fun w => ?_) ?_
        · go_simp
        simp only [PT]
        refine tk 15 (.bool true) hHeld (fun w => ?_) ?_
        · go_simp
        simp only [PT]
        refine tkO 16 hHeld ?_
        simp only [PT]
        refine tkO 17 hHeld ?_
        simp only [PT]
        refine tkO 18 hHeld ?_
        simp only [PT]
        refine tkO 19 hHeld ?_
        simp only [PT]
        refine tkO 20 hHeld ?_
        simp only [PT]
        refine tkO 21 hHeld ?_
        simp only [PT]
        refine tkO 22 hHeld ?_
        simp only [PT]
        refine tk 23 (.bool true) hHeld (fun w => ?_) ?_
        · go_simp
        simp only [PT]
        refine tk 24 (.bool true) hHeld (fun w => ?_) ?_
        · go_simp
        simp only [PT]
        refine wpAnyH_done (by kernel_rfl) ?_ _
        clear hHeld
        go_wp2
        go_ret
        exact ⟨by rw [HE.out]; rfl, HB1.out.trans (hSd.mono HB1.out.size)⟩
    · rw [decide_eq_true g1, Bool.true_or] at HE
      have b1 : (ak != -1) = true := by rw [bne_iff_ne]; exact g1
      clear g1
      go_enter Try.func76, Try.ntmps76
      go_wp2
      rw [HW.out]
      have hSd : Below W1.heap.size W1 W1.drew := (Below.refl _ W1).drew
      refine wp_region_held_drew (S := fun X => Below W1.heap.size W1 X) (by kernel_rfl) hSd (fun hHeld => ?_)
      obtain ⟨y0, hY0⟩ : ∃ Y, W1.drew = Y := ⟨_, rfl⟩
      rw [hY0] at hSd hHeld ⊢
      clear hY0
      refine tk 0 (.pointer (some ⟨w.heap.size, 1, none⟩)) hHeld (fun w => ?_) ?_
      · go_simp
      simp only [PT]
      refine tk 1 (.pointer (some ⟨w.heap.size, 10, none⟩)) hHeld (fun w => ?_) ?_
      · go_simp
      simp only [PT]
      refine tkS 2 (.bool false) hHeld (fun w hq => ?_) ?_
      · obtain ⟨cm, c0, c1, c2, c3, c4, c5, c6, c7, c8, c9⟩ := HMC.out w hq
        go_simp
      simp only [PT]
      refine tk 3 (.bool false) hHeld (fun w => ?_) ?_
      · go_simp
      simp only [PT]
      refine tk 4 (.pointer (some ⟨w.heap.size, 1, none⟩)) hHeld (fun w => ?_) ?_
      · go_simp
      simp only [PT]
      refine tk 5 (.pointer (some ⟨w.heap.size, 8, none⟩)) hHeld (fun w => ?_) ?_
      · go_simp
      simp only [PT]
      refine tkS 6 (.int .i64 ak) hHeld (fun w hq => ?_) ?_
      · obtain ⟨cm, c0, c1, c2, c3, c4, c5, c6, c7, c8, c9⟩ := HMC.out w hq
        go_simp
      simp only [PT]
      refine tk 7 (.bool true) hHeld (fun w => ?_) ?_
      · go_simp
      simp only [PT]
      refine tk 8 (.bool true) hHeld (fun w => ?_) ?_
      · go_simp
      simp only [PT]
      refine tk 9 (.bool true) hHeld (fun w => ?_) ?_
      · go_simp
      simp only [PT]
      refine tkO 10 hHeld ?_
      simp only [PT]
      refine tkO 11 hHeld ?_
      simp only [PT]
      refine tkO 12 hHeld ?_
      simp only [PT]
      refine tkO 13 hHeld ?_
      simp only [PT]
      refine tk 14 (.bool true) hHeld (fun w => ?_) ?_
      · go_simp
      simp only [PT]
      refine tk 15 (.bool true) hHeld (fun w => ?_) ?_
      · go_simp
      simp only [PT]
      refine tkO 16 hHeld ?_
      simp only [PT]
      refine tkO 17 hHeld ?_
      simp only [PT]
      refine tkO 18 hHeld ?_
      simp only [PT]
      refine tkO 19 hHeld ?_
      simp only [PT]
      refine tkO 20 hHeld ?_
      simp only [PT]
      refine tkO 21 hHeld ?_
      simp only [PT]
      refine tkO 22 hHeld ?_
      simp only [PT]
      refine tk 23 (.bool true) hHeld (fun w => ?_) ?_
      · go_simp
      simp only [PT]
      refine tk 24 (.bool true) hHeld (fun w => ?_) ?_
      · go_simp
      simp only [PT]
      refine wpAnyH_done (by kernel_rfl) ?_ _
      clear hHeld
      go_wp2
      go_ret
      exact ⟨by rw [HE.out]; rfl, HB1.out.trans (hSd.mono HB1.out.size)⟩
  · rw [Bool.true_or] at HE
    go_enter Try.func76, Try.ntmps76
    go_wp2
    rw [HW.out]
    have hSd : Below W1.heap.size W1 W1.drew := (Below.refl _ W1).drew
    refine wp_region_held_drew (S := fun X => Below W1.heap.size W1 X) (by kernel_rfl) hSd (fun hHeld => ?_)
    obtain ⟨y0, hY0⟩ : ∃ Y, W1.drew = Y := ⟨_, rfl⟩
    rw [hY0] at hSd hHeld ⊢
    clear hY0
    refine tk 0 (.pointer (some ⟨w.heap.size, 1, none⟩)) hHeld (fun w => ?_) ?_
    · go_simp
    simp only [PT]
    refine tk 1 (.pointer (some ⟨w.heap.size, 10, none⟩)) hHeld (fun w => ?_) ?_
    · go_simp
    simp only [PT]
    refine tkS 2 (.bool true) hHeld (fun w hq => ?_) ?_
    · obtain ⟨cm, c0, c1, c2, c3, c4, c5, c6, c7, c8, c9⟩ := HMC.out w hq
      go_simp
    simp only [PT]
    refine tk 3 (.bool true) hHeld (fun w => ?_) ?_
    · go_simp
    simp only [PT]
    refine tkO 4 hHeld ?_
    simp only [PT]
    refine tkO 5 hHeld ?_
    simp only [PT]
    refine tkO 6 hHeld ?_
    simp only [PT]
    refine tkO 7 hHeld ?_
    simp only [PT]
    refine tk 8 (.bool true) hHeld (fun w => ?_) ?_
    · go_simp
    simp only [PT]
    refine tk 9 (.bool true) hHeld (fun w => ?_) ?_
    · go_simp
    simp only [PT]
    refine tkO 10 hHeld ?_
    simp only [PT]
    refine tkO 11 hHeld ?_
    simp only [PT]
    refine tkO 12 hHeld ?_
    simp only [PT]
    refine tkO 13 hHeld ?_
    simp only [PT]
    refine tk 14 (.bool true) hHeld (fun w => ?_) ?_
    · go_simp
    simp only [PT]
    refine tk 15 (.bool true) hHeld (fun w => ?_) ?_
    · go_simp
    simp only [PT]
    refine tkO 16 hHeld ?_
    simp only [PT]
    refine tkO 17 hHeld ?_
    simp only [PT]
    refine tkO 18 hHeld ?_
    simp only [PT]
    refine tkO 19 hHeld ?_
    simp only [PT]
    refine tkO 20 hHeld ?_
    simp only [PT]
    refine tkO 21 hHeld ?_
    simp only [PT]
    refine tkO 22 hHeld ?_
    simp only [PT]
    refine tk 23 (.bool true) hHeld (fun w => ?_) ?_
    · go_simp
    simp only [PT]
    refine tk 24 (.bool true) hHeld (fun w => ?_) ?_
    · go_simp
    simp only [PT]
    refine wpAnyH_done (by kernel_rfl) ?_ _
    clear hHeld
    go_wp2
    go_ret
    exact ⟨by rw [HE.out]; rfl, HB1.out.trans (hSd.mono HB1.out.size)⟩
end Go.Proofs.Ytgnhmdfajnnkhaa

