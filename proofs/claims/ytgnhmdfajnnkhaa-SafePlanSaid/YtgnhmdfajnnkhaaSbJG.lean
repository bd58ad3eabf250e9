/- Joined texts: Two wishes whose conditions are asked in an order that is drawn: hold, and next. -/
import Derived.Test.YtgnhmdfajnnkhaaSbJF
/- Two wishes whose conditions are asked in an order that is drawn: hold, and next. -/
namespace Go.Proofs.Ytgnhmdfajnnkhaa
set_option maxRecDepth 100000
set_option linter.unusedVariables false
set_option linter.unusedSimpArgs false
open Go.RowKit

theorem unless_yb (k : Int) (w : World) : Calls Try.prog 49 #[.int .i64 k, .bool true] w fun e w' => e = .returned (.tuple #[]) ∧ Below w.heap.size w w' :=
  (unless_yes k w).mono fun _ _ h => ⟨h.1, h.2 ▸ Below.refl _ _⟩
theorem unless_nb (k : Int) (w : World) : Calls Try.prog 49 #[.int .i64 k, .bool false] w fun e w' => e = .panicked [whyV k] ∧ Below w.heap.size w w' :=
  (unless_no k w).mono fun _ _ h => ⟨h.1, h.2 ▸ Below.refl _ _⟩
set_option maxHeartbeats 4000000 in
theorem whold_any (A : Option Addr) (n c : Nat) (l : List Pl) (s : Sg) (a : Int) (w : World) (hl : Pls w A n c l) (hm : MayS l s) : Calls Try.prog 30 #[wsV A n c s a] w (GivesWs (askS l s 1 a) w) := by
  have HE0 : askS l s 1 a = if a < 1 then (s, 1) else if ¬ freeG s ∨ (planAt l s.pl).hd - s.hl < a then (s, 11) else ({ s with hd := a }, 0) := rfl
  have hlen := hl.len
  have hsm := hl.small
  have h0 := hm.p0
  have h1 : s.pl < n := by rw [← hlen]; exact hm.p1
  have hfit := plan_fit hm
  have hheld := hm.held
  obtain ⟨W1, hW1⟩ : ∃ W1, w.alloc (.cells #[.slice A n c, .int .i64 s.pl, .int .i64 s.st, .int .i64 s.nx, .int .i64 s.ph, .int .i64 s.t, .int .i64 s.hd, .int .i64 s.hl, .int .i64 s.ak, .int .i64 s.wt, .bool s.sp, .int .i64 a] 62) = W1 := ⟨_, rfl⟩
  have hB1 : Below w.heap.size w W1 := by rw [← hW1]; exact one_alloc w _
  have hbm : BoxW W1 w.heap.size A n c s a := by rw [← hW1]; exact BoxW.new w A n c s a
  have hz1 : W1.heap.size = w.heap.size + 1 := by rw [← hW1]; simp
  obtain ⟨W0, hW0⟩ : ∃ W0, W1.alloc (.cells #[.int .i64 0, .int .i64 0, .int .i64 0, .int .i64 0, .int .i64 0, .int .i64 0, .int .i64 0, .int .i64 0, .int .i64 0, .bool false] 24) = W0 := ⟨_, rfl⟩
  have hB0 : Below W1.heap.size W1 W0 := by rw [← hW0]; exact one_alloc W1 _
  have hr : W0.heap[w.heap.size + 1]? = some (.cells #[.int .i64 0, .int .i64 0, .int .i64 0, .int .i64 0, .int .i64 0, .int .i64 0, .int .i64 0, .int .i64 0, .int .i64 0, .bool false] 24 (0, 0)) := by rw [← hW0, ← hz1]; exact heap_alloc_new W1 _
  have hlt1 : W1.heap.size ≤ w.heap.size + 1 := by omega
  have hltr : w.heap.size + 1 < W0.heap.size := (Array.getElem?_eq_some_iff.1 hr).1
  have HW := Lib.hid (show (w.alloc (.cells #[.slice A n c, .int .i64 s.pl, .int .i64 s.st, .int .i64 s.nx, .int .i64 s.ph, .int .i64 s.t, .int .i64 s.hd, .int .i64 s.hl, .int .i64 s.ak, .int .i64 s.wt, .bool s.sp, .int .i64 a] 62)).alloc (.cells #[.int .i64 0, .int .i64 0, .int .i64 0, .int .i64 0, .int .i64 0, .int .i64 0, .int .i64 0, .int .i64 0, .int .i64 0, .bool false] 24) = W0 by rw [hW1, hW0])
  have HB0 := Lib.hid hB0
  clear hW0 hW1 hB0
  have HB1 := Lib.hid hB1
  have HMC := Lib.hid (show ∀ X, Below W1.heap.size W1 X → X.cell? ⟨w.heap.size, 0, none⟩ = some (.slice A n c) ∧ X.cell? ⟨w.heap.size, 1, none⟩ = some (.int .i64 s.pl) ∧ X.cell? ⟨w.heap.size, 2, none⟩ = some (.int .i64 s.st) ∧ X.cell? ⟨w.heap.size, 3, none⟩ = some (.int .i64 s.nx) ∧ X.cell? ⟨w.heap.size, 4, none⟩ = some (.int .i64 s.ph) ∧ X.cell? ⟨w.heap.size, 5, none⟩ = some (.int .i64 s.t) ∧ X.cell? ⟨w.heap.size, 6, none⟩ = some (.int .i64 s.hd) ∧ X.cell? ⟨w.heap.size, 7, none⟩ = some (.int .i64 s.hl) ∧ X.cell? ⟨w.heap.size, 8, none⟩ = some (.int .i64 s.ak) ∧ X.cell? ⟨w.heap.size, 9, none⟩ = some (.int .i64 s.wt) ∧ X.cell? ⟨w.heap.size, 10, none⟩ = some (.bool s.sp) ∧ X.cell? ⟨w.heap.size, 11, none⟩ = some (.int .i64 a) from fun X hX => by
    obtain ⟨cm, c0, c1, c2, c3, c4, c5, c6, c7, c8, c9, ca⟩ := (hbm.below hX).cells
    exact ⟨cm, c0, c1, c2, c3, c4, c5, c6, c7, c8, c9, ca⟩)
  have HHS := Lib.hid (show ∀ X, Below W1.heap.size W1 X → X.heap[w.heap.size]? = some (.cells #[.slice A n c, .int .i64 s.pl, .int .i64 s.st, .int .i64 s.nx, .int .i64 s.ph, .int .i64 s.t, .int .i64 s.hd, .int .i64 s.hl, .int .i64 s.ak, .int .i64 s.wt, .bool s.sp, .int .i64 a] 62 (0, 0)) from fun X hX => hbm.below hX)
  have HOW := Lib.hid (fun X (hX : Below W1.heap.size W1 X) => sown_plan A n c l s a X ((hl.below hB1).below hX) h0 h1)
  have HRU := Lib.hid (fun X (hX : Below W1.heap.size W1 X) => running_any A n c s a X)
  have hqk := (plan_lies (hl.below hB1) h0 h1).s.len
  have hqs := (plan_lies (hl.below hB1) h0 h1).s.small
  obtain ⟨q, hq⟩ : ∃ q, planAt l s.pl = q := ⟨_, rfl⟩
  rw [hq] at HE0 HOW hheld hfit hqk hqs
  clear hq
  unfold plV at HOW
  unfold wsV at HOW HRU ⊢
  clear hbm hB1 hl hm
  have g0 := hheld.h1
  have g1 := hheld.h2
  have g2 := (fit_iff.1 hfit).hd2
  clear hheld hfit hqk hqs
  by_cases k0 : a < 1
  · have HE := Lib.hid (HE0.trans (if_pos k0))
    have k1 : ¬ 1 ≤ a := by omega
    clear HE0 HW HOW HMC HHS HRU
    obtain ⟨pl, st, nx, ph, t, hd, hh, ak, wt, sp⟩ := s
    simp only at *
    go_enter Try.func30, Try.ntmps30
    go_wp2_with (first
      | (go_at_call 49; (with_reducible refine (unless_no 1 _).mono ?_); rintro e wq ⟨rfl, rfl⟩))
    exact ⟨rfl, GivesWs.no HE.out (by decide) (below_alloc2 _ _ _)⟩
  · rw [if_neg k0] at HE0
    have k1 : 1 ≤ a := by omega
    clear k0
    by_cases k2 : freeG s
    · rw [decide_eq_true k2] at HRU
      by_cases k3 : q.hd - s.hl < a
      · have HE := Lib.hid (HE0.trans (if_pos (.inr k3)))
        have hc : decide (a ≤ q.hd - s.hl) = false := decide_eq_false (by omega)
        have hw : IntKind.i64.wrap (q.hd - s.hl) = q.hd - s.hl := by rw [IntKind.wrap_i64]; omega
        clear HE0 k2 k3
        obtain ⟨pl, st, nx, ph, t, hd, hh, ak, wt, sp⟩ := s
        simp only at *
        go_enter Try.func30, Try.ntmps30
        go_wp2_with (first
          | (go_at_call 49; (with_reducible refine (unless_yes 1 _).mono ?_); rintro e wq ⟨rfl, rfl⟩))
        rw [HW.out]
        have hSd : Below W1.heap.size W1 W0.drew := HB0.out.drew
        refine wp_region_held_drew (S := fun X => Below W1.heap.size W1 X) (by kernel_rfl) hSd (fun hHeld => ?_)
        obtain ⟨y0, hY0⟩ : ∃ Y, W0.drew = Y := ⟨_, rfl⟩
        have hr0 := (show W0.drew.heap[w.heap.size + 1]? = _ from hr)
        rw [hY0] at hr0
        rw [hY0] at hSd hHeld ⊢
        clear hY0
        refine tkS 0 (.agg #[.slice A n c, .int .i64 pl, .int .i64 st, .int .i64 nx, .int .i64 ph, .int .i64 t, .int .i64 hd, .int .i64 hh, .int .i64 ak, .int .i64 wt, .bool sp, .int .i64 a]) hHeld (fun w hq => ?_) ?_
        · obtain ⟨cm, c0, c1, c2, c3, c4, c5, c6, c7, c8, c9, ca⟩ := HMC.out w hq
          go_simp
        simp only [PT]
        refine one_step 1 (by kernel_rfl) rfl (fun Kq hKq => ?_)
        go_simp
        go_at_call 50
        (with_reducible refine (HRU.out _ hSd).mono ?_)
        rintro e y1 ⟨rfl, hbx⟩
        have hS1 : Below W1.heap.size W1 y1 := hSd.trans (hbx.mono hSd.size)
        have hr1 := (hbx.block (w.heap.size + 1) (Array.getElem?_eq_some_iff.1 hr0).1).trans hr0
        clear hbx
        refine hKq.out _ _ hS1 (fun hHeld0 => ?_)
        clear hKq Kq hHeld
        have hHeld := hHeld0
        clear hHeld0
        try simp only [PT]
        refine tk 2 (.bool true) hHeld (fun w => ?_) ?_
        · go_simp
        simp only [PT]
        refine tk 3 (.pointer (some ⟨w.heap.size, 11, none⟩)) hHeld (fun w => ?_) ?_
        · go_simp
        simp only [PT]
        refine tkS 4 (.int .i64 a) hHeld (fun w hq => ?_) ?_
        · obtain ⟨cm, c0, c1, c2, c3, c4, c5, c6, c7, c8, c9, ca⟩ := HMC.out w hq
          go_simp
        simp only [PT]
        refine tkS 5 (.agg #[.slice A n c, .int .i64 pl, .int .i64 st, .int .i64 nx, .int .i64 ph, .int .i64 t, .int .i64 hd, .int .i64 hh, .int .i64 ak, .int .i64 wt, .bool sp, .int .i64 a]) hHeld (fun w hq => ?_) ?_
        · obtain ⟨cm, c0, c1, c2, c3, c4, c5, c6, c7, c8, c9, ca⟩ := HMC.out w hq
          go_simp
        simp only [PT]
        refine tk 8 (.pointer (some ⟨w.heap.size, 1, none⟩)) hHeld (fun w => ?_) ?_
        · go_simp
        simp only [PT]
        refine tk 9 (.pointer (some ⟨w.heap.size, 7, none⟩)) hHeld (fun w => ?_) ?_
        · go_simp
        simp only [PT]
        refine tkS 10 (.int .i64 hh) hHeld (fun w hq => ?_) ?_
        · obtain ⟨cm, c0, c1, c2, c3, c4, c5, c6, c7, c8, c9, ca⟩ := HMC.out w hq
          go_simp
        simp only [PT]
        refine one_step 6 (by kernel_rfl) rfl (fun Kq hKq => ?_)
        go_simp
        go_at_call 51
        (with_reducible refine (HOW.out _ hS1).mono ?_)
        rintro e y2 ⟨rfl, hbx⟩
        have hS2 : Below W1.heap.size W1 y2 := hS1.trans (hbx.mono hS1.size)
        have hr2 := (hbx.block (w.heap.size + 1) (Array.getElem?_eq_some_iff.1 hr1).1).trans hr1
        clear hbx
        refine hKq.out _ _ hS2 (fun hHeld0 => ?_)
        clear hKq Kq hHeld
        have hHeld := hHeld0
        clear hHeld0
        try simp only [PT]
        refine tk 7 (.int .i64 q.hd) hHeld (fun w => ?_) ?_
        · (go_simp; try rfl)
        simp only [PT]
        refine tk 11 (.int .i64 (q.hd - hh)) hHeld (fun w => ?_) ?_
        · (go_simp; try exact hw)
        simp only [PT]
        refine tk 12 (.bool false) hHeld (fun w => ?_) ?_
        · (go_simp; try exact hc)
        simp only [PT]
        refine tk 13 (.bool false) hHeld (fun w => ?_) ?_
        · go_simp
        simp only [PT]
        refine one_step 14 (by kernel_rfl) rfl (fun Kq hKq => ?_)
        go_simp
        go_at_call 49
        (with_reducible refine (unless_nb 11 _).mono ?_)
        rintro e yd ⟨rfl, hbx⟩
        exact ⟨rfl, GivesWs.no HE.out (by decide) (HB1.out.trans ((hS2.trans (hbx.mono hS2.size)).mono HB1.out.size))⟩
      · have HE := Lib.hid (HE0.trans (if_neg (fun h => h.elim (fun h => h k2) k3)))
        have hc : decide (a ≤ q.hd - s.hl) = true := decide_eq_true (by omega)
        have hw : IntKind.i64.wrap (q.hd - s.hl) = q.hd - s.hl := by rw [IntKind.wrap_i64]; omega
        clear HE0 k2 k3
        obtain ⟨pl, st, nx, ph, t, hd, hh, ak, wt, sp⟩ := s
        simp only at *
        go_enter Try.func30, Try.ntmps30
        go_wp2_with (first
          | (go_at_call 49; (with_reducible refine (unless_yes 1 _).mono ?_); rintro e wq ⟨rfl, rfl⟩))
        rw [HW.out]
        have hSd : Below W1.heap.size W1 W0.drew := HB0.out.drew
        refine wp_region_held_drew (S := fun X => Below W1.heap.size W1 X) (by kernel_rfl) hSd (fun hHeld => ?_)
        obtain ⟨y0, hY0⟩ : ∃ Y, W0.drew = Y := ⟨_, rfl⟩
        have hr0 := (show W0.drew.heap[w.heap.size + 1]? = _ from hr)
        rw [hY0] at hr0
        rw [hY0] at hSd hHeld ⊢
        clear hY0
        refine tkS 0 (.agg #[.slice A n c, .int .i64 pl, .int .i64 st, .int .i64 nx, .int .i64 ph, .int .i64 t, .int .i64 hd, .int .i64 hh, .int .i64 ak, .int .i64 wt, .bool sp, .int .i64 a]) hHeld (fun w hq => ?_) ?_
        · obtain ⟨cm, c0, c1, c2, c3, c4, c5, c6, c7, c8, c9, ca⟩ := HMC.out w hq
          go_simp
        simp only [PT]
        refine one_step 1 (by kernel_rfl) rfl (fun Kq hKq => ?_)
        go_simp
        go_at_call 50
        (with_reducible refine (HRU.out _ hSd).mono ?_)
        rintro e y1 ⟨rfl, hbx⟩
        have hS1 : Below W1.heap.size W1 y1 := hSd.trans (hbx.mono hSd.size)
        have hr1 := (hbx.block (w.heap.size + 1) (Array.getElem?_eq_some_iff.1 hr0).1).trans hr0
        clear hbx
        refine hKq.out _ _ hS1 (fun hHeld0 => ?_)
        clear hKq Kq hHeld
        have hHeld := hHeld0
        clear hHeld0
        try simp only [PT]
        refine tk 2 (.bool true) hHeld (fun w => ?_) ?_
        · go_simp
        simp only [PT]
        refine tk 3 (.pointer (some ⟨w.heap.size, 11, none⟩)) hHeld (fun w => ?_) ?_
        · go_simp
        simp only [PT]
        refine tkS 4 (.int .i64 a) hHeld (fun w hq => ?_) ?_
        · obtain ⟨cm, c0, c1, c2, c3, c4, c5, c6, c7, c8, c9, ca⟩ := HMC.out w hq
          go_simp
        simp only [PT]
        refine tkS 5 (.agg #[.slice A n c, .int .i64 pl, .int .i64 st, .int .i64 nx, .int .i64 ph, .int .i64 t, .int .i64 hd, .int .i64 hh, .int .i64 ak, .int .i64 wt, .bool sp, .int .i64 a]) hHeld (fun w hq => ?_) ?_
        · obtain ⟨cm, c0, c1, c2, c3, c4, c5, c6, c7, c8, c9, ca⟩ := HMC.out w hq
          go_simp
        simp only [PT]
        refine tk 8 (.pointer (some ⟨w.heap.size, 1, none⟩)) hHeld (fun w => ?_) ?_
        · go_simp
        simp only [PT]
        refine tk 9 (.pointer (some ⟨w.heap.size, 7, none⟩)) hHeld (fun w => ?_) ?_
        · go_simp
        simp only [PT]
        refine tkS 10 (.int .i64 hh) hHeld (fun w hq => ?_) ?_
        · obtain ⟨cm, c0, c1, c2, c3, c4, c5, c6, c7, c8, c9, ca⟩ := HMC.out w hq
          go_simp
        simp only [PT]
        refine one_step 6 (by kernel_rfl) rfl (fun Kq hKq => ?_)
        go_simp
        go_at_call 51
        (with_reducible refine (HOW.out _ hS1).mono ?_)
        rintro e y2 ⟨rfl, hbx⟩
        have hS2 : Below W1.heap.size W1 y2 := hS1.trans (hbx.mono hS1.size)
        have hr2 := (hbx.block (w.heap.size + 1) (Array.getElem?_eq_some_iff.1 hr1).1).trans hr1
        clear hbx
        refine hKq.out _ _ hS2 (fun hHeld0 => ?_)
        clear hKq Kq hHeld
        have hHeld := hHeld0
        clear hHeld0
        try simp only [PT]
        refine tk 7 (.int .i64 q.hd) hHeld (fun w => ?_) ?_
        · (go_simp; try rfl)
        simp only [PT]
        refine tk 11 (.int .i64 (q.hd - hh)) hHeld (fun w => ?_) ?_
        · (go_simp; try exact hw)
        simp only [PT]
        refine tk 12 (.bool true) hHeld (fun w => ?_) ?_
        · (go_simp; try exact hc)
        simp only [PT]
        refine tk 13 (.bool true) hHeld (fun w => ?_) ?_
        · go_simp
        simp only [PT]
        refine one_step 14 (by kernel_rfl) rfl (fun Kq hKq => ?_)
        go_simp
        go_at_call 49
        (with_reducible refine (unless_yb 11 _).mono ?_)
        rintro e y3 ⟨rfl, hbx⟩
        have hS3 : Below W1.heap.size W1 y3 := hS2.trans (hbx.mono hS2.size)
        have hr3 := (hbx.block (w.heap.size + 1) (Array.getElem?_eq_some_iff.1 hr2).1).trans hr2
        clear hbx
        refine hKq.out _ _ hS3 (fun hHeld0 => ?_)
        clear hKq Kq hHeld
        have hHeld := hHeld0
        clear hHeld0
        try simp only [PT]
        refine wpAnyH_done (by kernel_rfl) ?_ _
        clear hHeld
        have hs0 := HHS.out _ hS3
        have hr0' := hr3
        clear hr3
        have hr0 := hr0'
        clear hr0'
        have HB0' := Lib.hid (show Below w.heap.size w y3 from HB1.out.trans (hS3.mono HB1.out.size))
        clear HB0
        have HB0 := HB0'
        clear HB0'
        obtain ⟨cm, c0, c1, c2, c3, c4, c5, c6, c7, c8, c9, ca⟩ := HMC.out _ hS3
        go_wp2_with (first
          | ((with_reducible refine wpList_store_part rfl 3 _ _ rfl (w.heap.size) 6 (.int .i64 a) #[.int .i64 a] ?hxq1 ?hyq1 ?hvq1 62 #[.slice A n c, .int .i64 pl, .int .i64 st, .int .i64 nx, .int .i64 ph, .int .i64 t, .int .i64 hd, .int .i64 hh, .int .i64 ak, .int .i64 wt, .bool sp, .int .i64 a] #[.slice A n c, .int .i64 pl, .int .i64 st, .int .i64 nx, .int .i64 ph, .int .i64 t, .int .i64 a, .int .i64 hh, .int .i64 ak, .int .i64 wt, .bool sp, .int .i64 a] hs0 ?hiq1 ?hlq1 ?hoq1 ?hnq1 ?_); (case hxq1 => rfl); (case hyq1 => first | rfl | assumption | go_num); (case hvq1 => rfl); (case hiq1 => exact info_one _); (case hlq1 => simp); (case hoq1 => exact one_int _); (case hnq1 => rfl)
             intro v1 hg1 hs1 hz1
             have hr1 := (other_block hg1 (show w.heap.size + 1 ≠ w.heap.size by omega) (Array.getElem?_eq_some_iff.1 hr0).1).trans hr0
             have HB1 := Lib.hid (show Below w.heap.size w v1 from Below.grows HB0.out hg1 HB0.out.size (Nat.le_refl _))
             obtain ⟨em, e0, e1, e2, e3, e4, e5, e6, e7, e8, e9, ea⟩ := (show BoxW v1 w.heap.size A n c ⟨pl, st, nx, ph, t, a, hh, ak, wt, sp⟩ a from hs1).cells
             simp only at em e0 e1 e2 e3 e4 e5 e6 e7 e8 e9 ea
             clear hg1 hz1)
          | ((with_reducible refine wpList_store_part rfl 24 _ _ rfl (w.heap.size + 1) 0 (.agg #[.int .i64 pl, .int .i64 st, .int .i64 nx, .int .i64 ph, .int .i64 t, .int .i64 a, .int .i64 hh, .int .i64 ak, .int .i64 wt, .bool sp]) #[.int .i64 pl, .int .i64 st, .int .i64 nx, .int .i64 ph, .int .i64 t, .int .i64 a, .int .i64 hh, .int .i64 ak, .int .i64 wt, .bool sp] ?hxq2 ?hyq2 ?hvq2 24 #[.int .i64 0, .int .i64 0, .int .i64 0, .int .i64 0, .int .i64 0, .int .i64 0, .int .i64 0, .int .i64 0, .int .i64 0, .bool false] #[.int .i64 pl, .int .i64 st, .int .i64 nx, .int .i64 ph, .int .i64 t, .int .i64 a, .int .i64 hh, .int .i64 ak, .int .i64 wt, .bool sp] hr1 ?hiq2 ?hlq2 ?hoq2 ?hnq2 ?_); (case hxq2 => rfl); (case hyq2 => rfl); (case hvq2 => rfl); (case hiq2 => exact info_sig); (case hlq2 => simp); (case hoq2 => exact one_sig _ _ _ _ _ _ _ _ _ _); (case hnq2 => rfl)
             intro v2 hg2 hr2 hz2
             have HB2 := Lib.hid (show Below w.heap.size w v2 from Below.grows HB1.out hg2 HB1.out.size (by omega))
             clear hg2 hz2))
        refine bodyPost_ret (v := .agg #[.int .i64 pl, .int .i64 st, .int .i64 nx, .int .i64 ph, .int .i64 t, .int .i64 a, .int .i64 hh, .int .i64 ak, .int .i64 wt, .bool sp]) ?_ rfl (GivesWs.ok (g := ⟨pl, st, nx, ph, t, a, hh, ak, wt, sp⟩) HE.out HB2.out)
        exact results_cell_row Try.results30 _ _ (w.heap.size + 1) 24 #[.int .i64 pl, .int .i64 st, .int .i64 nx, .int .i64 ph, .int .i64 t, .int .i64 a, .int .i64 hh, .int .i64 ak, .int .i64 wt, .bool sp] (0, 0) _ rfl hr2 Try.underlying24 rfl info_sig
    · rw [decide_eq_false k2] at HRU
      have HE := Lib.hid (HE0.trans (if_pos (.inl k2)))
      clear HE0 k2
      obtain ⟨pl, st, nx, ph, t, hd, hh, ak, wt, sp⟩ := s
      simp only at *
      go_enter Try.func30, Try.ntmps30
      go_wp2_with (first
        | (go_at_call 49; (with_reducible refine (unless_yes 1 _).mono ?_); rintro e wq ⟨rfl, rfl⟩))
      rw [HW.out]
      have hSd : Below W1.heap.size W1 W0.drew := HB0.out.drew
      refine wp_region_held_drew (S := fun X => Below W1.heap.size W1 X) (by kernel_rfl) hSd (fun hHeld => ?_)
      obtain ⟨y0, hY0⟩ : ∃ Y, W0.drew = Y := ⟨_, rfl⟩
      have hr0 := (show W0.drew.heap[w.heap.size + 1]? = _ from hr)
      rw [hY0] at hr0
      rw [hY0] at hSd hHeld ⊢
      clear hY0
      refine tkS 0 (.agg #[.slice A n c, .int .i64 pl, .int .i64 st, .int .i64 nx, .int .i64 ph, .int .i64 t, .int .i64 hd, .int .i64 hh, .int .i64 ak, .int .i64 wt, .bool sp, .int .i64 a]) hHeld (fun w hq => ?_) ?_
      · obtain ⟨cm, c0, c1, c2, c3, c4, c5, c6, c7, c8, c9, ca⟩ := HMC.out w hq
        go_simp
      simp only [PT]
      refine one_step 1 (by kernel_rfl) rfl (fun Kq hKq => ?_)
      go_simp
      go_at_call 50
      (with_reducible refine (HRU.out _ hSd).mono ?_)
      rintro e y1 ⟨rfl, hbx⟩
      have hS1 : Below W1.heap.size W1 y1 := hSd.trans (hbx.mono hSd.size)
      have hr1 := (hbx.block (w.heap.size + 1) (Array.getElem?_eq_some_iff.1 hr0).1).trans hr0
      clear hbx
      refine hKq.out _ _ hS1 (fun hHeld0 => ?_)
      clear hKq Kq hHeld
      have hHeld := hHeld0
      clear hHeld0
      try simp only [PT]
      refine tk 2 (.bool false) hHeld (fun w => ?_) ?_
      · go_simp
      simp only [PT]
      refine tkO 3 hHeld ?_
      simp only [PT]
      refine tkO 4 hHeld ?_
      simp only [PT]
      refine tkO 5 hHeld ?_
      simp only [PT]
      refine tkO 6 hHeld ?_
      simp only [PT]
      refine tkO 7 hHeld ?_
      simp only [PT]
      refine tkO 8 hHeld ?_
      simp only [PT]
      refine tkO 9 hHeld ?_
      simp only [PT]
      refine tkO 10 hHeld ?_
      simp only [PT]
      refine tkO 11 hHeld ?_
      simp only [PT]
      refine tkO 12 hHeld ?_
      simp only [PT]
      refine tk 13 (.bool false) hHeld (fun w => ?_) ?_
      · go_simp
      simp only [PT]
      refine one_step 14 (by kernel_rfl) rfl (fun Kq hKq => ?_)
      go_simp
      go_at_call 49
      (with_reducible refine (unless_nb 11 _).mono ?_)
      rintro e yd ⟨rfl, hbx⟩
      exact ⟨rfl, GivesWs.no HE.out (by decide) (HB1.out.trans ((hS1.trans (hbx.mono hS1.size)).mono HB1.out.size))⟩
set_option maxHeartbeats 4000000 in
theorem wnext_any (A : Option Addr) (n c : Nat) (l : List Pl) (s : Sg) (a : Int) (w : World) (hl : Pls w A n c l) (hm : MayS l s) : Calls Try.prog 32 #[wsV A n c s a] w (GivesWs (askS l s 3 a) w) := by
  have HE0 : askS l s 3 a = if a < 0 ∨ (planAt l s.pl).s.length ≤ a then (s, 1) else if ¬ freeG s ∨ s.wt ≠ -1 ∨ a = s.st then (s, 11) else ({ s with ak := a }, 0) := rfl
  have hlen := hl.len
  have hsm := hl.small
  have h0 := hm.p0
  have h1 : s.pl < n := by rw [← hlen]; exact hm.p1
  have hfit := plan_fit hm
  have hheld := hm.held
  obtain ⟨W1, hW1⟩ : ∃ W1, w.alloc (.cells #[.slice A n c, .int .i64 s.pl, .int .i64 s.st, .int .i64 s.nx, .int .i64 s.ph, .int .i64 s.t, .int .i64 s.hd, .int .i64 s.hl, .int .i64 s.ak, .int .i64 s.wt, .bool s.sp, .int .i64 a] 62) = W1 := ⟨_, rfl⟩
  have hB1 : Below w.heap.size w W1 := by rw [← hW1]; exact one_alloc w _
  have hbm : BoxW W1 w.heap.size A n c s a := by rw [← hW1]; exact BoxW.new w A n c s a
  have hz1 : W1.heap.size = w.heap.size + 1 := by rw [← hW1]; simp
  obtain ⟨W0, hW0⟩ : ∃ W0, W1.alloc (.cells #[.int .i64 0, .int .i64 0, .int .i64 0, .int .i64 0, .int .i64 0, .int .i64 0, .int .i64 0, .int .i64 0, .int .i64 0, .bool false] 24) = W0 := ⟨_, rfl⟩
  have hB0 : Below W1.heap.size W1 W0 := by rw [← hW0]; exact one_alloc W1 _
  have hr : W0.heap[w.heap.size + 1]? = some (.cells #[.int .i64 0, .int .i64 0, .int .i64 0, .int .i64 0, .int .i64 0, .int .i64 0, .int .i64 0, .int .i64 0, .int .i64 0, .bool false] 24 (0, 0)) := by rw [← hW0, ← hz1]; exact heap_alloc_new W1 _
  have hlt1 : W1.heap.size ≤ w.heap.size + 1 := by omega
  have hltr : w.heap.size + 1 < W0.heap.size := (Array.getElem?_eq_some_iff.1 hr).1
  have HW := Lib.hid (show (w.alloc (.cells #[.slice A n c, .int .i64 s.pl, .int .i64 s.st, .int .i64 s.nx, .int .i64 s.ph, .int .i64 s.t, .int .i64 s.hd, .int .i64 s.hl, .int .i64 s.ak, .int .i64 s.wt, .bool s.sp, .int .i64 a] 62)).alloc (.cells #[.int .i64 0, .int .i64 0, .int .i64 0, .int .i64 0, .int .i64 0, .int .i64 0, .int .i64 0, .int .i64 0, .int .i64 0, .bool false] 24) = W0 by rw [hW1, hW0])
  have HB0 := Lib.hid hB0
  clear hW0 hW1 hB0
  have HB1 := Lib.hid hB1
  have HMC := Lib.hid (show ∀ X, Below W1.heap.size W1 X → X.cell? ⟨w.heap.size, 0, none⟩ = some (.slice A n c) ∧ X.cell? ⟨w.heap.size, 1, none⟩ = some (.int .i64 s.pl) ∧ X.cell? ⟨w.heap.size, 2, none⟩ = some (.int .i64 s.st) ∧ X.cell? ⟨w.heap.size, 3, none⟩ = some (.int .i64 s.nx) ∧ X.cell? ⟨w.heap.size, 4, none⟩ = some (.int .i64 s.ph) ∧ X.cell? ⟨w.heap.size, 5, none⟩ = some (.int .i64 s.t) ∧ X.cell? ⟨w.heap.size, 6, none⟩ = some (.int .i64 s.hd) ∧ X.cell? ⟨w.heap.size, 7, none⟩ = some (.int .i64 s.hl) ∧ X.cell? ⟨w.heap.size, 8, none⟩ = some (.int .i64 s.ak) ∧ X.cell? ⟨w.heap.size, 9, none⟩ = some (.int .i64 s.wt) ∧ X.cell? ⟨w.heap.size, 10, none⟩ = some (.bool s.sp) ∧ X.cell? ⟨w.heap.size, 11, none⟩ = some (.int .i64 a) from fun X hX => by
    obtain ⟨cm, c0, c1, c2, c3, c4, c5, c6, c7, c8, c9, ca⟩ := (hbm.below hX).cells
    exact ⟨cm, c0, c1, c2, c3, c4, c5, c6, c7, c8, c9, ca⟩)
  have HHS := Lib.hid (show ∀ X, Below W1.heap.size W1 X → X.heap[w.heap.size]? = some (.cells #[.slice A n c, .int .i64 s.pl, .int .i64 s.st, .int .i64 s.nx, .int .i64 s.ph, .int .i64 s.t, .int .i64 s.hd, .int .i64 s.hl, .int .i64 s.ak, .int .i64 s.wt, .bool s.sp, .int .i64 a] 62 (0, 0)) from fun X hX => hbm.below hX)
  have HOW := Lib.hid (fun X (hX : Below W1.heap.size W1 X) => sown_plan A n c l s a X ((hl.below hB1).below hX) h0 h1)
  have HRU := Lib.hid (fun X (hX : Below W1.heap.size W1 X) => running_any A n c s a X)
  have hqk := (plan_lies (hl.below hB1) h0 h1).s.len
  have hqs := (plan_lies (hl.below hB1) h0 h1).s.small
  obtain ⟨q, hq⟩ : ∃ q, planAt l s.pl = q := ⟨_, rfl⟩
  rw [hq] at HE0 HOW hheld hfit hqk hqs
  clear hq
  unfold plV at HOW
  unfold wsV at HOW HRU ⊢
  clear hbm hB1 hl hm
  clear hheld hfit
  have HPC := Lib.hid (show ∀ X : World, Calls Try.prog 52 #[.int .i64 a, .int .i64 (q.k : Int)] X fun e w' => e = .returned (.bool (placeB a q.k)) ∧ Below X.heap.size X w' from fun X => (splace_any a q.k X).mono fun _ _ h => ⟨h.1, h.2 ▸ Below.refl _ _⟩)
  rw [hqk] at HE0
  by_cases k0 : a < 0 ∨ q.k ≤ a
  · have HE := Lib.hid (HE0.trans (if_pos k0))
    rw [show placeB a q.k = false by rw [Bool.eq_false_iff]; intro h; have := place_iff0.1 h; omega] at HPC
    clear HE0 HRU hqk
    obtain ⟨pl, st, nx, ph, t, hd, hh, ak, wt, sp⟩ := s
    simp only at *
    go_enter Try.func32, Try.ntmps32
    go_wp2
    rw [HW.out]
    have hSd : Below W1.heap.size W1 W0.drew := HB0.out.drew
    refine wp_region_held_drew (S := fun X => Below W1.heap.size W1 X) (by kernel_rfl) hSd (fun hHeld => ?_)
    obtain ⟨y0, hY0⟩ : ∃ Y, W0.drew = Y := ⟨_, rfl⟩
    have hr0 := (show W0.drew.heap[w.heap.size + 1]? = _ from hr)
    rw [hY0] at hr0
    rw [hY0] at hSd hHeld ⊢
    clear hY0
    refine tk 0 (.pointer (some ⟨w.heap.size, 11, none⟩)) hHeld (fun w => ?_) ?_
    · go_simp
    simp only [PT]
    refine tkS 1 (.int .i64 a) hHeld (fun w hq => ?_) ?_
    · obtain ⟨cm, c0, c1, c2, c3, c4, c5, c6, c7, c8, c9, ca⟩ := HMC.out w hq
      go_simp
    simp only [PT]
    refine tkS 2 (.agg #[.slice A n c, .int .i64 pl, .int .i64 st, .int .i64 nx, .int .i64 ph, .int .i64 t, .int .i64 hd, .int .i64 hh, .int .i64 ak, .int .i64 wt, .bool sp, .int .i64 a]) hHeld (fun w hq => ?_) ?_
    · obtain ⟨cm, c0, c1, c2, c3, c4, c5, c6, c7, c8, c9, ca⟩ := HMC.out w hq
      go_simp
    simp only [PT]
    refine one_step 3 (by kernel_rfl) rfl (fun Kq hKq => ?_)
    go_simp
    go_at_call 51
    (with_reducible refine (HOW.out _ hSd).mono ?_)
    rintro e y1 ⟨rfl, hbx⟩
    have hS1 : Below W1.heap.size W1 y1 := hSd.trans (hbx.mono hSd.size)
    have hr1 := (hbx.block (w.heap.size + 1) (Array.getElem?_eq_some_iff.1 hr0).1).trans hr0
    clear hbx
    refine hKq.out _ _ hS1 (fun hHeld0 => ?_)
    clear hKq Kq hHeld
    have hHeld := hHeld0
    clear hHeld0
    try simp only [PT]
    refine tk 4 (.slice q.B q.k q.d) hHeld (fun w => ?_) ?_
    · (go_simp; try rfl)
    simp only [PT]
    refine tk 5 (.int .i64 q.k) hHeld (fun w => ?_) ?_
    · go_simp
    simp only [PT]
    refine one_step 6 (by kernel_rfl) rfl (fun Kq hKq => ?_)
    go_simp
    go_at_call 52
    (with_reducible refine (HPC.out _).mono ?_)
    rintro e y2 ⟨rfl, hbx⟩
    have hS2 : Below W1.heap.size W1 y2 := hS1.trans (hbx.mono hS1.size)
    have hr2 := (hbx.block (w.heap.size + 1) (Array.getElem?_eq_some_iff.1 hr1).1).trans hr1
    clear hbx
    refine hKq.out _ _ hS2 (fun hHeld0 => ?_)
    clear hKq Kq hHeld
    have hHeld := hHeld0
    clear hHeld0
    try simp only [PT]
    refine one_step 7 (by kernel_rfl) rfl (fun Kq hKq => ?_)
    go_simp
    go_at_call 49
    (with_reducible refine (unless_nb 1 _).mono ?_)
    rintro e yd ⟨rfl, hbx⟩
    exact ⟨rfl, GivesWs.no HE.out (by decide) (HB1.out.trans ((hS2.trans (hbx.mono hS2.size)).mono HB1.out.size))⟩
  · rw [if_neg k0] at HE0
    rw [show placeB a q.k = true from place_iff0.2 (by omega)] at HPC
    clear k0 hqk
    by_cases k1 : freeG s
    · rw [decide_eq_true k1] at HRU
      by_cases k2 : s.wt = -1
      · by_cases k3 : a = s.st
        · have HE := Lib.hid (HE0.trans (if_pos (.inr (.inr k3))))
          clear HE0 k1
          obtain ⟨pl, st, nx, ph, t, hd, hh, ak, wt, sp⟩ := s
          simp only at *
          have b2 : (wt == -1) = true := by rw [k2]; rfl
          clear k2
          have b3 : (a != st) = false := by rw [k3]; simp
          clear k3
          go_enter Try.func32, Try.ntmps32
          go_wp2
          rw [HW.out]
          have hSd : Below W1.heap.size W1 W0.drew := HB0.out.drew
          refine wp_region_held_drew (S := fun X => Below W1.heap.size W1 X) (by kernel_rfl) hSd (fun hHeld => ?_)
          obtain ⟨y0, hY0⟩ : ∃ Y, W0.drew = Y := ⟨_, rfl⟩
          have hr0 := (show W0.drew.heap[w.heap.size + 1]? = _ from hr)
          rw [hY0] at hr0
          rw [hY0] at hSd hHeld ⊢
          clear hY0
          refine tk 0 (.pointer (some ⟨w.heap.size, 11, none⟩)) hHeld (fun w => ?_) ?_
          · go_simp
          simp only [PT]
          refine tkS 1 (.int .i64 a) hHeld (fun w hq => ?_) ?_
          · obtain ⟨cm, c0, c1, c2, c3, c4, c5, c6, c7, c8, c9, ca⟩ := HMC.out w hq
            go_simp
          simp only [PT]
          refine tkS 2 (.agg #[.slice A n c, .int .i64 pl, .int .i64 st, .int .i64 nx, .int .i64 ph, .int .i64 t, .int .i64 hd, .int .i64 hh, .int .i64 ak, .int .i64 wt, .bool sp, .int .i64 a]) hHeld (fun w hq => ?_) ?_
          · obtain ⟨cm, c0, c1, c2, c3, c4, c5, c6, c7, c8, c9, ca⟩ := HMC.out w hq
            go_simp
          simp only [PT]
          refine one_step 3 (by kernel_rfl) rfl (fun Kq hKq => ?_)
          go_simp
          go_at_call 51
          (with_reducible refine (HOW.out _ hSd).mono ?_)
          rintro e y1 ⟨rfl, hbx⟩
          have hS1 : Below W1.heap.size W1 y1 := hSd.trans (hbx.mono hSd.size)
          have hr1 := (hbx.block (w.heap.size + 1) (Array.getElem?_eq_some_iff.1 hr0).1).trans hr0
          clear hbx
          refine hKq.out _ _ hS1 (fun hHeld0 => ?_)
          clear hKq Kq hHeld
          have hHeld := hHeld0
          clear hHeld0
          try simp only [PT]
          refine tk 4 (.slice q.B q.k q.d) hHeld (fun w => ?_) ?_
          · (go_simp; try rfl)
          simp only [PT]
          refine tk 5 (.int .i64 q.k) hHeld (fun w => ?_) ?_
          · go_simp
          simp only [PT]
          refine one_step 6 (by kernel_rfl) rfl (fun Kq hKq => ?_)
          go_simp
          go_at_call 52
          (with_reducible refine (HPC.out _).mono ?_)
          rintro e y2 ⟨rfl, hbx⟩
          have hS2 : Below W1.heap.size W1 y2 := hS1.trans (hbx.mono hS1.size)
          have hr2 := (hbx.block (w.heap.size + 1) (Array.getElem?_eq_some_iff.1 hr1).1).trans hr1
          clear hbx
          refine hKq.out _ _ hS2 (fun hHeld0 => ?_)
          clear hKq Kq hHeld
          have hHeld := hHeld0
          clear hHeld0
          try simp only [PT]
          refine one_step 7 (by kernel_rfl) rfl (fun Kq hKq => ?_)
          go_simp
          go_at_call 49
          (with_reducible refine (unless_yb 1 _).mono ?_)
          rintro e y3 ⟨rfl, hbx⟩
          have hS3 : Below W1.heap.size W1 y3 := hS2.trans (hbx.mono hS2.size)
          have hr3 := (hbx.block (w.heap.size + 1) (Array.getElem?_eq_some_iff.1 hr2).1).trans hr2
          clear hbx
          refine hKq.out _ _ hS3 (fun hHeld0 => ?_)
          clear hKq Kq hHeld
          have hHeld := hHeld0
          clear hHeld0
          try simp only [PT]
          refine wpAnyH_done (by kernel_rfl) ?_ _
          clear hHeld
          obtain ⟨cm, c0, c1, c2, c3, c4, c5, c6, c7, c8, c9, ca⟩ := HMC.out _ hS3
          go_wp2_with (first
            | (go_at_call 50
               (with_reducible refine (HRU.out _ hS3).mono ?_)
               rintro e u1 ⟨rfl, hbu⟩
               have hSu : Below W1.heap.size W1 u1 := hS3.trans (hbu.mono hS3.size)
               have hr0 := (hbu.block (w.heap.size + 1) (Array.getElem?_eq_some_iff.1 hr3).1).trans hr3
               have hs0 := HHS.out _ hSu
               have HBu := Lib.hid (show Below w.heap.size w u1 from HB1.out.trans (hSu.mono HB1.out.size))
               obtain ⟨dm, d0, d1, d2, d3, d4, d5, d6, d7, d8, d9, da⟩ := HMC.out _ hSu
               clear hbu hSu)
            | (go_at_call 49; (with_reducible refine (unless_no 11 _).mono ?_); rintro e wq ⟨rfl, rfl⟩))
          exact ⟨rfl, GivesWs.no HE.out (by decide) HBu.out⟩
        · have HE := Lib.hid (HE0.trans (if_neg (fun h => h.elim (fun h => h k1) (fun h => h.elim (fun h => h k2) k3))))
          clear HE0 k1
          obtain ⟨pl, st, nx, ph, t, hd, hh, ak, wt, sp⟩ := s
          simp only at *
          have b2 : (wt == -1) = true := by rw [k2]; rfl
          clear k2
          have b3 : (a != st) = true := by rw [bne_iff_ne]; exact k3
          clear k3
          go_enter Try.func32, Try.ntmps32
          go_wp2
          rw [HW.out]
          have hSd : Below W1.heap.size W1 W0.drew := HB0.out.drew
          refine wp_region_held_drew (S := fun X => Below W1.heap.size W1 X) (by kernel_rfl) hSd (fun hHeld => ?_)
          obtain ⟨y0, hY0⟩ : ∃ Y, W0.drew = Y := ⟨_, rfl⟩
          have hr0 := (show W0.drew.heap[w.heap.size + 1]? = _ from hr)
          rw [hY0] at hr0
          rw [hY0] at hSd hHeld ⊢
          clear hY0
          refine tk 0 (.pointer (some ⟨w.heap.size, 11, none⟩)) hHeld (fun w => ?_) ?_
          · go_simp
          simp only [PT]
          refine tkS 1 (.int .i64 a) hHeld (fun w hq => ?_) ?_
          · obtain ⟨cm, c0, c1, c2, c3, c4, c5, c6, c7, c8, c9, ca⟩ := HMC.out w hq
            go_simp
          simp only [PT]
          refine tkS 2 (.agg #[.slice A n c, .int .i64 pl, .int .i64 st, .int .i64 nx, .int .i64 ph, .int .i64 t, .int .i64 hd, .int .i64 hh, .int .i64 ak, .int .i64 wt, .bool sp, .int .i64 a]) hHeld (fun w hq => ?_) ?_
          · obtain ⟨cm, c0, c1, c2, c3, c4, c5, c6, c7, c8, c9, ca⟩ := HMC.out w hq
            go_simp
          simp only [PT]
          refine one_step 3 (by kernel_rfl) rfl (fun Kq hKq => ?_)
          go_simp
          go_at_call 51
          (with_reducible refine (HOW.out _ hSd).mono ?_)
          rintro e y1 ⟨rfl, hbx⟩
          have hS1 : Below W1.heap.size W1 y1 := hSd.trans (hbx.mono hSd.size)
          have hr1 := (hbx.block (w.heap.size + 1) (Array.getElem?_eq_some_iff.1 hr0).1).trans hr0
          clear hbx
          refine hKq.out _ _ hS1 (fun hHeld0 => ?_)
          clear hKq Kq hHeld
          have hHeld := hHeld0
          clear hHeld0
          try simp only [PT]
          refine tk 4 (.slice q.B q.k q.d) hHeld (fun w => ?_) ?_
          · (go_simp; try rfl)
          simp only [PT]
          refine tk 5 (.int .i64 q.k) hHeld (fun w => ?_) ?_
          · go_simp
          simp only [PT]
          refine one_step 6 (by kernel_rfl) rfl (fun Kq hKq => ?_)
          go_simp
          go_at_call 52
          (with_reducible refine (HPC.out _).mono ?_)
          rintro e y2 ⟨rfl, hbx⟩
          have hS2 : Below W1.heap.size W1 y2 := hS1.trans (hbx.mono hS1.size)
          have hr2 := (hbx.block (w.heap.size + 1) (Array.getElem?_eq_some_iff.1 hr1).1).trans hr1
          clear hbx
          refine hKq.out _ _ hS2 (fun hHeld0 => ?_)
          clear hKq Kq hHeld
          have hHeld := hHeld0
          clear hHeld0
          try simp only [PT]
          refine one_step 7 (by kernel_rfl) rfl (fun Kq hKq => ?_)
          go_simp
          go_at_call 49
          (with_reducible refine (unless_yb 1 _).mono ?_)
          rintro e y3 ⟨rfl, hbx⟩
          have hS3 : Below W1.heap.size W1 y3 := hS2.trans (hbx.mono hS2.size)
          have hr3 := (hbx.block (w.heap.size + 1) (Array.getElem?_eq_some_iff.1 hr2).1).trans hr2
          clear hbx
          refine hKq.out _ _ hS3 (fun hHeld0 => ?_)
          clear hKq Kq hHeld
          have hHeld := hHeld0
          clear hHeld0
          try simp only [PT]
          refine wpAnyH_done (by kernel_rfl) ?_ _
          clear hHeld
          obtain ⟨cm, c0, c1, c2, c3, c4, c5, c6, c7, c8, c9, ca⟩ := HMC.out _ hS3
          go_wp2_with (first
            | (go_at_call 50
               (with_reducible refine (HRU.out _ hS3).mono ?_)
               rintro e u1 ⟨rfl, hbu⟩
               have hSu : Below W1.heap.size W1 u1 := hS3.trans (hbu.mono hS3.size)
               have hr0 := (hbu.block (w.heap.size + 1) (Array.getElem?_eq_some_iff.1 hr3).1).trans hr3
               have hs0 := HHS.out _ hSu
               have HBu := Lib.hid (show Below w.heap.size w u1 from HB1.out.trans (hSu.mono HB1.out.size))
               obtain ⟨dm, d0, d1, d2, d3, d4, d5, d6, d7, d8, d9, da⟩ := HMC.out _ hSu
               clear hbu hSu)
            | (go_at_call 49; (with_reducible refine (unless_yes 11 _).mono ?_); rintro e wq ⟨rfl, rfl⟩)
            | ((with_reducible refine wpList_store_part rfl 3 _ _ rfl (w.heap.size) 8 (.int .i64 a) #[.int .i64 a] ?hxq3 ?hyq3 ?hvq3 62 #[.slice A n c, .int .i64 pl, .int .i64 st, .int .i64 nx, .int .i64 ph, .int .i64 t, .int .i64 hd, .int .i64 hh, .int .i64 ak, .int .i64 wt, .bool sp, .int .i64 a] #[.slice A n c, .int .i64 pl, .int .i64 st, .int .i64 nx, .int .i64 ph, .int .i64 t, .int .i64 hd, .int .i64 hh, .int .i64 a, .int .i64 wt, .bool sp, .int .i64 a] hs0 ?hiq3 ?hlq3 ?hoq3 ?hnq3 ?_); (case hxq3 => rfl); (case hyq3 => first | rfl | assumption | go_num); (case hvq3 => rfl); (case hiq3 => exact info_one _); (case hlq3 => simp); (case hoq3 => exact one_int _); (case hnq3 => rfl)
               intro v1 hg1 hs1 hz1
               have hr1 := (other_block hg1 (show w.heap.size + 1 ≠ w.heap.size by omega) (Array.getElem?_eq_some_iff.1 hr0).1).trans hr0
               have HB1 := Lib.hid (show Below w.heap.size w v1 from Below.grows HBu.out hg1 HBu.out.size (Nat.le_refl _))
               obtain ⟨em, e0, e1, e2, e3, e4, e5, e6, e7, e8, e9, ea⟩ := (show BoxW v1 w.heap.size A n c ⟨pl, st, nx, ph, t, hd, hh, a, wt, sp⟩ a from hs1).cells
               simp only at em e0 e1 e2 e3 e4 e5 e6 e7 e8 e9 ea
               clear hg1 hz1)
            | ((with_reducible refine wpList_store_part rfl 24 _ _ rfl (w.heap.size + 1) 0 (.agg #[.int .i64 pl, .int .i64 st, .int .i64 nx, .int .i64 ph, .int .i64 t, .int .i64 hd, .int .i64 hh, .int .i64 a, .int .i64 wt, .bool sp]) #[.int .i64 pl, .int .i64 st, .int .i64 nx, .int .i64 ph, .int .i64 t, .int .i64 hd, .int .i64 hh, .int .i64 a, .int .i64 wt, .bool sp] ?hxq4 ?hyq4 ?hvq4 24 #[.int .i64 0, .int .i64 0, .int .i64 0, .int .i64 0, .int .i64 0, .int .i64 0, .int .i64 0, .int .i64 0, .int .i64 0, .bool false] #[.int .i64 pl, .int .i64 st, .int .i64 nx, .int .i64 ph, .int .i64 t, .int .i64 hd, .int .i64 hh, .int .i64 a, .int .i64 wt, .bool sp] hr1 ?hiq4 ?hlq4 ?hoq4 ?hnq4 ?_); (case hxq4 => rfl); (case hyq4 => rfl); (case hvq4 => rfl); (case hiq4 => exact info_sig); (case hlq4 => simp); (case hoq4 => exact one_sig _ _ _ _ _ _ _ _ _ _); (case hnq4 => rfl)
               intro v2 hg2 hr2 hz2
               have HB2 := Lib.hid (show Below w.heap.size w v2 from Below.grows HB1.out hg2 HB1.out.size (by omega))
               clear hg2 hz2))
          refine bodyPost_ret (v := .agg #[.int .i64 pl, .int .i64 st, .int .i64 nx, .int .i64 ph, .int .i64 t, .int .i64 hd, .int .i64 hh, .int .i64 a, .int .i64 wt, .bool sp]) ?_ rfl (GivesWs.ok (g := ⟨pl, st, nx, ph, t, hd, hh, a, wt, sp⟩) HE.out HB2.out)
          exact results_cell_row Try.results32 _ _ (w.heap.size + 1) 24 #[.int .i64 pl, .int .i64 st, .int .i64 nx, .int .i64 ph, .int .i64 t, .int .i64 hd, .int .i64 hh, .int .i64 a, .int .i64 wt, .bool sp] (0, 0) _ rfl hr2 Try.underlying24 rfl info_sig
      · have HE := Lib.hid (HE0.trans (if_pos (.inr (.inl k2))))
        clear HE0 k1
        obtain ⟨pl, st, nx, ph, t, hd, hh, ak, wt, sp⟩ := s
        simp only at *
        have b2 : (wt == -1) = false := by simpa using k2
        clear k2
        go_enter Try.func32, Try.ntmps32
        go_wp2
        rw [HW.out]
        have hSd : Below W1.heap.size W1 W0.drew := HB0.out.drew
        refine wp_region_held_drew (S := fun X => Below W1.heap.size W1 X) (by kernel_rfl) hSd (fun hHeld => ?_)
        obtain ⟨y0, hY0⟩ : ∃ Y, W0.drew = Y := ⟨_, rfl⟩
        have hr0 := (show W0.drew.heap[w.heap.size + 1]? = _ from hr)
        rw [hY0] at hr0
        rw [hY0] at hSd hHeld ⊢
        clear hY0
        refine tk 0 (.pointer (some ⟨w.heap.size, 11, none⟩)) hHeld (fun w => ?_) ?_
        · go_simp
        simp only [PT]
        refine tkS 1 (.int .i64 a) hHeld (fun w hq => ?_) ?_
        · obtain ⟨cm, c0, c1, c2, c3, c4, c5, c6, c7, c8, c9, ca⟩ := HMC.out w hq
          go_simp
        simp only [PT]
        refine tkS 2 (.agg #[.slice A n c, .int .i64 pl, .int .i64 st, .int .i64 nx, .int .i64 ph, .int .i64 t, .int .i64 hd, .int .i64 hh, .int .i64 ak, .int .i64 wt, .bool sp, .int .i64 a]) hHeld (fun w hq => ?_) ?_
        · obtain ⟨cm, c0, c1, c2, c3, c4, c5, c6, c7, c8, c9, ca⟩ := HMC.out w hq
          go_simp
        simp only [PT]
        refine one_step 3 (by kernel_rfl) rfl (fun Kq hKq => ?_)
        go_simp
        go_at_call 51
        (with_reducible refine (HOW.out _ hSd).mono ?_)
        rintro e y1 ⟨rfl, hbx⟩
        have hS1 : Below W1.heap.size W1 y1 := hSd.trans (hbx.mono hSd.size)
        have hr1 := (hbx.block (w.heap.size + 1) (Array.getElem?_eq_some_iff.1 hr0).1).trans hr0
        clear hbx
        refine hKq.out _ _ hS1 (fun hHeld0 => ?_)
        clear hKq Kq hHeld
        have hHeld := hHeld0
        clear hHeld0
        try simp only [PT]
        refine tk 4 (.slice q.B q.k q.d) hHeld (fun w => ?_) ?_
        · (go_simp; try rfl)
        simp only [PT]
        refine tk 5 (.int .i64 q.k) hHeld (fun w => ?_) ?_
        · go_simp
        simp only [PT]
        refine one_step 6 (by kernel_rfl) rfl (fun Kq hKq => ?_)
        go_simp
        go_at_call 52
        (with_reducible refine (HPC.out _).mono ?_)
        rintro e y2 ⟨rfl, hbx⟩
        have hS2 : Below W1.heap.size W1 y2 := hS1.trans (hbx.mono hS1.size)
        have hr2 := (hbx.block (w.heap.size + 1) (Array.getElem?_eq_some_iff.1 hr1).1).trans hr1
        clear hbx
        refine hKq.out _ _ hS2 (fun hHeld0 => ?_)
        clear hKq Kq hHeld
        have hHeld := hHeld0
        clear hHeld0
        try simp only [PT]
        refine one_step 7 (by kernel_rfl) rfl (fun Kq hKq => ?_)
        go_simp
        go_at_call 49
        (with_reducible refine (unless_yb 1 _).mono ?_)
        rintro e y3 ⟨rfl, hbx⟩
        have hS3 : Below W1.heap.size W1 y3 := hS2.trans (hbx.mono hS2.size)
        have hr3 := (hbx.block (w.heap.size + 1) (Array.getElem?_eq_some_iff.1 hr2).1).trans hr2
        clear hbx
        refine hKq.out _ _ hS3 (fun hHeld0 => ?_)
        clear hKq Kq hHeld
        have hHeld := hHeld0
        clear hHeld0
        try simp only [PT]
        refine wpAnyH_done (by kernel_rfl) ?_ _
        clear hHeld
        obtain ⟨cm, c0, c1, c2, c3, c4, c5, c6, c7, c8, c9, ca⟩ := HMC.out _ hS3
        go_wp2_with (first
          | (go_at_call 50
             (with_reducible refine (HRU.out _ hS3).mono ?_)
             rintro e u1 ⟨rfl, hbu⟩
             have hSu : Below W1.heap.size W1 u1 := hS3.trans (hbu.mono hS3.size)
             have hr0 := (hbu.block (w.heap.size + 1) (Array.getElem?_eq_some_iff.1 hr3).1).trans hr3
             have hs0 := HHS.out _ hSu
             have HBu := Lib.hid (show Below w.heap.size w u1 from HB1.out.trans (hSu.mono HB1.out.size))
             obtain ⟨dm, d0, d1, d2, d3, d4, d5, d6, d7, d8, d9, da⟩ := HMC.out _ hSu
             clear hbu hSu)
          | (go_at_call 49; (with_reducible refine (unless_no 11 _).mono ?_); rintro e wq ⟨rfl, rfl⟩))
        exact ⟨rfl, GivesWs.no HE.out (by decide) HBu.out⟩
    · rw [decide_eq_false k1] at HRU
      have HE := Lib.hid (HE0.trans (if_pos (.inl k1)))
      clear HE0 k1
      obtain ⟨pl, st, nx, ph, t, hd, hh, ak, wt, sp⟩ := s
      simp only at *
      go_enter Try.func32, Try.ntmps32
      go_wp2
      rw [HW.out]
      have hSd : Below W1.heap.size W1 W0.drew := HB0.out.drew
      refine wp_region_held_drew (S := fun X => Below W1.heap.size W1 X) (by kernel_rfl) hSd (fun hHeld => ?_)
      obtain ⟨y0, hY0⟩ : ∃ Y, W0.drew = Y := ⟨_, rfl⟩
      have hr0 := (show W0.drew.heap[w.heap.size + 1]? = _ from hr)
      rw [hY0] at hr0
      rw [hY0] at hSd hHeld ⊢
      clear hY0
      refine tk 0 (.pointer (some ⟨w.heap.size, 11, none⟩)) hHeld (fun w => ?_) ?_
      · go_simp
      simp only [PT]
      refine tkS 1 (.int .i64 a) hHeld (fun w hq => ?_) ?_
      · obtain ⟨cm, c0, c1, c2, c3, c4, c5, c6, c7, c8, c9, ca⟩ := HMC.out w hq
        go_simp
      simp only [PT]
      refine tkS 2 (.agg #[.slice A n c, .int .i64 pl, .int .i64 st, .int .i64 nx, .int .i64 ph, .int .i64 t, .int .i64 hd, .int .i64 hh, .int .i64 ak, .int .i64 wt, .bool sp, .int .i64 a]) hHeld (fun w hq => ?_) ?_
      · obtain ⟨cm, c0, c1, c2, c3, c4, c5, c6, c7, c8, c9, ca⟩ := HMC.out w hq
        go_simp
      simp only [PT]
      refine one_step 3 (by kernel_rfl) rfl (fun Kq hKq => ?_)
      go_simp
      go_at_call 51
      (with_reducible refine (HOW.out _ hSd).mono ?_)
      rintro e y1 ⟨rfl, hbx⟩
      have hS1 : Below W1.heap.size W1 y1 := hSd.trans (hbx.mono hSd.size)
      have hr1 := (hbx.block (w.heap.size + 1) (Array.getElem?_eq_some_iff.1 hr0).1).trans hr0
      clear hbx
      refine hKq.out _ _ hS1 (fun hHeld0 => ?_)
      clear hKq Kq hHeld
      have hHeld := hHeld0
      clear hHeld0
      try simp only [PT]
      refine tk 4 (.slice q.B q.k q.d) hHeld (fun w => ?_) ?_
      · (go_simp; try rfl)
      simp only [PT]
      refine tk 5 (.int .i64 q.k) hHeld (fun w => ?_) ?_
      · go_simp
      simp only [PT]
      refine one_step 6 (by kernel_rfl) rfl (fun Kq hKq => ?_)
      go_simp
      go_at_call 52
      (with_reducible refine (HPC.out _).mono ?_)
      rintro e y2 ⟨rfl, hbx⟩
      have hS2 : Below W1.heap.size W1 y2 := hS1.trans (hbx.mono hS1.size)
      have hr2 := (hbx.block (w.heap.size + 1) (Array.getElem?_eq_some_iff.1 hr1).1).trans hr1
      clear hbx
      refine hKq.out _ _ hS2 (fun hHeld0 => ?_)
      clear hKq Kq hHeld
      have hHeld := hHeld0
      clear hHeld0
      try simp only [PT]
      refine one_step 7 (by kernel_rfl) rfl (fun Kq hKq => ?_)
      go_simp
      go_at_call 49
      (with_reducible refine (unless_yb 1 _).mono ?_)
      rintro e y3 ⟨rfl, hbx⟩
      have hS3 : Below W1.heap.size W1 y3 := hS2.trans (hbx.mono hS2.size)
      have hr3 := (hbx.block (w.heap.size + 1) (Array.getElem?_eq_some_iff.1 hr2).1).trans hr2
      clear hbx
      refine hKq.out _ _ hS3 (fun hHeld0 => ?_)
      clear hKq Kq hHeld
      have hHeld := hHeld0
      clear hHeld0
      try simp only [PT]
      refine wpAnyH_done (by kernel_rfl) ?_ _
      clear hHeld
      obtain ⟨cm, c0, c1, c2, c3, c4, c5, c6, c7, c8, c9, ca⟩ := HMC.out _ hS3
      go_wp2_with (first
        | (go_at_call 50
           (with_reducible refine (HRU.out _ hS3).mono ?_)
           rintro e u1 ⟨rfl, hbu⟩
           have hSu : Below W1.heap.size W1 u1 := hS3.trans (hbu.mono hS3.size)
           have hr0 := (hbu.block (w.heap.size + 1) (Array.getElem?_eq_some_iff.1 hr3).1).trans hr3
           have hs0 := HHS.out _ hSu
           have HBu := Lib.hid (show Below w.heap.size w u1 from HB1.out.trans (hSu.mono HB1.out.size))
           obtain ⟨dm, d0, d1, d2, d3, d4, d5, d6, d7, d8, d9, da⟩ := HMC.out _ hSu
           clear hbu hSu)
        | (go_at_call 49; (with_reducible refine (unless_no 11 _).mono ?_); rintro e wq ⟨rfl, rfl⟩))
      exact ⟨rfl, GivesWs.no HE.out (by decide) HBu.out⟩
end Go.Proofs.Ytgnhmdfajnnkhaa

