/- Joined texts: What a tick makes of a machine of package stage that is green. -/
import Derived.Test.YtgnhmdfajnnkhaaSbJH
/- What a tick makes of a machine of package stage that is green. -/
namespace Go.Proofs.Ytgnhmdfajnnkhaa
set_option maxRecDepth 100000
set_option linter.unusedVariables false
set_option linter.unusedSimpArgs false
open Go.RowKit

set_option maxHeartbeats 16000000 in
theorem green_hd (A : Option Addr) (n c : Nat) (l : List Pl) (s : Sg) (w : World) (hl : Pls w A n c l) (h0 : 0 ≤ s.pl) (h1 : s.pl < n) (g0 : 0 < s.hd) (g1 : s.hd ≤ 300) (l0 : 0 ≤ s.hl) (l1 : s.hl ≤ 300) (t0 : 0 ≤ s.t) (t1 : s.t ≤ 1000) : Calls Try.prog 64 #[mcV A n c s] w (GivesM A n c (greenT (planAt l s.pl) s) w) := by
  rw [greenT, if_pos g0]
  unfold GivesM mcV
  have w1 : wrap64 (s.t + 1) = s.t + 1 := by unfold wrap64; omega
  have w2 : wrap64 (s.hd - 1) = s.hd - 1 := by unfold wrap64; omega
  have w3 : wrap64 (s.hl + 1) = s.hl + 1 := by unfold wrap64; omega
  clear hl
  obtain ⟨pl, st, nx, ph, t, hd, hh, ak, wt, sp⟩ := s
  simp only at *
  go_enter Try.func64, Try.ntmps64
  go_wp2
  refine bodyPost_ret (v := .agg #[.slice A n c, .int .i64 pl, .int .i64 st, .int .i64 nx, .int .i64 ph, .int .i64 (t + 1), .int .i64 (hd - 1), .int .i64 (hh + 1), .int .i64 ak, .int .i64 wt, .bool sp]) ?_ rfl ⟨rfl, below_alloc2 _ _ _⟩
  exact results_cell_row Try.results64 _ _ (w.heap.size + 1) 66 #[.slice A n c, .int .i64 pl, .int .i64 st, .int .i64 nx, .int .i64 ph, .int .i64 (t + 1), .int .i64 (hd - 1), .int .i64 (hh + 1), .int .i64 ak, .int .i64 wt, .bool sp] (0, 0) _ rfl (alloc2_new _ _ _) Try.underlying66 rfl info_mac
theorem ends_eq {p : Pl} {s : Sg} (h : (stgAt p s.st).mn ≤ s.t + 1) : endsS p s = endsM p { s with t := s.t + 1 } := by
  rw [endsS, endsM, decide_eq_true h, Bool.true_and]
set_option maxHeartbeats 16000000 in
theorem green_a (A : Option Addr) (n c : Nat) (l : List Pl) (s : Sg) (w : World) (hl : Pls w A n c l) (h0 : 0 ≤ s.pl) (h1 : s.pl < n) (g0 : ¬ 0 < s.hd) (t0 : 0 ≤ s.t) (t1 : s.t ≤ 1000) (s0 : 0 ≤ s.st) (s1 : s.st < (planAt l s.pl).k) (hmn : ¬ (stgAt (planAt l s.pl) s.st).mn ≤ s.t + 1) : Calls Try.prog 64 #[mcV A n c s] w (GivesM A n c (greenT (planAt l s.pl) s) w) := by
  rw [greenT, if_neg g0, if_neg (by rw [endsS, decide_eq_false hmn]; simp)]
  have w1 : wrap64 (s.t + 1) = s.t + 1 := by unfold wrap64; omega
  unfold GivesM mcV
  obtain ⟨pl, st, nx, ph, t, hd, hh, ak, wt, sp⟩ := s
  simp only at *
  obtain ⟨W1, hW1⟩ : ∃ W1, w.alloc (.cells #[.slice A n c, .int .i64 pl, .int .i64 st, .int .i64 nx, .int .i64 ph, .int .i64 (t + 1), .int .i64 hd, .int .i64 hh, .int .i64 ak, .int .i64 wt, .bool sp] 66) = W1 := ⟨_, rfl⟩
  have hB1 : Below w.heap.size w W1 := by rw [← hW1]; exact one_alloc w _
  have hbm : BoxM W1 w.heap.size A n c ⟨pl, st, nx, ph, (t + 1), hd, hh, ak, wt, sp⟩ := by rw [← hW1]; exact BoxM.new w A n c ⟨pl, st, nx, ph, (t + 1), hd, hh, ak, wt, sp⟩
  have hz1 : W1.heap.size = w.heap.size + 1 := by rw [← hW1]; simp
  obtain ⟨W0, hW0⟩ : ∃ W0, W1.alloc (.cells #[.slice none 0 0, .int .i64 0, .int .i64 0, .int .i64 0, .int .i64 0, .int .i64 0, .int .i64 0, .int .i64 0, .int .i64 0, .int .i64 0, .bool false] 66) = W0 := ⟨_, rfl⟩
  have hB0 : Below W1.heap.size W1 W0 := by rw [← hW0]; exact one_alloc W1 _
  have hr : W0.heap[w.heap.size + 1]? = some (.cells #[.slice none 0 0, .int .i64 0, .int .i64 0, .int .i64 0, .int .i64 0, .int .i64 0, .int .i64 0, .int .i64 0, .int .i64 0, .int .i64 0, .bool false] 66 (0, 0)) := by rw [← hW0, ← hz1]; exact heap_alloc_new W1 _
  have hs : W0.heap[w.heap.size]? = some (.cells #[.slice A n c, .int .i64 pl, .int .i64 st, .int .i64 nx, .int .i64 ph, .int .i64 (t + 1), .int .i64 hd, .int .i64 hh, .int .i64 ak, .int .i64 wt, .bool sp] 66 (0, 0)) := hbm.below hB0
  have hlt1 : W1.heap.size ≤ w.heap.size + 1 := by omega
  have hlt0 : w.heap.size < W1.heap.size := by omega
  have HW := Lib.hid (show (w.alloc (.cells #[.slice A n c, .int .i64 pl, .int .i64 st, .int .i64 nx, .int .i64 ph, .int .i64 (t + 1), .int .i64 hd, .int .i64 hh, .int .i64 ak, .int .i64 wt, .bool sp] 66)).alloc (.cells #[.slice none 0 0, .int .i64 0, .int .i64 0, .int .i64 0, .int .i64 0, .int .i64 0, .int .i64 0, .int .i64 0, .int .i64 0, .int .i64 0, .bool false] 66) = W0 by rw [hW1, hW0])
  have HB0 := Lib.hid hB0
  clear hz1 hW0 hW1 hB0
  have HB1 := Lib.hid hB1
  have HMC := Lib.hid (show ∀ X, Below W1.heap.size W1 X → X.cell? ⟨w.heap.size, 0, none⟩ = some (.slice A n c) ∧ X.cell? ⟨w.heap.size, 1, none⟩ = some (.int .i64 pl) ∧ X.cell? ⟨w.heap.size, 2, none⟩ = some (.int .i64 st) ∧ X.cell? ⟨w.heap.size, 3, none⟩ = some (.int .i64 nx) ∧ X.cell? ⟨w.heap.size, 4, none⟩ = some (.int .i64 ph) ∧ X.cell? ⟨w.heap.size, 5, none⟩ = some (.int .i64 (t + 1)) ∧ X.cell? ⟨w.heap.size, 6, none⟩ = some (.int .i64 hd) ∧ X.cell? ⟨w.heap.size, 7, none⟩ = some (.int .i64 hh) ∧ X.cell? ⟨w.heap.size, 8, none⟩ = some (.int .i64 ak) ∧ X.cell? ⟨w.heap.size, 9, none⟩ = some (.int .i64 wt) ∧ X.cell? ⟨w.heap.size, 10, none⟩ = some (.bool sp) from fun X hX => by
    obtain ⟨cm, c0, c1, c2, c3, c4, c5, c6, c7, c8, c9⟩ := (hbm.below hX).cells
    exact ⟨cm, c0, c1, c2, c3, c4, c5, c6, c7, c8, c9⟩)
  have HHS := Lib.hid (show ∀ X, Below W1.heap.size W1 X → X.heap[w.heap.size]? = some (.cells #[.slice A n c, .int .i64 pl, .int .i64 st, .int .i64 nx, .int .i64 ph, .int .i64 (t + 1), .int .i64 hd, .int .i64 hh, .int .i64 ak, .int .i64 wt, .bool sp] 66 (0, 0)) from fun X hX => hbm.below hX)
  have HOW := Lib.hid (fun X (hX : Below W1.heap.size W1 X) => own_plan A n c l ⟨pl, st, nx, ph, (t + 1), hd, hh, ak, wt, sp⟩ X ((hl.below hB1).below hX) h0 h1)
  have HQI := Lib.hid (show ∀ X, Below W1.heap.size W1 X → PlIn X (planAt l pl) from fun X hX => plan_lies ((hl.below hB1).below hX) h0 h1)
  have HST := Lib.hid (fun X (hX : Below W1.heap.size W1 X) => stage_own A n c l ⟨pl, st, nx, ph, (t + 1), hd, hh, ak, wt, sp⟩ X ((hl.below hB1).below hX) h0 h1 s0 s1)
  have HEN := Lib.hid (fun X (hX : Below W1.heap.size W1 X) => mends_any A n c l ⟨pl, st, nx, ph, (t + 1), hd, hh, ak, wt, sp⟩ X ((hl.below hB1).below hX) h0 h1 s0 s1)
  have HFO := Lib.hid (fun X (hX : Below W1.heap.size W1 X) => following_any A n c l ⟨pl, st, nx, ph, (t + 1), hd, hh, ak, wt, sp⟩ X ((hl.below hB1).below hX) h0 h1)
  clear hbm hB1
  obtain ⟨q, hq⟩ : ∃ q, planAt l pl = q := ⟨_, rfl⟩
  rw [hq] at hmn HST
  try rw [hq] at HEN
  try rw [hq] at HFO
  clear hq hl HOW HQI s1
  obtain ⟨x, hx⟩ : ∃ x, stgAt q st = x := ⟨_, rfl⟩
  rw [hx] at hmn HST
  unfold mcV at HST HEN HFO
  simp only at HST HEN HFO
  clear hx
  obtain ⟨g, mn, mx⟩ := x
  simp only at *
  have hmnb : decide (mn ≤ t + 1) = false := decide_eq_false hmn
  clear hmn
  go_enter Try.func64, Try.ntmps64
  go_wp2
  rw [HW.out]
  have hSd : Below W1.heap.size W1 W0.drew := HB0.out.drew
  refine wp_region_held_drew (S := fun X => Below W1.heap.size W1 X) (by kernel_rfl) hSd (fun hHeld => ?_)
  obtain ⟨y0, hY0⟩ : ∃ Y, W0.drew = Y := ⟨_, rfl⟩
  have hr0 := (show W0.drew.heap[w.heap.size + 1]? = _ from hr)
  rw [hY0] at hr0
  rw [hY0] at hSd hHeld ⊢
  clear hY0
  refine tk 0 (.pointer (some ⟨w.heap.size, 1, none⟩)) hHeld (fun w => ?_) ?_
  · go_simp
  simp only [PT]
  refine tk 1 (.pointer (some ⟨w.heap.size, 5, none⟩)) hHeld (fun w => ?_) ?_
  · go_simp
  simp only [PT]
  refine tkS 2 (.int .i64 (t + 1)) hHeld (fun w hq => ?_) ?_
  · obtain ⟨cm, c0, c1, c2, c3, c4, c5, c6, c7, c8, c9⟩ := HMC.out w hq
    go_simp
  simp only [PT]
  refine tkS 3 (.agg #[.slice A n c, .int .i64 pl, .int .i64 st, .int .i64 nx, .int .i64 ph, .int .i64 (t + 1), .int .i64 hd, .int .i64 hh, .int .i64 ak, .int .i64 wt, .bool sp]) hHeld (fun w hq => ?_) ?_
  · obtain ⟨cm, c0, c1, c2, c3, c4, c5, c6, c7, c8, c9⟩ := HMC.out w hq
    go_simp
  simp only [PT]
  refine one_step 4 (by kernel_rfl) rfl (fun Kq hKq => ?_)
  go_simp
  go_at_call 62
  (with_reducible refine (HST.out _ hSd).mono ?_)
  rintro e y1 ⟨rfl, hbx⟩
  try simp only [plV]
  have hS1 : Below W1.heap.size W1 y1 := hSd.trans (hbx.mono hSd.size)
  have hr1 := (hbx.block (w.heap.size + 1) (Array.getElem?_eq_some_iff.1 hr0).1).trans hr0
  clear hbx
  refine hKq.out _ _ hS1 (fun hHeld0 => ?_)
  clear hKq Kq hHeld
  have hHeld := hHeld0
  clear hHeld0
  try simp only [PT]
  refine tk 5 (.int .i64 mn) hHeld (fun w => ?_) ?_
  · (go_simp; try rfl)
  simp only [PT]
  refine tk 6 (.bool false) hHeld (fun w => ?_) ?_
  · go_simp
  simp only [PT]
  refine tk 7 (.bool false) hHeld (fun w => ?_) ?_
  · go_simp
  simp only [PT]
  refine tkO 8 hHeld ?_
  simp only [PT]
  refine tkO 9 hHeld ?_
  simp only [PT]
  refine tk 10 (.bool false) hHeld (fun w => ?_) ?_
  · go_simp
  simp only [PT]
  refine tk 11 (.bool false) hHeld (fun w => ?_) ?_
  · go_simp
  simp only [PT]
  refine wpAnyH_done (by kernel_rfl) ?_ _
  clear hHeld
  obtain ⟨cm, c0, c1, c2, c3, c4, c5, c6, c7, c8, c9⟩ := HMC.out y1 hS1
  have hs1 := HHS.out y1 hS1
  have HB1 := Lib.hid (show Below w.heap.size w y1 from HB1.out.trans (hS1.mono HB1.out.size))
  go_wp2_with (first
    | ((with_reducible refine wpList_store_part rfl 66 _ _ rfl (w.heap.size + 1) 0 (.agg #[.slice A n c, .int .i64 pl, .int .i64 st, .int .i64 nx, .int .i64 ph, .int .i64 (t + 1), .int .i64 hd, .int .i64 hh, .int .i64 ak, .int .i64 wt, .bool sp]) #[.slice A n c, .int .i64 pl, .int .i64 st, .int .i64 nx, .int .i64 ph, .int .i64 (t + 1), .int .i64 hd, .int .i64 hh, .int .i64 ak, .int .i64 wt, .bool sp] ?hx1_r ?hy1_r ?hv1_r 66 #[.slice none 0 0, .int .i64 0, .int .i64 0, .int .i64 0, .int .i64 0, .int .i64 0, .int .i64 0, .int .i64 0, .int .i64 0, .int .i64 0, .bool false] #[.slice A n c, .int .i64 pl, .int .i64 st, .int .i64 nx, .int .i64 ph, .int .i64 (t + 1), .int .i64 hd, .int .i64 hh, .int .i64 ak, .int .i64 wt, .bool sp] hr1 ?hi1_r ?hl1_r ?ho1_r ?hn1_r ?_); (case hx1_r => rfl); (case hy1_r => rfl); (case hv1_r => rfl); (case hi1_r => exact info_mac); (case hl1_r => simp); (case ho1_r => exact one_mac _ _ _ _ _ _ _ _ _ _ _ _ _); (case hn1_r => rfl)
       intro v3 hg3 hr3 hz3
       have HB3 := Lib.hid (show Below w.heap.size w v3 from Below.grows HB1.out hg3 HB1.out.size (by omega))
       clear hg3 hz3))
  refine bodyPost_ret (v := .agg #[.slice A n c, .int .i64 pl, .int .i64 st, .int .i64 nx, .int .i64 ph, .int .i64 (t + 1), .int .i64 hd, .int .i64 hh, .int .i64 ak, .int .i64 wt, .bool sp]) ?_ rfl ⟨rfl, HB3.out⟩
  exact results_cell_row Try.results64 _ _ (w.heap.size + 1) 66 #[.slice A n c, .int .i64 pl, .int .i64 st, .int .i64 nx, .int .i64 ph, .int .i64 (t + 1), .int .i64 hd, .int .i64 hh, .int .i64 ak, .int .i64 wt, .bool sp] (0, 0) _ rfl hr3 Try.underlying66 rfl info_mac
set_option maxHeartbeats 16000000 in
theorem green_b (A : Option Addr) (n c : Nat) (l : List Pl) (s : Sg) (w : World) (hl : Pls w A n c l) (h0 : 0 ≤ s.pl) (h1 : s.pl < n) (g0 : ¬ 0 < s.hd) (t0 : 0 ≤ s.t) (t1 : s.t ≤ 1000) (s0 : 0 ≤ s.st) (s1 : s.st < (planAt l s.pl).k) (hmn : (stgAt (planAt l s.pl) s.st).mn ≤ s.t + 1) (he : endsM (planAt l s.pl) { s with t := s.t + 1 } = false) : Calls Try.prog 64 #[mcV A n c s] w (GivesM A n c (greenT (planAt l s.pl) s) w) := by
  rw [greenT, if_neg g0, if_neg (by rw [ends_eq hmn, he]; simp)]
  have w1 : wrap64 (s.t + 1) = s.t + 1 := by unfold wrap64; omega
  unfold GivesM mcV
  obtain ⟨pl, st, nx, ph, t, hd, hh, ak, wt, sp⟩ := s
  simp only at *
  obtain ⟨W1, hW1⟩ : ∃ W1, w.alloc (.cells #[.slice A n c, .int .i64 pl, .int .i64 st, .int .i64 nx, .int .i64 ph, .int .i64 (t + 1), .int .i64 hd, .int .i64 hh, .int .i64 ak, .int .i64 wt, .bool sp] 66) = W1 := ⟨_, rfl⟩
  have hB1 : Below w.heap.size w W1 := by rw [← hW1]; exact one_alloc w _
  have hbm : BoxM W1 w.heap.size A n c ⟨pl, st, nx, ph, (t + 1), hd, hh, ak, wt, sp⟩ := by rw [← hW1]; exact BoxM.new w A n c ⟨pl, st, nx, ph, (t + 1), hd, hh, ak, wt, sp⟩
  have hz1 : W1.heap.size = w.heap.size + 1 := by rw [← hW1]; simp
  obtain ⟨W0, hW0⟩ : ∃ W0, W1.alloc (.cells #[.slice none 0 0, .int .i64 0, .int .i64 0, .int .i64 0, .int .i64 0, .int .i64 0, .int .i64 0, .int .i64 0, .int .i64 0, .int .i64 0, .bool false] 66) = W0 := ⟨_, rfl⟩
  have hB0 : Below W1.heap.size W1 W0 := by rw [← hW0]; exact one_alloc W1 _
  have hr : W0.heap[w.heap.size + 1]? = some (.cells #[.slice none 0 0, .int .i64 0, .int .i64 0, .int .i64 0, .int .i64 0, .int .i64 0, .int .i64 0, .int .i64 0, .int .i64 0, .int .i64 0, .bool false] 66 (0, 0)) := by rw [← hW0, ← hz1]; exact heap_alloc_new W1 _
  have hs : W0.heap[w.heap.size]? = some (.cells #[.slice A n c, .int .i64 pl, .int .i64 st, .int .i64 nx, .int .i64 ph, .int .i64 (t + 1), .int .i64 hd, .int .i64 hh, .int .i64 ak, .int .i64 wt, .bool sp] 66 (0, 0)) := hbm.below hB0
  have hlt1 : W1.heap.size ≤ w.heap.size + 1 := by omega
  have hlt0 : w.heap.size < W1.heap.size := by omega
  have HW := Lib.hid (show (w.alloc (.cells #[.slice A n c, .int .i64 pl, .int .i64 st, .int .i64 nx, .int .i64 ph, .int .i64 (t + 1), .int .i64 hd, .int .i64 hh, .int .i64 ak, .int .i64 wt, .bool sp] 66)).alloc (.cells #[.slice none 0 0, .int .i64 0, .int .i64 0, .int .i64 0, .int .i64 0, .int .i64 0, .int .i64 0, .int .i64 0, .int .i64 0, .int .i64 0, .bool false] 66) = W0 by rw [hW1, hW0])
  have HB0 := Lib.hid hB0
  clear hz1 hW0 hW1 hB0
  have HB1 := Lib.hid hB1
  have HMC := Lib.hid (show ∀ X, Below W1.heap.size W1 X → X.cell? ⟨w.heap.size, 0, none⟩ = some (.slice A n c) ∧ X.cell? ⟨w.heap.size, 1, none⟩ = some (.int .i64 pl) ∧ X.cell? ⟨w.heap.size, 2, none⟩ = some (.int .i64 st) ∧ X.cell? ⟨w.heap.size, 3, none⟩ = some (.int .i64 nx) ∧ X.cell? ⟨w.heap.size, 4, none⟩ = some (.int .i64 ph) ∧ X.cell? ⟨w.heap.size, 5, none⟩ = some (.int .i64 (t + 1)) ∧ X.cell? ⟨w.heap.size, 6, none⟩ = some (.int .i64 hd) ∧ X.cell? ⟨w.heap.size, 7, none⟩ = some (.int .i64 hh) ∧ X.cell? ⟨w.heap.size, 8, none⟩ = some (.int .i64 ak) ∧ X.cell? ⟨w.heap.size, 9, none⟩ = some (.int .i64 wt) ∧ X.cell? ⟨w.heap.size, 10, none⟩ = some (.bool sp) from fun X hX => by
    obtain ⟨cm, c0, c1, c2, c3, c4, c5, c6, c7, c8, c9⟩ := (hbm.below hX).cells
    exact ⟨cm, c0, c1, c2, c3, c4, c5, c6, c7, c8, c9⟩)
  have HHS := Lib.hid (show ∀ X, Below W1.heap.size W1 X → X.heap[w.heap.size]? = some (.cells #[.slice A n c, .int .i64 pl, .int .i64 st, .int .i64 nx, .int .i64 ph, .int .i64 (t + 1), .int .i64 hd, .int .i64 hh, .int .i64 ak, .int .i64 wt, .bool sp] 66 (0, 0)) from fun X hX => hbm.below hX)
  have HOW := Lib.hid (fun X (hX : Below W1.heap.size W1 X) => own_plan A n c l ⟨pl, st, nx, ph, (t + 1), hd, hh, ak, wt, sp⟩ X ((hl.below hB1).below hX) h0 h1)
  have HQI := Lib.hid (show ∀ X, Below W1.heap.size W1 X → PlIn X (planAt l pl) from fun X hX => plan_lies ((hl.below hB1).below hX) h0 h1)
  have HST := Lib.hid (fun X (hX : Below W1.heap.size W1 X) => stage_own A n c l ⟨pl, st, nx, ph, (t + 1), hd, hh, ak, wt, sp⟩ X ((hl.below hB1).below hX) h0 h1 s0 s1)
  have HEN := Lib.hid (fun X (hX : Below W1.heap.size W1 X) => mends_any A n c l ⟨pl, st, nx, ph, (t + 1), hd, hh, ak, wt, sp⟩ X ((hl.below hB1).below hX) h0 h1 s0 s1)
  have HFO := Lib.hid (fun X (hX : Below W1.heap.size W1 X) => following_any A n c l ⟨pl, st, nx, ph, (t + 1), hd, hh, ak, wt, sp⟩ X ((hl.below hB1).below hX) h0 h1)
  clear hbm hB1
  rw [he] at HEN
  clear he
  obtain ⟨q, hq⟩ : ∃ q, planAt l pl = q := ⟨_, rfl⟩
  rw [hq] at hmn HST
  try rw [hq] at HEN
  try rw [hq] at HFO
  clear hq hl HOW HQI s1
  obtain ⟨x, hx⟩ : ∃ x, stgAt q st = x := ⟨_, rfl⟩
  rw [hx] at hmn HST
  unfold mcV at HST HEN HFO
  simp only at HST HEN HFO
  clear hx
  obtain ⟨g, mn, mx⟩ := x
  simp only at *
  have hmnb : decide (mn ≤ t + 1) = true := decide_eq_true hmn
  clear hmn
  go_enter Try.func64, Try.ntmps64
  go_wp2
  rw [HW.out]
  have hSd : Below W1.heap.size W1 W0.drew := HB0.out.drew
  refine wp_region_held_drew (S := fun X => Below W1.heap.size W1 X) (by kernel_rfl) hSd (fun hHeld => ?_)
  obtain ⟨y0, hY0⟩ : ∃ Y, W0.drew = Y := ⟨_, rfl⟩
  have hr0 := (show W0.drew.heap[w.heap.size + 1]? = _ from hr)
  rw [hY0] at hr0
  rw [hY0] at hSd hHeld ⊢
  clear hY0
  refine tk 0 (.pointer (some ⟨w.heap.size, 1, none⟩)) hHeld (fun w => ?_) ?_
  · go_simp
  simp only [PT]
  refine tk 1 (.pointer (some ⟨w.heap.size, 5, none⟩)) hHeld (fun w => ?_) ?_
  · go_simp
  simp only [PT]
  refine tkS 2 (.int .i64 (t + 1)) hHeld (fun w hq => ?_) ?_
  · obtain ⟨cm, c0, c1, c2, c3, c4, c5, c6, c7, c8, c9⟩ := HMC.out w hq
    go_simp
  simp only [PT]
  refine tkS 3 (.agg #[.slice A n c, .int .i64 pl, .int .i64 st, .int .i64 nx, .int .i64 ph, .int .i64 (t + 1), .int .i64 hd, .int .i64 hh, .int .i64 ak, .int .i64 wt, .bool sp]) hHeld (fun w hq => ?_) ?_
  · obtain ⟨cm, c0, c1, c2, c3, c4, c5, c6, c7, c8, c9⟩ := HMC.out w hq
    go_simp
  simp only [PT]
  refine one_step 4 (by kernel_rfl) rfl (fun Kq hKq => ?_)
  go_simp
  go_at_call 62
  (with_reducible refine (HST.out _ hSd).mono ?_)
  rintro e y1 ⟨rfl, hbx⟩
  try simp only [plV]
  have hS1 : Below W1.heap.size W1 y1 := hSd.trans (hbx.mono hSd.size)
  have hr1 := (hbx.block (w.heap.size + 1) (Array.getElem?_eq_some_iff.1 hr0).1).trans hr0
  clear hbx
  refine hKq.out _ _ hS1 (fun hHeld0 => ?_)
  clear hKq Kq hHeld
  have hHeld := hHeld0
  clear hHeld0
  try simp only [PT]
  refine tk 5 (.int .i64 mn) hHeld (fun w => ?_) ?_
  · (go_simp; try rfl)
  simp only [PT]
  refine tk 6 (.bool true) hHeld (fun w => ?_) ?_
  · go_simp
  simp only [PT]
  refine tk 7 (.bool true) hHeld (fun w => ?_) ?_
  · go_simp
  simp only [PT]
  refine tkS 8 (.agg #[.slice A n c, .int .i64 pl, .int .i64 st, .int .i64 nx, .int .i64 ph, .int .i64 (t + 1), .int .i64 hd, .int .i64 hh, .int .i64 ak, .int .i64 wt, .bool sp]) hHeld (fun w hq => ?_) ?_
  · obtain ⟨cm, c0, c1, c2, c3, c4, c5, c6, c7, c8, c9⟩ := HMC.out w hq
    go_simp
  simp only [PT]
  refine one_step 9 (by kernel_rfl) rfl (fun Kq hKq => ?_)
  go_simp
  go_at_call 76
  (with_reducible refine (HEN.out _ hS1).mono ?_)
  rintro e y2 ⟨rfl, hbx⟩
  have hS2 : Below W1.heap.size W1 y2 := hS1.trans (hbx.mono hS1.size)
  have hr2 := (hbx.block (w.heap.size + 1) (Array.getElem?_eq_some_iff.1 hr1).1).trans hr1
  clear hbx
  refine hKq.out _ _ hS2 (fun hHeld0 => ?_)
  clear hKq Kq hHeld
  have hHeld := hHeld0
  clear hHeld0
  try simp only [PT]
  refine tk 10 (.bool false) hHeld (fun w => ?_) ?_
  · go_simp
  simp only [PT]
  refine tk 11 (.bool false) hHeld (fun w => ?_) ?_
  · go_simp
  simp only [PT]
  refine wpAnyH_done (by kernel_rfl) ?_ _
  clear hHeld
  obtain ⟨cm, c0, c1, c2, c3, c4, c5, c6, c7, c8, c9⟩ := HMC.out y2 hS2
  have hs2 := HHS.out y2 hS2
  have HB2 := Lib.hid (show Below w.heap.size w y2 from HB1.out.trans (hS2.mono HB1.out.size))
  go_wp2_with (first
    | ((with_reducible refine wpList_store_part rfl 66 _ _ rfl (w.heap.size + 1) 0 (.agg #[.slice A n c, .int .i64 pl, .int .i64 st, .int .i64 nx, .int .i64 ph, .int .i64 (t + 1), .int .i64 hd, .int .i64 hh, .int .i64 ak, .int .i64 wt, .bool sp]) #[.slice A n c, .int .i64 pl, .int .i64 st, .int .i64 nx, .int .i64 ph, .int .i64 (t + 1), .int .i64 hd, .int .i64 hh, .int .i64 ak, .int .i64 wt, .bool sp] ?hx2_r ?hy2_r ?hv2_r 66 #[.slice none 0 0, .int .i64 0, .int .i64 0, .int .i64 0, .int .i64 0, .int .i64 0, .int .i64 0, .int .i64 0, .int .i64 0, .int .i64 0, .bool false] #[.slice A n c, .int .i64 pl, .int .i64 st, .int .i64 nx, .int .i64 ph, .int .i64 (t + 1), .int .i64 hd, .int .i64 hh, .int .i64 ak, .int .i64 wt, .bool sp] hr2 ?hi2_r ?hl2_r ?ho2_r ?hn2_r ?_); (case hx2_r => rfl); (case hy2_r => rfl); (case hv2_r => rfl); (case hi2_r => exact info_mac); (case hl2_r => simp); (case ho2_r => exact one_mac _ _ _ _ _ _ _ _ _ _ _ _ _); (case hn2_r => rfl)
       intro v4 hg4 hr4 hz4
       have HB4 := Lib.hid (show Below w.heap.size w v4 from Below.grows HB2.out hg4 HB2.out.size (by omega))
       clear hg4 hz4))
  refine bodyPost_ret (v := .agg #[.slice A n c, .int .i64 pl, .int .i64 st, .int .i64 nx, .int .i64 ph, .int .i64 (t + 1), .int .i64 hd, .int .i64 hh, .int .i64 ak, .int .i64 wt, .bool sp]) ?_ rfl ⟨rfl, HB4.out⟩
  exact results_cell_row Try.results64 _ _ (w.heap.size + 1) 66 #[.slice A n c, .int .i64 pl, .int .i64 st, .int .i64 nx, .int .i64 ph, .int .i64 (t + 1), .int .i64 hd, .int .i64 hh, .int .i64 ak, .int .i64 wt, .bool sp] (0, 0) _ rfl hr4 Try.underlying66 rfl info_mac
set_option maxHeartbeats 16000000 in
theorem green_c (A : Option Addr) (n c : Nat) (l : List Pl) (s : Sg) (w : World) (hl : Pls w A n c l) (h0 : 0 ≤ s.pl) (h1 : s.pl < n) (g0 : ¬ 0 < s.hd) (t0 : 0 ≤ s.t) (t1 : s.t ≤ 1000) (s0 : 0 ≤ s.st) (s1 : s.st < (planAt l s.pl).k) (hmn : (stgAt (planAt l s.pl) s.st).mn ≤ s.t + 1) (he : endsM (planAt l s.pl) { s with t := s.t + 1 } = true) : Calls Try.prog 64 #[mcV A n c s] w (GivesM A n c (greenT (planAt l s.pl) s) w) := by
  rw [greenT, if_neg g0, if_pos (by rw [ends_eq hmn, he])]
  have w1 : wrap64 (s.t + 1) = s.t + 1 := by unfold wrap64; omega
  unfold GivesM mcV
  obtain ⟨pl, st, nx, ph, t, hd, hh, ak, wt, sp⟩ := s
  simp only at *
  obtain ⟨W1, hW1⟩ : ∃ W1, w.alloc (.cells #[.slice A n c, .int .i64 pl, .int .i64 st, .int .i64 nx, .int .i64 ph, .int .i64 (t + 1), .int .i64 hd, .int .i64 hh, .int .i64 ak, .int .i64 wt, .bool sp] 66) = W1 := ⟨_, rfl⟩
  have hB1 : Below w.heap.size w W1 := by rw [← hW1]; exact one_alloc w _
  have hbm : BoxM W1 w.heap.size A n c ⟨pl, st, nx, ph, (t + 1), hd, hh, ak, wt, sp⟩ := by rw [← hW1]; exact BoxM.new w A n c ⟨pl, st, nx, ph, (t + 1), hd, hh, ak, wt, sp⟩
  have hz1 : W1.heap.size = w.heap.size + 1 := by rw [← hW1]; simp
  obtain ⟨W0, hW0⟩ : ∃ W0, W1.alloc (.cells #[.slice none 0 0, .int .i64 0, .int .i64 0, .int .i64 0, .int .i64 0, .int .i64 0, .int .i64 0, .int .i64 0, .int .i64 0, .int .i64 0, .bool false] 66) = W0 := ⟨_, rfl⟩
  have hB0 : Below W1.heap.size W1 W0 := by rw [← hW0]; exact one_alloc W1 _
  have hr : W0.heap[w.heap.size + 1]? = some (.cells #[.slice none 0 0, .int .i64 0, .int .i64 0, .int .i64 0, .int .i64 0, .int .i64 0, .int .i64 0, .int .i64 0, .int .i64 0, .int .i64 0, .bool false] 66 (0, 0)) := by rw [← hW0, ← hz1]; exact heap_alloc_new W1 _
  have hs : W0.heap[w.heap.size]? = some (.cells #[.slice A n c, .int .i64 pl, .int .i64 st, .int .i64 nx, .int .i64 ph, .int .i64 (t + 1), .int .i64 hd, .int .i64 hh, .int .i64 ak, .int .i64 wt, .bool sp] 66 (0, 0)) := hbm.below hB0
  have hlt1 : W1.heap.size ≤ w.heap.size + 1 := by omega
  have hlt0 : w.heap.size < W1.heap.size := by omega
  have HW := Lib.hid (show (w.alloc (.cells #[.slice A n c, .int .i64 pl, .int .i64 st, .int .i64 nx, .int .i64 ph, .int .i64 (t + 1), .int .i64 hd, .int .i64 hh, .int .i64 ak, .int .i64 wt, .bool sp] 66)).alloc (.cells #[.slice none 0 0, .int .i64 0, .int .i64 0, .int .i64 0, .int .i64 0, .int .i64 0, .int .i64 0, .int .i64 0, .int .i64 0, .int .i64 0, .bool false] 66) = W0 by rw [hW1, hW0])
  have HB0 := Lib.hid hB0
  clear hz1 hW0 hW1 hB0
  have HB1 := Lib.hid hB1
  have HMC := Lib.hid (show ∀ X, Below W1.heap.size W1 X → X.cell? ⟨w.heap.size, 0, none⟩ = some (.slice A n c) ∧ X.cell? ⟨w.heap.size, 1, none⟩ = some (.int .i64 pl) ∧ X.cell? ⟨w.heap.size, 2, none⟩ = some (.int .i64 st) ∧ X.cell? ⟨w.heap.size, 3, none⟩ = some (.int .i64 nx) ∧ X.cell? ⟨w.heap.size, 4, none⟩ = some (.int .i64 ph) ∧ X.cell? ⟨w.heap.size, 5, none⟩ = some (.int .i64 (t + 1)) ∧ X.cell? ⟨w.heap.size, 6, none⟩ = some (.int .i64 hd) ∧ X.cell? ⟨w.heap.size, 7, none⟩ = some (.int .i64 hh) ∧ X.cell? ⟨w.heap.size, 8, none⟩ = some (.int .i64 ak) ∧ X.cell? ⟨w.heap.size, 9, none⟩ = some (.int .i64 wt) ∧ X.cell? ⟨w.heap.size, 10, none⟩ = some (.bool sp) from fun X hX => by
    obtain ⟨cm, c0, c1, c2, c3, c4, c5, c6, c7, c8, c9⟩ := (hbm.below hX).cells
    exact ⟨cm, c0, c1, c2, c3, c4, c5, c6, c7, c8, c9⟩)
  have HHS := Lib.hid (show ∀ X, Below W1.heap.size W1 X → X.heap[w.heap.size]? = some (.cells #[.slice A n c, .int .i64 pl, .int .i64 st, .int .i64 nx, .int .i64 ph, .int .i64 (t + 1), .int .i64 hd, .int .i64 hh, .int .i64 ak, .int .i64 wt, .bool sp] 66 (0, 0)) from fun X hX => hbm.below hX)
  have HOW := Lib.hid (fun X (hX : Below W1.heap.size W1 X) => own_plan A n c l ⟨pl, st, nx, ph, (t + 1), hd, hh, ak, wt, sp⟩ X ((hl.below hB1).below hX) h0 h1)
  have HQI := Lib.hid (show ∀ X, Below W1.heap.size W1 X → PlIn X (planAt l pl) from fun X hX => plan_lies ((hl.below hB1).below hX) h0 h1)
  have HST := Lib.hid (fun X (hX : Below W1.heap.size W1 X) => stage_own A n c l ⟨pl, st, nx, ph, (t + 1), hd, hh, ak, wt, sp⟩ X ((hl.below hB1).below hX) h0 h1 s0 s1)
  have HEN := Lib.hid (fun X (hX : Below W1.heap.size W1 X) => mends_any A n c l ⟨pl, st, nx, ph, (t + 1), hd, hh, ak, wt, sp⟩ X ((hl.below hB1).below hX) h0 h1 s0 s1)
  have HFO := Lib.hid (fun X (hX : Below W1.heap.size W1 X) => following_any A n c l ⟨pl, st, nx, ph, (t + 1), hd, hh, ak, wt, sp⟩ X ((hl.below hB1).below hX) h0 h1)
  clear hbm hB1
  rw [he] at HEN
  clear he
  obtain ⟨N, hN⟩ : ∃ N, (if ak = -1 then nextP (planAt l pl) st else ak) = N := ⟨_, rfl⟩
  simp only [hN] at HFO
  rw [hN]
  clear hN
  obtain ⟨q, hq⟩ : ∃ q, planAt l pl = q := ⟨_, rfl⟩
  rw [hq] at hmn HST
  try rw [hq] at HEN
  try rw [hq] at HFO
  clear hq hl HOW HQI s1
  obtain ⟨x, hx⟩ : ∃ x, stgAt q st = x := ⟨_, rfl⟩
  rw [hx] at hmn HST
  unfold mcV at HST HEN HFO
  simp only at HST HEN HFO
  clear hx
  obtain ⟨g, mn, mx⟩ := x
  simp only at *
  have hmnb : decide (mn ≤ t + 1) = true := decide_eq_true hmn
  clear hmn
  go_enter Try.func64, Try.ntmps64
  go_wp2
  rw [HW.out]
  have hSd : Below W1.heap.size W1 W0.drew := HB0.out.drew
  refine wp_region_held_drew (S := fun X => Below W1.heap.size W1 X) (by kernel_rfl) hSd (fun hHeld => ?_)
  obtain ⟨y0, hY0⟩ : ∃ Y, W0.drew = Y := ⟨_, rfl⟩
  have hr0 := (show W0.drew.heap[w.heap.size + 1]? = _ from hr)
  rw [hY0] at hr0
  rw [hY0] at hSd hHeld ⊢
  clear hY0
  refine tk 0 (.pointer (some ⟨w.heap.size, 1, none⟩)) hHeld (fun w => ?_) ?_
  · go_simp
  simp only [PT]
  refine tk 1 (.pointer (some ⟨w.heap.size, 5, none⟩)) hHeld (fun w => ?_) ?_
  · go_simp
  simp only [PT]
  refine tkS 2 (.int .i64 (t + 1)) hHeld (fun w hq => ?_) ?_
  · obtain ⟨cm, c0, c1, c2, c3, c4, c5, c6, c7, c8, c9⟩ := HMC.out w hq
    go_simp
  simp only [PT]
  refine tkS 3 (.agg #[.slice A n c, .int .i64 pl, .int .i64 st, .int .i64 nx, .int .i64 ph, .int .i64 (t + 1), .int .i64 hd, .int .i64 hh, .int .i64 ak, .int .i64 wt, .bool sp]) hHeld (fun w hq => ?_) ?_
  · obtain ⟨cm, c0, c1, c2, c3, c4, c5, c6, c7, c8, c9⟩ := HMC.out w hq
    go_simp
  simp only [PT]
  refine one_step 4 (by kernel_rfl) rfl (fun Kq hKq => ?_)
  go_simp
  go_at_call 62
  (with_reducible refine (HST.out _ hSd).mono ?_)
  rintro e y1 ⟨rfl, hbx⟩
  try simp only [plV]
  have hS1 : Below W1.heap.size W1 y1 := hSd.trans (hbx.mono hSd.size)
  have hr1 := (hbx.block (w.heap.size + 1) (Array.getElem?_eq_some_iff.1 hr0).1).trans hr0
  clear hbx
  refine hKq.out _ _ hS1 (fun hHeld0 => ?_)
  clear hKq Kq hHeld
  have hHeld := hHeld0
  clear hHeld0
  try simp only [PT]
  refine tk 5 (.int .i64 mn) hHeld (fun w => ?_) ?_
  · (go_simp; try rfl)
  simp only [PT]
  refine tk 6 (.bool true) hHeld (fun w => ?_) ?_
  · go_simp
  simp only [PT]
  refine tk 7 (.bool true) hHeld (fun w => ?_) ?_
  · go_simp
  simp only [PT]
  refine tkS 8 (.agg #[.slice A n c, .int .i64 pl, .int .i64 st, .int .i64 nx, .int .i64 ph, .int .i64 (t + 1), .int .i64 hd, .int .i64 hh, .int .i64 ak, .int .i64 wt, .bool sp]) hHeld (fun w hq => ?_) ?_
  · obtain ⟨cm, c0, c1, c2, c3, c4, c5, c6, c7, c8, c9⟩ := HMC.out w hq
    go_simp
  simp only [PT]
  refine one_step 9 (by kernel_rfl) rfl (fun Kq hKq => ?_)
  go_simp
  go_at_call 76
  (with_reducible refine (HEN.out _ hS1).mono ?_)
  rintro e y2 ⟨rfl, hbx⟩
  have hS2 : Below W1.heap.size W1 y2 := hS1.trans (hbx.mono hS1.size)
  have hr2 := (hbx.block (w.heap.size + 1) (Array.getElem?_eq_some_iff.1 hr1).1).trans hr1
  clear hbx
  refine hKq.out _ _ hS2 (fun hHeld0 => ?_)
  clear hKq Kq hHeld
  have hHeld := hHeld0
  clear hHeld0
  try simp only [PT]
  refine tk 10 (.bool true) hHeld (fun w => ?_) ?_
  · go_simp
  simp only [PT]
  refine tk 11 (.bool true) hHeld (fun w => ?_) ?_
  · go_simp
  simp only [PT]
  refine wpAnyH_done (by kernel_rfl) ?_ _
  clear hHeld
  obtain ⟨cm, c0, c1, c2, c3, c4, c5, c6, c7, c8, c9⟩ := HMC.out y2 hS2
  have hs2 := HHS.out y2 hS2
  have HB2 := Lib.hid (show Below w.heap.size w y2 from HB1.out.trans (hS2.mono HB1.out.size))
  go_wp2_with (first
    | (go_at_call 77
       (with_reducible refine (HFO.out _ hS2).mono ?_)
       rintro e v3 ⟨rfl, hbx⟩
       have hS3 : Below W1.heap.size W1 v3 := hS2.trans (hbx.mono hS2.size)
       have hr3 := (hbx.block (w.heap.size + 1) (Array.getElem?_eq_some_iff.1 hr2).1).trans hr2
       have hs3 := HHS.out v3 hS3
       have HB3 := Lib.hid (show Below w.heap.size w v3 from HB1.out.trans (hS3.mono HB1.out.size))
       obtain ⟨fm, f0, f1, f2, f3, f4, f5, f6, f7, f8, f9⟩ := HMC.out v3 hS3
       clear hbx)
    | ((with_reducible refine wpList_store_part rfl 3 _ _ rfl (w.heap.size) 3 (.int .i64 N) #[.int .i64 N] ?hx3_4 ?hy3_4 ?hv3_4 66 #[.slice A n c, .int .i64 pl, .int .i64 st, .int .i64 nx, .int .i64 ph, .int .i64 (t + 1), .int .i64 hd, .int .i64 hh, .int .i64 ak, .int .i64 wt, .bool sp] #[.slice A n c, .int .i64 pl, .int .i64 st, .int .i64 N, .int .i64 ph, .int .i64 (t + 1), .int .i64 hd, .int .i64 hh, .int .i64 ak, .int .i64 wt, .bool sp] hs3 ?hi3_4 ?hl3_4 ?ho3_4 ?hn3_4 ?_); (case hx3_4 => rfl); (case hy3_4 => first | rfl | assumption | go_num); (case hv3_4 => rfl); (case hi3_4 => first | exact info_one _ | exact info_mac); (case hl3_4 => simp); (case ho3_4 => first | exact one_int _ | exact one_mac _ _ _ _ _ _ _ _ _ _ _ _ _); (case hn3_4 => rfl)
       intro v4 hg4 hs4 hz4
       have hr4 := (other_block hg4 (show w.heap.size + 1 ≠ w.heap.size by omega) (Array.getElem?_eq_some_iff.1 hr3).1).trans hr3
       have HB4 := Lib.hid (show Below w.heap.size w v4 from Below.grows HB3.out hg4 HB3.out.size (Nat.le_refl _))
       obtain ⟨e4m, e40, e41, e42, e43, e44, e45, e46, e47, e48, e49⟩ := (show BoxM v4 w.heap.size A n c ⟨pl, st, N, ph, (t + 1), hd, hh, ak, wt, sp⟩ from hs4).cells
       simp only at e40 e41 e42 e43 e44 e45 e46 e47 e48 e49
       clear hg4 hz4)
    | ((with_reducible refine wpList_store_part rfl 3 _ _ rfl (w.heap.size) 8 (.int .i64 (-1)) #[.int .i64 (-1)] ?hx3_5 ?hy3_5 ?hv3_5 66 #[.slice A n c, .int .i64 pl, .int .i64 st, .int .i64 N, .int .i64 ph, .int .i64 (t + 1), .int .i64 hd, .int .i64 hh, .int .i64 ak, .int .i64 wt, .bool sp] #[.slice A n c, .int .i64 pl, .int .i64 st, .int .i64 N, .int .i64 ph, .int .i64 (t + 1), .int .i64 hd, .int .i64 hh, .int .i64 (-1), .int .i64 wt, .bool sp] hs4 ?hi3_5 ?hl3_5 ?ho3_5 ?hn3_5 ?_); (case hx3_5 => rfl); (case hy3_5 => first | rfl | assumption | go_num); (case hv3_5 => rfl); (case hi3_5 => first | exact info_one _ | exact info_mac); (case hl3_5 => simp); (case ho3_5 => first | exact one_int _ | exact one_mac _ _ _ _ _ _ _ _ _ _ _ _ _); (case hn3_5 => rfl)
       intro v5 hg5 hs5 hz5
       have hr5 := (other_block hg5 (show w.heap.size + 1 ≠ w.heap.size by omega) (Array.getElem?_eq_some_iff.1 hr4).1).trans hr4
       have HB5 := Lib.hid (show Below w.heap.size w v5 from Below.grows HB4.out hg5 HB4.out.size (Nat.le_refl _))
       obtain ⟨e5m, e50, e51, e52, e53, e54, e55, e56, e57, e58, e59⟩ := (show BoxM v5 w.heap.size A n c ⟨pl, st, N, ph, (t + 1), hd, hh, (-1), wt, sp⟩ from hs5).cells
       simp only at e50 e51 e52 e53 e54 e55 e56 e57 e58 e59
       clear hg5 hz5)
    | ((with_reducible refine wpList_store_part rfl 3 _ _ rfl (w.heap.size) 4 (.int .i64 1) #[.int .i64 1] ?hx3_6 ?hy3_6 ?hv3_6 66 #[.slice A n c, .int .i64 pl, .int .i64 st, .int .i64 N, .int .i64 ph, .int .i64 (t + 1), .int .i64 hd, .int .i64 hh, .int .i64 (-1), .int .i64 wt, .bool sp] #[.slice A n c, .int .i64 pl, .int .i64 st, .int .i64 N, .int .i64 1, .int .i64 (t + 1), .int .i64 hd, .int .i64 hh, .int .i64 (-1), .int .i64 wt, .bool sp] hs5 ?hi3_6 ?hl3_6 ?ho3_6 ?hn3_6 ?_); (case hx3_6 => rfl); (case hy3_6 => first | rfl | assumption | go_num); (case hv3_6 => rfl); (case hi3_6 => first | exact info_one _ | exact info_mac); (case hl3_6 => simp); (case ho3_6 => first | exact one_int _ | exact one_mac _ _ _ _ _ _ _ _ _ _ _ _ _); (case hn3_6 => rfl)
       intro v6 hg6 hs6 hz6
       have hr6 := (other_block hg6 (show w.heap.size + 1 ≠ w.heap.size by omega) (Array.getElem?_eq_some_iff.1 hr5).1).trans hr5
       have HB6 := Lib.hid (show Below w.heap.size w v6 from Below.grows HB5.out hg6 HB5.out.size (Nat.le_refl _))
       obtain ⟨e6m, e60, e61, e62, e63, e64, e65, e66, e67, e68, e69⟩ := (show BoxM v6 w.heap.size A n c ⟨pl, st, N, 1, (t + 1), hd, hh, (-1), wt, sp⟩ from hs6).cells
       simp only at e60 e61 e62 e63 e64 e65 e66 e67 e68 e69
       clear hg6 hz6)
    | ((with_reducible refine wpList_store_part rfl 3 _ _ rfl (w.heap.size) 5 (.int .i64 0) #[.int .i64 0] ?hx3_7 ?hy3_7 ?hv3_7 66 #[.slice A n c, .int .i64 pl, .int .i64 st, .int .i64 N, .int .i64 1, .int .i64 (t + 1), .int .i64 hd, .int .i64 hh, .int .i64 (-1), .int .i64 wt, .bool sp] #[.slice A n c, .int .i64 pl, .int .i64 st, .int .i64 N, .int .i64 1, .int .i64 0, .int .i64 hd, .int .i64 hh, .int .i64 (-1), .int .i64 wt, .bool sp] hs6 ?hi3_7 ?hl3_7 ?ho3_7 ?hn3_7 ?_); (case hx3_7 => rfl); (case hy3_7 => first | rfl | assumption | go_num); (case hv3_7 => rfl); (case hi3_7 => first | exact info_one _ | exact info_mac); (case hl3_7 => simp); (case ho3_7 => first | exact one_int _ | exact one_mac _ _ _ _ _ _ _ _ _ _ _ _ _); (case hn3_7 => rfl)
       intro v7 hg7 hs7 hz7
       have hr7 := (other_block hg7 (show w.heap.size + 1 ≠ w.heap.size by omega) (Array.getElem?_eq_some_iff.1 hr6).1).trans hr6
       have HB7 := Lib.hid (show Below w.heap.size w v7 from Below.grows HB6.out hg7 HB6.out.size (Nat.le_refl _))
       obtain ⟨e7m, e70, e71, e72, e73, e74, e75, e76, e77, e78, e79⟩ := (show BoxM v7 w.heap.size A n c ⟨pl, st, N, 1, 0, hd, hh, (-1), wt, sp⟩ from hs7).cells
       simp only at e70 e71 e72 e73 e74 e75 e76 e77 e78 e79
       clear hg7 hz7)
    | ((with_reducible refine wpList_store_part rfl 3 _ _ rfl (w.heap.size) 7 (.int .i64 0) #[.int .i64 0] ?hx3_8 ?hy3_8 ?hv3_8 66 #[.slice A n c, .int .i64 pl, .int .i64 st, .int .i64 N, .int .i64 1, .int .i64 0, .int .i64 hd, .int .i64 hh, .int .i64 (-1), .int .i64 wt, .bool sp] #[.slice A n c, .int .i64 pl, .int .i64 st, .int .i64 N, .int .i64 1, .int .i64 0, .int .i64 hd, .int .i64 0, .int .i64 (-1), .int .i64 wt, .bool sp] hs7 ?hi3_8 ?hl3_8 ?ho3_8 ?hn3_8 ?_); (case hx3_8 => rfl); (case hy3_8 => first | rfl | assumption | go_num); (case hv3_8 => rfl); (case hi3_8 => first | exact info_one _ | exact info_mac); (case hl3_8 => simp); (case ho3_8 => first | exact one_int _ | exact one_mac _ _ _ _ _ _ _ _ _ _ _ _ _); (case hn3_8 => rfl)
       intro v8 hg8 hs8 hz8
       have hr8 := (other_block hg8 (show w.heap.size + 1 ≠ w.heap.size by omega) (Array.getElem?_eq_some_iff.1 hr7).1).trans hr7
       have HB8 := Lib.hid (show Below w.heap.size w v8 from Below.grows HB7.out hg8 HB7.out.size (Nat.le_refl _))
       obtain ⟨e8m, e80, e81, e82, e83, e84, e85, e86, e87, e88, e89⟩ := (show BoxM v8 w.heap.size A n c ⟨pl, st, N, 1, 0, hd, 0, (-1), wt, sp⟩ from hs8).cells
       simp only at e80 e81 e82 e83 e84 e85 e86 e87 e88 e89
       clear hg8 hz8)
    | ((with_reducible refine wpList_store_part rfl 66 _ _ rfl (w.heap.size + 1) 0 (.agg #[.slice A n c, .int .i64 pl, .int .i64 st, .int .i64 N, .int .i64 1, .int .i64 0, .int .i64 hd, .int .i64 0, .int .i64 (-1), .int .i64 wt, .bool sp]) #[.slice A n c, .int .i64 pl, .int .i64 st, .int .i64 N, .int .i64 1, .int .i64 0, .int .i64 hd, .int .i64 0, .int .i64 (-1), .int .i64 wt, .bool sp] ?hx3_r ?hy3_r ?hv3_r 66 #[.slice none 0 0, .int .i64 0, .int .i64 0, .int .i64 0, .int .i64 0, .int .i64 0, .int .i64 0, .int .i64 0, .int .i64 0, .int .i64 0, .bool false] #[.slice A n c, .int .i64 pl, .int .i64 st, .int .i64 N, .int .i64 1, .int .i64 0, .int .i64 hd, .int .i64 0, .int .i64 (-1), .int .i64 wt, .bool sp] hr8 ?hi3_r ?hl3_r ?ho3_r ?hn3_r ?_); (case hx3_r => rfl); (case hy3_r => rfl); (case hv3_r => rfl); (case hi3_r => exact info_mac); (case hl3_r => simp); (case ho3_r => exact one_mac _ _ _ _ _ _ _ _ _ _ _ _ _); (case hn3_r => rfl)
       intro v9 hg9 hr9 hz9
       have HB9 := Lib.hid (show Below w.heap.size w v9 from Below.grows HB8.out hg9 HB8.out.size (by omega))
       clear hg9 hz9))
  refine bodyPost_ret (v := .agg #[.slice A n c, .int .i64 pl, .int .i64 st, .int .i64 N, .int .i64 1, .int .i64 0, .int .i64 hd, .int .i64 0, .int .i64 (-1), .int .i64 wt, .bool sp]) ?_ rfl ⟨rfl, HB9.out⟩
  exact results_cell_row Try.results64 _ _ (w.heap.size + 1) 66 #[.slice A n c, .int .i64 pl, .int .i64 st, .int .i64 N, .int .i64 1, .int .i64 0, .int .i64 hd, .int .i64 0, .int .i64 (-1), .int .i64 wt, .bool sp] (0, 0) _ rfl hr9 Try.underlying66 rfl info_mac
theorem green_any (A : Option Addr) (n c : Nat) (l : List Pl) (s : Sg) (w : World) (hl : Pls w A n c l) (hm : MayS l s) (hp : s.ph = 0) : Calls Try.prog 64 #[mcV A n c s] w (GivesM A n c (greenT (planAt l s.pl) s) w) := by
  have h1 : s.pl < n := by have := hm.p1; rw [hl.len] at this; exact this
  have hpi := plan_lies hl hm.p0 h1
  obtain ⟨t0, t1, l0, l1, d0, d1⟩ := green_small (all_fit hm.all (by rw [← hl.len] at h1; obtain ⟨j, hj⟩ := Int.eq_ofNat_of_zero_le hm.p0; rw [hj]; exact (plan_of hl (by rw [hl.len] at h1; omega)).2)) hm.range hm.held (hm.green hp)
  have s1 : s.st < (planAt l s.pl).k := by have := hm.range.s1; rw [hpi.s.len] at this; exact this
  by_cases g0 : 0 < s.hd
  · exact green_hd A n c l s w hl hm.p0 h1 g0 d1 l0 l1 t0 t1
  · by_cases g1 : (stgAt (planAt l s.pl) s.st).mn ≤ s.t + 1
    · cases g2 : endsM (planAt l s.pl) { s with t := s.t + 1 }
      · exact green_b A n c l s w hl hm.p0 h1 g0 t0 t1 hm.range.s0 s1 g1 g2
      · exact green_c A n c l s w hl hm.p0 h1 g0 t0 t1 hm.range.s0 s1 g1 g2
    · exact green_a A n c l s w hl hm.p0 h1 g0 t0 t1 hm.range.s0 s1 g1
end Go.Proofs.Ytgnhmdfajnnkhaa

