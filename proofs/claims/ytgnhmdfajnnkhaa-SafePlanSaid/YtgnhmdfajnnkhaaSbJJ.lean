/- Joined texts: What a tick makes of a machine of package stage. -/
import Derived.Test.YtgnhmdfajnnkhaaSbJI
import Derived.Test.YtgnhmdfajnnkhaaSbJB
/- What a tick makes of a machine of package stage. -/
namespace Go.Proofs.Ytgnhmdfajnnkhaa
set_option maxRecDepth 100000
set_option linter.unusedVariables false
set_option linter.unusedSimpArgs false
open Go.RowKit

set_option maxHeartbeats 16000000 in
theorem amber_y (A : Option Addr) (n c : Nat) (l : List Pl) (s : Sg) (w : World) (hl : Pls w A n c l) (h0 : 0 ≤ s.pl) (h1 : s.pl < n) (t0 : 0 ≤ s.t) (t1 : s.t ≤ 1000) (hc : s.t + 1 = (planAt l s.pl).am) : Calls Try.prog 65 #[mcV A n c s] w (GivesM A n c (amberT (planAt l s.pl) s) w) := by
  rw [amberT, if_pos hc]
  have w1 : wrap64 (s.t + 1) = s.t + 1 := by unfold wrap64; omega
  unfold GivesM mcV
  obtain ⟨pl, st, nx, ph, t, hd, hh, ak, wt, sp⟩ := s
  simp only at *
  obtain ⟨W1, hW1⟩ : ∃ W1, w.alloc (.cells #[.slice A n c, .int .i64 pl, .int .i64 st, .int .i64 nx, .int .i64 ph, .int .i64 (t + 1), .int .i64 hd, .int .i64 hh, .int .i64 ak, .int .i64 wt, .bool sp] 66) = W1 := ⟨_, rfl⟩
  have hB1 : Below w.heap.size w W1 := by rw [← hW1]; exact one_alloc w _
  have hbm : BoxM W1 w.heap.size A n c ⟨pl, st, nx, ph, (t + 1), hd, hh, ak, wt, sp⟩ := by rw [← hW1]; exact BoxM.new w A n c ⟨pl, st, nx, ph, (t + 1), hd, hh, ak, wt, sp⟩
  have hz1 : W1.heap.size = w.heap.size + 1 := by rw [← hW1]; simp
  obtain ⟨W0, hW0⟩ : ∃ W0, W1.alloc (.cells #[.slice none 0 0, .int .i64 0, .int .i64 0, .int .i64 0, .int .i64 0, .int .i64 0, .int .i64 0, .int .i64 0, .int .i64 0, .int .i64 0, .bool false] 66) = W0 := ⟨_, rfl⟩
  have hB0 : Below W1.heap.size W1 W0 := by rw [← hW0]; exact one_alloc W1 _
  have hr : W0.heap[w.heap.size + 1]? = some (.cells #[.slice none 0 0, .int .i64 0, .int .i64 0, .int .i64 0, .int .i64 0, .int .i64 0, .int .i64 0, .int .i64 0, .int .i64 0, .int .i64 0, .bool false] 66 (0, 0)) := by rw [← hW0, ← hz1]; exact heap_alloc_new W1 _
  have hs : W0.heap[w.heap.size]? = some (.cells #[.slice A n c, .int .i64 pl, .int .i64 st, .int .i64 nx, .int .i64 ph, .int .i64 (t + 1), .int .i64 hd, .int .i64 hh, .int .i64 ak, .int .i64 wt, .bool sp] 66 (0, 0)) := hbm.below hB0
  have hlt1 : W1.heap.size ≤ w.heap.size + 1 := by omega
  have hlt0 : w.heap.size < W1.heap.size := by omega
  have HW := Lib.hid (show (w.alloc (.cells #[.slice A n c, .int .i64 pl, .int .i64 st, .int .i64 nx, .int .i64 ph, .int .i64 (t + 1), .int .i64 hd, .int .i64 hh, .int .i64 ak, .int .i64 wt, .bool sp] 66)).alloc (.cells #[.slice none 0 0, .int .i64 0, .int .i64 0, .int .i64 0, .int .i64 0, .int .i64 0, .int .i64 0, .int .i64 0, .int .i64 0, .int .i64 0, .bool false] 66) = W0 by rw [hW1, hW0])
  have HB0 := Lib.hid hB0
  clear hz1 hW0 hW1 hB0
  have HB1 := Lib.hid hB1
  have HMC := Lib.hid (show ∀ X, Below W1.heap.size W1 X → X.cell? ⟨w.heap.size, 0, none⟩ = some (.slice A n c) ∧ X.cell? ⟨w.heap.size, 1, none⟩ = some (.int .i64 pl) ∧ X.cell? ⟨w.heap.size, 2, none⟩ = some (.int .i64 st) ∧ X.cell? ⟨w.heap.size, 3, none⟩ = some (.int .i64 nx) ∧ X.cell? ⟨w.heap.size, 4, none⟩ = some (.int .i64 ph) ∧ X.cell? ⟨w.heap.size, 5, none⟩ = some (.int .i64 (t + 1)) ∧ X.cell? ⟨w.heap.size, 6, none⟩ = some (.int .i64 hd) ∧ X.cell? ⟨w.heap.size, 7, none⟩ = some (.int .i64 hh) ∧ X.cell? ⟨w.heap.size, 8, none⟩ = some (.int .i64 ak) ∧ X.cell? ⟨w.heap.size, 9, none⟩ = some (.int .i64 wt) ∧ X.cell? ⟨w.heap.size, 10, none⟩ = some (.bool sp) from fun X hX => by
    obtain ⟨cm, c0, c1, c2, c3, c4, c5, c6, c7, c8, c9⟩ := (hbm.below hX).cells
    exact ⟨cm, c0, c1, c2, c3, c4, c5, c6, c7, c8, c9⟩)
  have HHS := Lib.hid (show ∀ X, Below W1.heap.size W1 X → X.heap[w.heap.size]? = some (.cells #[.slice A n c, .int .i64 pl, .int .i64 st, .int .i64 nx, .int .i64 ph, .int .i64 (t + 1), .int .i64 hd, .int .i64 hh, .int .i64 ak, .int .i64 wt, .bool sp] 66 (0, 0)) from fun X hX => hbm.below hX)
  have HOW := Lib.hid (fun X (hX : Below W1.heap.size W1 X) => own_plan A n c l ⟨pl, st, nx, ph, (t + 1), hd, hh, ak, wt, sp⟩ X ((hl.below hB1).below hX) h0 h1)
  have HQI := Lib.hid (show ∀ X, Below W1.heap.size W1 X → PlIn X (planAt l pl) from fun X hX => plan_lies ((hl.below hB1).below hX) h0 h1)
  clear hbm hB1
  obtain ⟨q, hq⟩ : ∃ q, planAt l pl = q := ⟨_, rfl⟩
  rw [hq] at hc HOW
  clear hq hl HQI
  unfold mcV plV at HOW
  obtain ⟨A', n', c', m, B, k, d, sl, am, rd, hd'⟩ := q
  simp only at *
  have hb : (t + 1 == am) = true := by rw [hc]; exact beq_self_eq_true am
  clear hc
  go_enter Try.func65, Try.ntmps65
  go_wp2
  rw [HW.out]
  have hSd : Below W1.heap.size W1 W0.drew := HB0.out.drew
  refine wp_region_held_drew (S := fun X => Below W1.heap.size W1 X) (by kernel_rfl) hSd (fun hHeld => ?_)
  obtain ⟨y0, hY0⟩ : ∃ Y, W0.drew = Y := ⟨_, rfl⟩
  have hr0 := (show W0.drew.heap[w.heap.size + 1]? = _ from hr)
  rw [hY0] at hr0
  rw [hY0] at hSd hHeld ⊢
  clear hY0
  refine tk 0 (.pointer (some ⟨w.heap.size, 1, none⟩)) hHeld (fun w => ?_) ?_
  · go_simp
  simp only [PT]
  refine tk 1 (.pointer (some ⟨w.heap.size, 5, none⟩)) hHeld (fun w => ?_) ?_
  · go_simp
  simp only [PT]
  refine tkS 2 (.int .i64 (t + 1)) hHeld (fun w hq => ?_) ?_
  · obtain ⟨cm, c0, c1, c2, c3, c4, c5, c6, c7, c8, c9⟩ := HMC.out w hq
    go_simp
  simp only [PT]
  refine tkS 3 (.agg #[.slice A n c, .int .i64 pl, .int .i64 st, .int .i64 nx, .int .i64 ph, .int .i64 (t + 1), .int .i64 hd, .int .i64 hh, .int .i64 ak, .int .i64 wt, .bool sp]) hHeld (fun w hq => ?_) ?_
  · obtain ⟨cm, c0, c1, c2, c3, c4, c5, c6, c7, c8, c9⟩ := HMC.out w hq
    go_simp
  simp only [PT]
  refine one_step 4 (by kernel_rfl) rfl (fun Kq hKq => ?_)
  go_simp
  go_at_call 58
  (with_reducible refine (HOW.out _ hSd).mono ?_)
  rintro e y1 ⟨rfl, hbx⟩
  try simp only [plV]
  have hS1 : Below W1.heap.size W1 y1 := hSd.trans (hbx.mono hSd.size)
  have hr1 := (hbx.block (w.heap.size + 1) (Array.getElem?_eq_some_iff.1 hr0).1).trans hr0
  clear hbx
  refine hKq.out _ _ hS1 (fun hHeld0 => ?_)
  clear hKq Kq hHeld
  have hHeld := hHeld0
  clear hHeld0
  try simp only [PT]
  refine tk 5 (.int .i64 am) hHeld (fun w => ?_) ?_
  · (go_simp; try rfl)
  simp only [PT]
  refine tk 6 (.bool true) hHeld (fun w => ?_) ?_
  · go_simp
  simp only [PT]
  refine wpAnyH_done (by kernel_rfl) ?_ _
  clear hHeld
  obtain ⟨cm, c0, c1, c2, c3, c4, c5, c6, c7, c8, c9⟩ := HMC.out y1 hS1
  have hs1 := HHS.out y1 hS1
  have HB1' := Lib.hid (show Below w.heap.size w y1 from HB1.out.trans (hS1.mono HB1.out.size))
  clear HB1
  have HB1 := HB1'
  clear HB1'
  go_wp2_with (first
    | ((with_reducible refine wpList_store_part rfl 3 _ _ rfl (w.heap.size) 4 (.int .i64 2) #[.int .i64 2] ?hx1_2 ?hy1_2 ?hv1_2 66 #[.slice A n c, .int .i64 pl, .int .i64 st, .int .i64 nx, .int .i64 ph, .int .i64 (t + 1), .int .i64 hd, .int .i64 hh, .int .i64 ak, .int .i64 wt, .bool sp] #[.slice A n c, .int .i64 pl, .int .i64 st, .int .i64 nx, .int .i64 2, .int .i64 (t + 1), .int .i64 hd, .int .i64 hh, .int .i64 ak, .int .i64 wt, .bool sp] hs1 ?hi1_2 ?hl1_2 ?ho1_2 ?hn1_2 ?_); (case hx1_2 => rfl); (case hy1_2 => first | rfl | assumption | go_num); (case hv1_2 => rfl); (case hi1_2 => first | exact info_one _ | exact info_mac); (case hl1_2 => simp); (case ho1_2 => first | exact one_int _ | exact one_mac _ _ _ _ _ _ _ _ _ _ _ _ _); (case hn1_2 => rfl)
       intro v2 hg2 hs2 hz2
       have hr2 := (other_block hg2 (show w.heap.size + 1 ≠ w.heap.size by omega) (Array.getElem?_eq_some_iff.1 hr1).1).trans hr1
       have HB2 := Lib.hid (show Below w.heap.size w v2 from Below.grows HB1.out hg2 HB1.out.size (Nat.le_refl _))
       obtain ⟨e2m, e20, e21, e22, e23, e24, e25, e26, e27, e28, e29⟩ := (show BoxM v2 w.heap.size A n c ⟨pl, st, nx, 2, (t + 1), hd, hh, ak, wt, sp⟩ from hs2).cells
       simp only at e20 e21 e22 e23 e24 e25 e26 e27 e28 e29
       clear hg2 hz2)
    | ((with_reducible refine wpList_store_part rfl 3 _ _ rfl (w.heap.size) 5 (.int .i64 0) #[.int .i64 0] ?hx1_3 ?hy1_3 ?hv1_3 66 #[.slice A n c, .int .i64 pl, .int .i64 st, .int .i64 nx, .int .i64 2, .int .i64 (t + 1), .int .i64 hd, .int .i64 hh, .int .i64 ak, .int .i64 wt, .bool sp] #[.slice A n c, .int .i64 pl, .int .i64 st, .int .i64 nx, .int .i64 2, .int .i64 0, .int .i64 hd, .int .i64 hh, .int .i64 ak, .int .i64 wt, .bool sp] hs2 ?hi1_3 ?hl1_3 ?ho1_3 ?hn1_3 ?_); (case hx1_3 => rfl); (case hy1_3 => first | rfl | assumption | go_num); (case hv1_3 => rfl); (case hi1_3 => first | exact info_one _ | exact info_mac); (case hl1_3 => simp); (case ho1_3 => first | exact one_int _ | exact one_mac _ _ _ _ _ _ _ _ _ _ _ _ _); (case hn1_3 => rfl)
       intro v3 hg3 hs3 hz3
       have hr3 := (other_block hg3 (show w.heap.size + 1 ≠ w.heap.size by omega) (Array.getElem?_eq_some_iff.1 hr2).1).trans hr2
       have HB3 := Lib.hid (show Below w.heap.size w v3 from Below.grows HB2.out hg3 HB2.out.size (Nat.le_refl _))
       obtain ⟨e3m, e30, e31, e32, e33, e34, e35, e36, e37, e38, e39⟩ := (show BoxM v3 w.heap.size A n c ⟨pl, st, nx, 2, 0, hd, hh, ak, wt, sp⟩ from hs3).cells
       simp only at e30 e31 e32 e33 e34 e35 e36 e37 e38 e39
       clear hg3 hz3)
    | ((with_reducible refine wpList_store_part rfl 66 _ _ rfl (w.heap.size + 1) 0 (.agg #[.slice A n c, .int .i64 pl, .int .i64 st, .int .i64 nx, .int .i64 2, .int .i64 0, .int .i64 hd, .int .i64 hh, .int .i64 ak, .int .i64 wt, .bool sp]) #[.slice A n c, .int .i64 pl, .int .i64 st, .int .i64 nx, .int .i64 2, .int .i64 0, .int .i64 hd, .int .i64 hh, .int .i64 ak, .int .i64 wt, .bool sp] ?hx1_r ?hy1_r ?hv1_r 66 #[.slice none 0 0, .int .i64 0, .int .i64 0, .int .i64 0, .int .i64 0, .int .i64 0, .int .i64 0, .int .i64 0, .int .i64 0, .int .i64 0, .bool false] #[.slice A n c, .int .i64 pl, .int .i64 st, .int .i64 nx, .int .i64 2, .int .i64 0, .int .i64 hd, .int .i64 hh, .int .i64 ak, .int .i64 wt, .bool sp] hr3 ?hi1_r ?hl1_r ?ho1_r ?hn1_r ?_); (case hx1_r => rfl); (case hy1_r => rfl); (case hv1_r => rfl); (case hi1_r => exact info_mac); (case hl1_r => simp); (case ho1_r => exact one_mac _ _ _ _ _ _ _ _ _ _ _ _ _); (case hn1_r => rfl)
       intro v4 hg4 hr4 hz4
       have HB4 := Lib.hid (show Below w.heap.size w v4 from Below.grows HB3.out hg4 HB3.out.size (by omega))
       clear hg4 hz4))
  refine bodyPost_ret (v := .agg #[.slice A n c, .int .i64 pl, .int .i64 st, .int .i64 nx, .int .i64 2, .int .i64 0, .int .i64 hd, .int .i64 hh, .int .i64 ak, .int .i64 wt, .bool sp]) ?_ rfl ⟨rfl, HB4.out⟩
  exact results_cell_row Try.results65 _ _ (w.heap.size + 1) 66 #[.slice A n c, .int .i64 pl, .int .i64 st, .int .i64 nx, .int .i64 2, .int .i64 0, .int .i64 hd, .int .i64 hh, .int .i64 ak, .int .i64 wt, .bool sp] (0, 0) _ rfl hr4 Try.underlying66 rfl info_mac
set_option maxHeartbeats 16000000 in
theorem amber_n (A : Option Addr) (n c : Nat) (l : List Pl) (s : Sg) (w : World) (hl : Pls w A n c l) (h0 : 0 ≤ s.pl) (h1 : s.pl < n) (t0 : 0 ≤ s.t) (t1 : s.t ≤ 1000) (hc : ¬ s.t + 1 = (planAt l s.pl).am) : Calls Try.prog 65 #[mcV A n c s] w (GivesM A n c (amberT (planAt l s.pl) s) w) := by
  rw [amberT, if_neg hc]
  have w1 : wrap64 (s.t + 1) = s.t + 1 := by unfold wrap64; omega
  unfold GivesM mcV
  obtain ⟨pl, st, nx, ph, t, hd, hh, ak, wt, sp⟩ := s
  simp only at *
  obtain ⟨W1, hW1⟩ : ∃ W1, w.alloc (.cells #[.slice A n c, .int .i64 pl, .int .i64 st, .int .i64 nx, .int .i64 ph, .int .i64 (t + 1), .int .i64 hd, .int .i64 hh, .int .i64 ak, .int .i64 wt, .bool sp] 66) = W1 := ⟨_, rfl⟩
  have hB1 : Below w.heap.size w W1 := by rw [← hW1]; exact one_alloc w _
  have hbm : BoxM W1 w.heap.size A n c ⟨pl, st, nx, ph, (t + 1), hd, hh, ak, wt, sp⟩ := by rw [← hW1]; exact BoxM.new w A n c ⟨pl, st, nx, ph, (t + 1), hd, hh, ak, wt, sp⟩
  have hz1 : W1.heap.size = w.heap.size + 1 := by rw [← hW1]; simp
  obtain ⟨W0, hW0⟩ : ∃ W0, W1.alloc (.cells #[.slice none 0 0, .int .i64 0, .int .i64 0, .int .i64 0, .int .i64 0, .int .i64 0, .int .i64 0, .int .i64 0, .int .i64 0, .int .i64 0, .bool false] 66) = W0 := ⟨_, rfl⟩
  have hB0 : Below W1.heap.size W1 W0 := by rw [← hW0]; exact one_alloc W1 _
  have hr : W0.heap[w.heap.size + 1]? = some (.cells #[.slice none 0 0, .int .i64 0, .int .i64 0, .int .i64 0, .int .i64 0, .int .i64 0, .int .i64 0, .int .i64 0, .int .i64 0, .int .i64 0, .bool false] 66 (0, 0)) := by rw [← hW0, ← hz1]; exact heap_alloc_new W1 _
  have hs : W0.heap[w.heap.size]? = some (.cells #[.slice A n c, .int .i64 pl, .int .i64 st, .int .i64 nx, .int .i64 ph, .int .i64 (t + 1), .int .i64 hd, .int .i64 hh, .int .i64 ak, .int .i64 wt, .bool sp] 66 (0, 0)) := hbm.below hB0
  have hlt1 : W1.heap.size ≤ w.heap.size + 1 := by omega
  have hlt0 : w.heap.size < W1.heap.size := by omega
  have HW := Lib.hid (show (w.alloc (.cells #[.slice A n c, .int .i64 pl, .int .i64 st, .int .i64 nx, .int .i64 ph, .int .i64 (t + 1), .int .i64 hd, .int .i64 hh, .int .i64 ak, .int .i64 wt, .bool sp] 66)).alloc (.cells #[.slice none 0 0, .int .i64 0, .int .i64 0, .int .i64 0, .int .i64 0, .int .i64 0, .int .i64 0, .int .i64 0, .int .i64 0, .int .i64 0, .bool false] 66) = W0 by rw [hW1, hW0])
  have HB0 := Lib.hid hB0
  clear hz1 hW0 hW1 hB0
  have HB1 := Lib.hid hB1
  have HMC := Lib.hid (show ∀ X, Below W1.heap.size W1 X → X.cell? ⟨w.heap.size, 0, none⟩ = some (.slice A n c) ∧ X.cell? ⟨w.heap.size, 1, none⟩ = some (.int .i64 pl) ∧ X.cell? ⟨w.heap.size, 2, none⟩ = some (.int .i64 st) ∧ X.cell? ⟨w.heap.size, 3, none⟩ = some (.int .i64 nx) ∧ X.cell? ⟨w.heap.size, 4, none⟩ = some (.int .i64 ph) ∧ X.cell? ⟨w.heap.size, 5, none⟩ = some (.int .i64 (t + 1)) ∧ X.cell? ⟨w.heap.size, 6, none⟩ = some (.int .i64 hd) ∧ X.cell? ⟨w.heap.size, 7, none⟩ = some (.int .i64 hh) ∧ X.cell? ⟨w.heap.size, 8, none⟩ = some (.int .i64 ak) ∧ X.cell? ⟨w.heap.size, 9, none⟩ = some (.int .i64 wt) ∧ X.cell? ⟨w.heap.size, 10, none⟩ = some (.bool sp) from fun X hX => by
    obtain ⟨cm, c0, c1, c2, c3, c4, c5, c6, c7, c8, c9⟩ := (hbm.below hX).cells
    exact ⟨cm, c0, c1, c2, c3, c4, c5, c6, c7, c8, c9⟩)
  have HHS := Lib.hid (show ∀ X, Below W1.heap.size W1 X → X.heap[w.heap.size]? = some (.cells #[.slice A n c, .int .i64 pl, .int .i64 st, .int .i64 nx, .int .i64 ph, .int .i64 (t + 1), .int .i64 hd, .int .i64 hh, .int .i64 ak, .int .i64 wt, .bool sp] 66 (0, 0)) from fun X hX => hbm.below hX)
  have HOW := Lib.hid (fun X (hX : Below W1.heap.size W1 X) => own_plan A n c l ⟨pl, st, nx, ph, (t + 1), hd, hh, ak, wt, sp⟩ X ((hl.below hB1).below hX) h0 h1)
  have HQI := Lib.hid (show ∀ X, Below W1.heap.size W1 X → PlIn X (planAt l pl) from fun X hX => plan_lies ((hl.below hB1).below hX) h0 h1)
  clear hbm hB1
  obtain ⟨q, hq⟩ : ∃ q, planAt l pl = q := ⟨_, rfl⟩
  rw [hq] at hc HOW
  clear hq hl HQI
  unfold mcV plV at HOW
  obtain ⟨A', n', c', m, B, k, d, sl, am, rd, hd'⟩ := q
  simp only at *
  have hb : (t + 1 == am) = false := by rw [beq_eq_false_iff_ne]; exact hc
  clear hc
  go_enter Try.func65, Try.ntmps65
  go_wp2
  rw [HW.out]
  have hSd : Below W1.heap.size W1 W0.drew := HB0.out.drew
  refine wp_region_held_drew (S := fun X => Below W1.heap.size W1 X) (by kernel_rfl) hSd (fun hHeld => ?_)
  obtain ⟨y0, hY0⟩ : ∃ Y, W0.drew = Y := ⟨_, rfl⟩
  have hr0 := (show W0.drew.heap[w.heap.size + 1]? = _ from hr)
  rw [hY0] at hr0
  rw [hY0] at hSd hHeld ⊢
  clear hY0
  refine tk 0 (.pointer (some ⟨w.heap.size, 1, none⟩)) hHeld (fun w => ?_) ?_
  · go_simp
  simp only [PT]
  refine tk 1 (.pointer (some ⟨w.heap.size, 5, none⟩)) hHeld (fun w => ?_) ?_
  · go_simp
  simp only [PT]
  refine tkS 2 (.int .i64 (t + 1)) hHeld (fun w hq => ?_) ?_
  · obtain ⟨cm, c0, c1, c2, c3, c4, c5, c6, c7, c8, c9⟩ := HMC.out w hq
    go_simp
  simp only [PT]
  refine tkS 3 (.agg #[.slice A n c, .int .i64 pl, .int .i64 st, .int .i64 nx, .int .i64 ph, .int .i64 (t + 1), .int .i64 hd, .int .i64 hh, .int .i64 ak, .int .i64 wt, .bool sp]) hHeld (fun w hq => ?_) ?_
  · obtain ⟨cm, c0, c1, c2, c3, c4, c5, c6, c7, c8, c9⟩ := HMC.out w hq
    go_simp
  simp only [PT]
  refine one_step 4 (by kernel_rfl) rfl (fun Kq hKq => ?_)
  go_simp
  go_at_call 58
  (with_reducible refine (HOW.out _ hSd).mono ?_)
  rintro e y1 ⟨rfl, hbx⟩
  try simp only [plV]
  have hS1 : Below W1.heap.size W1 y1 := hSd.trans (hbx.mono hSd.size)
  have hr1 := (hbx.block (w.heap.size + 1) (Array.getElem?_eq_some_iff.1 hr0).1).trans hr0
  clear hbx
  refine hKq.out _ _ hS1 (fun hHeld0 => ?_)
  clear hKq Kq hHeld
  have hHeld := hHeld0
  clear hHeld0
  try simp only [PT]
  refine tk 5 (.int .i64 am) hHeld (fun w => ?_) ?_
  · (go_simp; try rfl)
  simp only [PT]
  refine tk 6 (.bool false) hHeld (fun w => ?_) ?_
  · go_simp
  simp only [PT]
  refine wpAnyH_done (by kernel_rfl) ?_ _
  clear hHeld
  obtain ⟨cm, c0, c1, c2, c3, c4, c5, c6, c7, c8, c9⟩ := HMC.out y1 hS1
  have hs1 := HHS.out y1 hS1
  have HB1' := Lib.hid (show Below w.heap.size w y1 from HB1.out.trans (hS1.mono HB1.out.size))
  clear HB1
  have HB1 := HB1'
  clear HB1'
  go_wp2_with (first
    | ((with_reducible refine wpList_store_part rfl 66 _ _ rfl (w.heap.size + 1) 0 (.agg #[.slice A n c, .int .i64 pl, .int .i64 st, .int .i64 nx, .int .i64 ph, .int .i64 (t + 1), .int .i64 hd, .int .i64 hh, .int .i64 ak, .int .i64 wt, .bool sp]) #[.slice A n c, .int .i64 pl, .int .i64 st, .int .i64 nx, .int .i64 ph, .int .i64 (t + 1), .int .i64 hd, .int .i64 hh, .int .i64 ak, .int .i64 wt, .bool sp] ?hx2_r ?hy2_r ?hv2_r 66 #[.slice none 0 0, .int .i64 0, .int .i64 0, .int .i64 0, .int .i64 0, .int .i64 0, .int .i64 0, .int .i64 0, .int .i64 0, .int .i64 0, .bool false] #[.slice A n c, .int .i64 pl, .int .i64 st, .int .i64 nx, .int .i64 ph, .int .i64 (t + 1), .int .i64 hd, .int .i64 hh, .int .i64 ak, .int .i64 wt, .bool sp] hr1 ?hi2_r ?hl2_r ?ho2_r ?hn2_r ?_); (case hx2_r => rfl); (case hy2_r => rfl); (case hv2_r => rfl); (case hi2_r => exact info_mac); (case hl2_r => simp); (case ho2_r => exact one_mac _ _ _ _ _ _ _ _ _ _ _ _ _); (case hn2_r => rfl)
       intro v2 hg2 hr2 hz2
       have HB2 := Lib.hid (show Below w.heap.size w v2 from Below.grows HB1.out hg2 HB1.out.size (by omega))
       clear hg2 hz2))
  refine bodyPost_ret (v := .agg #[.slice A n c, .int .i64 pl, .int .i64 st, .int .i64 nx, .int .i64 ph, .int .i64 (t + 1), .int .i64 hd, .int .i64 hh, .int .i64 ak, .int .i64 wt, .bool sp]) ?_ rfl ⟨rfl, HB2.out⟩
  exact results_cell_row Try.results65 _ _ (w.heap.size + 1) 66 #[.slice A n c, .int .i64 pl, .int .i64 st, .int .i64 nx, .int .i64 ph, .int .i64 (t + 1), .int .i64 hd, .int .i64 hh, .int .i64 ak, .int .i64 wt, .bool sp] (0, 0) _ rfl hr2 Try.underlying66 rfl info_mac
theorem amber_any (A : Option Addr) (n c : Nat) (l : List Pl) (s : Sg) (w : World) (hl : Pls w A n c l) (hm : MayS l s) (hp : s.ph = 1) : Calls Try.prog 65 #[mcV A n c s] w (GivesM A n c (amberT (planAt l s.pl) s) w) := by
  have h1 : s.pl < n := by have := hm.p1; rw [hl.len] at this; exact this
  obtain ⟨t0, t1⟩ := may_small hm
  by_cases hc : s.t + 1 = (planAt l s.pl).am
  · exact amber_y A n c l s w hl hm.p0 h1 t0 t1 hc
  · exact amber_n A n c l s w hl hm.p0 h1 t0 t1 hc
set_option maxHeartbeats 16000000 in
theorem red_lt (A : Option Addr) (n c : Nat) (l : List Pl) (s : Sg) (w : World) (hl : Pls w A n c l) (h0 : 0 ≤ s.pl) (h1 : s.pl < n) (t0 : 0 ≤ s.t) (t1 : s.t ≤ 1000) (ht : s.t ≤ (planAt l s.pl).rd) (hc : s.t + 1 < (planAt l s.pl).rd) : Calls Try.prog 66 #[mcV A n c s] w (GivesM A n c (redT (planAt l s.pl) s) w) := by
  rw [redT, if_pos (by left; rw [redN, if_pos (by omega)]; exact hc), redN, if_pos (by omega)]
  have w1 : wrap64 (s.t + 1) = s.t + 1 := by unfold wrap64; omega
  unfold GivesM mcV
  obtain ⟨pl, st, nx, ph, t, hd, hh, ak, wt, sp⟩ := s
  simp only at *
  obtain ⟨W1, hW1⟩ : ∃ W1, w.alloc (.cells #[.slice A n c, .int .i64 pl, .int .i64 st, .int .i64 nx, .int .i64 ph, .int .i64 t, .int .i64 hd, .int .i64 hh, .int .i64 ak, .int .i64 wt, .bool sp] 66) = W1 := ⟨_, rfl⟩
  have hB1 : Below w.heap.size w W1 := by rw [← hW1]; exact one_alloc w _
  have hbm : BoxM W1 w.heap.size A n c ⟨pl, st, nx, ph, t, hd, hh, ak, wt, sp⟩ := by rw [← hW1]; exact BoxM.new w A n c ⟨pl, st, nx, ph, t, hd, hh, ak, wt, sp⟩
  have hz1 : W1.heap.size = w.heap.size + 1 := by rw [← hW1]; simp
  obtain ⟨W0, hW0⟩ : ∃ W0, W1.alloc (.cells #[.slice none 0 0, .int .i64 0, .int .i64 0, .int .i64 0, .int .i64 0, .int .i64 0, .int .i64 0, .int .i64 0, .int .i64 0, .int .i64 0, .bool false] 66) = W0 := ⟨_, rfl⟩
  have hB0 : Below W1.heap.size W1 W0 := by rw [← hW0]; exact one_alloc W1 _
  have hr : W0.heap[w.heap.size + 1]? = some (.cells #[.slice none 0 0, .int .i64 0, .int .i64 0, .int .i64 0, .int .i64 0, .int .i64 0, .int .i64 0, .int .i64 0, .int .i64 0, .int .i64 0, .bool false] 66 (0, 0)) := by rw [← hW0, ← hz1]; exact heap_alloc_new W1 _
  have hs : W0.heap[w.heap.size]? = some (.cells #[.slice A n c, .int .i64 pl, .int .i64 st, .int .i64 nx, .int .i64 ph, .int .i64 t, .int .i64 hd, .int .i64 hh, .int .i64 ak, .int .i64 wt, .bool sp] 66 (0, 0)) := hbm.below hB0
  have hlt1 : W1.heap.size ≤ w.heap.size + 1 := by omega
  have hlt0 : w.heap.size < W1.heap.size := by omega
  have HW := Lib.hid (show (w.alloc (.cells #[.slice A n c, .int .i64 pl, .int .i64 st, .int .i64 nx, .int .i64 ph, .int .i64 t, .int .i64 hd, .int .i64 hh, .int .i64 ak, .int .i64 wt, .bool sp] 66)).alloc (.cells #[.slice none 0 0, .int .i64 0, .int .i64 0, .int .i64 0, .int .i64 0, .int .i64 0, .int .i64 0, .int .i64 0, .int .i64 0, .int .i64 0, .bool false] 66) = W0 by rw [hW1, hW0])
  have HB0 := Lib.hid hB0
  clear hz1 hW0 hW1 hB0
  have HB1 := Lib.hid hB1
  have HMC := Lib.hid (show ∀ X, Below W1.heap.size W1 X → X.cell? ⟨w.heap.size, 0, none⟩ = some (.slice A n c) ∧ X.cell? ⟨w.heap.size, 1, none⟩ = some (.int .i64 pl) ∧ X.cell? ⟨w.heap.size, 2, none⟩ = some (.int .i64 st) ∧ X.cell? ⟨w.heap.size, 3, none⟩ = some (.int .i64 nx) ∧ X.cell? ⟨w.heap.size, 4, none⟩ = some (.int .i64 ph) ∧ X.cell? ⟨w.heap.size, 5, none⟩ = some (.int .i64 t) ∧ X.cell? ⟨w.heap.size, 6, none⟩ = some (.int .i64 hd) ∧ X.cell? ⟨w.heap.size, 7, none⟩ = some (.int .i64 hh) ∧ X.cell? ⟨w.heap.size, 8, none⟩ = some (.int .i64 ak) ∧ X.cell? ⟨w.heap.size, 9, none⟩ = some (.int .i64 wt) ∧ X.cell? ⟨w.heap.size, 10, none⟩ = some (.bool sp) from fun X hX => by
    obtain ⟨cm, c0, c1, c2, c3, c4, c5, c6, c7, c8, c9⟩ := (hbm.below hX).cells
    exact ⟨cm, c0, c1, c2, c3, c4, c5, c6, c7, c8, c9⟩)
  have HHS := Lib.hid (show ∀ X, Below W1.heap.size W1 X → X.heap[w.heap.size]? = some (.cells #[.slice A n c, .int .i64 pl, .int .i64 st, .int .i64 nx, .int .i64 ph, .int .i64 t, .int .i64 hd, .int .i64 hh, .int .i64 ak, .int .i64 wt, .bool sp] 66 (0, 0)) from fun X hX => hbm.below hX)
  have HOW := Lib.hid (fun X (hX : Below W1.heap.size W1 X) => own_plan A n c l ⟨pl, st, nx, ph, t, hd, hh, ak, wt, sp⟩ X ((hl.below hB1).below hX) h0 h1)
  have HQI := Lib.hid (show ∀ X, Below W1.heap.size W1 X → PlIn X (planAt l pl) from fun X hX => plan_lies ((hl.below hB1).below hX) h0 h1)
  clear hbm hB1
  obtain ⟨q, hq⟩ : ∃ q, planAt l pl = q := ⟨_, rfl⟩
  rw [hq] at HOW ht
  try rw [hq] at hc
  try rw [hq]
  clear hq hl HQI
  unfold mcV plV at HOW
  obtain ⟨A', n', c', m, B, k, d, sl, am, rd, hd'⟩ := q
  simp only at *
  have hle : t + 1 ≤ rd := by omega
  have hfd : ∀ w, Sem.run Try.prog (Instr.field 47 (.agg #[.slice A' n' c', .slice B k d, .int .i64 am, .int .i64 rd, .int .i64 hd']) 3) w = Result.ok (.int .i64 rd) w := fun _ => rfl
  obtain ⟨cm, c0, c1, c2, c3, c4, c5, c6, c7, c8, c9⟩ := HMC.out W0 HB0.out
  go_enter Try.func66, Try.ntmps66
  go_wp2_with (first
    | (go_at_call 58
       try rw [HW.out]
       (with_reducible refine (HOW.out _ HB0.out).mono ?_)
       rintro e v0 ⟨rfl, hbx⟩
       have hS0 : Below W1.heap.size W1 v0 := HB0.out.trans (hbx.mono HB0.out.size)
       have hr0 := (hbx.block (w.heap.size + 1) (Array.getElem?_eq_some_iff.1 hr).1).trans hr
       have hs0 := HHS.out v0 hS0
       have HB0 := Lib.hid (show Below w.heap.size w v0 from HB1.out.trans (hS0.mono HB1.out.size))
       obtain ⟨fm, f0, f1, f2, f3, f4, f5, f6, f7, f8, f9⟩ := HMC.out v0 hS0
       clear hbx)
    | ((with_reducible refine wpList_store_part rfl 3 _ _ rfl (w.heap.size) 5 (.int .i64 (t + 1)) #[.int .i64 (t + 1)] ?hx3_1 ?hy3_1 ?hv3_1 66 #[.slice A n c, .int .i64 pl, .int .i64 st, .int .i64 nx, .int .i64 ph, .int .i64 t, .int .i64 hd, .int .i64 hh, .int .i64 ak, .int .i64 wt, .bool sp] #[.slice A n c, .int .i64 pl, .int .i64 st, .int .i64 nx, .int .i64 ph, .int .i64 (t + 1), .int .i64 hd, .int .i64 hh, .int .i64 ak, .int .i64 wt, .bool sp] hs0 ?hi3_1 ?hl3_1 ?ho3_1 ?hn3_1 ?_); (case hx3_1 => rfl); (case hy3_1 => first | rfl | assumption | go_num); (case hv3_1 => rfl); (case hi3_1 => first | exact info_one _ | exact info_mac); (case hl3_1 => simp); (case ho3_1 => first | exact one_int _ | exact one_mac _ _ _ _ _ _ _ _ _ _ _ _ _); (case hn3_1 => rfl)
       intro v1 hg1 hs1 hz1
       have hr1 := (other_block hg1 (show w.heap.size + 1 ≠ w.heap.size by omega) (Array.getElem?_eq_some_iff.1 hr0).1).trans hr0
       have HB1 := Lib.hid (show Below w.heap.size w v1 from Below.grows HB0.out hg1 HB0.out.size (Nat.le_refl _))
       obtain ⟨e1m, e10, e11, e12, e13, e14, e15, e16, e17, e18, e19⟩ := (show BoxM v1 w.heap.size A n c ⟨pl, st, nx, ph, (t + 1), hd, hh, ak, wt, sp⟩ from hs1).cells
       simp only at e10 e11 e12 e13 e14 e15 e16 e17 e18 e19
       clear hg1 hz1)
    | ((with_reducible refine wpList_store_part rfl 66 _ _ rfl (w.heap.size + 1) 0 (.agg #[.slice A n c, .int .i64 pl, .int .i64 st, .int .i64 nx, .int .i64 ph, .int .i64 (t + 1), .int .i64 hd, .int .i64 hh, .int .i64 ak, .int .i64 wt, .bool sp]) #[.slice A n c, .int .i64 pl, .int .i64 st, .int .i64 nx, .int .i64 ph, .int .i64 (t + 1), .int .i64 hd, .int .i64 hh, .int .i64 ak, .int .i64 wt, .bool sp] ?hx3_r ?hy3_r ?hv3_r 66 #[.slice none 0 0, .int .i64 0, .int .i64 0, .int .i64 0, .int .i64 0, .int .i64 0, .int .i64 0, .int .i64 0, .int .i64 0, .int .i64 0, .bool false] #[.slice A n c, .int .i64 pl, .int .i64 st, .int .i64 nx, .int .i64 ph, .int .i64 (t + 1), .int .i64 hd, .int .i64 hh, .int .i64 ak, .int .i64 wt, .bool sp] hr1 ?hi3_r ?hl3_r ?ho3_r ?hn3_r ?_); (case hx3_r => rfl); (case hy3_r => rfl); (case hv3_r => rfl); (case hi3_r => exact info_mac); (case hl3_r => simp); (case ho3_r => exact one_mac _ _ _ _ _ _ _ _ _ _ _ _ _); (case hn3_r => rfl)
       intro v2 hg2 hr2 hz2
       have HB2 := Lib.hid (show Below w.heap.size w v2 from Below.grows HB1.out hg2 HB1.out.size (by omega))
       clear hg2 hz2))
  refine bodyPost_ret (v := .agg #[.slice A n c, .int .i64 pl, .int .i64 st, .int .i64 nx, .int .i64 ph, .int .i64 (t + 1), .int .i64 hd, .int .i64 hh, .int .i64 ak, .int .i64 wt, .bool sp]) ?_ rfl ⟨rfl, HB2.out⟩
  exact results_cell_row Try.results66 _ _ (w.heap.size + 1) 66 #[.slice A n c, .int .i64 pl, .int .i64 st, .int .i64 nx, .int .i64 ph, .int .i64 (t + 1), .int .i64 hd, .int .i64 hh, .int .i64 ak, .int .i64 wt, .bool sp] (0, 0) _ rfl hr2 Try.underlying66 rfl info_mac
set_option maxHeartbeats 16000000 in
theorem red_sp1 (A : Option Addr) (n c : Nat) (l : List Pl) (s : Sg) (w : World) (hl : Pls w A n c l) (h0 : 0 ≤ s.pl) (h1 : s.pl < n) (t0 : 0 ≤ s.t) (t1 : s.t ≤ 1000) (ht : s.t ≤ (planAt l s.pl).rd) (hc : s.t + 1 = (planAt l s.pl).rd) (hsp : s.sp = true) : Calls Try.prog 66 #[mcV A n c s] w (GivesM A n c (redT (planAt l s.pl) s) w) := by
  have hrn : redN (planAt l s.pl) s = s.t + 1 := by rw [redN]; split <;> omega
  rw [redT, if_pos (by right; exact hsp), hrn]
  clear hrn
  have w1 : wrap64 (s.t + 1) = s.t + 1 := by unfold wrap64; omega
  unfold GivesM mcV
  obtain ⟨pl, st, nx, ph, t, hd, hh, ak, wt, sp⟩ := s
  simp only at *
  obtain ⟨W1, hW1⟩ : ∃ W1, w.alloc (.cells #[.slice A n c, .int .i64 pl, .int .i64 st, .int .i64 nx, .int .i64 ph, .int .i64 t, .int .i64 hd, .int .i64 hh, .int .i64 ak, .int .i64 wt, .bool sp] 66) = W1 := ⟨_, rfl⟩
  have hB1 : Below w.heap.size w W1 := by rw [← hW1]; exact one_alloc w _
  have hbm : BoxM W1 w.heap.size A n c ⟨pl, st, nx, ph, t, hd, hh, ak, wt, sp⟩ := by rw [← hW1]; exact BoxM.new w A n c ⟨pl, st, nx, ph, t, hd, hh, ak, wt, sp⟩
  have hz1 : W1.heap.size = w.heap.size + 1 := by rw [← hW1]; simp
  obtain ⟨W0, hW0⟩ : ∃ W0, W1.alloc (.cells #[.slice none 0 0, .int .i64 0, .int .i64 0, .int .i64 0, .int .i64 0, .int .i64 0, .int .i64 0, .int .i64 0, .int .i64 0, .int .i64 0, .bool false] 66) = W0 := ⟨_, rfl⟩
  have hB0 : Below W1.heap.size W1 W0 := by rw [← hW0]; exact one_alloc W1 _
  have hr : W0.heap[w.heap.size + 1]? = some (.cells #[.slice none 0 0, .int .i64 0, .int .i64 0, .int .i64 0, .int .i64 0, .int .i64 0, .int .i64 0, .int .i64 0, .int .i64 0, .int .i64 0, .bool false] 66 (0, 0)) := by rw [← hW0, ← hz1]; exact heap_alloc_new W1 _
  have hs : W0.heap[w.heap.size]? = some (.cells #[.slice A n c, .int .i64 pl, .int .i64 st, .int .i64 nx, .int .i64 ph, .int .i64 t, .int .i64 hd, .int .i64 hh, .int .i64 ak, .int .i64 wt, .bool sp] 66 (0, 0)) := hbm.below hB0
  have hlt1 : W1.heap.size ≤ w.heap.size + 1 := by omega
  have hlt0 : w.heap.size < W1.heap.size := by omega
  have HW := Lib.hid (show (w.alloc (.cells #[.slice A n c, .int .i64 pl, .int .i64 st, .int .i64 nx, .int .i64 ph, .int .i64 t, .int .i64 hd, .int .i64 hh, .int .i64 ak, .int .i64 wt, .bool sp] 66)).alloc (.cells #[.slice none 0 0, .int .i64 0, .int .i64 0, .int .i64 0, .int .i64 0, .int .i64 0, .int .i64 0, .int .i64 0, .int .i64 0, .int .i64 0, .bool false] 66) = W0 by rw [hW1, hW0])
  have HB0 := Lib.hid hB0
  clear hz1 hW0 hW1 hB0
  have HB1 := Lib.hid hB1
  have HMC := Lib.hid (show ∀ X, Below W1.heap.size W1 X → X.cell? ⟨w.heap.size, 0, none⟩ = some (.slice A n c) ∧ X.cell? ⟨w.heap.size, 1, none⟩ = some (.int .i64 pl) ∧ X.cell? ⟨w.heap.size, 2, none⟩ = some (.int .i64 st) ∧ X.cell? ⟨w.heap.size, 3, none⟩ = some (.int .i64 nx) ∧ X.cell? ⟨w.heap.size, 4, none⟩ = some (.int .i64 ph) ∧ X.cell? ⟨w.heap.size, 5, none⟩ = some (.int .i64 t) ∧ X.cell? ⟨w.heap.size, 6, none⟩ = some (.int .i64 hd) ∧ X.cell? ⟨w.heap.size, 7, none⟩ = some (.int .i64 hh) ∧ X.cell? ⟨w.heap.size, 8, none⟩ = some (.int .i64 ak) ∧ X.cell? ⟨w.heap.size, 9, none⟩ = some (.int .i64 wt) ∧ X.cell? ⟨w.heap.size, 10, none⟩ = some (.bool sp) from fun X hX => by
    obtain ⟨cm, c0, c1, c2, c3, c4, c5, c6, c7, c8, c9⟩ := (hbm.below hX).cells
    exact ⟨cm, c0, c1, c2, c3, c4, c5, c6, c7, c8, c9⟩)
  have HHS := Lib.hid (show ∀ X, Below W1.heap.size W1 X → X.heap[w.heap.size]? = some (.cells #[.slice A n c, .int .i64 pl, .int .i64 st, .int .i64 nx, .int .i64 ph, .int .i64 t, .int .i64 hd, .int .i64 hh, .int .i64 ak, .int .i64 wt, .bool sp] 66 (0, 0)) from fun X hX => hbm.below hX)
  have HOW := Lib.hid (fun X (hX : Below W1.heap.size W1 X) => own_plan A n c l ⟨pl, st, nx, ph, t, hd, hh, ak, wt, sp⟩ X ((hl.below hB1).below hX) h0 h1)
  have HQI := Lib.hid (show ∀ X, Below W1.heap.size W1 X → PlIn X (planAt l pl) from fun X hX => plan_lies ((hl.below hB1).below hX) h0 h1)
  clear hbm hB1
  obtain ⟨q, hq⟩ : ∃ q, planAt l pl = q := ⟨_, rfl⟩
  rw [hq] at HOW ht
  try rw [hq] at hc
  try rw [hq]
  clear hq hl HQI
  unfold mcV plV at HOW
  obtain ⟨A', n', c', m, B, k, d, sl, am, rd, hd'⟩ := q
  simp only at *
  have hle : t + 1 ≤ rd := by omega
  have hll : ¬ t + 1 < rd := by omega
  have hge : rd ≤ t + 1 := by omega
  clear hc
  subst hsp
  have hfd : ∀ w, Sem.run Try.prog (Instr.field 47 (.agg #[.slice A' n' c', .slice B k d, .int .i64 am, .int .i64 rd, .int .i64 hd']) 3) w = Result.ok (.int .i64 rd) w := fun _ => rfl
  obtain ⟨cm, c0, c1, c2, c3, c4, c5, c6, c7, c8, c9⟩ := HMC.out W0 HB0.out
  go_enter Try.func66, Try.ntmps66
  go_wp2_with (first
    | (go_at_call 58
       try rw [HW.out]
       (with_reducible refine (HOW.out _ HB0.out).mono ?_)
       rintro e v0 ⟨rfl, hbx⟩
       have hS0 : Below W1.heap.size W1 v0 := HB0.out.trans (hbx.mono HB0.out.size)
       have hr0 := (hbx.block (w.heap.size + 1) (Array.getElem?_eq_some_iff.1 hr).1).trans hr
       have hs0 := HHS.out v0 hS0
       have HB0 := Lib.hid (show Below w.heap.size w v0 from HB1.out.trans (hS0.mono HB1.out.size))
       obtain ⟨fm, f0, f1, f2, f3, f4, f5, f6, f7, f8, f9⟩ := HMC.out v0 hS0
       clear hbx)
    | ((with_reducible refine wpList_store_part rfl 3 _ _ rfl (w.heap.size) 5 (.int .i64 (t + 1)) #[.int .i64 (t + 1)] ?hx4_1 ?hy4_1 ?hv4_1 66 #[.slice A n c, .int .i64 pl, .int .i64 st, .int .i64 nx, .int .i64 ph, .int .i64 t, .int .i64 hd, .int .i64 hh, .int .i64 ak, .int .i64 wt, .bool true] #[.slice A n c, .int .i64 pl, .int .i64 st, .int .i64 nx, .int .i64 ph, .int .i64 (t + 1), .int .i64 hd, .int .i64 hh, .int .i64 ak, .int .i64 wt, .bool true] hs0 ?hi4_1 ?hl4_1 ?ho4_1 ?hn4_1 ?_); (case hx4_1 => rfl); (case hy4_1 => first | rfl | assumption | go_num); (case hv4_1 => rfl); (case hi4_1 => first | exact info_one _ | exact info_mac); (case hl4_1 => simp); (case ho4_1 => first | exact one_int _ | exact one_mac _ _ _ _ _ _ _ _ _ _ _ _ _); (case hn4_1 => rfl)
       intro v1 hg1 hs1 hz1
       have hr1 := (other_block hg1 (show w.heap.size + 1 ≠ w.heap.size by omega) (Array.getElem?_eq_some_iff.1 hr0).1).trans hr0
       have HB1 := Lib.hid (show Below w.heap.size w v1 from Below.grows HB0.out hg1 HB0.out.size (Nat.le_refl _))
       obtain ⟨e1m, e10, e11, e12, e13, e14, e15, e16, e17, e18, e19⟩ := (show BoxM v1 w.heap.size A n c ⟨pl, st, nx, ph, (t + 1), hd, hh, ak, wt, true⟩ from hs1).cells
       simp only at e10 e11 e12 e13 e14 e15 e16 e17 e18 e19
       clear hg1 hz1)
    | ((with_reducible refine wpList_store_part rfl 66 _ _ rfl (w.heap.size + 1) 0 (.agg #[.slice A n c, .int .i64 pl, .int .i64 st, .int .i64 nx, .int .i64 ph, .int .i64 (t + 1), .int .i64 hd, .int .i64 hh, .int .i64 ak, .int .i64 wt, .bool true]) #[.slice A n c, .int .i64 pl, .int .i64 st, .int .i64 nx, .int .i64 ph, .int .i64 (t + 1), .int .i64 hd, .int .i64 hh, .int .i64 ak, .int .i64 wt, .bool true] ?hx4_r ?hy4_r ?hv4_r 66 #[.slice none 0 0, .int .i64 0, .int .i64 0, .int .i64 0, .int .i64 0, .int .i64 0, .int .i64 0, .int .i64 0, .int .i64 0, .int .i64 0, .bool false] #[.slice A n c, .int .i64 pl, .int .i64 st, .int .i64 nx, .int .i64 ph, .int .i64 (t + 1), .int .i64 hd, .int .i64 hh, .int .i64 ak, .int .i64 wt, .bool true] hr1 ?hi4_r ?hl4_r ?ho4_r ?hn4_r ?_); (case hx4_r => rfl); (case hy4_r => rfl); (case hv4_r => rfl); (case hi4_r => exact info_mac); (case hl4_r => simp); (case ho4_r => exact one_mac _ _ _ _ _ _ _ _ _ _ _ _ _); (case hn4_r => rfl)
       intro v2 hg2 hr2 hz2
       have HB2 := Lib.hid (show Below w.heap.size w v2 from Below.grows HB1.out hg2 HB1.out.size (by omega))
       clear hg2 hz2))
  refine bodyPost_ret (v := .agg #[.slice A n c, .int .i64 pl, .int .i64 st, .int .i64 nx, .int .i64 ph, .int .i64 (t + 1), .int .i64 hd, .int .i64 hh, .int .i64 ak, .int .i64 wt, .bool true]) ?_ rfl ⟨rfl, HB2.out⟩
  exact results_cell_row Try.results66 _ _ (w.heap.size + 1) 66 #[.slice A n c, .int .i64 pl, .int .i64 st, .int .i64 nx, .int .i64 ph, .int .i64 (t + 1), .int .i64 hd, .int .i64 hh, .int .i64 ak, .int .i64 wt, .bool true] (0, 0) _ rfl hr2 Try.underlying66 rfl info_mac
set_option maxHeartbeats 16000000 in
theorem red_go1 (A : Option Addr) (n c : Nat) (l : List Pl) (s : Sg) (w : World) (hl : Pls w A n c l) (h0 : 0 ≤ s.pl) (h1 : s.pl < n) (t0 : 0 ≤ s.t) (t1 : s.t ≤ 1000) (ht : s.t ≤ (planAt l s.pl).rd) (hc : s.t + 1 = (planAt l s.pl).rd) (hsp : s.sp = false) (hw : s.wt = -1) : Calls Try.prog 66 #[mcV A n c s] w (GivesM A n c (redT (planAt l s.pl) s) w) := by
  have hrn : redN (planAt l s.pl) s = s.t + 1 := by rw [redN]; split <;> omega
  rw [redT, if_neg (by rw [hrn, hsp]; simp; try omega), if_pos hw]
  clear hrn
  have w1 : wrap64 (s.t + 1) = s.t + 1 := by unfold wrap64; omega
  unfold GivesM mcV
  obtain ⟨pl, st, nx, ph, t, hd, hh, ak, wt, sp⟩ := s
  simp only at *
  obtain ⟨W1, hW1⟩ : ∃ W1, w.alloc (.cells #[.slice A n c, .int .i64 pl, .int .i64 st, .int .i64 nx, .int .i64 ph, .int .i64 t, .int .i64 hd, .int .i64 hh, .int .i64 ak, .int .i64 wt, .bool sp] 66) = W1 := ⟨_, rfl⟩
  have hB1 : Below w.heap.size w W1 := by rw [← hW1]; exact one_alloc w _
  have hbm : BoxM W1 w.heap.size A n c ⟨pl, st, nx, ph, t, hd, hh, ak, wt, sp⟩ := by rw [← hW1]; exact BoxM.new w A n c ⟨pl, st, nx, ph, t, hd, hh, ak, wt, sp⟩
  have hz1 : W1.heap.size = w.heap.size + 1 := by rw [← hW1]; simp
  obtain ⟨W0, hW0⟩ : ∃ W0, W1.alloc (.cells #[.slice none 0 0, .int .i64 0, .int .i64 0, .int .i64 0, .int .i64 0, .int .i64 0, .int .i64 0, .int .i64 0, .int .i64 0, .int .i64 0, .bool false] 66) = W0 := ⟨_, rfl⟩
  have hB0 : Below W1.heap.size W1 W0 := by rw [← hW0]; exact one_alloc W1 _
  have hr : W0.heap[w.heap.size + 1]? = some (.cells #[.slice none 0 0, .int .i64 0, .int .i64 0, .int .i64 0, .int .i64 0, .int .i64 0, .int .i64 0, .int .i64 0, .int .i64 0, .int .i64 0, .bool false] 66 (0, 0)) := by rw [← hW0, ← hz1]; exact heap_alloc_new W1 _
  have hs : W0.heap[w.heap.size]? = some (.cells #[.slice A n c, .int .i64 pl, .int .i64 st, .int .i64 nx, .int .i64 ph, .int .i64 t, .int .i64 hd, .int .i64 hh, .int .i64 ak, .int .i64 wt, .bool sp] 66 (0, 0)) := hbm.below hB0
  have hlt1 : W1.heap.size ≤ w.heap.size + 1 := by omega
  have hlt0 : w.heap.size < W1.heap.size := by omega
  have HW := Lib.hid (show (w.alloc (.cells #[.slice A n c, .int .i64 pl, .int .i64 st, .int .i64 nx, .int .i64 ph, .int .i64 t, .int .i64 hd, .int .i64 hh, .int .i64 ak, .int .i64 wt, .bool sp] 66)).alloc (.cells #[.slice none 0 0, .int .i64 0, .int .i64 0, .int .i64 0, .int .i64 0, .int .i64 0, .int .i64 0, .int .i64 0, .int .i64 0, .int .i64 0, .bool false] 66) = W0 by rw [hW1, hW0])
  have HB0 := Lib.hid hB0
  clear hz1 hW0 hW1 hB0
  have HB1 := Lib.hid hB1
  have HMC := Lib.hid (show ∀ X, Below W1.heap.size W1 X → X.cell? ⟨w.heap.size, 0, none⟩ = some (.slice A n c) ∧ X.cell? ⟨w.heap.size, 1, none⟩ = some (.int .i64 pl) ∧ X.cell? ⟨w.heap.size, 2, none⟩ = some (.int .i64 st) ∧ X.cell? ⟨w.heap.size, 3, none⟩ = some (.int .i64 nx) ∧ X.cell? ⟨w.heap.size, 4, none⟩ = some (.int .i64 ph) ∧ X.cell? ⟨w.heap.size, 5, none⟩ = some (.int .i64 t) ∧ X.cell? ⟨w.heap.size, 6, none⟩ = some (.int .i64 hd) ∧ X.cell? ⟨w.heap.size, 7, none⟩ = some (.int .i64 hh) ∧ X.cell? ⟨w.heap.size, 8, none⟩ = some (.int .i64 ak) ∧ X.cell? ⟨w.heap.size, 9, none⟩ = some (.int .i64 wt) ∧ X.cell? ⟨w.heap.size, 10, none⟩ = some (.bool sp) from fun X hX => by
    obtain ⟨cm, c0, c1, c2, c3, c4, c5, c6, c7, c8, c9⟩ := (hbm.below hX).cells
    exact ⟨cm, c0, c1, c2, c3, c4, c5, c6, c7, c8, c9⟩)
  have HHS := Lib.hid (show ∀ X, Below W1.heap.size W1 X → X.heap[w.heap.size]? = some (.cells #[.slice A n c, .int .i64 pl, .int .i64 st, .int .i64 nx, .int .i64 ph, .int .i64 t, .int .i64 hd, .int .i64 hh, .int .i64 ak, .int .i64 wt, .bool sp] 66 (0, 0)) from fun X hX => hbm.below hX)
  have HOW := Lib.hid (fun X (hX : Below W1.heap.size W1 X) => own_plan A n c l ⟨pl, st, nx, ph, t, hd, hh, ak, wt, sp⟩ X ((hl.below hB1).below hX) h0 h1)
  have HQI := Lib.hid (show ∀ X, Below W1.heap.size W1 X → PlIn X (planAt l pl) from fun X hX => plan_lies ((hl.below hB1).below hX) h0 h1)
  clear hbm hB1
  obtain ⟨q, hq⟩ : ∃ q, planAt l pl = q := ⟨_, rfl⟩
  rw [hq] at HOW ht
  try rw [hq] at hc
  try rw [hq]
  clear hq hl HQI
  unfold mcV plV at HOW
  obtain ⟨A', n', c', m, B, k, d, sl, am, rd, hd'⟩ := q
  simp only at *
  have hle : t + 1 ≤ rd := by omega
  have hll : ¬ t + 1 < rd := by omega
  have hge : rd ≤ t + 1 := by omega
  clear hc
  subst hsp
  have hwb : (wt != -1) = false := by rw [hw]; rfl
  clear hw
  have hfd : ∀ w, Sem.run Try.prog (Instr.field 47 (.agg #[.slice A' n' c', .slice B k d, .int .i64 am, .int .i64 rd, .int .i64 hd']) 3) w = Result.ok (.int .i64 rd) w := fun _ => rfl
  obtain ⟨cm, c0, c1, c2, c3, c4, c5, c6, c7, c8, c9⟩ := HMC.out W0 HB0.out
  go_enter Try.func66, Try.ntmps66
  go_wp2_with (first
    | (go_at_call 58
       try rw [HW.out]
       (with_reducible refine (HOW.out _ HB0.out).mono ?_)
       rintro e v0 ⟨rfl, hbx⟩
       have hS0 : Below W1.heap.size W1 v0 := HB0.out.trans (hbx.mono HB0.out.size)
       have hr0 := (hbx.block (w.heap.size + 1) (Array.getElem?_eq_some_iff.1 hr).1).trans hr
       have hs0 := HHS.out v0 hS0
       have HB0 := Lib.hid (show Below w.heap.size w v0 from HB1.out.trans (hS0.mono HB1.out.size))
       obtain ⟨fm, f0, f1, f2, f3, f4, f5, f6, f7, f8, f9⟩ := HMC.out v0 hS0
       clear hbx)
    | ((with_reducible refine wpList_store_part rfl 3 _ _ rfl (w.heap.size) 5 (.int .i64 (t + 1)) #[.int .i64 (t + 1)] ?hx5_1 ?hy5_1 ?hv5_1 66 #[.slice A n c, .int .i64 pl, .int .i64 st, .int .i64 nx, .int .i64 ph, .int .i64 t, .int .i64 hd, .int .i64 hh, .int .i64 ak, .int .i64 wt, .bool false] #[.slice A n c, .int .i64 pl, .int .i64 st, .int .i64 nx, .int .i64 ph, .int .i64 (t + 1), .int .i64 hd, .int .i64 hh, .int .i64 ak, .int .i64 wt, .bool false] hs0 ?hi5_1 ?hl5_1 ?ho5_1 ?hn5_1 ?_); (case hx5_1 => rfl); (case hy5_1 => first | rfl | assumption | go_num); (case hv5_1 => rfl); (case hi5_1 => first | exact info_one _ | exact info_mac); (case hl5_1 => simp); (case ho5_1 => first | exact one_int _ | exact one_mac _ _ _ _ _ _ _ _ _ _ _ _ _); (case hn5_1 => rfl)
       intro v1 hg1 hs1 hz1
       have hr1 := (other_block hg1 (show w.heap.size + 1 ≠ w.heap.size by omega) (Array.getElem?_eq_some_iff.1 hr0).1).trans hr0
       have HB1 := Lib.hid (show Below w.heap.size w v1 from Below.grows HB0.out hg1 HB0.out.size (Nat.le_refl _))
       obtain ⟨e1m, e10, e11, e12, e13, e14, e15, e16, e17, e18, e19⟩ := (show BoxM v1 w.heap.size A n c ⟨pl, st, nx, ph, (t + 1), hd, hh, ak, wt, false⟩ from hs1).cells
       simp only at e10 e11 e12 e13 e14 e15 e16 e17 e18 e19
       clear hg1 hz1)
    | ((with_reducible refine wpList_store_part rfl 3 _ _ rfl (w.heap.size) 4 (.int .i64 0) #[.int .i64 0] ?hx5_2 ?hy5_2 ?hv5_2 66 #[.slice A n c, .int .i64 pl, .int .i64 st, .int .i64 nx, .int .i64 ph, .int .i64 (t + 1), .int .i64 hd, .int .i64 hh, .int .i64 ak, .int .i64 wt, .bool false] #[.slice A n c, .int .i64 pl, .int .i64 st, .int .i64 nx, .int .i64 0, .int .i64 (t + 1), .int .i64 hd, .int .i64 hh, .int .i64 ak, .int .i64 wt, .bool false] hs1 ?hi5_2 ?hl5_2 ?ho5_2 ?hn5_2 ?_); (case hx5_2 => rfl); (case hy5_2 => first | rfl | assumption | go_num); (case hv5_2 => rfl); (case hi5_2 => first | exact info_one _ | exact info_mac); (case hl5_2 => simp); (case ho5_2 => first | exact one_int _ | exact one_mac _ _ _ _ _ _ _ _ _ _ _ _ _); (case hn5_2 => rfl)
       intro v2 hg2 hs2 hz2
       have hr2 := (other_block hg2 (show w.heap.size + 1 ≠ w.heap.size by omega) (Array.getElem?_eq_some_iff.1 hr1).1).trans hr1
       have HB2 := Lib.hid (show Below w.heap.size w v2 from Below.grows HB1.out hg2 HB1.out.size (Nat.le_refl _))
       obtain ⟨e2m, e20, e21, e22, e23, e24, e25, e26, e27, e28, e29⟩ := (show BoxM v2 w.heap.size A n c ⟨pl, st, nx, 0, (t + 1), hd, hh, ak, wt, false⟩ from hs2).cells
       simp only at e20 e21 e22 e23 e24 e25 e26 e27 e28 e29
       clear hg2 hz2)
    | ((with_reducible refine wpList_store_part rfl 3 _ _ rfl (w.heap.size) 2 (.int .i64 nx) #[.int .i64 nx] ?hx5_3 ?hy5_3 ?hv5_3 66 #[.slice A n c, .int .i64 pl, .int .i64 st, .int .i64 nx, .int .i64 0, .int .i64 (t + 1), .int .i64 hd, .int .i64 hh, .int .i64 ak, .int .i64 wt, .bool false] #[.slice A n c, .int .i64 pl, .int .i64 nx, .int .i64 nx, .int .i64 0, .int .i64 (t + 1), .int .i64 hd, .int .i64 hh, .int .i64 ak, .int .i64 wt, .bool false] hs2 ?hi5_3 ?hl5_3 ?ho5_3 ?hn5_3 ?_); (case hx5_3 => rfl); (case hy5_3 => first | rfl | assumption | go_num); (case hv5_3 => rfl); (case hi5_3 => first | exact info_one _ | exact info_mac); (case hl5_3 => simp); (case ho5_3 => first | exact one_int _ | exact one_mac _ _ _ _ _ _ _ _ _ _ _ _ _); (case hn5_3 => rfl)
       intro v3 hg3 hs3 hz3
       have hr3 := (other_block hg3 (show w.heap.size + 1 ≠ w.heap.size by omega) (Array.getElem?_eq_some_iff.1 hr2).1).trans hr2
       have HB3 := Lib.hid (show Below w.heap.size w v3 from Below.grows HB2.out hg3 HB2.out.size (Nat.le_refl _))
       obtain ⟨e3m, e30, e31, e32, e33, e34, e35, e36, e37, e38, e39⟩ := (show BoxM v3 w.heap.size A n c ⟨pl, nx, nx, 0, (t + 1), hd, hh, ak, wt, false⟩ from hs3).cells
       simp only at e30 e31 e32 e33 e34 e35 e36 e37 e38 e39
       clear hg3 hz3)
    | ((with_reducible refine wpList_store_part rfl 3 _ _ rfl (w.heap.size) 5 (.int .i64 0) #[.int .i64 0] ?hx5_4 ?hy5_4 ?hv5_4 66 #[.slice A n c, .int .i64 pl, .int .i64 nx, .int .i64 nx, .int .i64 0, .int .i64 (t + 1), .int .i64 hd, .int .i64 hh, .int .i64 ak, .int .i64 wt, .bool false] #[.slice A n c, .int .i64 pl, .int .i64 nx, .int .i64 nx, .int .i64 0, .int .i64 0, .int .i64 hd, .int .i64 hh, .int .i64 ak, .int .i64 wt, .bool false] hs3 ?hi5_4 ?hl5_4 ?ho5_4 ?hn5_4 ?_); (case hx5_4 => rfl); (case hy5_4 => first | rfl | assumption | go_num); (case hv5_4 => rfl); (case hi5_4 => first | exact info_one _ | exact info_mac); (case hl5_4 => simp); (case ho5_4 => first | exact one_int _ | exact one_mac _ _ _ _ _ _ _ _ _ _ _ _ _); (case hn5_4 => rfl)
       intro v4 hg4 hs4 hz4
       have hr4 := (other_block hg4 (show w.heap.size + 1 ≠ w.heap.size by omega) (Array.getElem?_eq_some_iff.1 hr3).1).trans hr3
       have HB4 := Lib.hid (show Below w.heap.size w v4 from Below.grows HB3.out hg4 HB3.out.size (Nat.le_refl _))
       obtain ⟨e4m, e40, e41, e42, e43, e44, e45, e46, e47, e48, e49⟩ := (show BoxM v4 w.heap.size A n c ⟨pl, nx, nx, 0, 0, hd, hh, ak, wt, false⟩ from hs4).cells
       simp only at e40 e41 e42 e43 e44 e45 e46 e47 e48 e49
       clear hg4 hz4)
    | ((with_reducible refine wpList_store_part rfl 66 _ _ rfl (w.heap.size + 1) 0 (.agg #[.slice A n c, .int .i64 pl, .int .i64 nx, .int .i64 nx, .int .i64 0, .int .i64 0, .int .i64 hd, .int .i64 hh, .int .i64 ak, .int .i64 wt, .bool false]) #[.slice A n c, .int .i64 pl, .int .i64 nx, .int .i64 nx, .int .i64 0, .int .i64 0, .int .i64 hd, .int .i64 hh, .int .i64 ak, .int .i64 wt, .bool false] ?hx5_r ?hy5_r ?hv5_r 66 #[.slice none 0 0, .int .i64 0, .int .i64 0, .int .i64 0, .int .i64 0, .int .i64 0, .int .i64 0, .int .i64 0, .int .i64 0, .int .i64 0, .bool false] #[.slice A n c, .int .i64 pl, .int .i64 nx, .int .i64 nx, .int .i64 0, .int .i64 0, .int .i64 hd, .int .i64 hh, .int .i64 ak, .int .i64 wt, .bool false] hr4 ?hi5_r ?hl5_r ?ho5_r ?hn5_r ?_); (case hx5_r => rfl); (case hy5_r => rfl); (case hv5_r => rfl); (case hi5_r => exact info_mac); (case hl5_r => simp); (case ho5_r => exact one_mac _ _ _ _ _ _ _ _ _ _ _ _ _); (case hn5_r => rfl)
       intro v5 hg5 hr5 hz5
       have HB5 := Lib.hid (show Below w.heap.size w v5 from Below.grows HB4.out hg5 HB4.out.size (by omega))
       clear hg5 hz5))
  refine bodyPost_ret (v := .agg #[.slice A n c, .int .i64 pl, .int .i64 nx, .int .i64 nx, .int .i64 0, .int .i64 0, .int .i64 hd, .int .i64 hh, .int .i64 ak, .int .i64 wt, .bool false]) ?_ rfl ⟨rfl, HB5.out⟩
  exact results_cell_row Try.results66 _ _ (w.heap.size + 1) 66 #[.slice A n c, .int .i64 pl, .int .i64 nx, .int .i64 nx, .int .i64 0, .int .i64 0, .int .i64 hd, .int .i64 hh, .int .i64 ak, .int .i64 wt, .bool false] (0, 0) _ rfl hr5 Try.underlying66 rfl info_mac
set_option maxHeartbeats 16000000 in
theorem red_wt1 (A : Option Addr) (n c : Nat) (l : List Pl) (s : Sg) (w : World) (hl : Pls w A n c l) (h0 : 0 ≤ s.pl) (h1 : s.pl < n) (t0 : 0 ≤ s.t) (t1 : s.t ≤ 1000) (ht : s.t ≤ (planAt l s.pl).rd) (hc : s.t + 1 = (planAt l s.pl).rd) (hsp : s.sp = false) (hw : ¬ s.wt = -1) : Calls Try.prog 66 #[mcV A n c s] w (GivesM A n c (redT (planAt l s.pl) s) w) := by
  have hrn : redN (planAt l s.pl) s = s.t + 1 := by rw [redN]; split <;> omega
  rw [redT, if_neg (by rw [hrn, hsp]; simp; try omega), if_neg hw]
  clear hrn
  have w1 : wrap64 (s.t + 1) = s.t + 1 := by unfold wrap64; omega
  unfold GivesM mcV
  obtain ⟨pl, st, nx, ph, t, hd, hh, ak, wt, sp⟩ := s
  simp only at *
  obtain ⟨W1, hW1⟩ : ∃ W1, w.alloc (.cells #[.slice A n c, .int .i64 pl, .int .i64 st, .int .i64 nx, .int .i64 ph, .int .i64 t, .int .i64 hd, .int .i64 hh, .int .i64 ak, .int .i64 wt, .bool sp] 66) = W1 := ⟨_, rfl⟩
  have hB1 : Below w.heap.size w W1 := by rw [← hW1]; exact one_alloc w _
  have hbm : BoxM W1 w.heap.size A n c ⟨pl, st, nx, ph, t, hd, hh, ak, wt, sp⟩ := by rw [← hW1]; exact BoxM.new w A n c ⟨pl, st, nx, ph, t, hd, hh, ak, wt, sp⟩
  have hz1 : W1.heap.size = w.heap.size + 1 := by rw [← hW1]; simp
  obtain ⟨W0, hW0⟩ : ∃ W0, W1.alloc (.cells #[.slice none 0 0, .int .i64 0, .int .i64 0, .int .i64 0, .int .i64 0, .int .i64 0, .int .i64 0, .int .i64 0, .int .i64 0, .int .i64 0, .bool false] 66) = W0 := ⟨_, rfl⟩
  have hB0 : Below W1.heap.size W1 W0 := by rw [← hW0]; exact one_alloc W1 _
  have hr : W0.heap[w.heap.size + 1]? = some (.cells #[.slice none 0 0, .int .i64 0, .int .i64 0, .int .i64 0, .int .i64 0, .int .i64 0, .int .i64 0, .int .i64 0, .int .i64 0, .int .i64 0, .bool false] 66 (0, 0)) := by rw [← hW0, ← hz1]; exact heap_alloc_new W1 _
  have hs : W0.heap[w.heap.size]? = some (.cells #[.slice A n c, .int .i64 pl, .int .i64 st, .int .i64 nx, .int .i64 ph, .int .i64 t, .int .i64 hd, .int .i64 hh, .int .i64 ak, .int .i64 wt, .bool sp] 66 (0, 0)) := hbm.below hB0
  have hlt1 : W1.heap.size ≤ w.heap.size + 1 := by omega
  have hlt0 : w.heap.size < W1.heap.size := by omega
  have HW := Lib.hid (show (w.alloc (.cells #[.slice A n c, .int .i64 pl, .int .i64 st, .int .i64 nx, .int .i64 ph, .int .i64 t, .int .i64 hd, .int .i64 hh, .int .i64 ak, .int .i64 wt, .bool sp] 66)).alloc (.cells #[.slice none 0 0, .int .i64 0, .int .i64 0, .int .i64 0, .int .i64 0, .int .i64 0, .int .i64 0, .int .i64 0, .int .i64 0, .int .i64 0, .bool false] 66) = W0 by rw [hW1, hW0])
  have HB0 := Lib.hid hB0
  clear hz1 hW0 hW1 hB0
  have HB1 := Lib.hid hB1
  have HMC := Lib.hid (show ∀ X, Below W1.heap.size W1 X → X.cell? ⟨w.heap.size, 0, none⟩ = some (.slice A n c) ∧ X.cell? ⟨w.heap.size, 1, none⟩ = some (.int .i64 pl) ∧ X.cell? ⟨w.heap.size, 2, none⟩ = some (.int .i64 st) ∧ X.cell? ⟨w.heap.size, 3, none⟩ = some (.int .i64 nx) ∧ X.cell? ⟨w.heap.size, 4, none⟩ = some (.int .i64 ph) ∧ X.cell? ⟨w.heap.size, 5, none⟩ = some (.int .i64 t) ∧ X.cell? ⟨w.heap.size, 6, none⟩ = some (.int .i64 hd) ∧ X.cell? ⟨w.heap.size, 7, none⟩ = some (.int .i64 hh) ∧ X.cell? ⟨w.heap.size, 8, none⟩ = some (.int .i64 ak) ∧ X.cell? ⟨w.heap.size, 9, none⟩ = some (.int .i64 wt) ∧ X.cell? ⟨w.heap.size, 10, none⟩ = some (.bool sp) from fun X hX => by
    obtain ⟨cm, c0, c1, c2, c3, c4, c5, c6, c7, c8, c9⟩ := (hbm.below hX).cells
    exact ⟨cm, c0, c1, c2, c3, c4, c5, c6, c7, c8, c9⟩)
  have HHS := Lib.hid (show ∀ X, Below W1.heap.size W1 X → X.heap[w.heap.size]? = some (.cells #[.slice A n c, .int .i64 pl, .int .i64 st, .int .i64 nx, .int .i64 ph, .int .i64 t, .int .i64 hd, .int .i64 hh, .int .i64 ak, .int .i64 wt, .bool sp] 66 (0, 0)) from fun X hX => hbm.below hX)
  have HOW := Lib.hid (fun X (hX : Below W1.heap.size W1 X) => own_plan A n c l ⟨pl, st, nx, ph, t, hd, hh, ak, wt, sp⟩ X ((hl.below hB1).below hX) h0 h1)
  have HQI := Lib.hid (show ∀ X, Below W1.heap.size W1 X → PlIn X (planAt l pl) from fun X hX => plan_lies ((hl.below hB1).below hX) h0 h1)
  clear hbm hB1
  obtain ⟨q, hq⟩ : ∃ q, planAt l pl = q := ⟨_, rfl⟩
  rw [hq] at HOW ht
  try rw [hq] at hc
  try rw [hq]
  clear hq hl HQI
  unfold mcV plV at HOW
  obtain ⟨A', n', c', m, B, k, d, sl, am, rd, hd'⟩ := q
  simp only at *
  have hle : t + 1 ≤ rd := by omega
  have hll : ¬ t + 1 < rd := by omega
  have hge : rd ≤ t + 1 := by omega
  clear hc
  subst hsp
  have hwb : (wt != -1) = true := by rw [bne_iff_ne]; exact hw
  clear hw
  have hfd : ∀ w, Sem.run Try.prog (Instr.field 47 (.agg #[.slice A' n' c', .slice B k d, .int .i64 am, .int .i64 rd, .int .i64 hd']) 3) w = Result.ok (.int .i64 rd) w := fun _ => rfl
  obtain ⟨cm, c0, c1, c2, c3, c4, c5, c6, c7, c8, c9⟩ := HMC.out W0 HB0.out
  go_enter Try.func66, Try.ntmps66
  go_wp2_with (first
    | (go_at_call 58
       try rw [HW.out]
       (with_reducible refine (HOW.out _ HB0.out).mono ?_)
       rintro e v0 ⟨rfl, hbx⟩
       have hS0 : Below W1.heap.size W1 v0 := HB0.out.trans (hbx.mono HB0.out.size)
       have hr0 := (hbx.block (w.heap.size + 1) (Array.getElem?_eq_some_iff.1 hr).1).trans hr
       have hs0 := HHS.out v0 hS0
       have HB0 := Lib.hid (show Below w.heap.size w v0 from HB1.out.trans (hS0.mono HB1.out.size))
       obtain ⟨fm, f0, f1, f2, f3, f4, f5, f6, f7, f8, f9⟩ := HMC.out v0 hS0
       clear hbx)
    | ((with_reducible refine wpList_store_part rfl 3 _ _ rfl (w.heap.size) 5 (.int .i64 (t + 1)) #[.int .i64 (t + 1)] ?hx6_1 ?hy6_1 ?hv6_1 66 #[.slice A n c, .int .i64 pl, .int .i64 st, .int .i64 nx, .int .i64 ph, .int .i64 t, .int .i64 hd, .int .i64 hh, .int .i64 ak, .int .i64 wt, .bool false] #[.slice A n c, .int .i64 pl, .int .i64 st, .int .i64 nx, .int .i64 ph, .int .i64 (t + 1), .int .i64 hd, .int .i64 hh, .int .i64 ak, .int .i64 wt, .bool false] hs0 ?hi6_1 ?hl6_1 ?ho6_1 ?hn6_1 ?_); (case hx6_1 => rfl); (case hy6_1 => first | rfl | assumption | go_num); (case hv6_1 => rfl); (case hi6_1 => first | exact info_one _ | exact info_mac); (case hl6_1 => simp); (case ho6_1 => first | exact one_int _ | exact one_mac _ _ _ _ _ _ _ _ _ _ _ _ _); (case hn6_1 => rfl)
       intro v1 hg1 hs1 hz1
       have hr1 := (other_block hg1 (show w.heap.size + 1 ≠ w.heap.size by omega) (Array.getElem?_eq_some_iff.1 hr0).1).trans hr0
       have HB1 := Lib.hid (show Below w.heap.size w v1 from Below.grows HB0.out hg1 HB0.out.size (Nat.le_refl _))
       obtain ⟨e1m, e10, e11, e12, e13, e14, e15, e16, e17, e18, e19⟩ := (show BoxM v1 w.heap.size A n c ⟨pl, st, nx, ph, (t + 1), hd, hh, ak, wt, false⟩ from hs1).cells
       simp only at e10 e11 e12 e13 e14 e15 e16 e17 e18 e19
       clear hg1 hz1)
    | ((with_reducible refine wpList_store_part rfl 3 _ _ rfl (w.heap.size) 1 (.int .i64 wt) #[.int .i64 wt] ?hx6_2 ?hy6_2 ?hv6_2 66 #[.slice A n c, .int .i64 pl, .int .i64 st, .int .i64 nx, .int .i64 ph, .int .i64 (t + 1), .int .i64 hd, .int .i64 hh, .int .i64 ak, .int .i64 wt, .bool false] #[.slice A n c, .int .i64 wt, .int .i64 st, .int .i64 nx, .int .i64 ph, .int .i64 (t + 1), .int .i64 hd, .int .i64 hh, .int .i64 ak, .int .i64 wt, .bool false] hs1 ?hi6_2 ?hl6_2 ?ho6_2 ?hn6_2 ?_); (case hx6_2 => rfl); (case hy6_2 => first | rfl | assumption | go_num); (case hv6_2 => rfl); (case hi6_2 => first | exact info_one _ | exact info_mac); (case hl6_2 => simp); (case ho6_2 => first | exact one_int _ | exact one_mac _ _ _ _ _ _ _ _ _ _ _ _ _); (case hn6_2 => rfl)
       intro v2 hg2 hs2 hz2
       have hr2 := (other_block hg2 (show w.heap.size + 1 ≠ w.heap.size by omega) (Array.getElem?_eq_some_iff.1 hr1).1).trans hr1
       have HB2 := Lib.hid (show Below w.heap.size w v2 from Below.grows HB1.out hg2 HB1.out.size (Nat.le_refl _))
       obtain ⟨e2m, e20, e21, e22, e23, e24, e25, e26, e27, e28, e29⟩ := (show BoxM v2 w.heap.size A n c ⟨wt, st, nx, ph, (t + 1), hd, hh, ak, wt, false⟩ from hs2).cells
       simp only at e20 e21 e22 e23 e24 e25 e26 e27 e28 e29
       clear hg2 hz2)
    | ((with_reducible refine wpList_store_part rfl 3 _ _ rfl (w.heap.size) 9 (.int .i64 (-1)) #[.int .i64 (-1)] ?hx6_3 ?hy6_3 ?hv6_3 66 #[.slice A n c, .int .i64 wt, .int .i64 st, .int .i64 nx, .int .i64 ph, .int .i64 (t + 1), .int .i64 hd, .int .i64 hh, .int .i64 ak, .int .i64 wt, .bool false] #[.slice A n c, .int .i64 wt, .int .i64 st, .int .i64 nx, .int .i64 ph, .int .i64 (t + 1), .int .i64 hd, .int .i64 hh, .int .i64 ak, .int .i64 (-1), .bool false] hs2 ?hi6_3 ?hl6_3 ?ho6_3 ?hn6_3 ?_); (case hx6_3 => rfl); (case hy6_3 => first | rfl | assumption | go_num); (case hv6_3 => rfl); (case hi6_3 => first | exact info_one _ | exact info_mac); (case hl6_3 => simp); (case ho6_3 => first | exact one_int _ | exact one_mac _ _ _ _ _ _ _ _ _ _ _ _ _); (case hn6_3 => rfl)
       intro v3 hg3 hs3 hz3
       have hr3 := (other_block hg3 (show w.heap.size + 1 ≠ w.heap.size by omega) (Array.getElem?_eq_some_iff.1 hr2).1).trans hr2
       have HB3 := Lib.hid (show Below w.heap.size w v3 from Below.grows HB2.out hg3 HB2.out.size (Nat.le_refl _))
       obtain ⟨e3m, e30, e31, e32, e33, e34, e35, e36, e37, e38, e39⟩ := (show BoxM v3 w.heap.size A n c ⟨wt, st, nx, ph, (t + 1), hd, hh, ak, (-1), false⟩ from hs3).cells
       simp only at e30 e31 e32 e33 e34 e35 e36 e37 e38 e39
       clear hg3 hz3)
    | ((with_reducible refine wpList_store_part rfl 3 _ _ rfl (w.heap.size) 3 (.int .i64 0) #[.int .i64 0] ?hx6_4 ?hy6_4 ?hv6_4 66 #[.slice A n c, .int .i64 wt, .int .i64 st, .int .i64 nx, .int .i64 ph, .int .i64 (t + 1), .int .i64 hd, .int .i64 hh, .int .i64 ak, .int .i64 (-1), .bool false] #[.slice A n c, .int .i64 wt, .int .i64 st, .int .i64 0, .int .i64 ph, .int .i64 (t + 1), .int .i64 hd, .int .i64 hh, .int .i64 ak, .int .i64 (-1), .bool false] hs3 ?hi6_4 ?hl6_4 ?ho6_4 ?hn6_4 ?_); (case hx6_4 => rfl); (case hy6_4 => first | rfl | assumption | go_num); (case hv6_4 => rfl); (case hi6_4 => first | exact info_one _ | exact info_mac); (case hl6_4 => simp); (case ho6_4 => first | exact one_int _ | exact one_mac _ _ _ _ _ _ _ _ _ _ _ _ _); (case hn6_4 => rfl)
       intro v4 hg4 hs4 hz4
       have hr4 := (other_block hg4 (show w.heap.size + 1 ≠ w.heap.size by omega) (Array.getElem?_eq_some_iff.1 hr3).1).trans hr3
       have HB4 := Lib.hid (show Below w.heap.size w v4 from Below.grows HB3.out hg4 HB3.out.size (Nat.le_refl _))
       obtain ⟨e4m, e40, e41, e42, e43, e44, e45, e46, e47, e48, e49⟩ := (show BoxM v4 w.heap.size A n c ⟨wt, st, 0, ph, (t + 1), hd, hh, ak, (-1), false⟩ from hs4).cells
       simp only at e40 e41 e42 e43 e44 e45 e46 e47 e48 e49
       clear hg4 hz4)
    | ((with_reducible refine wpList_store_part rfl 3 _ _ rfl (w.heap.size) 4 (.int .i64 0) #[.int .i64 0] ?hx6_5 ?hy6_5 ?hv6_5 66 #[.slice A n c, .int .i64 wt, .int .i64 st, .int .i64 0, .int .i64 ph, .int .i64 (t + 1), .int .i64 hd, .int .i64 hh, .int .i64 ak, .int .i64 (-1), .bool false] #[.slice A n c, .int .i64 wt, .int .i64 st, .int .i64 0, .int .i64 0, .int .i64 (t + 1), .int .i64 hd, .int .i64 hh, .int .i64 ak, .int .i64 (-1), .bool false] hs4 ?hi6_5 ?hl6_5 ?ho6_5 ?hn6_5 ?_); (case hx6_5 => rfl); (case hy6_5 => first | rfl | assumption | go_num); (case hv6_5 => rfl); (case hi6_5 => first | exact info_one _ | exact info_mac); (case hl6_5 => simp); (case ho6_5 => first | exact one_int _ | exact one_mac _ _ _ _ _ _ _ _ _ _ _ _ _); (case hn6_5 => rfl)
       intro v5 hg5 hs5 hz5
       have hr5 := (other_block hg5 (show w.heap.size + 1 ≠ w.heap.size by omega) (Array.getElem?_eq_some_iff.1 hr4).1).trans hr4
       have HB5 := Lib.hid (show Below w.heap.size w v5 from Below.grows HB4.out hg5 HB4.out.size (Nat.le_refl _))
       obtain ⟨e5m, e50, e51, e52, e53, e54, e55, e56, e57, e58, e59⟩ := (show BoxM v5 w.heap.size A n c ⟨wt, st, 0, 0, (t + 1), hd, hh, ak, (-1), false⟩ from hs5).cells
       simp only at e50 e51 e52 e53 e54 e55 e56 e57 e58 e59
       clear hg5 hz5)
    | ((with_reducible refine wpList_store_part rfl 3 _ _ rfl (w.heap.size) 2 (.int .i64 0) #[.int .i64 0] ?hx6_6 ?hy6_6 ?hv6_6 66 #[.slice A n c, .int .i64 wt, .int .i64 st, .int .i64 0, .int .i64 0, .int .i64 (t + 1), .int .i64 hd, .int .i64 hh, .int .i64 ak, .int .i64 (-1), .bool false] #[.slice A n c, .int .i64 wt, .int .i64 0, .int .i64 0, .int .i64 0, .int .i64 (t + 1), .int .i64 hd, .int .i64 hh, .int .i64 ak, .int .i64 (-1), .bool false] hs5 ?hi6_6 ?hl6_6 ?ho6_6 ?hn6_6 ?_); (case hx6_6 => rfl); (case hy6_6 => first | rfl | assumption | go_num); (case hv6_6 => rfl); (case hi6_6 => first | exact info_one _ | exact info_mac); (case hl6_6 => simp); (case ho6_6 => first | exact one_int _ | exact one_mac _ _ _ _ _ _ _ _ _ _ _ _ _); (case hn6_6 => rfl)
       intro v6 hg6 hs6 hz6
       have hr6 := (other_block hg6 (show w.heap.size + 1 ≠ w.heap.size by omega) (Array.getElem?_eq_some_iff.1 hr5).1).trans hr5
       have HB6 := Lib.hid (show Below w.heap.size w v6 from Below.grows HB5.out hg6 HB5.out.size (Nat.le_refl _))
       obtain ⟨e6m, e60, e61, e62, e63, e64, e65, e66, e67, e68, e69⟩ := (show BoxM v6 w.heap.size A n c ⟨wt, 0, 0, 0, (t + 1), hd, hh, ak, (-1), false⟩ from hs6).cells
       simp only at e60 e61 e62 e63 e64 e65 e66 e67 e68 e69
       clear hg6 hz6)
    | ((with_reducible refine wpList_store_part rfl 3 _ _ rfl (w.heap.size) 5 (.int .i64 0) #[.int .i64 0] ?hx6_7 ?hy6_7 ?hv6_7 66 #[.slice A n c, .int .i64 wt, .int .i64 0, .int .i64 0, .int .i64 0, .int .i64 (t + 1), .int .i64 hd, .int .i64 hh, .int .i64 ak, .int .i64 (-1), .bool false] #[.slice A n c, .int .i64 wt, .int .i64 0, .int .i64 0, .int .i64 0, .int .i64 0, .int .i64 hd, .int .i64 hh, .int .i64 ak, .int .i64 (-1), .bool false] hs6 ?hi6_7 ?hl6_7 ?ho6_7 ?hn6_7 ?_); (case hx6_7 => rfl); (case hy6_7 => first | rfl | assumption | go_num); (case hv6_7 => rfl); (case hi6_7 => first | exact info_one _ | exact info_mac); (case hl6_7 => simp); (case ho6_7 => first | exact one_int _ | exact one_mac _ _ _ _ _ _ _ _ _ _ _ _ _); (case hn6_7 => rfl)
       intro v7 hg7 hs7 hz7
       have hr7 := (other_block hg7 (show w.heap.size + 1 ≠ w.heap.size by omega) (Array.getElem?_eq_some_iff.1 hr6).1).trans hr6
       have HB7 := Lib.hid (show Below w.heap.size w v7 from Below.grows HB6.out hg7 HB6.out.size (Nat.le_refl _))
       obtain ⟨e7m, e70, e71, e72, e73, e74, e75, e76, e77, e78, e79⟩ := (show BoxM v7 w.heap.size A n c ⟨wt, 0, 0, 0, 0, hd, hh, ak, (-1), false⟩ from hs7).cells
       simp only at e70 e71 e72 e73 e74 e75 e76 e77 e78 e79
       clear hg7 hz7)
    | ((with_reducible refine wpList_store_part rfl 66 _ _ rfl (w.heap.size + 1) 0 (.agg #[.slice A n c, .int .i64 wt, .int .i64 0, .int .i64 0, .int .i64 0, .int .i64 0, .int .i64 hd, .int .i64 hh, .int .i64 ak, .int .i64 (-1), .bool false]) #[.slice A n c, .int .i64 wt, .int .i64 0, .int .i64 0, .int .i64 0, .int .i64 0, .int .i64 hd, .int .i64 hh, .int .i64 ak, .int .i64 (-1), .bool false] ?hx6_r ?hy6_r ?hv6_r 66 #[.slice none 0 0, .int .i64 0, .int .i64 0, .int .i64 0, .int .i64 0, .int .i64 0, .int .i64 0, .int .i64 0, .int .i64 0, .int .i64 0, .bool false] #[.slice A n c, .int .i64 wt, .int .i64 0, .int .i64 0, .int .i64 0, .int .i64 0, .int .i64 hd, .int .i64 hh, .int .i64 ak, .int .i64 (-1), .bool false] hr7 ?hi6_r ?hl6_r ?ho6_r ?hn6_r ?_); (case hx6_r => rfl); (case hy6_r => rfl); (case hv6_r => rfl); (case hi6_r => exact info_mac); (case hl6_r => simp); (case ho6_r => exact one_mac _ _ _ _ _ _ _ _ _ _ _ _ _); (case hn6_r => rfl)
       intro v8 hg8 hr8 hz8
       have HB8 := Lib.hid (show Below w.heap.size w v8 from Below.grows HB7.out hg8 HB7.out.size (by omega))
       clear hg8 hz8))
  refine bodyPost_ret (v := .agg #[.slice A n c, .int .i64 wt, .int .i64 0, .int .i64 0, .int .i64 0, .int .i64 0, .int .i64 hd, .int .i64 hh, .int .i64 ak, .int .i64 (-1), .bool false]) ?_ rfl ⟨rfl, HB8.out⟩
  exact results_cell_row Try.results66 _ _ (w.heap.size + 1) 66 #[.slice A n c, .int .i64 wt, .int .i64 0, .int .i64 0, .int .i64 0, .int .i64 0, .int .i64 hd, .int .i64 hh, .int .i64 ak, .int .i64 (-1), .bool false] (0, 0) _ rfl hr8 Try.underlying66 rfl info_mac
set_option maxHeartbeats 16000000 in
theorem red_sp2 (A : Option Addr) (n c : Nat) (l : List Pl) (s : Sg) (w : World) (hl : Pls w A n c l) (h0 : 0 ≤ s.pl) (h1 : s.pl < n) (t0 : 0 ≤ s.t) (t1 : s.t ≤ 1000) (ht : s.t ≤ (planAt l s.pl).rd) (hc : s.t = (planAt l s.pl).rd) (hsp : s.sp = true) : Calls Try.prog 66 #[mcV A n c s] w (GivesM A n c (redT (planAt l s.pl) s) w) := by
  have hrn : redN (planAt l s.pl) s = (planAt l s.pl).rd := by rw [redN]; split <;> omega
  rw [redT, if_pos (by right; exact hsp), hrn]
  clear hrn
  have w1 : wrap64 (s.t + 1) = s.t + 1 := by unfold wrap64; omega
  unfold GivesM mcV
  obtain ⟨pl, st, nx, ph, t, hd, hh, ak, wt, sp⟩ := s
  simp only at *
  obtain ⟨W1, hW1⟩ : ∃ W1, w.alloc (.cells #[.slice A n c, .int .i64 pl, .int .i64 st, .int .i64 nx, .int .i64 ph, .int .i64 t, .int .i64 hd, .int .i64 hh, .int .i64 ak, .int .i64 wt, .bool sp] 66) = W1 := ⟨_, rfl⟩
  have hB1 : Below w.heap.size w W1 := by rw [← hW1]; exact one_alloc w _
  have hbm : BoxM W1 w.heap.size A n c ⟨pl, st, nx, ph, t, hd, hh, ak, wt, sp⟩ := by rw [← hW1]; exact BoxM.new w A n c ⟨pl, st, nx, ph, t, hd, hh, ak, wt, sp⟩
  have hz1 : W1.heap.size = w.heap.size + 1 := by rw [← hW1]; simp
  obtain ⟨W0, hW0⟩ : ∃ W0, W1.alloc (.cells #[.slice none 0 0, .int .i64 0, .int .i64 0, .int .i64 0, .int .i64 0, .int .i64 0, .int .i64 0, .int .i64 0, .int .i64 0, .int .i64 0, .bool false] 66) = W0 := ⟨_, rfl⟩
  have hB0 : Below W1.heap.size W1 W0 := by rw [← hW0]; exact one_alloc W1 _
  have hr : W0.heap[w.heap.size + 1]? = some (.cells #[.slice none 0 0, .int .i64 0, .int .i64 0, .int .i64 0, .int .i64 0, .int .i64 0, .int .i64 0, .int .i64 0, .int .i64 0, .int .i64 0, .bool false] 66 (0, 0)) := by rw [← hW0, ← hz1]; exact heap_alloc_new W1 _
  have hs : W0.heap[w.heap.size]? = some (.cells #[.slice A n c, .int .i64 pl, .int .i64 st, .int .i64 nx, .int .i64 ph, .int .i64 t, .int .i64 hd, .int .i64 hh, .int .i64 ak, .int .i64 wt, .bool sp] 66 (0, 0)) := hbm.below hB0
  have hlt1 : W1.heap.size ≤ w.heap.size + 1 := by omega
  have hlt0 : w.heap.size < W1.heap.size := by omega
  have HW := Lib.hid (show (w.alloc (.cells #[.slice A n c, .int .i64 pl, .int .i64 st, .int .i64 nx, .int .i64 ph, .int .i64 t, .int .i64 hd, .int .i64 hh, .int .i64 ak, .int .i64 wt, .bool sp] 66)).alloc (.cells #[.slice none 0 0, .int .i64 0, .int .i64 0, .int .i64 0, .int .i64 0, .int .i64 0, .int .i64 0, .int .i64 0, .int .i64 0, .int .i64 0, .bool false] 66) = W0 by rw [hW1, hW0])
  have HB0 := Lib.hid hB0
  clear hz1 hW0 hW1 hB0
  have HB1 := Lib.hid hB1
  have HMC := Lib.hid (show ∀ X, Below W1.heap.size W1 X → X.cell? ⟨w.heap.size, 0, none⟩ = some (.slice A n c) ∧ X.cell? ⟨w.heap.size, 1, none⟩ = some (.int .i64 pl) ∧ X.cell? ⟨w.heap.size, 2, none⟩ = some (.int .i64 st) ∧ X.cell? ⟨w.heap.size, 3, none⟩ = some (.int .i64 nx) ∧ X.cell? ⟨w.heap.size, 4, none⟩ = some (.int .i64 ph) ∧ X.cell? ⟨w.heap.size, 5, none⟩ = some (.int .i64 t) ∧ X.cell? ⟨w.heap.size, 6, none⟩ = some (.int .i64 hd) ∧ X.cell? ⟨w.heap.size, 7, none⟩ = some (.int .i64 hh) ∧ X.cell? ⟨w.heap.size, 8, none⟩ = some (.int .i64 ak) ∧ X.cell? ⟨w.heap.size, 9, none⟩ = some (.int .i64 wt) ∧ X.cell? ⟨w.heap.size, 10, none⟩ = some (.bool sp) from fun X hX => by
    obtain ⟨cm, c0, c1, c2, c3, c4, c5, c6, c7, c8, c9⟩ := (hbm.below hX).cells
    exact ⟨cm, c0, c1, c2, c3, c4, c5, c6, c7, c8, c9⟩)
  have HHS := Lib.hid (show ∀ X, Below W1.heap.size W1 X → X.heap[w.heap.size]? = some (.cells #[.slice A n c, .int .i64 pl, .int .i64 st, .int .i64 nx, .int .i64 ph, .int .i64 t, .int .i64 hd, .int .i64 hh, .int .i64 ak, .int .i64 wt, .bool sp] 66 (0, 0)) from fun X hX => hbm.below hX)
  have HOW := Lib.hid (fun X (hX : Below W1.heap.size W1 X) => own_plan A n c l ⟨pl, st, nx, ph, t, hd, hh, ak, wt, sp⟩ X ((hl.below hB1).below hX) h0 h1)
  have HQI := Lib.hid (show ∀ X, Below W1.heap.size W1 X → PlIn X (planAt l pl) from fun X hX => plan_lies ((hl.below hB1).below hX) h0 h1)
  clear hbm hB1
  obtain ⟨q, hq⟩ : ∃ q, planAt l pl = q := ⟨_, rfl⟩
  rw [hq] at HOW ht
  try rw [hq] at hc
  try rw [hq]
  clear hq hl HQI
  unfold mcV plV at HOW
  obtain ⟨A', n', c', m, B, k, d, sl, am, rd, hd'⟩ := q
  simp only at *
  have hle : ¬ (t + 1 ≤ rd) := by omega
  have hlr : rd < t + 1 := by omega
  have hll : ¬ rd < rd := by omega
  clear hc
  subst hsp
  have hfd : ∀ w, Sem.run Try.prog (Instr.field 47 (.agg #[.slice A' n' c', .slice B k d, .int .i64 am, .int .i64 rd, .int .i64 hd']) 3) w = Result.ok (.int .i64 rd) w := fun _ => rfl
  obtain ⟨cm, c0, c1, c2, c3, c4, c5, c6, c7, c8, c9⟩ := HMC.out W0 HB0.out
  go_enter Try.func66, Try.ntmps66
  go_wp2_with (first
    | (go_at_call 58
       try rw [HW.out]
       (with_reducible refine (HOW.out _ HB0.out).mono ?_)
       rintro e v0 ⟨rfl, hbx⟩
       have hS0 : Below W1.heap.size W1 v0 := HB0.out.trans (hbx.mono HB0.out.size)
       have hr0 := (hbx.block (w.heap.size + 1) (Array.getElem?_eq_some_iff.1 hr).1).trans hr
       have hs0 := HHS.out v0 hS0
       have HB0 := Lib.hid (show Below w.heap.size w v0 from HB1.out.trans (hS0.mono HB1.out.size))
       obtain ⟨fm, f0, f1, f2, f3, f4, f5, f6, f7, f8, f9⟩ := HMC.out v0 hS0
       clear hbx)
    | ((with_reducible refine wpList_store_part rfl 3 _ _ rfl (w.heap.size) 5 (.int .i64 rd) #[.int .i64 rd] ?hx7_1 ?hy7_1 ?hv7_1 66 #[.slice A n c, .int .i64 pl, .int .i64 st, .int .i64 nx, .int .i64 ph, .int .i64 t, .int .i64 hd, .int .i64 hh, .int .i64 ak, .int .i64 wt, .bool true] #[.slice A n c, .int .i64 pl, .int .i64 st, .int .i64 nx, .int .i64 ph, .int .i64 rd, .int .i64 hd, .int .i64 hh, .int .i64 ak, .int .i64 wt, .bool true] hs0 ?hi7_1 ?hl7_1 ?ho7_1 ?hn7_1 ?_); (case hx7_1 => rfl); (case hy7_1 => first | rfl | assumption | go_num); (case hv7_1 => rfl); (case hi7_1 => first | exact info_one _ | exact info_mac); (case hl7_1 => simp); (case ho7_1 => first | exact one_int _ | exact one_mac _ _ _ _ _ _ _ _ _ _ _ _ _); (case hn7_1 => rfl)
       intro v1 hg1 hs1 hz1
       have hr1 := (other_block hg1 (show w.heap.size + 1 ≠ w.heap.size by omega) (Array.getElem?_eq_some_iff.1 hr0).1).trans hr0
       have HB1 := Lib.hid (show Below w.heap.size w v1 from Below.grows HB0.out hg1 HB0.out.size (Nat.le_refl _))
       obtain ⟨e1m, e10, e11, e12, e13, e14, e15, e16, e17, e18, e19⟩ := (show BoxM v1 w.heap.size A n c ⟨pl, st, nx, ph, rd, hd, hh, ak, wt, true⟩ from hs1).cells
       simp only at e10 e11 e12 e13 e14 e15 e16 e17 e18 e19
       clear hg1 hz1)
    | ((with_reducible refine wpList_store_part rfl 66 _ _ rfl (w.heap.size + 1) 0 (.agg #[.slice A n c, .int .i64 pl, .int .i64 st, .int .i64 nx, .int .i64 ph, .int .i64 rd, .int .i64 hd, .int .i64 hh, .int .i64 ak, .int .i64 wt, .bool true]) #[.slice A n c, .int .i64 pl, .int .i64 st, .int .i64 nx, .int .i64 ph, .int .i64 rd, .int .i64 hd, .int .i64 hh, .int .i64 ak, .int .i64 wt, .bool true] ?hx7_r ?hy7_r ?hv7_r 66 #[.slice none 0 0, .int .i64 0, .int .i64 0, .int .i64 0, .int .i64 0, .int .i64 0, .int .i64 0, .int .i64 0, .int .i64 0, .int .i64 0, .bool false] #[.slice A n c, .int .i64 pl, .int .i64 st, .int .i64 nx, .int .i64 ph, .int .i64 rd, .int .i64 hd, .int .i64 hh, .int .i64 ak, .int .i64 wt, .bool true] hr1 ?hi7_r ?hl7_r ?ho7_r ?hn7_r ?_); (case hx7_r => rfl); (case hy7_r => rfl); (case hv7_r => rfl); (case hi7_r => exact info_mac); (case hl7_r => simp); (case ho7_r => exact one_mac _ _ _ _ _ _ _ _ _ _ _ _ _); (case hn7_r => rfl)
       intro v2 hg2 hr2 hz2
       have HB2 := Lib.hid (show Below w.heap.size w v2 from Below.grows HB1.out hg2 HB1.out.size (by omega))
       clear hg2 hz2))
  refine bodyPost_ret (v := .agg #[.slice A n c, .int .i64 pl, .int .i64 st, .int .i64 nx, .int .i64 ph, .int .i64 rd, .int .i64 hd, .int .i64 hh, .int .i64 ak, .int .i64 wt, .bool true]) ?_ rfl ⟨rfl, HB2.out⟩
  exact results_cell_row Try.results66 _ _ (w.heap.size + 1) 66 #[.slice A n c, .int .i64 pl, .int .i64 st, .int .i64 nx, .int .i64 ph, .int .i64 rd, .int .i64 hd, .int .i64 hh, .int .i64 ak, .int .i64 wt, .bool true] (0, 0) _ rfl hr2 Try.underlying66 rfl info_mac
set_option maxHeartbeats 16000000 in
theorem red_go2 (A : Option Addr) (n c : Nat) (l : List Pl) (s : Sg) (w : World) (hl : Pls w A n c l) (h0 : 0 ≤ s.pl) (h1 : s.pl < n) (t0 : 0 ≤ s.t) (t1 : s.t ≤ 1000) (ht : s.t ≤ (planAt l s.pl).rd) (hc : s.t = (planAt l s.pl).rd) (hsp : s.sp = false) (hw : s.wt = -1) : Calls Try.prog 66 #[mcV A n c s] w (GivesM A n c (redT (planAt l s.pl) s) w) := by
  have hrn : redN (planAt l s.pl) s = (planAt l s.pl).rd := by rw [redN]; split <;> omega
  rw [redT, if_neg (by rw [hrn, hsp]; simp; try omega), if_pos hw]
  clear hrn
  have w1 : wrap64 (s.t + 1) = s.t + 1 := by unfold wrap64; omega
  unfold GivesM mcV
  obtain ⟨pl, st, nx, ph, t, hd, hh, ak, wt, sp⟩ := s
  simp only at *
  obtain ⟨W1, hW1⟩ : ∃ W1, w.alloc (.cells #[.slice A n c, .int .i64 pl, .int .i64 st, .int .i64 nx, .int .i64 ph, .int .i64 t, .int .i64 hd, .int .i64 hh, .int .i64 ak, .int .i64 wt, .bool sp] 66) = W1 := ⟨_, rfl⟩
  have hB1 : Below w.heap.size w W1 := by rw [← hW1]; exact one_alloc w _
  have hbm : BoxM W1 w.heap.size A n c ⟨pl, st, nx, ph, t, hd, hh, ak, wt, sp⟩ := by rw [← hW1]; exact BoxM.new w A n c ⟨pl, st, nx, ph, t, hd, hh, ak, wt, sp⟩
  have hz1 : W1.heap.size = w.heap.size + 1 := by rw [← hW1]; simp
  obtain ⟨W0, hW0⟩ : ∃ W0, W1.alloc (.cells #[.slice none 0 0, .int .i64 0, .int .i64 0, .int .i64 0, .int .i64 0, .int .i64 0, .int .i64 0, .int .i64 0, .int .i64 0, .int .i64 0, .bool false] 66) = W0 := ⟨_, rfl⟩
  have hB0 : Below W1.heap.size W1 W0 := by rw [← hW0]; exact one_alloc W1 _
  have hr : W0.heap[w.heap.size + 1]? = some (.cells #[.slice none 0 0, .int .i64 0, .int .i64 0, .int .i64 0, .int .i64 0, .int .i64 0, .int .i64 0, .int .i64 0, .int .i64 0, .int .i64 0, .bool false] 66 (0, 0)) := by rw [← hW0, ← hz1]; exact heap_alloc_new W1 _
  have hs : W0.heap[w.heap.size]? = some (.cells #[.slice A n c, .int .i64 pl, .int .i64 st, .int .i64 nx, .int .i64 ph, .int .i64 t, .int .i64 hd, .int .i64 hh, .int .i64 ak, .int .i64 wt, .bool sp] 66 (0, 0)) := hbm.below hB0
  have hlt1 : W1.heap.size ≤ w.heap.size + 1 := by omega
  have hlt0 : w.heap.size < W1.heap.size := by omega
  have HW := Lib.hid (show (w.alloc (.cells #[.slice A n c, .int .i64 pl, .int .i64 st, .int .i64 nx, .int .i64 ph, .int .i64 t, .int .i64 hd, .int .i64 hh, .int .i64 ak, .int .i64 wt, .bool sp] 66)).alloc (.cells #[.slice none 0 0, .int .i64 0, .int .i64 0, .int .i64 0, .int .i64 0, .int .i64 0, .int .i64 0, .int .i64 0, .int .i64 0, .int .i64 0, .bool false] 66) = W0 by rw [hW1, hW0])
  have HB0 := Lib.hid hB0
  clear hz1 hW0 hW1 hB0
  have HB1 := Lib.hid hB1
  have HMC := Lib.hid (show ∀ X, Below W1.heap.size W1 X → X.cell? ⟨w.heap.size, 0, none⟩ = some (.slice A n c) ∧ X.cell? ⟨w.heap.size, 1, none⟩ = some (.int .i64 pl) ∧ X.cell? ⟨w.heap.size, 2, none⟩ = some (.int .i64 st) ∧ X.cell? ⟨w.heap.size, 3, none⟩ = some (.int .i64 nx) ∧ X.cell? ⟨w.heap.size, 4, none⟩ = some (.int .i64 ph) ∧ X.cell? ⟨w.heap.size, 5, none⟩ = some (.int .i64 t) ∧ X.cell? ⟨w.heap.size, 6, none⟩ = some (.int .i64 hd) ∧ X.cell? ⟨w.heap.size, 7, none⟩ = some (.int .i64 hh) ∧ X.cell? ⟨w.heap.size, 8, none⟩ = some (.int .i64 ak) ∧ X.cell? ⟨w.heap.size, 9, none⟩ = some (.int .i64 wt) ∧ X.cell? ⟨w.heap.size, 10, none⟩ = some (.bool sp) from fun X hX => by
    obtain ⟨cm, c0, c1, c2, c3, c4, c5, c6, c7, c8, c9⟩ := (hbm.below hX).cells
    exact ⟨cm, c0, c1, c2, c3, c4, c5, c6, c7, c8, c9⟩)
  have HHS := Lib.hid (show ∀ X, Below W1.heap.size W1 X → X.heap[w.heap.size]? = some (.cells #[.slice A n c, .int .i64 pl, .int .i64 st, .int .i64 nx, .int .i64 ph, .int .i64 t, .int .i64 hd, .int .i64 hh, .int .i64 ak, .int .i64 wt, .bool sp] 66 (0, 0)) from fun X hX => hbm.below hX)
  have HOW := Lib.hid (fun X (hX : Below W1.heap.size W1 X) => own_plan A n c l ⟨pl, st, nx, ph, t, hd, hh, ak, wt, sp⟩ X ((hl.below hB1).below hX) h0 h1)
  have HQI := Lib.hid (show ∀ X, Below W1.heap.size W1 X → PlIn X (planAt l pl) from fun X hX => plan_lies ((hl.below hB1).below hX) h0 h1)
  clear hbm hB1
  obtain ⟨q, hq⟩ : ∃ q, planAt l pl = q := ⟨_, rfl⟩
  rw [hq] at HOW ht
  try rw [hq] at hc
  try rw [hq]
  clear hq hl HQI
  unfold mcV plV at HOW
  obtain ⟨A', n', c', m, B, k, d, sl, am, rd, hd'⟩ := q
  simp only at *
  have hle : ¬ (t + 1 ≤ rd) := by omega
  have hlr : rd < t + 1 := by omega
  have hll : ¬ rd < rd := by omega
  clear hc
  subst hsp
  have hwb : (wt != -1) = false := by rw [hw]; rfl
  clear hw
  have hfd : ∀ w, Sem.run Try.prog (Instr.field 47 (.agg #[.slice A' n' c', .slice B k d, .int .i64 am, .int .i64 rd, .int .i64 hd']) 3) w = Result.ok (.int .i64 rd) w := fun _ => rfl
  obtain ⟨cm, c0, c1, c2, c3, c4, c5, c6, c7, c8, c9⟩ := HMC.out W0 HB0.out
  go_enter Try.func66, Try.ntmps66
  go_wp2_with (first
    | (go_at_call 58
       try rw [HW.out]
       (with_reducible refine (HOW.out _ HB0.out).mono ?_)
       rintro e v0 ⟨rfl, hbx⟩
       have hS0 : Below W1.heap.size W1 v0 := HB0.out.trans (hbx.mono HB0.out.size)
       have hr0 := (hbx.block (w.heap.size + 1) (Array.getElem?_eq_some_iff.1 hr).1).trans hr
       have hs0 := HHS.out v0 hS0
       have HB0 := Lib.hid (show Below w.heap.size w v0 from HB1.out.trans (hS0.mono HB1.out.size))
       obtain ⟨fm, f0, f1, f2, f3, f4, f5, f6, f7, f8, f9⟩ := HMC.out v0 hS0
       clear hbx)
    | ((with_reducible refine wpList_store_part rfl 3 _ _ rfl (w.heap.size) 5 (.int .i64 rd) #[.int .i64 rd] ?hx8_1 ?hy8_1 ?hv8_1 66 #[.slice A n c, .int .i64 pl, .int .i64 st, .int .i64 nx, .int .i64 ph, .int .i64 t, .int .i64 hd, .int .i64 hh, .int .i64 ak, .int .i64 wt, .bool false] #[.slice A n c, .int .i64 pl, .int .i64 st, .int .i64 nx, .int .i64 ph, .int .i64 rd, .int .i64 hd, .int .i64 hh, .int .i64 ak, .int .i64 wt, .bool false] hs0 ?hi8_1 ?hl8_1 ?ho8_1 ?hn8_1 ?_); (case hx8_1 => rfl); (case hy8_1 => first | rfl | assumption | go_num); (case hv8_1 => rfl); (case hi8_1 => first | exact info_one _ | exact info_mac); (case hl8_1 => simp); (case ho8_1 => first | exact one_int _ | exact one_mac _ _ _ _ _ _ _ _ _ _ _ _ _); (case hn8_1 => rfl)
       intro v1 hg1 hs1 hz1
       have hr1 := (other_block hg1 (show w.heap.size + 1 ≠ w.heap.size by omega) (Array.getElem?_eq_some_iff.1 hr0).1).trans hr0
       have HB1 := Lib.hid (show Below w.heap.size w v1 from Below.grows HB0.out hg1 HB0.out.size (Nat.le_refl _))
       obtain ⟨e1m, e10, e11, e12, e13, e14, e15, e16, e17, e18, e19⟩ := (show BoxM v1 w.heap.size A n c ⟨pl, st, nx, ph, rd, hd, hh, ak, wt, false⟩ from hs1).cells
       simp only at e10 e11 e12 e13 e14 e15 e16 e17 e18 e19
       clear hg1 hz1)
    | ((with_reducible refine wpList_store_part rfl 3 _ _ rfl (w.heap.size) 4 (.int .i64 0) #[.int .i64 0] ?hx8_2 ?hy8_2 ?hv8_2 66 #[.slice A n c, .int .i64 pl, .int .i64 st, .int .i64 nx, .int .i64 ph, .int .i64 rd, .int .i64 hd, .int .i64 hh, .int .i64 ak, .int .i64 wt, .bool false] #[.slice A n c, .int .i64 pl, .int .i64 st, .int .i64 nx, .int .i64 0, .int .i64 rd, .int .i64 hd, .int .i64 hh, .int .i64 ak, .int .i64 wt, .bool false] hs1 ?hi8_2 ?hl8_2 ?ho8_2 ?hn8_2 ?_); (case hx8_2 => rfl); (case hy8_2 => first | rfl | assumption | go_num); (case hv8_2 => rfl); (case hi8_2 => first | exact info_one _ | exact info_mac); (case hl8_2 => simp); (case ho8_2 => first | exact one_int _ | exact one_mac _ _ _ _ _ _ _ _ _ _ _ _ _); (case hn8_2 => rfl)
       intro v2 hg2 hs2 hz2
       have hr2 := (other_block hg2 (show w.heap.size + 1 ≠ w.heap.size by omega) (Array.getElem?_eq_some_iff.1 hr1).1).trans hr1
       have HB2 := Lib.hid (show Below w.heap.size w v2 from Below.grows HB1.out hg2 HB1.out.size (Nat.le_refl _))
       obtain ⟨e2m, e20, e21, e22, e23, e24, e25, e26, e27, e28, e29⟩ := (show BoxM v2 w.heap.size A n c ⟨pl, st, nx, 0, rd, hd, hh, ak, wt, false⟩ from hs2).cells
       simp only at e20 e21 e22 e23 e24 e25 e26 e27 e28 e29
       clear hg2 hz2)
    | ((with_reducible refine wpList_store_part rfl 3 _ _ rfl (w.heap.size) 2 (.int .i64 nx) #[.int .i64 nx] ?hx8_3 ?hy8_3 ?hv8_3 66 #[.slice A n c, .int .i64 pl, .int .i64 st, .int .i64 nx, .int .i64 0, .int .i64 rd, .int .i64 hd, .int .i64 hh, .int .i64 ak, .int .i64 wt, .bool false] #[.slice A n c, .int .i64 pl, .int .i64 nx, .int .i64 nx, .int .i64 0, .int .i64 rd, .int .i64 hd, .int .i64 hh, .int .i64 ak, .int .i64 wt, .bool false] hs2 ?hi8_3 ?hl8_3 ?ho8_3 ?hn8_3 ?_); (case hx8_3 => rfl); (case hy8_3 => first | rfl | assumption | go_num); (case hv8_3 => rfl); (case hi8_3 => first | exact info_one _ | exact info_mac); (case hl8_3 => simp); (case ho8_3 => first | exact one_int _ | exact one_mac _ _ _ _ _ _ _ _ _ _ _ _ _); (case hn8_3 => rfl)
       intro v3 hg3 hs3 hz3
       have hr3 := (other_block hg3 (show w.heap.size + 1 ≠ w.heap.size by omega) (Array.getElem?_eq_some_iff.1 hr2).1).trans hr2
       have HB3 := Lib.hid (show Below w.heap.size w v3 from Below.grows HB2.out hg3 HB2.out.size (Nat.le_refl _))
       obtain ⟨e3m, e30, e31, e32, e33, e34, e35, e36, e37, e38, e39⟩ := (show BoxM v3 w.heap.size A n c ⟨pl, nx, nx, 0, rd, hd, hh, ak, wt, false⟩ from hs3).cells
       simp only at e30 e31 e32 e33 e34 e35 e36 e37 e38 e39
       clear hg3 hz3)
    | ((with_reducible refine wpList_store_part rfl 3 _ _ rfl (w.heap.size) 5 (.int .i64 0) #[.int .i64 0] ?hx8_4 ?hy8_4 ?hv8_4 66 #[.slice A n c, .int .i64 pl, .int .i64 nx, .int .i64 nx, .int .i64 0, .int .i64 rd, .int .i64 hd, .int .i64 hh, .int .i64 ak, .int .i64 wt, .bool false] #[.slice A n c, .int .i64 pl, .int .i64 nx, .int .i64 nx, .int .i64 0, .int .i64 0, .int .i64 hd, .int .i64 hh, .int .i64 ak, .int .i64 wt, .bool false] hs3 ?hi8_4 ?hl8_4 ?ho8_4 ?hn8_4 ?_); (case hx8_4 => rfl); (case hy8_4 => first | rfl | assumption | go_num); (case hv8_4 => rfl); (case hi8_4 => first | exact info_one _ | exact info_mac); (case hl8_4 => simp); (case ho8_4 => first | exact one_int _ | exact one_mac _ _ _ _ _ _ _ _ _ _ _ _ _); (case hn8_4 => rfl)
       intro v4 hg4 hs4 hz4
       have hr4 := (other_block hg4 (show w.heap.size + 1 ≠ w.heap.size by omega) (Array.getElem?_eq_some_iff.1 hr3).1).trans hr3
       have HB4 := Lib.hid (show Below w.heap.size w v4 from Below.grows HB3.out hg4 HB3.out.size (Nat.le_refl _))
       obtain ⟨e4m, e40, e41, e42, e43, e44, e45, e46, e47, e48, e49⟩ := (show BoxM v4 w.heap.size A n c ⟨pl, nx, nx, 0, 0, hd, hh, ak, wt, false⟩ from hs4).cells
       simp only at e40 e41 e42 e43 e44 e45 e46 e47 e48 e49
       clear hg4 hz4)
    | ((with_reducible refine wpList_store_part rfl 66 _ _ rfl (w.heap.size + 1) 0 (.agg #[.slice A n c, .int .i64 pl, .int .i64 nx, .int .i64 nx, .int .i64 0, .int .i64 0, .int .i64 hd, .int .i64 hh, .int .i64 ak, .int .i64 wt, .bool false]) #[.slice A n c, .int .i64 pl, .int .i64 nx, .int .i64 nx, .int .i64 0, .int .i64 0, .int .i64 hd, .int .i64 hh, .int .i64 ak, .int .i64 wt, .bool false] ?hx8_r ?hy8_r ?hv8_r 66 #[.slice none 0 0, .int .i64 0, .int .i64 0, .int .i64 0, .int .i64 0, .int .i64 0, .int .i64 0, .int .i64 0, .int .i64 0, .int .i64 0, .bool false] #[.slice A n c, .int .i64 pl, .int .i64 nx, .int .i64 nx, .int .i64 0, .int .i64 0, .int .i64 hd, .int .i64 hh, .int .i64 ak, .int .i64 wt, .bool false] hr4 ?hi8_r ?hl8_r ?ho8_r ?hn8_r ?_); (case hx8_r => rfl); (case hy8_r => rfl); (case hv8_r => rfl); (case hi8_r => exact info_mac); (case hl8_r => simp); (case ho8_r => exact one_mac _ _ _ _ _ _ _ _ _ _ _ _ _); (case hn8_r => rfl)
       intro v5 hg5 hr5 hz5
       have HB5 := Lib.hid (show Below w.heap.size w v5 from Below.grows HB4.out hg5 HB4.out.size (by omega))
       clear hg5 hz5))
  refine bodyPost_ret (v := .agg #[.slice A n c, .int .i64 pl, .int .i64 nx, .int .i64 nx, .int .i64 0, .int .i64 0, .int .i64 hd, .int .i64 hh, .int .i64 ak, .int .i64 wt, .bool false]) ?_ rfl ⟨rfl, HB5.out⟩
  exact results_cell_row Try.results66 _ _ (w.heap.size + 1) 66 #[.slice A n c, .int .i64 pl, .int .i64 nx, .int .i64 nx, .int .i64 0, .int .i64 0, .int .i64 hd, .int .i64 hh, .int .i64 ak, .int .i64 wt, .bool false] (0, 0) _ rfl hr5 Try.underlying66 rfl info_mac
set_option maxHeartbeats 16000000 in
theorem red_wt2 (A : Option Addr) (n c : Nat) (l : List Pl) (s : Sg) (w : World) (hl : Pls w A n c l) (h0 : 0 ≤ s.pl) (h1 : s.pl < n) (t0 : 0 ≤ s.t) (t1 : s.t ≤ 1000) (ht : s.t ≤ (planAt l s.pl).rd) (hc : s.t = (planAt l s.pl).rd) (hsp : s.sp = false) (hw : ¬ s.wt = -1) : Calls Try.prog 66 #[mcV A n c s] w (GivesM A n c (redT (planAt l s.pl) s) w) := by
  have hrn : redN (planAt l s.pl) s = (planAt l s.pl).rd := by rw [redN]; split <;> omega
  rw [redT, if_neg (by rw [hrn, hsp]; simp; try omega), if_neg hw]
  clear hrn
  have w1 : wrap64 (s.t + 1) = s.t + 1 := by unfold wrap64; omega
  unfold GivesM mcV
  obtain ⟨pl, st, nx, ph, t, hd, hh, ak, wt, sp⟩ := s
  simp only at *
  obtain ⟨W1, hW1⟩ : ∃ W1, w.alloc (.cells #[.slice A n c, .int .i64 pl, .int .i64 st, .int .i64 nx, .int .i64 ph, .int .i64 t, .int .i64 hd, .int .i64 hh, .int .i64 ak, .int .i64 wt, .bool sp] 66) = W1 := ⟨_, rfl⟩
  have hB1 : Below w.heap.size w W1 := by rw [← hW1]; exact one_alloc w _
  have hbm : BoxM W1 w.heap.size A n c ⟨pl, st, nx, ph, t, hd, hh, ak, wt, sp⟩ := by rw [← hW1]; exact BoxM.new w A n c ⟨pl, st, nx, ph, t, hd, hh, ak, wt, sp⟩
  have hz1 : W1.heap.size = w.heap.size + 1 := by rw [← hW1]; simp
  obtain ⟨W0, hW0⟩ : ∃ W0, W1.alloc (.cells #[.slice none 0 0, .int .i64 0, .int .i64 0, .int .i64 0, .int .i64 0, .int .i64 0, .int .i64 0, .int .i64 0, .int .i64 0, .int .i64 0, .bool false] 66) = W0 := ⟨_, rfl⟩
  have hB0 : Below W1.heap.size W1 W0 := by rw [← hW0]; exact one_alloc W1 _
  have hr : W0.heap[w.heap.size + 1]? = some (.cells #[.slice none 0 0, .int .i64 0, .int .i64 0, .int .i64 0, .int .i64 0, .int .i64 0, .int .i64 0, .int .i64 0, .int .i64 0, .int .i64 0, .bool false] 66 (0, 0)) := by rw [← hW0, ← hz1]; exact heap_alloc_new W1 _
  have hs : W0.heap[w.heap.size]? = some (.cells #[.slice A n c, .int .i64 pl, .int .i64 st, .int .i64 nx, .int .i64 ph, .int .i64 t, .int .i64 hd, .int .i64 hh, .int .i64 ak, .int .i64 wt, .bool sp] 66 (0, 0)) := hbm.below hB0
  have hlt1 : W1.heap.size ≤ w.heap.size + 1 := by omega
  have hlt0 : w.heap.size < W1.heap.size := by omega
  have HW := Lib.hid (show (w.alloc (.cells #[.slice A n c, .int .i64 pl, .int .i64 st, .int .i64 nx, .int .i64 ph, .int .i64 t, .int .i64 hd, .int .i64 hh, .int .i64 ak, .int .i64 wt, .bool sp] 66)).alloc (.cells #[.slice none 0 0, .int .i64 0, .int .i64 0, .int .i64 0, .int .i64 0, .int .i64 0, .int .i64 0, .int .i64 0, .int .i64 0, .int .i64 0, .bool false] 66) = W0 by rw [hW1, hW0])
  have HB0 := Lib.hid hB0
  clear hz1 hW0 hW1 hB0
  have HB1 := Lib.hid hB1
  have HMC := Lib.hid (show ∀ X, Below W1.heap.size W1 X → X.cell? ⟨w.heap.size, 0, none⟩ = some (.slice A n c) ∧ X.cell? ⟨w.heap.size, 1, none⟩ = some (.int .i64 pl) ∧ X.cell? ⟨w.heap.size, 2, none⟩ = some (.int .i64 st) ∧ X.cell? ⟨w.heap.size, 3, none⟩ = some (.int .i64 nx) ∧ X.cell? ⟨w.heap.size, 4, none⟩ = some (.int .i64 ph) ∧ X.cell? ⟨w.heap.size, 5, none⟩ = some (.int .i64 t) ∧ X.cell? ⟨w.heap.size, 6, none⟩ = some (.int .i64 hd) ∧ X.cell? ⟨w.heap.size, 7, none⟩ = some (.int .i64 hh) ∧ X.cell? ⟨w.heap.size, 8, none⟩ = some (.int .i64 ak) ∧ X.cell? ⟨w.heap.size, 9, none⟩ = some (.int .i64 wt) ∧ X.cell? ⟨w.heap.size, 10, none⟩ = some (.bool sp) from fun X hX => by
    obtain ⟨cm, c0, c1, c2, c3, c4, c5, c6, c7, c8, c9⟩ := (hbm.below hX).cells
    exact ⟨cm, c0, c1, c2, c3, c4, c5, c6, c7, c8, c9⟩)
  have HHS := Lib.hid (show ∀ X, Below W1.heap.size W1 X → X.heap[w.heap.size]? = some (.cells #[.slice A n c, .int .i64 pl, .int .i64 st, .int .i64 nx, .int .i64 ph, .int .i64 t, .int .i64 hd, .int .i64 hh, .int .i64 ak, .int .i64 wt, .bool sp] 66 (0, 0)) from fun X hX => hbm.below hX)
  have HOW := Lib.hid (fun X (hX : Below W1.heap.size W1 X) => own_plan A n c l ⟨pl, st, nx, ph, t, hd, hh, ak, wt, sp⟩ X ((hl.below hB1).below hX) h0 h1)
  have HQI := Lib.hid (show ∀ X, Below W1.heap.size W1 X → PlIn X (planAt l pl) from fun X hX => plan_lies ((hl.below hB1).below hX) h0 h1)
  clear hbm hB1
  obtain ⟨q, hq⟩ : ∃ q, planAt l pl = q := ⟨_, rfl⟩
  rw [hq] at HOW ht
  try rw [hq] at hc
  try rw [hq]
  clear hq hl HQI
  unfold mcV plV at HOW
  obtain ⟨A', n', c', m, B, k, d, sl, am, rd, hd'⟩ := q
  simp only at *
  have hle : ¬ (t + 1 ≤ rd) := by omega
  have hlr : rd < t + 1 := by omega
  have hll : ¬ rd < rd := by omega
  clear hc
  subst hsp
  have hwb : (wt != -1) = true := by rw [bne_iff_ne]; exact hw
  clear hw
  have hfd : ∀ w, Sem.run Try.prog (Instr.field 47 (.agg #[.slice A' n' c', .slice B k d, .int .i64 am, .int .i64 rd, .int .i64 hd']) 3) w = Result.ok (.int .i64 rd) w := fun _ => rfl
  obtain ⟨cm, c0, c1, c2, c3, c4, c5, c6, c7, c8, c9⟩ := HMC.out W0 HB0.out
  go_enter Try.func66, Try.ntmps66
  go_wp2_with (first
    | (go_at_call 58
       try rw [HW.out]
       (with_reducible refine (HOW.out _ HB0.out).mono ?_)
       rintro e v0 ⟨rfl, hbx⟩
       have hS0 : Below W1.heap.size W1 v0 := HB0.out.trans (hbx.mono HB0.out.size)
       have hr0 := (hbx.block (w.heap.size + 1) (Array.getElem?_eq_some_iff.1 hr).1).trans hr
       have hs0 := HHS.out v0 hS0
       have HB0 := Lib.hid (show Below w.heap.size w v0 from HB1.out.trans (hS0.mono HB1.out.size))
       obtain ⟨fm, f0, f1, f2, f3, f4, f5, f6, f7, f8, f9⟩ := HMC.out v0 hS0
       clear hbx)
    | ((with_reducible refine wpList_store_part rfl 3 _ _ rfl (w.heap.size) 5 (.int .i64 rd) #[.int .i64 rd] ?hx9_1 ?hy9_1 ?hv9_1 66 #[.slice A n c, .int .i64 pl, .int .i64 st, .int .i64 nx, .int .i64 ph, .int .i64 t, .int .i64 hd, .int .i64 hh, .int .i64 ak, .int .i64 wt, .bool false] #[.slice A n c, .int .i64 pl, .int .i64 st, .int .i64 nx, .int .i64 ph, .int .i64 rd, .int .i64 hd, .int .i64 hh, .int .i64 ak, .int .i64 wt, .bool false] hs0 ?hi9_1 ?hl9_1 ?ho9_1 ?hn9_1 ?_); (case hx9_1 => rfl); (case hy9_1 => first | rfl | assumption | go_num); (case hv9_1 => rfl); (case hi9_1 => first | exact info_one _ | exact info_mac); (case hl9_1 => simp); (case ho9_1 => first | exact one_int _ | exact one_mac _ _ _ _ _ _ _ _ _ _ _ _ _); (case hn9_1 => rfl)
       intro v1 hg1 hs1 hz1
       have hr1 := (other_block hg1 (show w.heap.size + 1 ≠ w.heap.size by omega) (Array.getElem?_eq_some_iff.1 hr0).1).trans hr0
       have HB1 := Lib.hid (show Below w.heap.size w v1 from Below.grows HB0.out hg1 HB0.out.size (Nat.le_refl _))
       obtain ⟨e1m, e10, e11, e12, e13, e14, e15, e16, e17, e18, e19⟩ := (show BoxM v1 w.heap.size A n c ⟨pl, st, nx, ph, rd, hd, hh, ak, wt, false⟩ from hs1).cells
       simp only at e10 e11 e12 e13 e14 e15 e16 e17 e18 e19
       clear hg1 hz1)
    | ((with_reducible refine wpList_store_part rfl 3 _ _ rfl (w.heap.size) 1 (.int .i64 wt) #[.int .i64 wt] ?hx9_2 ?hy9_2 ?hv9_2 66 #[.slice A n c, .int .i64 pl, .int .i64 st, .int .i64 nx, .int .i64 ph, .int .i64 rd, .int .i64 hd, .int .i64 hh, .int .i64 ak, .int .i64 wt, .bool false] #[.slice A n c, .int .i64 wt, .int .i64 st, .int .i64 nx, .int .i64 ph, .int .i64 rd, .int .i64 hd, .int .i64 hh, .int .i64 ak, .int .i64 wt, .bool false] hs1 ?hi9_2 ?hl9_2 ?ho9_2 ?hn9_2 ?_); (case hx9_2 => rfl); (case hy9_2 => first | rfl | assumption | go_num); (case hv9_2 => rfl); (case hi9_2 => first | exact info_one _ | exact info_mac); (case hl9_2 => simp); (case ho9_2 => first | exact one_int _ | exact one_mac _ _ _ _ _ _ _ _ _ _ _ _ _); (case hn9_2 => rfl)
       intro v2 hg2 hs2 hz2
       have hr2 := (other_block hg2 (show w.heap.size + 1 ≠ w.heap.size by omega) (Array.getElem?_eq_some_iff.1 hr1).1).trans hr1
       have HB2 := Lib.hid (show Below w.heap.size w v2 from Below.grows HB1.out hg2 HB1.out.size (Nat.le_refl _))
       obtain ⟨e2m, e20, e21, e22, e23, e24, e25, e26, e27, e28, e29⟩ := (show BoxM v2 w.heap.size A n c ⟨wt, st, nx, ph, rd, hd, hh, ak, wt, false⟩ from hs2).cells
       simp only at e20 e21 e22 e23 e24 e25 e26 e27 e28 e29
       clear hg2 hz2)
    | ((with_reducible refine wpList_store_part rfl 3 _ _ rfl (w.heap.size) 9 (.int .i64 (-1)) #[.int .i64 (-1)] ?hx9_3 ?hy9_3 ?hv9_3 66 #[.slice A n c, .int .i64 wt, .int .i64 st, .int .i64 nx, .int .i64 ph, .int .i64 rd, .int .i64 hd, .int .i64 hh, .int .i64 ak, .int .i64 wt, .bool false] #[.slice A n c, .int .i64 wt, .int .i64 st, .int .i64 nx, .int .i64 ph, .int .i64 rd, .int .i64 hd, .int .i64 hh, .int .i64 ak, .int .i64 (-1), .bool false] hs2 ?hi9_3 ?hl9_3 ?ho9_3 ?hn9_3 ?_); (case hx9_3 => rfl); (case hy9_3 => first | rfl | assumption | go_num); (case hv9_3 => rfl); (case hi9_3 => first | exact info_one _ | exact info_mac); (case hl9_3 => simp); (case ho9_3 => first | exact one_int _ | exact one_mac _ _ _ _ _ _ _ _ _ _ _ _ _); (case hn9_3 => rfl)
       intro v3 hg3 hs3 hz3
       have hr3 := (other_block hg3 (show w.heap.size + 1 ≠ w.heap.size by omega) (Array.getElem?_eq_some_iff.1 hr2).1).trans hr2
       have HB3 := Lib.hid (show Below w.heap.size w v3 from Below.grows HB2.out hg3 HB2.out.size (Nat.le_refl _))
       obtain ⟨e3m, e30, e31, e32, e33, e34, e35, e36, e37, e38, e39⟩ := (show BoxM v3 w.heap.size A n c ⟨wt, st, nx, ph, rd, hd, hh, ak, (-1), false⟩ from hs3).cells
       simp only at e30 e31 e32 e33 e34 e35 e36 e37 e38 e39
       clear hg3 hz3)
    | ((with_reducible refine wpList_store_part rfl 3 _ _ rfl (w.heap.size) 3 (.int .i64 0) #[.int .i64 0] ?hx9_4 ?hy9_4 ?hv9_4 66 #[.slice A n c, .int .i64 wt, .int .i64 st, .int .i64 nx, .int .i64 ph, .int .i64 rd, .int .i64 hd, .int .i64 hh, .int .i64 ak, .int .i64 (-1), .bool false] #[.slice A n c, .int .i64 wt, .int .i64 st, .int .i64 0, .int .i64 ph, .int .i64 rd, .int .i64 hd, .int .i64 hh, .int .i64 ak, .int .i64 (-1), .bool false] hs3 ?hi9_4 ?hl9_4 ?ho9_4 ?hn9_4 ?_); (case hx9_4 => rfl); (case hy9_4 => first | rfl | assumption | go_num); (case hv9_4 => rfl); (case hi9_4 => first | exact info_one _ | exact info_mac); (case hl9_4 => simp); (case ho9_4 => first | exact one_int _ | exact one_mac _ _ _ _ _ _ _ _ _ _ _ _ _); (case hn9_4 => rfl)
       intro v4 hg4 hs4 hz4
       have hr4 := (other_block hg4 (show w.heap.size + 1 ≠ w.heap.size by omega) (Array.getElem?_eq_some_iff.1 hr3).1).trans hr3
       have HB4 := Lib.hid (show Below w.heap.size w v4 from Below.grows HB3.out hg4 HB3.out.size (Nat.le_refl _))
       obtain ⟨e4m, e40, e41, e42, e43, e44, e45, e46, e47, e48, e49⟩ := (show BoxM v4 w.heap.size A n c ⟨wt, st, 0, ph, rd, hd, hh, ak, (-1), false⟩ from hs4).cells
       simp only at e40 e41 e42 e43 e44 e45 e46 e47 e48 e49
       clear hg4 hz4)
    | ((with_reducible refine wpList_store_part rfl 3 _ _ rfl (w.heap.size) 4 (.int .i64 0) #[.int .i64 0] ?hx9_5 ?hy9_5 ?hv9_5 66 #[.slice A n c, .int .i64 wt, .int .i64 st, .int .i64 0, .int .i64 ph, .int .i64 rd, .int .i64 hd, .int .i64 hh, .int .i64 ak, .int .i64 (-1), .bool false] #[.slice A n c, .int .i64 wt, .int .i64 st, .int .i64 0, .int .i64 0, .int .i64 rd, .int .i64 hd, .int .i64 hh, .int .i64 ak, .int .i64 (-1), .bool false] hs4 ?hi9_5 ?hl9_5 ?ho9_5 ?hn9_5 ?_); (case hx9_5 => rfl); (case hy9_5 => first | rfl | assumption | go_num); (case hv9_5 => rfl); (case hi9_5 => first | exact info_one _ | exact info_mac); (case hl9_5 => simp); (case ho9_5 => first | exact one_int _ | exact one_mac _ _ _ _ _ _ _ _ _ _ _ _ _); (case hn9_5 => rfl)
       intro v5 hg5 hs5 hz5
       have hr5 := (other_block hg5 (show w.heap.size + 1 ≠ w.heap.size by omega) (Array.getElem?_eq_some_iff.1 hr4).1).trans hr4
       have HB5 := Lib.hid (show Below w.heap.size w v5 from Below.grows HB4.out hg5 HB4.out.size (Nat.le_refl _))
       obtain ⟨e5m, e50, e51, e52, e53, e54, e55, e56, e57, e58, e59⟩ := (show BoxM v5 w.heap.size A n c ⟨wt, st, 0, 0, rd, hd, hh, ak, (-1), false⟩ from hs5).cells
       simp only at e50 e51 e52 e53 e54 e55 e56 e57 e58 e59
       clear hg5 hz5)
    | ((with_reducible refine wpList_store_part rfl 3 _ _ rfl (w.heap.size) 2 (.int .i64 0) #[.int .i64 0] ?hx9_6 ?hy9_6 ?hv9_6 66 #[.slice A n c, .int .i64 wt, .int .i64 st, .int .i64 0, .int .i64 0, .int .i64 rd, .int .i64 hd, .int .i64 hh, .int .i64 ak, .int .i64 (-1), .bool false] #[.slice A n c, .int .i64 wt, .int .i64 0, .int .i64 0, .int .i64 0, .int .i64 rd, .int .i64 hd, .int .i64 hh, .int .i64 ak, .int .i64 (-1), .bool false] hs5 ?hi9_6 ?hl9_6 ?ho9_6 ?hn9_6 ?_); (case hx9_6 => rfl); (case hy9_6 => first | rfl | assumption | go_num); (case hv9_6 => rfl); (case hi9_6 => first | exact info_one _ | exact info_mac); (case hl9_6 => simp); (case ho9_6 => first | exact one_int _ | exact one_mac _ _ _ _ _ _ _ _ _ _ _ _ _); (case hn9_6 => rfl)
       intro v6 hg6 hs6 hz6
       have hr6 := (other_block hg6 (show w.heap.size + 1 ≠ w.heap.size by omega) (Array.getElem?_eq_some_iff.1 hr5).1).trans hr5
       have HB6 := Lib.hid (show Below w.heap.size w v6 from Below.grows HB5.out hg6 HB5.out.size (Nat.le_refl _))
       obtain ⟨e6m, e60, e61, e62, e63, e64, e65, e66, e67, e68, e69⟩ := (show BoxM v6 w.heap.size A n c ⟨wt, 0, 0, 0, rd, hd, hh, ak, (-1), false⟩ from hs6).cells
       simp only at e60 e61 e62 e63 e64 e65 e66 e67 e68 e69
       clear hg6 hz6)
    | ((with_reducible refine wpList_store_part rfl 3 _ _ rfl (w.heap.size) 5 (.int .i64 0) #[.int .i64 0] ?hx9_7 ?hy9_7 ?hv9_7 66 #[.slice A n c, .int .i64 wt, .int .i64 0, .int .i64 0, .int .i64 0, .int .i64 rd, .int .i64 hd, .int .i64 hh, .int .i64 ak, .int .i64 (-1), .bool false] #[.slice A n c, .int .i64 wt, .int .i64 0, .int .i64 0, .int .i64 0, .int .i64 0, .int .i64 hd, .int .i64 hh, .int .i64 ak, .int .i64 (-1), .bool false] hs6 ?hi9_7 ?hl9_7 ?ho9_7 ?hn9_7 ?_); (case hx9_7 => rfl); (case hy9_7 => first | rfl | assumption | go_num); (case hv9_7 => rfl); (case hi9_7 => first | exact info_one _ | exact info_mac); (case hl9_7 => simp); (case ho9_7 => first | exact one_int _ | exact one_mac _ _ _ _ _ _ _ _ _ _ _ _ _); (case hn9_7 => rfl)
       intro v7 hg7 hs7 hz7
       have hr7 := (other_block hg7 (show w.heap.size + 1 ≠ w.heap.size by omega) (Array.getElem?_eq_some_iff.1 hr6).1).trans hr6
       have HB7 := Lib.hid (show Below w.heap.size w v7 from Below.grows HB6.out hg7 HB6.out.size (Nat.le_refl _))
       obtain ⟨e7m, e70, e71, e72, e73, e74, e75, e76, e77, e78, e79⟩ := (show BoxM v7 w.heap.size A n c ⟨wt, 0, 0, 0, 0, hd, hh, ak, (-1), false⟩ from hs7).cells
       simp only at e70 e71 e72 e73 e74 e75 e76 e77 e78 e79
       clear hg7 hz7)
    | ((with_reducible refine wpList_store_part rfl 66 _ _ rfl (w.heap.size + 1) 0 (.agg #[.slice A n c, .int .i64 wt, .int .i64 0, .int .i64 0, .int .i64 0, .int .i64 0, .int .i64 hd, .int .i64 hh, .int .i64 ak, .int .i64 (-1), .bool false]) #[.slice A n c, .int .i64 wt, .int .i64 0, .int .i64 0, .int .i64 0, .int .i64 0, .int .i64 hd, .int .i64 hh, .int .i64 ak, .int .i64 (-1), .bool false] ?hx9_r ?hy9_r ?hv9_r 66 #[.slice none 0 0, .int .i64 0, .int .i64 0, .int .i64 0, .int .i64 0, .int .i64 0, .int .i64 0, .int .i64 0, .int .i64 0, .int .i64 0, .bool false] #[.slice A n c, .int .i64 wt, .int .i64 0, .int .i64 0, .int .i64 0, .int .i64 0, .int .i64 hd, .int .i64 hh, .int .i64 ak, .int .i64 (-1), .bool false] hr7 ?hi9_r ?hl9_r ?ho9_r ?hn9_r ?_); (case hx9_r => rfl); (case hy9_r => rfl); (case hv9_r => rfl); (case hi9_r => exact info_mac); (case hl9_r => simp); (case ho9_r => exact one_mac _ _ _ _ _ _ _ _ _ _ _ _ _); (case hn9_r => rfl)
       intro v8 hg8 hr8 hz8
       have HB8 := Lib.hid (show Below w.heap.size w v8 from Below.grows HB7.out hg8 HB7.out.size (by omega))
       clear hg8 hz8))
  refine bodyPost_ret (v := .agg #[.slice A n c, .int .i64 wt, .int .i64 0, .int .i64 0, .int .i64 0, .int .i64 0, .int .i64 hd, .int .i64 hh, .int .i64 ak, .int .i64 (-1), .bool false]) ?_ rfl ⟨rfl, HB8.out⟩
  exact results_cell_row Try.results66 _ _ (w.heap.size + 1) 66 #[.slice A n c, .int .i64 wt, .int .i64 0, .int .i64 0, .int .i64 0, .int .i64 0, .int .i64 hd, .int .i64 hh, .int .i64 ak, .int .i64 (-1), .bool false] (0, 0) _ rfl hr8 Try.underlying66 rfl info_mac
theorem mred_any (A : Option Addr) (n c : Nat) (l : List Pl) (s : Sg) (w : World) (hl : Pls w A n c l) (hm : MayS l s) (hp0 : s.ph ≠ 0) (hp1 : s.ph ≠ 1) : Calls Try.prog 66 #[mcV A n c s] w (GivesM A n c (redT (planAt l s.pl) s) w) := by
  have h1 : s.pl < n := by have := hm.p1; rw [hl.len] at this; exact this
  obtain ⟨t0, t1⟩ := may_small hm
  have ht := (hm.other hp0).rd hp1
  by_cases hc : s.t + 1 < (planAt l s.pl).rd
  · exact red_lt A n c l s w hl hm.p0 h1 t0 t1 ht hc
  · by_cases he : s.t + 1 = (planAt l s.pl).rd
    · by_cases hs : s.sp = true
      · exact red_sp1 A n c l s w hl hm.p0 h1 t0 t1 ht he hs
      · by_cases hw : s.wt = -1
        · exact red_go1 A n c l s w hl hm.p0 h1 t0 t1 ht he (Bool.eq_false_iff.2 hs) hw
        · exact red_wt1 A n c l s w hl hm.p0 h1 t0 t1 ht he (Bool.eq_false_iff.2 hs) hw
    · have he2 : s.t = (planAt l s.pl).rd := by omega
      by_cases hs : s.sp = true
      · exact red_sp2 A n c l s w hl hm.p0 h1 t0 t1 ht he2 hs
      · by_cases hw : s.wt = -1
        · exact red_go2 A n c l s w hl hm.p0 h1 t0 t1 ht he2 (Bool.eq_false_iff.2 hs) hw
        · exact red_wt2 A n c l s w hl hm.p0 h1 t0 t1 ht he2 (Bool.eq_false_iff.2 hs) hw
end Go.Proofs.Ytgnhmdfajnnkhaa

