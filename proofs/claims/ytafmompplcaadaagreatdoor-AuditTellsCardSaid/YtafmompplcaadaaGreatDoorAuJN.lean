/- Joined texts: The walk over the document's Torn of a log: a crash in the midst of adding. The walks over package store's New, and the document's. The walk over the document's New of a log. The walk over the document's Same of logs. -/
import Derived.Test.YtafmompplcaadaaGreatDoorAuJM
import Derived.Test.YtafmompplcaadaaGreatDoorAuJK
import Derived.Test.YtafmompplcaadaaGreatDoorAuJI
import Derived.Test.YtafmompplcaadaaGreatDoorAuJH
/- The walk over the document's Torn of a log: a crash in the midst of adding. -/
namespace Go.Proofs.YtafmompplcaadaaGreatDoor
set_option maxRecDepth 100000
set_option linter.unusedVariables false
set_option linter.unusedSimpArgs false
open Go.RowKit

theorem st_one (a c : Int) (A : Option Addr) (n m : Nat) : (#[.int .i64 a, .slice A n m, .int .i64 c] : Array Value).all (·.oneCell') = true := by
  refine all_oneCell_toArray (cs := [.int .i64 a, .slice A n m, .int .i64 c]) fun v hv => ?_
  simp only [List.mem_cons, List.not_mem_nil, or_false] at hv
  rcases hv with rfl | rfl | rfl <;> rfl
set_option maxHeartbeats 4000000 in
theorem artorn_one (p : Lp) (g : Lg) (u : En) (keep : Int) (w : World) (h : LgAt w p g) (hu : u.ok) (hm : mayG g = false) :
    Calls Tryz.prog 15 #[.agg p.arr, enV u, .int .i64 keep] w (GSt g.st w) := by
  have HMY := Lib.hid (fun (X : World) (hX : Below w.heap.size w X) => armay_any p g X (h.below hX))
  have HEM := Lib.hid (fun (X : World) => ermay_any u X)
  have HSL := Lib.hid (fun X => arslots_any p X h.hlen h.fits)
  have HDT := Lib.hid h.data
  have HW := Lib.hid h.whole
  have HCP := Lib.hid h.cap
  have HSU := Lib.hid h.sure
  simp only [hm] at HMY
  clear h hu
  unfold enV at HEM ⊢
  go_enter Tryz.func15, Tryz.ntmps15
  go_wp2_with (first
    | ((with_reducible refine wpList_load_blk 29 _ rfl w.heap.size ?hx1 29 p.arr (0, 0) _ (first_of_c _ _ _ _) Tryz.underlying29 ?hd1 HW.out ?_ ?hw1); (case hx1 => rfl); (case hd1 => rfl); (case hw1 => rfl))
    | (go_at_call 16
       (with_reducible refine (HMY.out _ (three_below_c _ _ _ _)).mono ?_)
       rintro e w1 ⟨rfl, hb1⟩
       obtain ⟨hb0, y0, y1, y2⟩ := after_three_c hb1
       have hz1 : w.heap.size + 3 ≤ w1.heap.size := by have := hb1.size; simpa using this
       have b0 : w1.heap[w.heap.size]? = some (.cells p.arr 29 (0, 0)) := y0
       have b1 : w1.heap[w.heap.size + 1]? = some (.cells (enA u) 33 (0, 0)) := y1
       have b2 : w1.heap[w.heap.size + 2]? = some (.cells #[.int .i64 0, .slice none 0 0, .int .i64 0] 24 (0, 0)) := y2
       have HB1 := Lib.hid hb0
       clear hb1 hb0 y0 y1 y2)
    | ((with_reducible refine wpList_load_blk 33 _ rfl (w.heap.size + 1) ?hx2 33 (enA u) (0, 0) _ b1 Tryz.underlying33 ?hd2 (info_en (enA_size _)) ?_ ?hw2); (case hx2 => rfl); (case hd2 => rfl); (case hw2 => rfl))
    | (go_at_call 24
       (with_reducible refine (HEM.out _).mono ?_)
       rintro e w2 ⟨rfl, hbx⟩
       have b0 := blk_below b0 hbx
       have b1 := blk_below b1 hbx
       have b2 := blk_below b2 hbx
       have HB2 := Lib.hid (HB1.out.trans (hbx.mono HB1.out.size))
       have hz2 : w.heap.size + 3 ≤ w2.heap.size := Nat.le_trans hz1 hbx.size
       clear hbx hz1)
    | ((with_reducible refine wpList_load_blk 29 _ rfl w.heap.size ?hx3 29 p.arr (0, 0) _ b0 Tryz.underlying29 ?hd3 HW.out ?_ ?hw3); (case hx3 => rfl); (case hd3 => rfl); (case hw3 => rfl)))
  have hSd : (w2.drew.heap[w.heap.size]? = some (.cells p.arr 29 (0, 0)) ∧ w2.drew.heap[w.heap.size + 1]? = some (.cells (enA u) 33 (0, 0)) ∧ w2.drew.heap[w.heap.size + 2]? = some (.cells #[.int .i64 0, .slice none 0 0, .int .i64 0] 24 (0, 0)) ∧ Below w.heap.size w w2.drew) := ⟨blk_drew b0, blk_drew b1, blk_drew b2, HB2.out.drew⟩
  have hzd : w.heap.size + 3 ≤ w2.drew.heap.size := hz2
  clear b0 b1 b2 hz2
  refine wp_region_held_drew (S := (fun X => X.heap[w.heap.size]? = some (.cells p.arr 29 (0, 0)) ∧ X.heap[w.heap.size + 1]? = some (.cells (enA u) 33 (0, 0)) ∧ X.heap[w.heap.size + 2]? = some (.cells #[.int .i64 0, .slice none 0 0, .int .i64 0] 24 (0, 0)) ∧ Below w.heap.size w X)) (by kernel_rfl) hSd (fun hHeld => ?_)
  refine take_run 0 (.bool false) rfl (by kernel_rfl) (by kernel_rfl) (by kernel_rfl) (fun _ _ _ h => h) rfl hHeld (fun w => ?_) ?_
  · go_simp
  simp only [Act.put, List.setIfInBounds_toArray, List.set_cons_zero, List.set_cons_succ]
  refine take_run 1 (.bool true) rfl (by kernel_rfl) (by kernel_rfl) (by kernel_rfl) (fun _ _ _ h => h) rfl hHeld (fun w => ?_) ?_
  · go_simp
  simp only [Act.put, List.setIfInBounds_toArray, List.set_cons_zero, List.set_cons_succ]
  refine take_run 2 (.bool true) rfl (by kernel_rfl) (by kernel_rfl) (by kernel_rfl) (fun _ _ _ h => h) rfl hHeld (fun w => ?_) ?_
  · go_simp
  simp only [Act.put, List.setIfInBounds_toArray, List.set_cons_zero, List.set_cons_succ]
  refine take_off 3 rfl (by kernel_rfl) (by kernel_rfl) (by kernel_rfl) (fun _ _ _ h => h) rfl hHeld ?_
  simp only [Act.put, List.setIfInBounds_toArray, List.set_cons_zero, List.set_cons_succ]
  refine take_off 4 rfl (by kernel_rfl) (by kernel_rfl) (by kernel_rfl) (fun _ _ _ h => h) rfl hHeld ?_
  simp only [Act.put, List.setIfInBounds_toArray, List.set_cons_zero, List.set_cons_succ]
  refine take_run 5 (.bool true) rfl (by kernel_rfl) (by kernel_rfl) (by kernel_rfl) (fun _ _ _ h => h) rfl hHeld (fun w => ?_) ?_
  · go_simp
  simp only [Act.put, List.setIfInBounds_toArray, List.set_cons_zero, List.set_cons_succ]
  refine take_run 6 (.bool true) rfl (by kernel_rfl) (by kernel_rfl) (by kernel_rfl) (fun _ _ _ h => h) rfl hHeld (fun w => ?_) ?_
  · go_simp
  simp only [Act.put, List.setIfInBounds_toArray, List.set_cons_zero, List.set_cons_succ]
  refine take_off 7 rfl (by kernel_rfl) (by kernel_rfl) (by kernel_rfl) (fun _ _ _ h => h) rfl hHeld ?_
  simp only [Act.put, List.setIfInBounds_toArray, List.set_cons_zero, List.set_cons_succ]
  refine take_off 8 rfl (by kernel_rfl) (by kernel_rfl) (by kernel_rfl) (fun _ _ _ h => h) rfl hHeld ?_
  simp only [Act.put, List.setIfInBounds_toArray, List.set_cons_zero, List.set_cons_succ]
  refine take_off 9 rfl (by kernel_rfl) (by kernel_rfl) (by kernel_rfl) (fun _ _ _ h => h) rfl hHeld ?_
  simp only [Act.put, List.setIfInBounds_toArray, List.set_cons_zero, List.set_cons_succ]
  refine take_off 10 rfl (by kernel_rfl) (by kernel_rfl) (by kernel_rfl) (fun _ _ _ h => h) rfl hHeld ?_
  simp only [Act.put, List.setIfInBounds_toArray, List.set_cons_zero, List.set_cons_succ]
  refine take_off 11 rfl (by kernel_rfl) (by kernel_rfl) (by kernel_rfl) (fun _ _ _ h => h) rfl hHeld ?_
  simp only [Act.put, List.setIfInBounds_toArray, List.set_cons_zero, List.set_cons_succ]
  refine take_off 12 rfl (by kernel_rfl) (by kernel_rfl) (by kernel_rfl) (fun _ _ _ h => h) rfl hHeld ?_
  simp only [Act.put, List.setIfInBounds_toArray, List.set_cons_zero, List.set_cons_succ]
  refine take_run 13 (.bool true) rfl (by kernel_rfl) (by kernel_rfl) (by kernel_rfl) (fun _ _ _ h => h) rfl hHeld (fun w => ?_) ?_
  · go_simp
  simp only [Act.put, List.setIfInBounds_toArray, List.set_cons_zero, List.set_cons_succ]
  refine wpAnyH_done (by kernel_rfl) ?_ _
  obtain ⟨b0, b1, b2, hb5⟩ := hSd
  have HB5 := Lib.hid hb5
  have hz5 : w.heap.size + 3 ≤ w2.drew.heap.size := hzd
  have hrs := lg_st b0
  clear hb5 hHeld
  go_wp2_with (first
    | ((with_reducible refine wpList_load_on 24 _ rfl w.heap.size 0 ?hx7 [.int .i64 p.cap, .slice p.A p.n p.c, .int .i64 p.sure] _ rfl _ hrs Tryz.underlying24 ?hd7 (by kernel_rfl) ?_ ?hw7); (case hx7 => rfl); (case hd7 => rfl); (case hw7 => rfl))
    | ((with_reducible refine wpList_store_blk rfl 24 _ _ rfl (w.heap.size + 2) #[.int .i64 p.cap, .slice p.A p.n p.c, .int .i64 p.sure] ?hx4 ?hy4 24 _ b2 (size_st3 _ _ _) ?hs4 ?ho4 ?_); (case hx4 => rfl); (case hy4 => rfl); (case hs4 => rfl); (case ho4 => exact st_one _ _ _ _ _)
       intro wF hgF hXF hsF))
  have hbF := HB5.out.grown hgF HB5.out.size (fun k e => by cases e; omega)
  refine bodyPost_ret (v := .agg #[.int .i64 p.cap, .slice p.A p.n p.c, .int .i64 p.sure]) ?_ rfl ⟨p.A, p.n, p.c, by rw [HCP.out, HSU.out], HDT.out.below hbF, hbF⟩
  exact ret_store1 Tryz.results15 _ _ (w.heap.size + 2) 24 _ _ _ rfl hXF
set_option maxHeartbeats 4000000 in
theorem artorn_two (p : Lp) (g : Lg) (u : En) (keep : Int) (w : World) (h : LgAt w p g) (hu : u.ok) (hm : mayG g = true) (he : mayE u = false) :
    Calls Tryz.prog 15 #[.agg p.arr, enV u, .int .i64 keep] w (GSt g.st w) := by
  have HMY := Lib.hid (fun (X : World) (hX : Below w.heap.size w X) => armay_any p g X (h.below hX))
  have HEM := Lib.hid (fun (X : World) => ermay_any u X)
  have HSL := Lib.hid (fun X => arslots_any p X h.hlen h.fits)
  have HDT := Lib.hid h.data
  have HW := Lib.hid h.whole
  have HCP := Lib.hid h.cap
  have HSU := Lib.hid h.sure
  simp only [hm] at HMY
  simp only [he] at HEM
  clear h hu
  unfold enV at HEM ⊢
  go_enter Tryz.func15, Tryz.ntmps15
  go_wp2_with (first
    | ((with_reducible refine wpList_load_blk 29 _ rfl w.heap.size ?hx1 29 p.arr (0, 0) _ (first_of_c _ _ _ _) Tryz.underlying29 ?hd1 HW.out ?_ ?hw1); (case hx1 => rfl); (case hd1 => rfl); (case hw1 => rfl))
    | (go_at_call 16
       (with_reducible refine (HMY.out _ (three_below_c _ _ _ _)).mono ?_)
       rintro e w1 ⟨rfl, hb1⟩
       obtain ⟨hb0, y0, y1, y2⟩ := after_three_c hb1
       have hz1 : w.heap.size + 3 ≤ w1.heap.size := by have := hb1.size; simpa using this
       have b0 : w1.heap[w.heap.size]? = some (.cells p.arr 29 (0, 0)) := y0
       have b1 : w1.heap[w.heap.size + 1]? = some (.cells (enA u) 33 (0, 0)) := y1
       have b2 : w1.heap[w.heap.size + 2]? = some (.cells #[.int .i64 0, .slice none 0 0, .int .i64 0] 24 (0, 0)) := y2
       have HB1 := Lib.hid hb0
       clear hb1 hb0 y0 y1 y2)
    | ((with_reducible refine wpList_load_blk 33 _ rfl (w.heap.size + 1) ?hx2 33 (enA u) (0, 0) _ b1 Tryz.underlying33 ?hd2 (info_en (enA_size _)) ?_ ?hw2); (case hx2 => rfl); (case hd2 => rfl); (case hw2 => rfl))
    | (go_at_call 24
       (with_reducible refine (HEM.out _).mono ?_)
       rintro e w2 ⟨rfl, hbx⟩
       have b0 := blk_below b0 hbx
       have b1 := blk_below b1 hbx
       have b2 := blk_below b2 hbx
       have HB2 := Lib.hid (HB1.out.trans (hbx.mono HB1.out.size))
       have hz2 : w.heap.size + 3 ≤ w2.heap.size := Nat.le_trans hz1 hbx.size
       clear hbx hz1)
    | ((with_reducible refine wpList_load_blk 29 _ rfl w.heap.size ?hx3 29 p.arr (0, 0) _ b0 Tryz.underlying29 ?hd3 HW.out ?_ ?hw3); (case hx3 => rfl); (case hd3 => rfl); (case hw3 => rfl)))
  have hSd : (w2.drew.heap[w.heap.size]? = some (.cells p.arr 29 (0, 0)) ∧ w2.drew.heap[w.heap.size + 1]? = some (.cells (enA u) 33 (0, 0)) ∧ w2.drew.heap[w.heap.size + 2]? = some (.cells #[.int .i64 0, .slice none 0 0, .int .i64 0] 24 (0, 0)) ∧ Below w.heap.size w w2.drew) := ⟨blk_drew b0, blk_drew b1, blk_drew b2, HB2.out.drew⟩
  have hzd : w.heap.size + 3 ≤ w2.drew.heap.size := hz2
  clear b0 b1 b2 hz2
  refine wp_region_held_drew (S := (fun X => X.heap[w.heap.size]? = some (.cells p.arr 29 (0, 0)) ∧ X.heap[w.heap.size + 1]? = some (.cells (enA u) 33 (0, 0)) ∧ X.heap[w.heap.size + 2]? = some (.cells #[.int .i64 0, .slice none 0 0, .int .i64 0] 24 (0, 0)) ∧ Below w.heap.size w X)) (by kernel_rfl) hSd (fun hHeld => ?_)
  refine take_run 0 (.bool true) rfl (by kernel_rfl) (by kernel_rfl) (by kernel_rfl) (fun _ _ _ h => h) rfl hHeld (fun w => ?_) ?_
  · go_simp
  simp only [Act.put, List.setIfInBounds_toArray, List.set_cons_zero, List.set_cons_succ]
  refine take_run 1 (.bool false) rfl (by kernel_rfl) (by kernel_rfl) (by kernel_rfl) (fun _ _ _ h => h) rfl hHeld (fun w => ?_) ?_
  · go_simp
  simp only [Act.put, List.setIfInBounds_toArray, List.set_cons_zero, List.set_cons_succ]
  refine take_run 2 (.bool false) rfl (by kernel_rfl) (by kernel_rfl) (by kernel_rfl) (fun _ _ _ h => h) rfl hHeld (fun w => ?_) ?_
  · go_simp
  simp only [Act.put, List.setIfInBounds_toArray, List.set_cons_zero, List.set_cons_succ]
  refine take_run 3 (.bool false) rfl (by kernel_rfl) (by kernel_rfl) (by kernel_rfl) (fun _ _ _ h => h) rfl hHeld (fun w => ?_) ?_
  · go_simp
  simp only [Act.put, List.setIfInBounds_toArray, List.set_cons_zero, List.set_cons_succ]
  refine take_run 4 (.bool true) rfl (by kernel_rfl) (by kernel_rfl) (by kernel_rfl) (fun _ _ _ h => h) rfl hHeld (fun w => ?_) ?_
  · go_simp
  simp only [Act.put, List.setIfInBounds_toArray, List.set_cons_zero, List.set_cons_succ]
  refine take_run 5 (.bool true) rfl (by kernel_rfl) (by kernel_rfl) (by kernel_rfl) (fun _ _ _ h => h) rfl hHeld (fun w => ?_) ?_
  · go_simp
  simp only [Act.put, List.setIfInBounds_toArray, List.set_cons_zero, List.set_cons_succ]
  refine take_run 6 (.bool true) rfl (by kernel_rfl) (by kernel_rfl) (by kernel_rfl) (fun _ _ _ h => h) rfl hHeld (fun w => ?_) ?_
  · go_simp
  simp only [Act.put, List.setIfInBounds_toArray, List.set_cons_zero, List.set_cons_succ]
  refine take_off 7 rfl (by kernel_rfl) (by kernel_rfl) (by kernel_rfl) (fun _ _ _ h => h) rfl hHeld ?_
  simp only [Act.put, List.setIfInBounds_toArray, List.set_cons_zero, List.set_cons_succ]
  refine take_off 8 rfl (by kernel_rfl) (by kernel_rfl) (by kernel_rfl) (fun _ _ _ h => h) rfl hHeld ?_
  simp only [Act.put, List.setIfInBounds_toArray, List.set_cons_zero, List.set_cons_succ]
  refine take_off 9 rfl (by kernel_rfl) (by kernel_rfl) (by kernel_rfl) (fun _ _ _ h => h) rfl hHeld ?_
  simp only [Act.put, List.setIfInBounds_toArray, List.set_cons_zero, List.set_cons_succ]
  refine take_off 10 rfl (by kernel_rfl) (by kernel_rfl) (by kernel_rfl) (fun _ _ _ h => h) rfl hHeld ?_
  simp only [Act.put, List.setIfInBounds_toArray, List.set_cons_zero, List.set_cons_succ]
  refine take_off 11 rfl (by kernel_rfl) (by kernel_rfl) (by kernel_rfl) (fun _ _ _ h => h) rfl hHeld ?_
  simp only [Act.put, List.setIfInBounds_toArray, List.set_cons_zero, List.set_cons_succ]
  refine take_off 12 rfl (by kernel_rfl) (by kernel_rfl) (by kernel_rfl) (fun _ _ _ h => h) rfl hHeld ?_
  simp only [Act.put, List.setIfInBounds_toArray, List.set_cons_zero, List.set_cons_succ]
  refine take_run 13 (.bool true) rfl (by kernel_rfl) (by kernel_rfl) (by kernel_rfl) (fun _ _ _ h => h) rfl hHeld (fun w => ?_) ?_
  · go_simp
  simp only [Act.put, List.setIfInBounds_toArray, List.set_cons_zero, List.set_cons_succ]
  refine wpAnyH_done (by kernel_rfl) ?_ _
  obtain ⟨b0, b1, b2, hb5⟩ := hSd
  have HB5 := Lib.hid hb5
  have hz5 : w.heap.size + 3 ≤ w2.drew.heap.size := hzd
  have hrs := lg_st b0
  clear hb5 hHeld
  go_wp2_with (first
    | ((with_reducible refine wpList_load_on 24 _ rfl w.heap.size 0 ?hx7 [.int .i64 p.cap, .slice p.A p.n p.c, .int .i64 p.sure] _ rfl _ hrs Tryz.underlying24 ?hd7 (by kernel_rfl) ?_ ?hw7); (case hx7 => rfl); (case hd7 => rfl); (case hw7 => rfl))
    | ((with_reducible refine wpList_store_blk rfl 24 _ _ rfl (w.heap.size + 2) #[.int .i64 p.cap, .slice p.A p.n p.c, .int .i64 p.sure] ?hx4 ?hy4 24 _ b2 (size_st3 _ _ _) ?hs4 ?ho4 ?_); (case hx4 => rfl); (case hy4 => rfl); (case hs4 => rfl); (case ho4 => exact st_one _ _ _ _ _)
       intro wF hgF hXF hsF))
  have hbF := HB5.out.grown hgF HB5.out.size (fun k e => by cases e; omega)
  refine bodyPost_ret (v := .agg #[.int .i64 p.cap, .slice p.A p.n p.c, .int .i64 p.sure]) ?_ rfl ⟨p.A, p.n, p.c, by rw [HCP.out, HSU.out], HDT.out.below hbF, hbF⟩
  exact ret_store1 Tryz.results15 _ _ (w.heap.size + 2) 24 _ _ _ rfl hXF
set_option maxHeartbeats 4000000 in
theorem artorn_full (p : Lp) (g : Lg) (u : En) (keep : Int) (w : World) (h : LgAt w p g) (hu : u.ok) (hm : mayG g = true) (he : mayE u = true) (hf : slotsG g ≤ g.l.length) :
    Calls Tryz.prog 15 #[.agg p.arr, enV u, .int .i64 keep] w (GSt g.st w) := by
  have HMY := Lib.hid (fun (X : World) (hX : Below w.heap.size w X) => armay_any p g X (h.below hX))
  have HEM := Lib.hid (fun (X : World) => ermay_any u X)
  have HSL := Lib.hid (fun X => arslots_any p X h.hlen h.fits)
  have HDT := Lib.hid h.data
  have HW := Lib.hid h.whole
  have HCP := Lib.hid h.cap
  have HSU := Lib.hid h.sure
  simp only [hm] at HMY
  simp only [he] at HEM
  have hnl := h.ents.len
  have hsl := slots_at h.fits
  have hsq : slotsG g = p.cap.tdiv 62 := by rw [slotsG, h.cap]
  obtain ⟨q, hq⟩ : ∃ q, p.cap.tdiv 62 = q := ⟨_, rfl⟩
  simp only [hq] at HSL hsl hsq
  have hqm : q ≤ (p.m : Int) := by rw [← hsq, ← hnl]; exact hf
  clear h hu hsq hq hnl hf
  unfold enV at HEM ⊢
  go_enter Tryz.func15, Tryz.ntmps15
  go_wp2_with (first
    | ((with_reducible refine wpList_load_blk 29 _ rfl w.heap.size ?hx1 29 p.arr (0, 0) _ (first_of_c _ _ _ _) Tryz.underlying29 ?hd1 HW.out ?_ ?hw1); (case hx1 => rfl); (case hd1 => rfl); (case hw1 => rfl))
    | (go_at_call 16
       (with_reducible refine (HMY.out _ (three_below_c _ _ _ _)).mono ?_)
       rintro e w1 ⟨rfl, hb1⟩
       obtain ⟨hb0, y0, y1, y2⟩ := after_three_c hb1
       have hz1 : w.heap.size + 3 ≤ w1.heap.size := by have := hb1.size; simpa using this
       have b0 : w1.heap[w.heap.size]? = some (.cells p.arr 29 (0, 0)) := y0
       have b1 : w1.heap[w.heap.size + 1]? = some (.cells (enA u) 33 (0, 0)) := y1
       have b2 : w1.heap[w.heap.size + 2]? = some (.cells #[.int .i64 0, .slice none 0 0, .int .i64 0] 24 (0, 0)) := y2
       have HB1 := Lib.hid hb0
       clear hb1 hb0 y0 y1 y2)
    | ((with_reducible refine wpList_load_blk 33 _ rfl (w.heap.size + 1) ?hx2 33 (enA u) (0, 0) _ b1 Tryz.underlying33 ?hd2 (info_en (enA_size _)) ?_ ?hw2); (case hx2 => rfl); (case hd2 => rfl); (case hw2 => rfl))
    | (go_at_call 24
       (with_reducible refine (HEM.out _).mono ?_)
       rintro e w2 ⟨rfl, hbx⟩
       have b0 := blk_below b0 hbx
       have b1 := blk_below b1 hbx
       have b2 := blk_below b2 hbx
       have HB2 := Lib.hid (HB1.out.trans (hbx.mono HB1.out.size))
       have hz2 : w.heap.size + 3 ≤ w2.heap.size := Nat.le_trans hz1 hbx.size
       clear hbx hz1)
    | ((with_reducible refine wpList_load_blk 29 _ rfl w.heap.size ?hx3 29 p.arr (0, 0) _ b0 Tryz.underlying29 ?hd3 HW.out ?_ ?hw3); (case hx3 => rfl); (case hd3 => rfl); (case hw3 => rfl)))
  have hSd : (w2.drew.heap[w.heap.size]? = some (.cells p.arr 29 (0, 0)) ∧ w2.drew.heap[w.heap.size + 1]? = some (.cells (enA u) 33 (0, 0)) ∧ w2.drew.heap[w.heap.size + 2]? = some (.cells #[.int .i64 0, .slice none 0 0, .int .i64 0] 24 (0, 0)) ∧ Below w.heap.size w w2.drew) := ⟨blk_drew b0, blk_drew b1, blk_drew b2, HB2.out.drew⟩
  have hzd : w.heap.size + 3 ≤ w2.drew.heap.size := hz2
  clear b0 b1 b2 hz2
  refine wp_region_held_drew (S := (fun X => X.heap[w.heap.size]? = some (.cells p.arr 29 (0, 0)) ∧ X.heap[w.heap.size + 1]? = some (.cells (enA u) 33 (0, 0)) ∧ X.heap[w.heap.size + 2]? = some (.cells #[.int .i64 0, .slice none 0 0, .int .i64 0] 24 (0, 0)) ∧ Below w.heap.size w X)) (by kernel_rfl) hSd (fun hHeld => ?_)
  refine take_run 0 (.bool true) rfl (by kernel_rfl) (by kernel_rfl) (by kernel_rfl) (fun _ _ _ h => h) rfl hHeld (fun w => ?_) ?_
  · go_simp
  simp only [Act.put, List.setIfInBounds_toArray, List.set_cons_zero, List.set_cons_succ]
  refine take_run 1 (.bool false) rfl (by kernel_rfl) (by kernel_rfl) (by kernel_rfl) (fun _ _ _ h => h) rfl hHeld (fun w => ?_) ?_
  · go_simp
  simp only [Act.put, List.setIfInBounds_toArray, List.set_cons_zero, List.set_cons_succ]
  refine take_run 2 (.bool false) rfl (by kernel_rfl) (by kernel_rfl) (by kernel_rfl) (fun _ _ _ h => h) rfl hHeld (fun w => ?_) ?_
  · go_simp
  simp only [Act.put, List.setIfInBounds_toArray, List.set_cons_zero, List.set_cons_succ]
  refine take_run 3 (.bool true) rfl (by kernel_rfl) (by kernel_rfl) (by kernel_rfl) (fun _ _ _ h => h) rfl hHeld (fun w => ?_) ?_
  · go_simp
  simp only [Act.put, List.setIfInBounds_toArray, List.set_cons_zero, List.set_cons_succ]
  refine take_run 4 (.bool false) rfl (by kernel_rfl) (by kernel_rfl) (by kernel_rfl) (fun _ _ _ h => h) rfl hHeld (fun w => ?_) ?_
  · go_simp
  simp only [Act.put, List.setIfInBounds_toArray, List.set_cons_zero, List.set_cons_succ]
  refine take_run 5 (.bool false) rfl (by kernel_rfl) (by kernel_rfl) (by kernel_rfl) (fun _ _ _ h => h) rfl hHeld (fun w => ?_) ?_
  · go_simp
  simp only [Act.put, List.setIfInBounds_toArray, List.set_cons_zero, List.set_cons_succ]
  refine take_run 6 (.bool false) rfl (by kernel_rfl) (by kernel_rfl) (by kernel_rfl) (fun _ _ _ h => h) rfl hHeld (fun w => ?_) ?_
  · go_simp
  simp only [Act.put, List.setIfInBounds_toArray, List.set_cons_zero, List.set_cons_succ]
  refine take_run 7 (.pointer (some ⟨w.heap.size, 3, none⟩)) rfl (by kernel_rfl) (by kernel_rfl) (by kernel_rfl) (fun _ _ _ h => h) rfl hHeld (fun w => ?_) ?_
  · go_simp
  simp only [Act.put, List.setIfInBounds_toArray, List.set_cons_zero, List.set_cons_succ]
  refine take_if 8 (.slice p.B p.m p.d) rfl (by kernel_rfl) (by kernel_rfl) (by kernel_rfl) (fun _ _ _ h => h) rfl hHeld (fun w' hw' => ?_) ?_
  · have hq := (lg_cells hw'.1).2.2.2
    go_simp
  simp only [Act.put, List.setIfInBounds_toArray, List.set_cons_zero, List.set_cons_succ]
  refine take_run 9 (.int .i64 p.m) rfl (by kernel_rfl) (by kernel_rfl) (by kernel_rfl) (fun _ _ _ h => h) rfl hHeld (fun w => ?_) ?_
  · go_simp
  simp only [Act.put, List.setIfInBounds_toArray, List.set_cons_zero, List.set_cons_succ]
  refine take_blk 10 29 _ w.heap.size 29 _ (0, 0) _ rfl rfl rfl (by kernel_rfl) (by kernel_rfl) (by kernel_rfl) (fun _ _ _ h => h) rfl hHeld (fun X hX => hX.1) Tryz.underlying29 rfl HW.out ?_
  simp only [Act.put, List.setIfInBounds_toArray, List.set_cons_zero, List.set_cons_succ]
  refine one_step 11 (by kernel_rfl) rfl (fun Kq hKq => ?_)
  go_simp
  go_at_call 25
  refine (HSL.out _).mono ?_
  rintro e y1 ⟨rfl, hbx⟩
  have hS1 : (y1.heap[w.heap.size]? = some (.cells p.arr 29 (0, 0)) ∧ y1.heap[w.heap.size + 1]? = some (.cells (enA u) 33 (0, 0)) ∧ y1.heap[w.heap.size + 2]? = some (.cells #[.int .i64 0, .slice none 0 0, .int .i64 0] 24 (0, 0)) ∧ Below w.heap.size w y1) := ⟨blk_below hSd.1 hbx, blk_below hSd.2.1 hbx, blk_below hSd.2.2.1 hbx, hSd.2.2.2.trans (hbx.mono hSd.2.2.2.size)⟩
  have hz1 : w.heap.size + 3 ≤ y1.heap.size := Nat.le_trans hzd hbx.size
  clear hbx
  refine hKq.out _ _ hS1 (fun hHeld0 => ?_)
  clear hKq Kq hHeld
  have hHeld := hHeld0
  clear hHeld0
  try simp only [Act.put, List.setIfInBounds_toArray, List.set_cons_zero, List.set_cons_succ]
  refine take_run 12 (.bool true) rfl (by kernel_rfl) (by kernel_rfl) (by kernel_rfl) (fun _ _ _ h => h) rfl hHeld (fun w => ?_) ?_
  · go_simp
  simp only [Act.put, List.setIfInBounds_toArray, List.set_cons_zero, List.set_cons_succ]
  refine take_run 13 (.bool true) rfl (by kernel_rfl) (by kernel_rfl) (by kernel_rfl) (fun _ _ _ h => h) rfl hHeld (fun w => ?_) ?_
  · go_simp
  simp only [Act.put, List.setIfInBounds_toArray, List.set_cons_zero, List.set_cons_succ]
  refine wpAnyH_done (by kernel_rfl) ?_ _
  obtain ⟨b0, b1, b2, hb5⟩ := hS1
  have HB5 := Lib.hid hb5
  have hz5 : w.heap.size + 3 ≤ y1.heap.size := hz1
  have hrs := lg_st b0
  clear hb5 hHeld
  go_wp2_with (first
    | ((with_reducible refine wpList_load_on 24 _ rfl w.heap.size 0 ?hx7 [.int .i64 p.cap, .slice p.A p.n p.c, .int .i64 p.sure] _ rfl _ hrs Tryz.underlying24 ?hd7 (by kernel_rfl) ?_ ?hw7); (case hx7 => rfl); (case hd7 => rfl); (case hw7 => rfl))
    | ((with_reducible refine wpList_store_blk rfl 24 _ _ rfl (w.heap.size + 2) #[.int .i64 p.cap, .slice p.A p.n p.c, .int .i64 p.sure] ?hx4 ?hy4 24 _ b2 (size_st3 _ _ _) ?hs4 ?ho4 ?_); (case hx4 => rfl); (case hy4 => rfl); (case hs4 => rfl); (case ho4 => exact st_one _ _ _ _ _)
       intro wF hgF hXF hsF))
  have hbF := HB5.out.grown hgF HB5.out.size (fun k e => by cases e; omega)
  refine bodyPost_ret (v := .agg #[.int .i64 p.cap, .slice p.A p.n p.c, .int .i64 p.sure]) ?_ rfl ⟨p.A, p.n, p.c, by rw [HCP.out, HSU.out], HDT.out.below hbF, hbF⟩
  exact ret_store1 Tryz.results15 _ _ (w.heap.size + 2) 24 _ _ _ rfl hXF
set_option maxHeartbeats 4000000 in
theorem artorn_ok (p : Lp) (g : Lg) (u : En) (keep : Int) (w : World) (h : LgAt w p g) (hu : u.ok) (hm : mayG g = true) (he : mayE u = true) (hf : ¬ slotsG g ≤ g.l.length) :
    Calls Tryz.prog 15 #[.agg p.arr, enV u, .int .i64 keep] w (GSt (tornG g u keep) w) := by
  have HMY := Lib.hid (fun (X : World) (hX : Below w.heap.size w X) => armay_any p g X (h.below hX))
  have HEM := Lib.hid (fun (X : World) => ermay_any u X)
  have HSL := Lib.hid (fun X => arslots_any p X h.hlen h.fits)
  have HDT := Lib.hid h.data
  have HW := Lib.hid h.whole
  have HCP := Lib.hid h.cap
  have HSU := Lib.hid h.sure
  simp only [hm] at HMY
  simp only [he] at HEM
  have hnl := h.ents.len
  have hsl := slots_at h.fits
  have hsq : slotsG g = p.cap.tdiv 62 := by rw [slotsG, h.cap]
  obtain ⟨q, hq⟩ : ∃ q, p.cap.tdiv 62 = q := ⟨_, rfl⟩
  simp only [hq] at HSL hsl hsq
  have hqm : ¬ q ≤ (p.m : Int) := by rw [← hsq, ← hnl]; exact hf
  have hrl : (g.l.length : Int) < slotsG g := by omega
  obtain ⟨r1, r2, r3⟩ := recG_eq hm he
  have hw := write_rec hm he hrl
  have hwm := (write_may (mayG_iff.1 hm).1 hw).1
  have HRC := Lib.hid (fun (X : World) (hX : Below w.heap.size w X) => arrec_any p g u X (h.below hX) hu)
  have HWR := Lib.hid (show ∀ X A6 n6 c6, Below w.heap.size w X → Bts X A6 n6 c6 (recG g u) → Calls Tryz.prog 27 #[.agg #[.int .i64 p.cap, .slice p.A p.n p.c, .int .i64 p.sure], .slice A6 n6 c6] X fun e w' => ∃ A' n' c', e = .returned (.tuple #[.agg #[.int .i64 g.st.cap, .slice A' n' c', .int .i64 (62 * (g.l.length : Int))], .int .i64 0]) ∧ Bts w' A' n' c' (recsC (g.l ++ [u])) ∧ Loc p.A p.n A' n' X ∧ Below X.heap.size X w' from fun X A6 n6 c6 hX h6 => by
    have h0 := rwrite_any g.st (recG g u) p.A A6 p.n p.c n6 c6 X (h.data.below hX) h6
    rw [h.val, hw] at h0
    exact h0)
  have HCR := Lib.hid (show ∀ X A' n' c', Bts X A' n' c' (recsC (g.l ++ [u])) → Calls Tryz.prog 40 #[.agg #[.int .i64 g.st.cap, .slice A' n' c', .int .i64 (62 * (g.l.length : Int))], .int .i64 keep] X (GS (crashP ⟨g.st.cap, recsC (g.l ++ [u]), 62 * g.l.length⟩ keep) A' n' X) from fun X A' n' c' h6 => rcrash_any ⟨g.st.cap, recsC (g.l ++ [u]), 62 * g.l.length⟩ A' n' c' keep X h6)
  have HZL := Lib.hid (show (headC (g.l ++ [u])).length = 32 from headC_len _)
  simp only [r2] at HRC
  have hto : tornG g u keep = crashP ⟨g.st.cap, recsC (g.l ++ [u]), 62 * g.l.length⟩ keep := by rw [tornG, hm, he, decide_eq_true hrl, Bool.and_self, Bool.and_self, if_pos rfl, hw]
  rw [hto]
  obtain ⟨T, hT⟩ : ∃ T, crashP ⟨g.st.cap, recsC (g.l ++ [u]), 62 * g.l.length⟩ keep = T := ⟨_, rfl⟩
  simp only [hT] at HCR ⊢
  obtain ⟨C3, D3, S3⟩ := T
  have HCS := Lib.hid (show ∀ X A' n' c', Bts X A' n' c' (recsC (g.l ++ [u])) → Calls Tryz.prog 40 #[.agg #[.int .i64 g.st.cap, .slice A' n' c', .int .i64 (62 * (g.l.length : Int))], .int .i64 keep] X fun e w' => ∃ A2 n2 c2, e = .returned (.agg #[.int .i64 C3, .slice A2 n2 c2, .int .i64 S3]) ∧ Bts w' A2 n2 c2 D3 ∧ Loc A' n' A2 n2 X ∧ Below X.heap.size X w' from HCR.out)
  obtain ⟨C1, hC1⟩ : ∃ x, g.st.cap = x := ⟨_, rfl⟩
  simp only [hC1] at HWR HCS
  obtain ⟨D1, hD1⟩ : ∃ x, recsC (g.l ++ [u]) = x := ⟨_, rfl⟩
  simp only [hD1] at HWR HCS
  obtain ⟨S1, hS1⟩ : ∃ x, (62 * (g.l.length : Int)) = x := ⟨_, rfl⟩
  simp only [hS1] at HWR HCS
  obtain ⟨Z, hZ⟩ : ∃ x, headC (g.l ++ [u]) = x := ⟨_, rfl⟩
  simp only [hZ] at HRC HZL
  obtain ⟨RC, hRC⟩ : ∃ x, recG g u = x := ⟨_, rfl⟩
  simp only [hRC] at HRC HWR
  clear h hu hsq hq hnl hf r1 r2 r3 hw hwm hrl hC1 hD1 hS1 hZ hRC HCR hT hto
  unfold enV at HEM HRC ⊢
  go_enter Tryz.func15, Tryz.ntmps15
  go_wp2_with (first
    | ((with_reducible refine wpList_load_blk 29 _ rfl w.heap.size ?hx1 29 p.arr (0, 0) _ (first_of_c _ _ _ _) Tryz.underlying29 ?hd1 HW.out ?_ ?hw1); (case hx1 => rfl); (case hd1 => rfl); (case hw1 => rfl))
    | (go_at_call 16
       (with_reducible refine (HMY.out _ (three_below_c _ _ _ _)).mono ?_)
       rintro e w1 ⟨rfl, hb1⟩
       obtain ⟨hb0, y0, y1, y2⟩ := after_three_c hb1
       have hz1 : w.heap.size + 3 ≤ w1.heap.size := by have := hb1.size; simpa using this
       have b0 : w1.heap[w.heap.size]? = some (.cells p.arr 29 (0, 0)) := y0
       have b1 : w1.heap[w.heap.size + 1]? = some (.cells (enA u) 33 (0, 0)) := y1
       have b2 : w1.heap[w.heap.size + 2]? = some (.cells #[.int .i64 0, .slice none 0 0, .int .i64 0] 24 (0, 0)) := y2
       have HB1 := Lib.hid hb0
       clear hb1 hb0 y0 y1 y2)
    | ((with_reducible refine wpList_load_blk 33 _ rfl (w.heap.size + 1) ?hx2 33 (enA u) (0, 0) _ b1 Tryz.underlying33 ?hd2 (info_en (enA_size _)) ?_ ?hw2); (case hx2 => rfl); (case hd2 => rfl); (case hw2 => rfl))
    | (go_at_call 24
       (with_reducible refine (HEM.out _).mono ?_)
       rintro e w2 ⟨rfl, hbx⟩
       have b0 := blk_below b0 hbx
       have b1 := blk_below b1 hbx
       have b2 := blk_below b2 hbx
       have HB2 := Lib.hid (HB1.out.trans (hbx.mono HB1.out.size))
       have hz2 : w.heap.size + 3 ≤ w2.heap.size := Nat.le_trans hz1 hbx.size
       clear hbx hz1)
    | ((with_reducible refine wpList_load_blk 29 _ rfl w.heap.size ?hx3 29 p.arr (0, 0) _ b0 Tryz.underlying29 ?hd3 HW.out ?_ ?hw3); (case hx3 => rfl); (case hd3 => rfl); (case hw3 => rfl)))
  have hSd : (w2.drew.heap[w.heap.size]? = some (.cells p.arr 29 (0, 0)) ∧ w2.drew.heap[w.heap.size + 1]? = some (.cells (enA u) 33 (0, 0)) ∧ w2.drew.heap[w.heap.size + 2]? = some (.cells #[.int .i64 0, .slice none 0 0, .int .i64 0] 24 (0, 0)) ∧ Below w.heap.size w w2.drew) := ⟨blk_drew b0, blk_drew b1, blk_drew b2, HB2.out.drew⟩
  have hzd : w.heap.size + 3 ≤ w2.drew.heap.size := hz2
  clear b0 b1 b2 hz2
  refine wp_region_held_drew (S := (fun X => X.heap[w.heap.size]? = some (.cells p.arr 29 (0, 0)) ∧ X.heap[w.heap.size + 1]? = some (.cells (enA u) 33 (0, 0)) ∧ X.heap[w.heap.size + 2]? = some (.cells #[.int .i64 0, .slice none 0 0, .int .i64 0] 24 (0, 0)) ∧ Below w.heap.size w X)) (by kernel_rfl) hSd (fun hHeld => ?_)
  refine take_run 0 (.bool true) rfl (by kernel_rfl) (by kernel_rfl) (by kernel_rfl) (fun _ _ _ h => h) rfl hHeld (fun w => ?_) ?_
  · go_simp
  simp only [Act.put, List.setIfInBounds_toArray, List.set_cons_zero, List.set_cons_succ]
  refine take_run 1 (.bool false) rfl (by kernel_rfl) (by kernel_rfl) (by kernel_rfl) (fun _ _ _ h => h) rfl hHeld (fun w => ?_) ?_
  · go_simp
  simp only [Act.put, List.setIfInBounds_toArray, List.set_cons_zero, List.set_cons_succ]
  refine take_run 2 (.bool false) rfl (by kernel_rfl) (by kernel_rfl) (by kernel_rfl) (fun _ _ _ h => h) rfl hHeld (fun w => ?_) ?_
  · go_simp
  simp only [Act.put, List.setIfInBounds_toArray, List.set_cons_zero, List.set_cons_succ]
  refine take_run 3 (.bool true) rfl (by kernel_rfl) (by kernel_rfl) (by kernel_rfl) (fun _ _ _ h => h) rfl hHeld (fun w => ?_) ?_
  · go_simp
  simp only [Act.put, List.setIfInBounds_toArray, List.set_cons_zero, List.set_cons_succ]
  refine take_run 4 (.bool false) rfl (by kernel_rfl) (by kernel_rfl) (by kernel_rfl) (fun _ _ _ h => h) rfl hHeld (fun w => ?_) ?_
  · go_simp
  simp only [Act.put, List.setIfInBounds_toArray, List.set_cons_zero, List.set_cons_succ]
  refine take_run 5 (.bool false) rfl (by kernel_rfl) (by kernel_rfl) (by kernel_rfl) (fun _ _ _ h => h) rfl hHeld (fun w => ?_) ?_
  · go_simp
  simp only [Act.put, List.setIfInBounds_toArray, List.set_cons_zero, List.set_cons_succ]
  refine take_run 6 (.bool false) rfl (by kernel_rfl) (by kernel_rfl) (by kernel_rfl) (fun _ _ _ h => h) rfl hHeld (fun w => ?_) ?_
  · go_simp
  simp only [Act.put, List.setIfInBounds_toArray, List.set_cons_zero, List.set_cons_succ]
  refine take_run 7 (.pointer (some ⟨w.heap.size, 3, none⟩)) rfl (by kernel_rfl) (by kernel_rfl) (by kernel_rfl) (fun _ _ _ h => h) rfl hHeld (fun w => ?_) ?_
  · go_simp
  simp only [Act.put, List.setIfInBounds_toArray, List.set_cons_zero, List.set_cons_succ]
  refine take_if 8 (.slice p.B p.m p.d) rfl (by kernel_rfl) (by kernel_rfl) (by kernel_rfl) (fun _ _ _ h => h) rfl hHeld (fun w' hw' => ?_) ?_
  · have hq := (lg_cells hw'.1).2.2.2
    go_simp
  simp only [Act.put, List.setIfInBounds_toArray, List.set_cons_zero, List.set_cons_succ]
  refine take_run 9 (.int .i64 p.m) rfl (by kernel_rfl) (by kernel_rfl) (by kernel_rfl) (fun _ _ _ h => h) rfl hHeld (fun w => ?_) ?_
  · go_simp
  simp only [Act.put, List.setIfInBounds_toArray, List.set_cons_zero, List.set_cons_succ]
  refine take_blk 10 29 _ w.heap.size 29 _ (0, 0) _ rfl rfl rfl (by kernel_rfl) (by kernel_rfl) (by kernel_rfl) (fun _ _ _ h => h) rfl hHeld (fun X hX => hX.1) Tryz.underlying29 rfl HW.out ?_
  simp only [Act.put, List.setIfInBounds_toArray, List.set_cons_zero, List.set_cons_succ]
  refine one_step 11 (by kernel_rfl) rfl (fun Kq hKq => ?_)
  go_simp
  go_at_call 25
  refine (HSL.out _).mono ?_
  rintro e y1 ⟨rfl, hbx⟩
  have hS1 : (y1.heap[w.heap.size]? = some (.cells p.arr 29 (0, 0)) ∧ y1.heap[w.heap.size + 1]? = some (.cells (enA u) 33 (0, 0)) ∧ y1.heap[w.heap.size + 2]? = some (.cells #[.int .i64 0, .slice none 0 0, .int .i64 0] 24 (0, 0)) ∧ Below w.heap.size w y1) := ⟨blk_below hSd.1 hbx, blk_below hSd.2.1 hbx, blk_below hSd.2.2.1 hbx, hSd.2.2.2.trans (hbx.mono hSd.2.2.2.size)⟩
  have hz1 : w.heap.size + 3 ≤ y1.heap.size := Nat.le_trans hzd hbx.size
  clear hbx
  refine hKq.out _ _ hS1 (fun hHeld0 => ?_)
  clear hKq Kq hHeld
  have hHeld := hHeld0
  clear hHeld0
  try simp only [Act.put, List.setIfInBounds_toArray, List.set_cons_zero, List.set_cons_succ]
  refine take_run 12 (.bool false) rfl (by kernel_rfl) (by kernel_rfl) (by kernel_rfl) (fun _ _ _ h => h) rfl hHeld (fun w => ?_) ?_
  · go_simp
  simp only [Act.put, List.setIfInBounds_toArray, List.set_cons_zero, List.set_cons_succ]
  refine take_run 13 (.bool false) rfl (by kernel_rfl) (by kernel_rfl) (by kernel_rfl) (fun _ _ _ h => h) rfl hHeld (fun w => ?_) ?_
  · go_simp
  simp only [Act.put, List.setIfInBounds_toArray, List.set_cons_zero, List.set_cons_succ]
  refine wpAnyH_done (by kernel_rfl) ?_ _
  obtain ⟨b0, b1, b2, hb5⟩ := hS1
  have HB5 := Lib.hid hb5
  have hz5 : w.heap.size + 3 ≤ y1.heap.size := hz1
  have hrs := lg_st b0
  clear hb5 hHeld
  go_wp2_with (first
    | ((with_reducible refine wpList_load_blk 29 _ rfl w.heap.size ?hx3 29 p.arr (0, 0) _ b0 Tryz.underlying29 ?hd3 HW.out ?_ ?hw3); (case hx3 => rfl); (case hd3 => rfl); (case hw3 => rfl))
    | ((with_reducible refine wpList_load_blk 33 _ rfl (w.heap.size + 1) ?hx5 33 (enA u) (0, 0) _ b1 Tryz.underlying33 ?hd5 (info_en (enA_size _)) ?_ ?hw5); (case hx5 => rfl); (case hd5 => rfl); (case hw5 => rfl))
    | (go_at_call 26
       (with_reducible refine (HRC.out _ HB5.out).mono ?_)
       rintro e w6 ⟨A6, n6, c6, rfl, hbt, hloc, hbx⟩
       have HD6 := Lib.hid hbt
       have b0 := blk_below b0 hbx
       have b1 := blk_below b1 hbx
       have b2 := blk_below b2 hbx
       have HB6 := Lib.hid (HB5.out.trans (hbx.mono HB5.out.size))
       have hz6 : w.heap.size + 3 ≤ w6.heap.size := Nat.le_trans hz5 hbx.size
       clear hbx hbt hloc hz5)
    | ((with_reducible refine wpList_store_blk rfl 27 _ _ rfl w6.heap.size (idv Z) ?hx6 ?hy6 27 _ (heap_alloc_new w6 _) (info32 HZL.out) ?hs6 (idv_one _) ?_); (case hx6 => rfl); (case hy6 => rfl); (case hs6 => rw [idv_size, HZL.out]; rfl)
       intro w7 hg7 hX hs7
       have hX : RowB w7 w6.heap.size 27 Z := hX
       have hbx : Below w6.heap.size w6 w7 := Below.grows (one_alloc w6 _) hg7 (size_le_alloc _ _) (Nat.le_refl _)
       have HD6 := Lib.hid (HD6.out.below hbx)
       have b0 := blk_below b0 hbx
       have b1 := blk_below b1 hbx
       have b2 := blk_below b2 hbx
       have hrs := lg_st b0
       have HB7 := Lib.hid (HB6.out.trans (hbx.mono HB6.out.size))
       have hz7 : w.heap.size + 3 ≤ w7.heap.size := Nat.le_trans hz6 hbx.size
       clear hbx hg7 hs7)
    | ((with_reducible refine wpList_load_on 24 _ rfl w.heap.size 0 ?hx7 [.int .i64 p.cap, .slice p.A p.n p.c, .int .i64 p.sure] _ rfl _ hrs Tryz.underlying24 ?hd7 (by kernel_rfl) ?_ ?hw7); (case hx7 => rfl); (case hd7 => rfl); (case hw7 => rfl))
    | (go_at_call 27
       (with_reducible refine (HWR.out _ A6 n6 c6 HB7.out HD6.out).mono ?_)
       rintro e w8 ⟨A8, n8, c8, rfl, hbt, hloc, hbx⟩
       have hf8 := loc_far HDT.out hloc hz7
       have HD8 := Lib.hid hbt
       have b0 := blk_below b0 hbx
       have b1 := blk_below b1 hbx
       have b2 := blk_below b2 hbx
       have hX := hX.keep hbx
       have HB8 := Lib.hid (HB7.out.trans (hbx.mono HB7.out.size))
       have hz8 : w.heap.size + 3 ≤ w8.heap.size := Nat.le_trans hz7 hbx.size
       clear hbx hbt hloc hz7 hrs)
    | (go_at_call 40
       (with_reducible refine (HCS.out _ A8 n8 c8 (HD8.out.below (one_alloc w8 _))).mono ?_)
       rintro e w9 ⟨A9, n9, c9, rfl, hbt, hloc, hbx⟩
       have hf9 := loc_far2 hf8 hloc (Nat.le_trans hz8 (size_le_alloc _ _))
       have HD9 := Lib.hid hbt
       have b2 := blk_below (blk_below b2 (one_alloc w8 _)) hbx
       have HB9 := Lib.hid ((HB8.out.alloc HB8.out.size _).trans (hbx.mono (HB8.out.alloc HB8.out.size _).size))
       clear hbx hbt hloc hz8 hf8)
    | ((with_reducible refine wpList_store_blk rfl 24 _ _ rfl (w.heap.size + 2) #[.int .i64 C3, .slice A9 n9 c9, .int .i64 S3] ?hx4 ?hy4 24 _ b2 (size_st3 _ _ _) ?hs4 ?ho4 ?_); (case hx4 => rfl); (case hy4 => rfl); (case hs4 => rfl); (case ho4 => exact st_one _ _ _ _ _)
       intro wF hgF hXF hsF))
  have hbF := HB9.out.grown hgF HB9.out.size (fun k e => by cases e; omega)
  have hdF := HD9.out.kept hf9 hgF (by omega) (by omega)
  refine bodyPost_ret (v := .agg #[.int .i64 C3, .slice A9 n9 c9, .int .i64 S3]) ?_ rfl ⟨A9, n9, c9, rfl, hdF, hbF⟩
  exact ret_store1 Tryz.results15 _ _ (w.heap.size + 2) 24 _ _ _ rfl hXF
theorem artorn_any (p : Lp) (g : Lg) (u : En) (keep : Int) (w : World) (h : LgAt w p g) (hu : u.ok) : Calls Tryz.prog 15 #[.agg p.arr, enV u, .int .i64 keep] w (GSt (tornG g u keep) w) := by
  cases hm : mayG g with
  | false => rw [show tornG g u keep = g.st by rw [tornG, hm]; rfl]; exact artorn_one p g u keep w h hu hm
  | true =>
    cases he : mayE u with
    | false => rw [show tornG g u keep = g.st by rw [tornG, he]; simp]; exact artorn_two p g u keep w h hu hm he
    | true =>
      by_cases hf : slotsG g ≤ g.l.length
      · rw [show tornG g u keep = g.st by rw [tornG, decide_eq_false (by omega)]; simp]; exact artorn_full p g u keep w h hu hm he hf
      · exact artorn_ok p g u keep w h hu hm he hf
end Go.Proofs.YtafmompplcaadaaGreatDoor

/- The walks over package store's New, and the document's. -/
namespace Go.Proofs.YtafmompplcaadaaGreatDoor
set_option maxRecDepth 100000
set_option linter.unusedVariables false
set_option linter.unusedSimpArgs false
open Go.RowKit

theorem one_set3 {w w1 : World} (h : Below w.heap.size w w1) (x y z : Value) : Below w.heap.size w (((w1.setCell ⟨w.heap.size, 0, none⟩ x).setCell ⟨w.heap.size, 1, none⟩ y).setCell ⟨w.heap.size, 2, none⟩ z) := set3_below h (Nat.le_refl _) _ _ _
set_option maxHeartbeats 1000000 in
theorem rstnew_any (room : Int) (w : World) :
    Calls Tryz.prog 36 #[.int .i64 room] w (GSB (newP room) w) := by
  by_cases h1 : room < 0
  · have HR := Lib.hid (show newP room = (⟨0, [], 0⟩, false) from by rw [newP, if_neg (by omega)])
    go_enter Tryz.func36, Tryz.ntmps36
    go_wp2
    refine bodyPost_ret (v := .tuple #[.agg #[.int .i64 0, .slice none 0 0, .int .i64 0], .bool false]) ?_ ?_ ?_
    · exact ret_store Tryz.results36 _ _ w.heap.size 24 _ _ _ _ rfl (heap_alloc_new w _) rfl
    · rfl
    · rw [HR.out]
      exact ⟨rfl, one_alloc _ _⟩
  · by_cases h2 : 16384 < room
    · have HR := Lib.hid (show newP room = (⟨0, [], 0⟩, false) from by rw [newP, if_neg (by omega)])
      go_enter Tryz.func36, Tryz.ntmps36
      go_wp2
      refine bodyPost_ret (v := .tuple #[.agg #[.int .i64 0, .slice none 0 0, .int .i64 0], .bool false]) ?_ ?_ ?_
      · exact ret_store Tryz.results36 _ _ w.heap.size 24 _ _ _ _ rfl (heap_alloc_new w _) rfl
      · rfl
      · rw [HR.out]
        exact ⟨rfl, one_alloc _ _⟩
    · have HR := Lib.hid (show newP room = (⟨room, [], 0⟩, true) from by rw [newP, if_pos (by omega)])
      go_enter Tryz.func36, Tryz.ntmps36
      go_wp2
      refine bodyPost_ret (v := .tuple #[.agg #[.int .i64 room, .slice none 0 0, .int .i64 0], .bool true]) ?_ ?_ ?_
      · exact ret_store Tryz.results36 _ _ w.heap.size 24 _ _ _ _ rfl (heap_alloc_new w _) rfl
      · rfl
      · rw [HR.out]
        exact ⟨rfl, one_alloc _ _⟩
set_option maxHeartbeats 1000000 in
theorem stnew_any (room : Int) (w : World) :
    Calls Tryz.prog 34 #[.int .i64 room] w (GSB (newP room) w) := by
  cases hm : mayT room 0 0 with
  | false =>
    have hno : ¬ (0 ≤ room ∧ room ≤ 16384) := fun h => by
      have := mayT_iff.2 (show 0 ≤ room ∧ room ≤ 16384 ∧ ((0 : Nat) : Int) ≤ room ∧ (0 : Int) ≤ 0 ∧ (0 : Int) ≤ ((0 : Nat) : Int) from ⟨h.1, h.2, h.1, Int.le_refl _, Int.le_refl _⟩)
      rw [hm] at this
      cases this
    have HR := Lib.hid (show newP room = (⟨0, [], 0⟩, false) from by rw [newP, if_neg hno])
    have HM := Lib.hid hm
    clear hm hno
    go_enter Tryz.func34, Tryz.ntmps34
    go_wp2_with (go_at_call 42
                 (with_reducible refine (stmay_any _ none 0 0 _ _ (by omega)).mono ?_)
                 rintro e w2 ⟨he, hb2⟩
                 rw [HM.out] at he
                 subst he
                 obtain ⟨hB2, hs2, y1, y2⟩ := after_two hb2
                 have HX2 := Lib.hid (show BoxT w2 w.heap.size 24 0 none 0 0 0 from y1)
                 obtain ⟨z0, z1, z2⟩ := HX2.out.cells
                 have g0 := HX2.out.free 0
                 have g1 := HX2.out.free 1
                 have g2 := HX2.out.free 2
                 have HB2 := Lib.hid hB2
                 clear hb2 hB2 hs2 y1 y2)
    refine bodyPost_ret (v := .tuple #[.agg #[.int .i64 0, .slice none 0 0, .int .i64 0], .bool false]) ?_ ?_ ?_
    · exact ret_store Tryz.results34 _ _ w.heap.size 24 _ _ _ _ rfl (set3_heap _ _ _ HX2.out) rfl
    · rfl
    · rw [HR.out]
      exact ⟨rfl, one_set3 HB2.out _ _ _⟩
  | true =>
    obtain ⟨q1, q2, -, -, -⟩ := mayT_iff.1 hm
    have HR := Lib.hid (show newP room = (⟨room, [], 0⟩, true) from by rw [newP, if_pos ⟨q1, q2⟩])
    have HM := Lib.hid hm
    clear hm q1 q2
    go_enter Tryz.func34, Tryz.ntmps34
    go_wp2_with (go_at_call 42
                 (with_reducible refine (stmay_any _ none 0 0 _ _ (by omega)).mono ?_)
                 rintro e w2 ⟨he, hb2⟩
                 rw [HM.out] at he
                 subst he
                 obtain ⟨hB2, hs2, y1, y2⟩ := after_two hb2
                 have HX2 := Lib.hid (show BoxT w2 w.heap.size 24 0 none 0 0 0 from y1)
                 have HF2 := Lib.hid (show BoxT w2 (w.heap.size + 1) 24 room none 0 0 0 from y2)
                 obtain ⟨z0, z1, z2⟩ := HX2.out.cells
                 obtain ⟨x0, x1, x2⟩ := HF2.out.cells
                 have g0 := HX2.out.free 0
                 have g1 := HX2.out.free 1
                 have g2 := HX2.out.free 2
                 have HB2 := Lib.hid hB2
                 clear hb2 hB2 hs2 y1 y2)
    refine bodyPost_ret (v := .tuple #[.agg #[.int .i64 room, .slice none 0 0, .int .i64 0], .bool true]) ?_ ?_ ?_
    · exact ret_store Tryz.results34 _ _ w.heap.size 24 _ _ _ _ rfl (set3_heap _ _ _ HX2.out) rfl
    · rfl
    · rw [HR.out]
      exact ⟨rfl, one_set3 HB2.out _ _ _⟩
end Go.Proofs.YtafmompplcaadaaGreatDoor

/- The walk over the document's New of a log. -/
namespace Go.Proofs.YtafmompplcaadaaGreatDoor
set_option maxRecDepth 100000
set_option linter.unusedVariables false
set_option linter.unusedSimpArgs false
open Go.RowKit

theorem new_log (room : Int) : newG room = (if 0 ≤ room ∧ room ≤ 16384 then (⟨⟨room, [], 0⟩, [], startC⟩, true) else (zeroG, false)) := rfl
theorem start_at (w : World) (room : Int) (h : 0 ≤ room ∧ room ≤ 16384) : LgAt w ⟨room, none, 0, 0, 0, none, 0, 0, headC []⟩ ⟨⟨room, [], 0⟩, [], headC []⟩ := ⟨rfl, rfl, rfl, Bts.nil w, Ens.nil w, ⟨fun u hu => (by cases hu), headC_len _, headC_byte _⟩, by simp only; omega⟩
set_option maxHeartbeats 2000000 in
theorem arnew_no (room : Int) (w : World) (h : ¬ (0 ≤ room ∧ room ≤ 16384)) : Calls Tryz.prog 11 #[.int .i64 room] w (GLB (zeroG, false) w) := by
  have HNW := Lib.hid (show ∀ X, Calls Tryz.prog 36 #[.int .i64 room] X fun e w' => e = .returned (.tuple #[.agg #[.int .i64 0, .slice none 0 0, .int .i64 0], .bool false]) ∧ Below X.heap.size X w' from fun X => by
    have h0 := rstnew_any room X
    rw [show newP room = (⟨0, [], 0⟩, false) by rw [newP, if_neg h]] at h0
    exact h0)
  have hbox := heap_alloc_new w (.cells Lp.zero.arr 29 (0, 0))
  have HB0 := Lib.hid (one_alloc w (.cells Lp.zero.arr 29 (0, 0)))
  have HZS := Lib.hid (info_log (C := Lp.zero.arr) (lp_size rfl))
  clear h
  go_enter Tryz.func11, Tryz.ntmps11
  go_wp2_with (first
    | (go_at_call 36
       (with_reducible refine (HNW.out _).mono ?_)
       rintro e w1 ⟨rfl, hb1⟩
       have hb1 : Below (w.alloc (.cells Lp.zero.arr 29 (0, 0))).heap.size (w.alloc (.cells Lp.zero.arr 29 (0, 0))) w1 := hb1
       have hbox := blk_below hbox hb1
       have HB1 := Lib.hid (HB0.out.trans (hb1.mono HB0.out.size))
       clear hb1)
    | ((with_reducible refine wpList_build_to rfl 29 _ rfl [] _ rfl built_zero_g ?_))
    | ((with_reducible refine wpList_store_blk rfl 29 _ _ rfl w.heap.size Lp.zero.arr ?hx3 ?hy3 29 _ (blk_below hbox (one_alloc w1 _)) HZS.out ?hs3 (lp_one _) ?_); (case hx3 => rfl); (case hy3 => rfl); (case hs3 => rfl)
       intro w3 hg3 hX3 hs3
       have HB3 := Lib.hid ((HB1.out.alloc HB1.out.size _).grown hg3 (HB1.out.alloc HB1.out.size _).size (fun k e => by cases e; exact Nat.le_refl _))
       clear hg3 hs3))
  refine bodyPost_ret (v := .tuple #[.agg Lp.zero.arr, .bool false]) ?_ rfl ⟨Lp.zero, rfl, zero_at _, HB3.out⟩
  exact results_blk_tmp Tryz.results11 _ _ _ w.heap.size 29 _ (0, 0) _ rfl hX3 Tryz.underlying29 rfl HZS.out _ rfl
set_option maxHeartbeats 2000000 in
theorem arnew_yes (room : Int) (w : World) (h : 0 ≤ room ∧ room ≤ 16384) : Calls Tryz.prog 11 #[.int .i64 room] w (GLB (⟨⟨room, [], 0⟩, [], headC []⟩, true) w) := by
  have HNW := Lib.hid (show ∀ X, Calls Tryz.prog 36 #[.int .i64 room] X fun e w' => e = .returned (.tuple #[.agg #[.int .i64 room, .slice none 0 0, .int .i64 0], .bool true]) ∧ Below X.heap.size X w' from fun X => by
    have h0 := rstnew_any room X
    rw [show newP room = (⟨room, [], 0⟩, true) by rw [newP, if_pos h]] at h0
    exact h0)
  have hbox := heap_alloc_new w (.cells Lp.zero.arr 29 (0, 0))
  have HB0 := Lib.hid (one_alloc w (.cells Lp.zero.arr 29 (0, 0)))
  have HSA := Lib.hid (fun X => start_at X room h)
  obtain ⟨Z, hZ⟩ : ∃ Z, headC [] = Z := ⟨_, rfl⟩
  have HZL := Lib.hid (show Z.length = 32 by rw [← hZ]; exact headC_len _)
  have HHD := Lib.hid (show ∀ X, Calls Tryz.prog 37 #[.slice none 0 0] X fun e w' => e = .returned (.agg (idv Z)) ∧ Below X.heap.size X w' from fun X => by
    rw [← hZ]; exact rheadc_any none 0 0 [] X (Ens.nil X) rfl (fun u hu => by cases hu))
  rw [hZ] at HSA ⊢
  have HBU := Lib.hid (built_new ⟨room, none, 0, 0, 0, none, 0, 0, Z⟩ HZL.out)
  simp only at HBU
  obtain ⟨R, hR⟩ : ∃ R, (Lp.arr ⟨room, none, 0, 0, 0, none, 0, 0, Z⟩) = R := ⟨_, rfl⟩
  have HRS := Lib.hid (show R.size = 36 by rw [← hR]; exact lp_size HZL.out)
  have HRO := Lib.hid (show R.all (·.oneCell') = true by rw [← hR]; exact lp_one _)
  have HR := Lib.hid hR
  rw [hR] at HBU
  clear h hZ hR
  go_enter Tryz.func11, Tryz.ntmps11
  go_wp2_with (first
    | (go_at_call 36
       (with_reducible refine (HNW.out _).mono ?_)
       rintro e w1 ⟨rfl, hb1⟩
       have hb1 : Below (w.alloc (.cells Lp.zero.arr 29 (0, 0))).heap.size (w.alloc (.cells Lp.zero.arr 29 (0, 0))) w1 := hb1
       have hlt : w.heap.size < w1.heap.size := Nat.lt_of_lt_of_le (by simp) hb1.size
       have hbox := blk_below hbox hb1
       have HB1 := Lib.hid (HB0.out.trans (hb1.mono HB0.out.size))
       clear hb1))
  have hbod := blk_drew (blk_below hbox (one_alloc w1 (.cells #[.int .i64 room, .slice none 0 0, .int .i64 0] 24 (0, 0))))
  have hS := heap_alloc_new w1 (.cells #[.int .i64 room, .slice none 0 0, .int .i64 0] 24 (0, 0))
  have hSd : (w1.alloc (.cells #[.int .i64 room, .slice none 0 0, .int .i64 0] 24 (0, 0))).drew.heap[w1.heap.size]? = some (.cells #[.int .i64 room, .slice none 0 0, .int .i64 0] 24 (0, 0)) ∧ Below w.heap.size w (w1.alloc (.cells #[.int .i64 room, .slice none 0 0, .int .i64 0] 24 (0, 0))).drew := ⟨blk_drew hS, (HB1.out.alloc HB1.out.size _).drew⟩
  clear hS hbox
  refine wp_region_held_drew (S := fun X => X.heap[w1.heap.size]? = some (.cells #[.int .i64 room, .slice none 0 0, .int .i64 0] 24 (0, 0)) ∧ Below w.heap.size w X) (by kernel_rfl) hSd (fun hHeld => ?_)
  refine take_blk 0 24 _ w1.heap.size 24 _ (0, 0) _ rfl rfl rfl (by kernel_rfl) (by kernel_rfl) (by kernel_rfl) (fun _ _ _ h => h) rfl hHeld (fun X hX => hX.1) Tryz.underlying24 rfl size_st ?_
  simp only [Act.put, List.setIfInBounds_toArray, List.set_cons_zero, List.set_cons_succ]
  refine one_step 1 (by kernel_rfl) rfl (fun Kq hKq => ?_)
  go_simp
  go_at_call 37
  refine (HHD.out _).mono ?_
  rintro e y1 ⟨rfl, hbx⟩
  have hS1 : y1.heap[w1.heap.size]? = some (.cells #[.int .i64 room, .slice none 0 0, .int .i64 0] 24 (0, 0)) ∧ Below w.heap.size w y1 := ⟨blk_below hSd.1 hbx, hSd.2.trans (hbx.mono hSd.2.size)⟩
  have hboy := blk_below hbod hbx
  refine hKq.out _ _ hS1 (fun hHeld0 => ?_)
  clear hKq Kq hHeld hbx hbod
  have hHeld := hHeld0
  clear hHeld0
  try simp only [Act.put, List.setIfInBounds_toArray, List.set_cons_zero, List.set_cons_succ]
  refine take_build 2 29 _ _ R rfl rfl rfl HBU.out (by kernel_rfl) (by kernel_rfl) (by kernel_rfl) (fun _ _ _ h => h) rfl hHeld ?_
  simp only [Act.put, List.setIfInBounds_toArray, List.set_cons_zero, List.set_cons_succ]
  refine one_step 3 (by kernel_rfl) rfl (fun Kq hKq => ?_)
  refine step_store_row 29 _ _ rfl w.heap.size R rfl rfl 29 _ hboy (info_log HRS.out) (by rw [HRS.out]; rfl) HRO.out rfl ?_
  intro w3 hg3 hX3 hs3
  have hS3 : w3.heap[w1.heap.size]? = some (.cells #[.int .i64 room, .slice none 0 0, .int .i64 0] 24 (0, 0)) ∧ Below w.heap.size w w3 := ⟨blk_other hS1.1 hg3 (by omega), hS1.2.grown hg3 hS1.2.size (fun k e => by cases e; exact Nat.le_refl _)⟩
  refine hKq.out _ _ hS3 (fun hHeld0 => ?_)
  clear hKq Kq hHeld
  have hHeld := hHeld0
  clear hHeld0
  try simp only [Act.put, List.setIfInBounds_toArray, List.set_cons_zero, List.set_cons_succ]
  refine take_run 4 (.bool true) rfl (by kernel_rfl) (by kernel_rfl) (by kernel_rfl) (fun _ _ _ h => h) rfl hHeld (fun w => ?_) ?_
  · go_simp
  simp only [Act.put, List.setIfInBounds_toArray, List.set_cons_zero, List.set_cons_succ]
  refine wpAnyH_done (by kernel_rfl) ?_ _
  go_wp2
  have HBE := Lib.hid hS3.2
  refine bodyPost_ret (v := .tuple #[.agg R, .bool true]) ?_ rfl ⟨⟨room, none, 0, 0, 0, none, 0, 0, Z⟩, by rw [HR.out], HSA.out _, HBE.out⟩
  exact results_blk_tmp Tryz.results11 _ _ _ w.heap.size 29 _ (0, 0) _ rfl hX3 Tryz.underlying29 rfl (info_log HRS.out) _ rfl
theorem arnew_any (room : Int) (w : World) : Calls Tryz.prog 11 #[.int .i64 room] w (GLB (newG room) w) := by
  by_cases h : 0 ≤ room ∧ room ≤ 16384
  · rw [newG, if_pos h]; exact arnew_yes room w h
  · rw [newG, if_neg h]; exact arnew_no room w h
end Go.Proofs.YtafmompplcaadaaGreatDoor

/- The walk over the document's Same of logs. -/
namespace Go.Proofs.YtafmompplcaadaaGreatDoor
set_option maxRecDepth 100000
set_option linter.unusedVariables false
set_option linter.unusedSimpArgs false
open Go.RowKit

theorem boxes_log (w : World) (P Q : Array Value) : (w.alloc (.cells P 29 (0, 0))).heap.size = w.heap.size + 1 ∧ ((w.alloc (.cells P 29 (0, 0))).alloc (.cells Q 29 (0, 0))).heap[w.heap.size]? = some (.cells P 29 (0, 0)) ∧ ((w.alloc (.cells P 29 (0, 0))).alloc (.cells Q 29 (0, 0))).heap[w.heap.size + 1]? = some (.cells Q 29 (0, 0)) := by
  have h0 : (w.alloc (.cells P 29 (0, 0))).heap.size = w.heap.size + 1 := by simp
  have h1 := heap_alloc_new w (.cells P 29 (0, 0))
  have h2 := heap_alloc_new (w.alloc (.cells P 29 (0, 0))) (.cells Q 29 (0, 0))
  rw [h0] at h2
  exact ⟨h0, ((one_alloc (w.alloc (.cells P 29 (0, 0))) (.cells Q 29 (0, 0))).block _ (Array.getElem?_eq_some_iff.1 h1).1).trans h1, h2⟩
set_option maxHeartbeats 2000000 in
theorem arsame_st (p q : Lp) (a b : Lg) (w : World) (ha : LgAt w p a) (hb : LgAt w q b) (hs : sameP a.st b.st = false) :
    Calls Tryz.prog 12 #[.agg p.arr, .agg q.arr] w (GBe false w) := by
  have hHL := ha.hlen
  have hHL2 := hb.hlen
  have HSM := Lib.hid (show ∀ X, Below w.heap.size w X → Calls Tryz.prog 13 #[.agg #[.int .i64 p.cap, .slice p.A p.n p.c, .int .i64 p.sure], .agg #[.int .i64 q.cap, .slice q.A q.n q.c, .int .i64 q.sure]] X (GBool (sameP a.st b.st) X) from fun X hX => by
    have h0 := rstsame_any a.st b.st p.A q.A p.n p.c q.n q.c X (ha.data.below hX) (hb.data.below hX)
    rw [ha.val, hb.val] at h0
    exact h0)
  have HES := Lib.hid (fun (X : World) (hX : Below w.heap.size w X) => ersame_any p.B p.m p.d a.l q.B q.m q.d b.l X (ha.ents.below hX) (hb.ents.below hX))
  obtain ⟨hz, hbox, hboy⟩ := boxes_log w p.arr q.arr
  have HB0 := Lib.hid (two_below w (.cells p.arr 29 (0, 0)) (.cells q.arr 29 (0, 0)))
  have hrs := lg_st hbox
  have hrt := lg_st hboy
  rw [hs] at HSM
  clear ha hb hz
  go_enter Tryz.func12, Tryz.ntmps12
  go_wp2_with (first
    | ((with_reducible refine wpList_load_on 24 _ rfl w.heap.size 0 ?hx1 [.int .i64 p.cap, .slice p.A p.n p.c, .int .i64 p.sure] _ rfl _ hrs Tryz.underlying24 ?hd1 (by kernel_rfl) ?_ ?hw1); (case hx1 => rfl); (case hd1 => rfl); (case hw1 => rfl))
    | ((with_reducible refine wpList_load_on 24 _ rfl (w.heap.size + 1) 0 ?hx2 [.int .i64 q.cap, .slice q.A q.n q.c, .int .i64 q.sure] _ rfl _ hrt Tryz.underlying24 ?hd2 (by kernel_rfl) ?_ ?hw2); (case hx2 => rfl); (case hd2 => rfl); (case hw2 => rfl))
    | (go_at_call 13
       (with_reducible refine (HSM.out _ HB0.out).mono ?_)
       rintro e w1 ⟨rfl, hb1⟩
       have hb1 : Below ((w.alloc (.cells p.arr 29 (0, 0))).alloc (.cells q.arr 29 (0, 0))).heap.size ((w.alloc (.cells p.arr 29 (0, 0))).alloc (.cells q.arr 29 (0, 0))) w1 := hb1
       have hbox := (hb1.block _ (Array.getElem?_eq_some_iff.1 hbox).1).trans hbox
       have hboy := (hb1.block _ (Array.getElem?_eq_some_iff.1 hboy).1).trans hboy
       obtain ⟨x0, x1, x2, x3⟩ := lg_cells hbox
       obtain ⟨y0, y1, y2, y3⟩ := lg_cells hboy
       have HB1 := Lib.hid (HB0.out.trans (hb1.mono HB0.out.size))
       clear hb1)
    | (go_at_call 38
       (with_reducible refine (HES.out _ HB1.out).mono ?_)
       rintro e w2 ⟨rfl, hbx⟩
       have hbox := (hbx.block _ (Array.getElem?_eq_some_iff.1 hbox).1).trans hbox
       have hboy := (hbx.block _ (Array.getElem?_eq_some_iff.1 hboy).1).trans hboy
       have hrh := lg_head hbox
       have hrk := lg_head hboy
       clear x0 x1 x2 x3 y0 y1 y2 y3
       have HB2 := Lib.hid (HB1.out.trans (hbx.mono HB1.out.size))
       clear hbx))
  go_ret
  exact ⟨rfl, HB2.out⟩
set_option maxHeartbeats 2000000 in
theorem arsame_en (p q : Lp) (a b : Lg) (w : World) (ha : LgAt w p a) (hb : LgAt w q b) (hs : sameP a.st b.st = true) (he : sameE a.l b.l = false) :
    Calls Tryz.prog 12 #[.agg p.arr, .agg q.arr] w (GBe false w) := by
  have hHL := ha.hlen
  have hHL2 := hb.hlen
  have HSM := Lib.hid (show ∀ X, Below w.heap.size w X → Calls Tryz.prog 13 #[.agg #[.int .i64 p.cap, .slice p.A p.n p.c, .int .i64 p.sure], .agg #[.int .i64 q.cap, .slice q.A q.n q.c, .int .i64 q.sure]] X (GBool (sameP a.st b.st) X) from fun X hX => by
    have h0 := rstsame_any a.st b.st p.A q.A p.n p.c q.n q.c X (ha.data.below hX) (hb.data.below hX)
    rw [ha.val, hb.val] at h0
    exact h0)
  have HES := Lib.hid (fun (X : World) (hX : Below w.heap.size w X) => ersame_any p.B p.m p.d a.l q.B q.m q.d b.l X (ha.ents.below hX) (hb.ents.below hX))
  obtain ⟨hz, hbox, hboy⟩ := boxes_log w p.arr q.arr
  have HB0 := Lib.hid (two_below w (.cells p.arr 29 (0, 0)) (.cells q.arr 29 (0, 0)))
  have hrs := lg_st hbox
  have hrt := lg_st hboy
  rw [hs] at HSM
  rw [he] at HES
  clear ha hb hz
  go_enter Tryz.func12, Tryz.ntmps12
  go_wp2_with (first
    | ((with_reducible refine wpList_load_on 24 _ rfl w.heap.size 0 ?hx1 [.int .i64 p.cap, .slice p.A p.n p.c, .int .i64 p.sure] _ rfl _ hrs Tryz.underlying24 ?hd1 (by kernel_rfl) ?_ ?hw1); (case hx1 => rfl); (case hd1 => rfl); (case hw1 => rfl))
    | ((with_reducible refine wpList_load_on 24 _ rfl (w.heap.size + 1) 0 ?hx2 [.int .i64 q.cap, .slice q.A q.n q.c, .int .i64 q.sure] _ rfl _ hrt Tryz.underlying24 ?hd2 (by kernel_rfl) ?_ ?hw2); (case hx2 => rfl); (case hd2 => rfl); (case hw2 => rfl))
    | (go_at_call 13
       (with_reducible refine (HSM.out _ HB0.out).mono ?_)
       rintro e w1 ⟨rfl, hb1⟩
       have hb1 : Below ((w.alloc (.cells p.arr 29 (0, 0))).alloc (.cells q.arr 29 (0, 0))).heap.size ((w.alloc (.cells p.arr 29 (0, 0))).alloc (.cells q.arr 29 (0, 0))) w1 := hb1
       have hbox := (hb1.block _ (Array.getElem?_eq_some_iff.1 hbox).1).trans hbox
       have hboy := (hb1.block _ (Array.getElem?_eq_some_iff.1 hboy).1).trans hboy
       obtain ⟨x0, x1, x2, x3⟩ := lg_cells hbox
       obtain ⟨y0, y1, y2, y3⟩ := lg_cells hboy
       have HB1 := Lib.hid (HB0.out.trans (hb1.mono HB0.out.size))
       clear hb1)
    | (go_at_call 38
       (with_reducible refine (HES.out _ HB1.out).mono ?_)
       rintro e w2 ⟨rfl, hbx⟩
       have hbox := (hbx.block _ (Array.getElem?_eq_some_iff.1 hbox).1).trans hbox
       have hboy := (hbx.block _ (Array.getElem?_eq_some_iff.1 hboy).1).trans hboy
       have hrh := lg_head hbox
       have hrk := lg_head hboy
       clear x0 x1 x2 x3 y0 y1 y2 y3
       have HB2 := Lib.hid (HB1.out.trans (hbx.mono HB1.out.size))
       clear hbx))
  go_ret
  exact ⟨rfl, HB2.out⟩
set_option maxHeartbeats 2000000 in
theorem arsame_hd (p q : Lp) (a b : Lg) (w : World) (ha : LgAt w p a) (hb : LgAt w q b) (hs : sameP a.st b.st = true) (he : sameE a.l b.l = true) :
    Calls Tryz.prog 12 #[.agg p.arr, .agg q.arr] w (GBe (decide (a.head = b.head)) w) := by
  have hHL := ha.hlen
  have hHL2 := hb.hlen
  have HSM := Lib.hid (show ∀ X, Below w.heap.size w X → Calls Tryz.prog 13 #[.agg #[.int .i64 p.cap, .slice p.A p.n p.c, .int .i64 p.sure], .agg #[.int .i64 q.cap, .slice q.A q.n q.c, .int .i64 q.sure]] X (GBool (sameP a.st b.st) X) from fun X hX => by
    have h0 := rstsame_any a.st b.st p.A q.A p.n p.c q.n q.c X (ha.data.below hX) (hb.data.below hX)
    rw [ha.val, hb.val] at h0
    exact h0)
  have HES := Lib.hid (fun (X : World) (hX : Below w.heap.size w X) => ersame_any p.B p.m p.d a.l q.B q.m q.d b.l X (ha.ents.below hX) (hb.ents.below hX))
  obtain ⟨hz, hbox, hboy⟩ := boxes_log w p.arr q.arr
  have HB0 := Lib.hid (two_below w (.cells p.arr 29 (0, 0)) (.cells q.arr 29 (0, 0)))
  have hrs := lg_st hbox
  have hrt := lg_st hboy
  rw [hs] at HSM
  rw [he] at HES
  have HHI := Lib.hid ha.info
  have HHJ := Lib.hid hb.info
  have HE := Lib.hid (show ∀ w, (Op.equalIn 10000 27 (.agg (idv p.H)) (.agg (idv q.H))).run Tryz.prog w = .ok (decide (a.head = b.head)) w from fun w => by rw [eq_ids _ _ hHL hHL2, ha.head, hb.head])
  obtain ⟨E, hE⟩ : ∃ E, decide (a.head = b.head) = E := ⟨_, rfl⟩
  rw [hE] at HE ⊢
  clear hE
  clear ha hb hz
  go_enter Tryz.func12, Tryz.ntmps12
  go_wp2_with (first
    | ((with_reducible refine wpList_load_on 24 _ rfl w.heap.size 0 ?hx1 [.int .i64 p.cap, .slice p.A p.n p.c, .int .i64 p.sure] _ rfl _ hrs Tryz.underlying24 ?hd1 (by kernel_rfl) ?_ ?hw1); (case hx1 => rfl); (case hd1 => rfl); (case hw1 => rfl))
    | ((with_reducible refine wpList_load_on 24 _ rfl (w.heap.size + 1) 0 ?hx2 [.int .i64 q.cap, .slice q.A q.n q.c, .int .i64 q.sure] _ rfl _ hrt Tryz.underlying24 ?hd2 (by kernel_rfl) ?_ ?hw2); (case hx2 => rfl); (case hd2 => rfl); (case hw2 => rfl))
    | (go_at_call 13
       (with_reducible refine (HSM.out _ HB0.out).mono ?_)
       rintro e w1 ⟨rfl, hb1⟩
       have hb1 : Below ((w.alloc (.cells p.arr 29 (0, 0))).alloc (.cells q.arr 29 (0, 0))).heap.size ((w.alloc (.cells p.arr 29 (0, 0))).alloc (.cells q.arr 29 (0, 0))) w1 := hb1
       have hbox := (hb1.block _ (Array.getElem?_eq_some_iff.1 hbox).1).trans hbox
       have hboy := (hb1.block _ (Array.getElem?_eq_some_iff.1 hboy).1).trans hboy
       obtain ⟨x0, x1, x2, x3⟩ := lg_cells hbox
       obtain ⟨y0, y1, y2, y3⟩ := lg_cells hboy
       have HB1 := Lib.hid (HB0.out.trans (hb1.mono HB0.out.size))
       clear hb1)
    | (go_at_call 38
       (with_reducible refine (HES.out _ HB1.out).mono ?_)
       rintro e w2 ⟨rfl, hbx⟩
       have hbox := (hbx.block _ (Array.getElem?_eq_some_iff.1 hbox).1).trans hbox
       have hboy := (hbx.block _ (Array.getElem?_eq_some_iff.1 hboy).1).trans hboy
       have hrh := lg_head hbox
       have hrk := lg_head hboy
       clear x0 x1 x2 x3 y0 y1 y2 y3
       have HB2 := Lib.hid (HB1.out.trans (hbx.mono HB1.out.size))
       clear hbx)
    | ((with_reducible refine wpList_load_on 27 _ rfl w.heap.size 4 ?hx4 (byv p.H) (idv p.H) rfl _ hrh Tryz.underlying27 ?hd4 HHI.out ?_ ?hw4); (case hx4 => rfl); (case hd4 => rfl); (case hw4 => rfl))
    | ((with_reducible refine wpList_load_on 27 _ rfl (w.heap.size + 1) 4 ?hx6 (byv q.H) (idv q.H) rfl _ hrk Tryz.underlying27 ?hd6 HHJ.out ?_ ?hw6); (case hx6 => rfl); (case hd6 => rfl); (case hw6 => rfl))
    | ((with_reducible refine wpList_eq_id .eql _ _ rfl (idv p.H) (idv q.H) ?hx5 ?hy5 E E (.inl ⟨rfl, rfl⟩) (fun w => HE.out w) ?_ ?hw5); (case hx5 => rfl); (case hy5 => rfl); (case hw5 => rfl)))
  go_ret
  exact ⟨rfl, HB2.out⟩
theorem arsame_any (p q : Lp) (a b : Lg) (w : World) (ha : LgAt w p a) (hb : LgAt w q b) : Calls Tryz.prog 12 #[.agg p.arr, .agg q.arr] w (GBe (sameG a b) w) := by
  cases hs : sameP a.st b.st with
  | false => rw [show sameG a b = false by rw [sameG, hs]; rfl]; exact arsame_st p q a b w ha hb hs
  | true =>
    cases he : sameE a.l b.l with
    | false => rw [show sameG a b = false by rw [sameG, he]; simp]; exact arsame_en p q a b w ha hb hs he
    | true => rw [show sameG a b = decide (a.head = b.head) by rw [sameG, hs, he]; simp]; exact arsame_hd p q a b w ha hb hs he
end Go.Proofs.YtafmompplcaadaaGreatDoor
