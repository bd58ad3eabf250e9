/- Joined texts: The walk over the document's Add of an entry to a log. -/
import Derived.Test.YtafmompplcaadaaGreatDoorAuJK
import Derived.Test.YtafmompplcaadaaGreatDoorAuJL
import Derived.Test.YtafmompplcaadaaGreatDoorAuJE
/- The walk over the document's Add of an entry to a log. -/
namespace Go.Proofs.YtafmompplcaadaaGreatDoor
set_option maxRecDepth 100000
set_option linter.unusedVariables false
set_option linter.unusedSimpArgs false
open Go.RowKit

theorem first_of_c (w : World) (o1 o2 o3 : Obj) : (((w.alloc o1).alloc o2).alloc o3).heap[w.heap.size]? = some o1 := (after_three_c (Below.refl _ _)).2.1
theorem three_below_c (w : World) (o1 o2 o3 : Obj) : Below w.heap.size w (((w.alloc o1).alloc o2).alloc o3) := (after_three_c (Below.refl _ _)).1
theorem loc_far2 {A A' : Option Addr} {n n' lo hi : Nat} {X : World} (hf : Far A n lo hi) (h : Loc A n A' n' X) (hX : hi ≤ X.heap.size) : Far A' n' lo hi := by
  rcases h with ⟨rfl, hn⟩ | h
  · exact hf.part hn
  · exact fun a ha _ => .inr (Nat.le_trans hX (h a ha))
set_option maxHeartbeats 4000000 in
theorem aradd_one (p : Lp) (g : Lg) (u : En) (urg : Bool) (w : World) (h : LgAt w p g) (hu : u.ok) (hsm : p.m ≤ 1000000) (hm : mayG g = false) :
    Calls Tryz.prog 7 #[.agg p.arr, enV u, .bool urg] w (GLE (g, 1) w) := by
  have HMY := Lib.hid (fun (X : World) (hX : Below w.heap.size w X) => armay_any p g X (h.below hX))
  have HEM := Lib.hid (fun (X : World) => ermay_any u X)
  have HRM := Lib.hid (fun (X : World) (hX : Below w.heap.size w X) => arroom_any p g X (h.below hX) hsm)
  have HSL := Lib.hid (fun X => arslots_any p X h.hlen h.fits)
  have HL := Lib.hid h
  have HW := Lib.hid h.whole
  have HPS := Lib.hid (lp_size h.hlen)
  simp only [hm] at HMY
  clear h hu hsm
  unfold enV at HEM ⊢
  go_enter Tryz.func7, Tryz.ntmps7
  go_wp2_with (first
    | ((with_reducible refine wpList_load_blk 29 _ rfl w.heap.size ?hx1 29 p.arr (0, 0) _ (first_of_c _ _ _ _) Tryz.underlying29 ?hd1 HW.out ?_ ?hw1); (case hx1 => rfl); (case hd1 => rfl); (case hw1 => rfl))
    | (go_at_call 16
       (with_reducible refine (HMY.out _ (three_below_c _ _ _ _)).mono ?_)
       rintro e w1 ⟨rfl, hb1⟩
       obtain ⟨hb0, y0, y1, y2⟩ := after_three_c hb1
       have hz1 : w.heap.size + 3 ≤ w1.heap.size := by have := hb1.size; simpa using this
       have b0 : w1.heap[w.heap.size]? = some (.cells p.arr 29 (0, 0)) := y0
       have b1 : w1.heap[w.heap.size + 1]? = some (.cells (enA u) 33 (0, 0)) := y1
       have b2 : w1.heap[w.heap.size + 2]? = some (.cells Lp.zero.arr 29 (0, 0)) := y2
       have HB1 := Lib.hid hb0
       clear hb1 hb0 y0 y1 y2)
    | ((with_reducible refine wpList_load_blk 33 _ rfl (w.heap.size + 1) ?hx2 33 (enA u) (0, 0) _ b1 Tryz.underlying33 ?hd2 (info_en (enA_size _)) ?_ ?hw2); (case hx2 => rfl); (case hd2 => rfl); (case hw2 => rfl))
    | (go_at_call 24
       (with_reducible refine (HEM.out _).mono ?_)
       rintro e w2 ⟨rfl, hbx⟩
       have b0 := blk_below b0 hbx
       have b1 := blk_below b1 hbx
       have b2 := blk_below b2 hbx
       have HB2 := Lib.hid (HB1.out.trans (hbx.mono HB1.out.size))
       have hz2 : w.heap.size + 3 ≤ w2.heap.size := Nat.le_trans hz1 hbx.size
       clear hbx hz1)
    | ((with_reducible refine wpList_load_blk 29 _ rfl w.heap.size ?hx3 29 p.arr (0, 0) _ b0 Tryz.underlying29 ?hd3 HW.out ?_ ?hw3); (case hx3 => rfl); (case hd3 => rfl); (case hw3 => rfl))
    | ((with_reducible refine wpList_store_blk rfl 29 _ _ rfl (w.heap.size + 2) p.arr ?hx4 ?hy4 29 _ b2 HW.out ?hs4 (lp_one _) ?_); (case hx4 => rfl); (case hy4 => rfl); (case hs4 => exact (lp_size (p := Lp.zero) rfl).trans HPS.out.symm)
       intro wF hgF hXF hsF
       have HBF := Lib.hid (HB2.out.grown hgF HB2.out.size (fun k e => by cases e; omega))
       clear hgF hsF))
  refine bodyPost_ret (v := .tuple #[.agg p.arr, .int .i64 1]) ?_ rfl ⟨p, rfl, HL.out.below HBF.out, HBF.out⟩
  exact results_blk_tmp Tryz.results7 _ _ _ (w.heap.size + 2) 29 _ (0, 0) _ rfl hXF Tryz.underlying29 rfl HW.out _ rfl
set_option maxHeartbeats 4000000 in
theorem aradd_two (p : Lp) (g : Lg) (u : En) (urg : Bool) (w : World) (h : LgAt w p g) (hu : u.ok) (hsm : p.m ≤ 1000000) (hm : mayG g = true) (he : mayE u = false) :
    Calls Tryz.prog 7 #[.agg p.arr, enV u, .bool urg] w (GLE (g, 1) w) := by
  have HMY := Lib.hid (fun (X : World) (hX : Below w.heap.size w X) => armay_any p g X (h.below hX))
  have HEM := Lib.hid (fun (X : World) => ermay_any u X)
  have HRM := Lib.hid (fun (X : World) (hX : Below w.heap.size w X) => arroom_any p g X (h.below hX) hsm)
  have HSL := Lib.hid (fun X => arslots_any p X h.hlen h.fits)
  have HL := Lib.hid h
  have HW := Lib.hid h.whole
  have HPS := Lib.hid (lp_size h.hlen)
  simp only [hm] at HMY
  simp only [he] at HEM
  clear h hu hsm
  unfold enV at HEM ⊢
  go_enter Tryz.func7, Tryz.ntmps7
  go_wp2_with (first
    | ((with_reducible refine wpList_load_blk 29 _ rfl w.heap.size ?hx1 29 p.arr (0, 0) _ (first_of_c _ _ _ _) Tryz.underlying29 ?hd1 HW.out ?_ ?hw1); (case hx1 => rfl); (case hd1 => rfl); (case hw1 => rfl))
    | (go_at_call 16
       (with_reducible refine (HMY.out _ (three_below_c _ _ _ _)).mono ?_)
       rintro e w1 ⟨rfl, hb1⟩
       obtain ⟨hb0, y0, y1, y2⟩ := after_three_c hb1
       have hz1 : w.heap.size + 3 ≤ w1.heap.size := by have := hb1.size; simpa using this
       have b0 : w1.heap[w.heap.size]? = some (.cells p.arr 29 (0, 0)) := y0
       have b1 : w1.heap[w.heap.size + 1]? = some (.cells (enA u) 33 (0, 0)) := y1
       have b2 : w1.heap[w.heap.size + 2]? = some (.cells Lp.zero.arr 29 (0, 0)) := y2
       have HB1 := Lib.hid hb0
       clear hb1 hb0 y0 y1 y2)
    | ((with_reducible refine wpList_load_blk 33 _ rfl (w.heap.size + 1) ?hx2 33 (enA u) (0, 0) _ b1 Tryz.underlying33 ?hd2 (info_en (enA_size _)) ?_ ?hw2); (case hx2 => rfl); (case hd2 => rfl); (case hw2 => rfl))
    | (go_at_call 24
       (with_reducible refine (HEM.out _).mono ?_)
       rintro e w2 ⟨rfl, hbx⟩
       have b0 := blk_below b0 hbx
       have b1 := blk_below b1 hbx
       have b2 := blk_below b2 hbx
       have HB2 := Lib.hid (HB1.out.trans (hbx.mono HB1.out.size))
       have hz2 : w.heap.size + 3 ≤ w2.heap.size := Nat.le_trans hz1 hbx.size
       clear hbx hz1)
    | ((with_reducible refine wpList_load_blk 29 _ rfl w.heap.size ?hx3 29 p.arr (0, 0) _ b0 Tryz.underlying29 ?hd3 HW.out ?_ ?hw3); (case hx3 => rfl); (case hd3 => rfl); (case hw3 => rfl))
    | ((with_reducible refine wpList_store_blk rfl 29 _ _ rfl (w.heap.size + 2) p.arr ?hx4 ?hy4 29 _ b2 HW.out ?hs4 (lp_one _) ?_); (case hx4 => rfl); (case hy4 => rfl); (case hs4 => exact (lp_size (p := Lp.zero) rfl).trans HPS.out.symm)
       intro wF hgF hXF hsF
       have HBF := Lib.hid (HB2.out.grown hgF HB2.out.size (fun k e => by cases e; omega))
       clear hgF hsF))
  refine bodyPost_ret (v := .tuple #[.agg p.arr, .int .i64 1]) ?_ rfl ⟨p, rfl, HL.out.below HBF.out, HBF.out⟩
  exact results_blk_tmp Tryz.results7 _ _ _ (w.heap.size + 2) 29 _ (0, 0) _ rfl hXF Tryz.underlying29 rfl HW.out _ rfl
set_option maxHeartbeats 4000000 in
theorem aradd_fa (p : Lp) (g : Lg) (u : En) (urg : Bool) (w : World) (h : LgAt w p g) (hu : u.ok) (hsm : p.m ≤ 1000000) (hm : mayG g = true) (he : mayE u = true) (hf : slotsG g ≤ g.l.length) :
    Calls Tryz.prog 7 #[.agg p.arr, enV u, .bool urg] w (GLE (g, 12) w) := by
  have HMY := Lib.hid (fun (X : World) (hX : Below w.heap.size w X) => armay_any p g X (h.below hX))
  have HEM := Lib.hid (fun (X : World) => ermay_any u X)
  have HRM := Lib.hid (fun (X : World) (hX : Below w.heap.size w X) => arroom_any p g X (h.below hX) hsm)
  have HSL := Lib.hid (fun X => arslots_any p X h.hlen h.fits)
  have HL := Lib.hid h
  have HW := Lib.hid h.whole
  have HPS := Lib.hid (lp_size h.hlen)
  simp only [hm] at HMY
  simp only [he] at HEM
  have hnl := h.ents.len
  have hsl := slots_at h.fits
  have hsq : slotsG g = p.cap.tdiv 62 := by rw [slotsG, h.cap]
  obtain ⟨q, hq⟩ : ∃ q, p.cap.tdiv 62 = q := ⟨_, rfl⟩
  simp only [hq] at HSL hsl hsq
  obtain ⟨RM, hRM⟩ : ∃ R, roomG g = R := ⟨_, rfl⟩
  simp only [hRM] at HRM
  have hqm : q ≤ (p.m : Int) := by rw [← hsq, ← hnl]; exact hf
  clear h hu hsm hsq hq hRM hnl hf
  unfold enV at HEM ⊢
  go_enter Tryz.func7, Tryz.ntmps7
  go_wp2_with (first
    | ((with_reducible refine wpList_load_blk 29 _ rfl w.heap.size ?hx1 29 p.arr (0, 0) _ (first_of_c _ _ _ _) Tryz.underlying29 ?hd1 HW.out ?_ ?hw1); (case hx1 => rfl); (case hd1 => rfl); (case hw1 => rfl))
    | (go_at_call 16
       (with_reducible refine (HMY.out _ (three_below_c _ _ _ _)).mono ?_)
       rintro e w1 ⟨rfl, hb1⟩
       obtain ⟨hb0, y0, y1, y2⟩ := after_three_c hb1
       have hz1 : w.heap.size + 3 ≤ w1.heap.size := by have := hb1.size; simpa using this
       have b0 : w1.heap[w.heap.size]? = some (.cells p.arr 29 (0, 0)) := y0
       have b1 : w1.heap[w.heap.size + 1]? = some (.cells (enA u) 33 (0, 0)) := y1
       have b2 : w1.heap[w.heap.size + 2]? = some (.cells Lp.zero.arr 29 (0, 0)) := y2
       have HB1 := Lib.hid hb0
       clear hb1 hb0 y0 y1 y2)
    | ((with_reducible refine wpList_load_blk 33 _ rfl (w.heap.size + 1) ?hx2 33 (enA u) (0, 0) _ b1 Tryz.underlying33 ?hd2 (info_en (enA_size _)) ?_ ?hw2); (case hx2 => rfl); (case hd2 => rfl); (case hw2 => rfl))
    | (go_at_call 24
       (with_reducible refine (HEM.out _).mono ?_)
       rintro e w2 ⟨rfl, hbx⟩
       have b0 := blk_below b0 hbx
       have b1 := blk_below b1 hbx
       have b2 := blk_below b2 hbx
       have HB2 := Lib.hid (HB1.out.trans (hbx.mono HB1.out.size))
       have hz2 : w.heap.size + 3 ≤ w2.heap.size := Nat.le_trans hz1 hbx.size
       clear hbx hz1)
    | ((with_reducible refine wpList_load_blk 29 _ rfl w.heap.size ?hx3 29 p.arr (0, 0) _ b0 Tryz.underlying29 ?hd3 HW.out ?_ ?hw3); (case hx3 => rfl); (case hd3 => rfl); (case hw3 => rfl)))
  have hSd : (w2.drew.heap[w.heap.size]? = some (.cells p.arr 29 (0, 0)) ∧ w2.drew.heap[w.heap.size + 1]? = some (.cells (enA u) 33 (0, 0)) ∧ w2.drew.heap[w.heap.size + 2]? = some (.cells Lp.zero.arr 29 (0, 0)) ∧ Below w.heap.size w w2.drew) := ⟨blk_drew b0, blk_drew b1, blk_drew b2, HB2.out.drew⟩
  have hzd : w.heap.size + 3 ≤ w2.drew.heap.size := hz2
  clear b0 b1 b2 hz2
  refine wp_region_held_drew (S := (fun X => X.heap[w.heap.size]? = some (.cells p.arr 29 (0, 0)) ∧ X.heap[w.heap.size + 1]? = some (.cells (enA u) 33 (0, 0)) ∧ X.heap[w.heap.size + 2]? = some (.cells Lp.zero.arr 29 (0, 0)) ∧ Below w.heap.size w X)) (by kernel_rfl) hSd (fun hHeld => ?_)
  refine take_run 0 (.pointer (some ⟨w.heap.size, 3, none⟩)) rfl (by kernel_rfl) (by kernel_rfl) (by kernel_rfl) (fun _ _ _ h => h) rfl hHeld (fun w => ?_) ?_
  · go_simp
  simp only [Act.put, List.setIfInBounds_toArray, List.set_cons_zero, List.set_cons_succ]
  refine take_if 1 (.slice p.B p.m p.d) rfl (by kernel_rfl) (by kernel_rfl) (by kernel_rfl) (fun _ _ _ h => h) rfl hHeld (fun w' hw' => ?_) ?_
  · have hq := (lg_cells hw'.1).2.2.2
    go_simp
  simp only [Act.put, List.setIfInBounds_toArray, List.set_cons_zero, List.set_cons_succ]
  refine take_run 2 (.int .i64 p.m) rfl (by kernel_rfl) (by kernel_rfl) (by kernel_rfl) (fun _ _ _ h => h) rfl hHeld (fun w => ?_) ?_
  · go_simp
  simp only [Act.put, List.setIfInBounds_toArray, List.set_cons_zero, List.set_cons_succ]
  refine take_blk 3 29 _ w.heap.size 29 _ (0, 0) _ rfl rfl rfl (by kernel_rfl) (by kernel_rfl) (by kernel_rfl) (fun _ _ _ h => h) rfl hHeld (fun X hX => hX.1) Tryz.underlying29 rfl HW.out ?_
  simp only [Act.put, List.setIfInBounds_toArray, List.set_cons_zero, List.set_cons_succ]
  refine one_step 4 (by kernel_rfl) rfl (fun Kq hKq => ?_)
  go_simp
  go_at_call 25
  refine (HSL.out _).mono ?_
  rintro e y1 ⟨rfl, hbx⟩
  have hS1 : (y1.heap[w.heap.size]? = some (.cells p.arr 29 (0, 0)) ∧ y1.heap[w.heap.size + 1]? = some (.cells (enA u) 33 (0, 0)) ∧ y1.heap[w.heap.size + 2]? = some (.cells Lp.zero.arr 29 (0, 0)) ∧ Below w.heap.size w y1) := ⟨blk_below hSd.1 hbx, blk_below hSd.2.1 hbx, blk_below hSd.2.2.1 hbx, hSd.2.2.2.trans (hbx.mono hSd.2.2.2.size)⟩
  have hz1 : w.heap.size + 3 ≤ y1.heap.size := Nat.le_trans hzd hbx.size
  clear hbx
  refine hKq.out _ _ hS1 (fun hHeld0 => ?_)
  clear hKq Kq hHeld
  have hHeld := hHeld0
  clear hHeld0
  try simp only [Act.put, List.setIfInBounds_toArray, List.set_cons_zero, List.set_cons_succ]
  refine take_run 5 (.bool true) rfl (by kernel_rfl) (by kernel_rfl) (by kernel_rfl) (fun _ _ _ h => h) rfl hHeld (fun w => ?_) ?_
  · go_simp
  simp only [Act.put, List.setIfInBounds_toArray, List.set_cons_zero, List.set_cons_succ]
  refine take_run 6 (.bool true) rfl (by kernel_rfl) (by kernel_rfl) (by kernel_rfl) (fun _ _ _ h => h) rfl hHeld (fun w => ?_) ?_
  · go_simp
  simp only [Act.put, List.setIfInBounds_toArray, List.set_cons_zero, List.set_cons_succ]
  refine take_off 7 rfl (by kernel_rfl) (by kernel_rfl) (by kernel_rfl) (fun _ _ _ h => h) rfl hHeld ?_
  simp only [Act.put, List.setIfInBounds_toArray, List.set_cons_zero, List.set_cons_succ]
  refine take_off 8 rfl (by kernel_rfl) (by kernel_rfl) (by kernel_rfl) (fun _ _ _ h => h) rfl hHeld ?_
  simp only [Act.put, List.setIfInBounds_toArray, List.set_cons_zero, List.set_cons_succ]
  refine take_off 9 rfl (by kernel_rfl) (by kernel_rfl) (by kernel_rfl) (fun _ _ _ h => h) rfl hHeld ?_
  simp only [Act.put, List.setIfInBounds_toArray, List.set_cons_zero, List.set_cons_succ]
  refine take_off 10 rfl (by kernel_rfl) (by kernel_rfl) (by kernel_rfl) (fun _ _ _ h => h) rfl hHeld ?_
  simp only [Act.put, List.setIfInBounds_toArray, List.set_cons_zero, List.set_cons_succ]
  refine take_off 11 rfl (by kernel_rfl) (by kernel_rfl) (by kernel_rfl) (fun _ _ _ h => h) rfl hHeld ?_
  simp only [Act.put, List.setIfInBounds_toArray, List.set_cons_zero, List.set_cons_succ]
  refine take_off 12 rfl (by kernel_rfl) (by kernel_rfl) (by kernel_rfl) (fun _ _ _ h => h) rfl hHeld ?_
  simp only [Act.put, List.setIfInBounds_toArray, List.set_cons_zero, List.set_cons_succ]
  refine take_off 13 rfl (by kernel_rfl) (by kernel_rfl) (by kernel_rfl) (fun _ _ _ h => h) rfl hHeld ?_
  simp only [Act.put, List.setIfInBounds_toArray, List.set_cons_zero, List.set_cons_succ]
  refine take_run 14 (.bool true) rfl (by kernel_rfl) (by kernel_rfl) (by kernel_rfl) (fun _ _ _ h => h) rfl hHeld (fun w => ?_) ?_
  · go_simp
  simp only [Act.put, List.setIfInBounds_toArray, List.set_cons_zero, List.set_cons_succ]
  refine wpAnyH_done (by kernel_rfl) ?_ _
  obtain ⟨b0, b1, b2, hb5⟩ := hS1
  have HB5 := Lib.hid hb5
  have hz5 : w.heap.size + 3 ≤ y1.heap.size := hz1
  clear hb5 hHeld
  go_wp2_with (first
    | ((with_reducible refine wpList_load_blk 29 _ rfl w.heap.size ?hx3 29 p.arr (0, 0) _ b0 Tryz.underlying29 ?hd3 HW.out ?_ ?hw3); (case hx3 => rfl); (case hd3 => rfl); (case hw3 => rfl))
    | ((with_reducible refine wpList_store_blk rfl 29 _ _ rfl (w.heap.size + 2) p.arr ?hx4 ?hy4 29 _ b2 HW.out ?hs4 (lp_one _) ?_); (case hx4 => rfl); (case hy4 => rfl); (case hs4 => exact (lp_size (p := Lp.zero) rfl).trans HPS.out.symm)
       intro wF hgF hXF hsF
       have HBF := Lib.hid (HB5.out.grown hgF HB5.out.size (fun k e => by cases e; omega))
       clear hgF hsF))
  refine bodyPost_ret (v := .tuple #[.agg p.arr, .int .i64 12]) ?_ rfl ⟨p, rfl, HL.out.below HBF.out, HBF.out⟩
  exact results_blk_tmp Tryz.results7 _ _ _ (w.heap.size + 2) 29 _ (0, 0) _ rfl hXF Tryz.underlying29 rfl HW.out _ rfl
set_option maxHeartbeats 4000000 in
theorem aradd_fb (p : Lp) (g : Lg) (u : En) (w : World) (h : LgAt w p g) (hu : u.ok) (hsm : p.m ≤ 1000000) (hm : mayG g = true) (he : mayE u = true) (hf : ¬ slotsG g ≤ g.l.length) (hr : roomG g = 0) :
    Calls Tryz.prog 7 #[.agg p.arr, enV u, .bool false] w (GLE (g, 12) w) := by
  have HMY := Lib.hid (fun (X : World) (hX : Below w.heap.size w X) => armay_any p g X (h.below hX))
  have HEM := Lib.hid (fun (X : World) => ermay_any u X)
  have HRM := Lib.hid (fun (X : World) (hX : Below w.heap.size w X) => arroom_any p g X (h.below hX) hsm)
  have HSL := Lib.hid (fun X => arslots_any p X h.hlen h.fits)
  have HL := Lib.hid h
  have HW := Lib.hid h.whole
  have HPS := Lib.hid (lp_size h.hlen)
  simp only [hm] at HMY
  simp only [he] at HEM
  have hnl := h.ents.len
  have hsl := slots_at h.fits
  have hsq : slotsG g = p.cap.tdiv 62 := by rw [slotsG, h.cap]
  obtain ⟨q, hq⟩ : ∃ q, p.cap.tdiv 62 = q := ⟨_, rfl⟩
  simp only [hq] at HSL hsl hsq
  obtain ⟨RM, hRM⟩ : ∃ R, roomG g = R := ⟨_, rfl⟩
  simp only [hRM] at HRM
  have hqm : ¬ q ≤ (p.m : Int) := by rw [← hsq, ← hnl]; exact hf
  have hr0 : RM = 0 := by rw [← hRM]; exact hr
  subst hr0
  clear h hu hsm hsq hq hRM hnl hf hr
  unfold enV at HEM ⊢
  go_enter Tryz.func7, Tryz.ntmps7
  go_wp2_with (first
    | ((with_reducible refine wpList_load_blk 29 _ rfl w.heap.size ?hx1 29 p.arr (0, 0) _ (first_of_c _ _ _ _) Tryz.underlying29 ?hd1 HW.out ?_ ?hw1); (case hx1 => rfl); (case hd1 => rfl); (case hw1 => rfl))
    | (go_at_call 16
       (with_reducible refine (HMY.out _ (three_below_c _ _ _ _)).mono ?_)
       rintro e w1 ⟨rfl, hb1⟩
       obtain ⟨hb0, y0, y1, y2⟩ := after_three_c hb1
       have hz1 : w.heap.size + 3 ≤ w1.heap.size := by have := hb1.size; simpa using this
       have b0 : w1.heap[w.heap.size]? = some (.cells p.arr 29 (0, 0)) := y0
       have b1 : w1.heap[w.heap.size + 1]? = some (.cells (enA u) 33 (0, 0)) := y1
       have b2 : w1.heap[w.heap.size + 2]? = some (.cells Lp.zero.arr 29 (0, 0)) := y2
       have HB1 := Lib.hid hb0
       clear hb1 hb0 y0 y1 y2)
    | ((with_reducible refine wpList_load_blk 33 _ rfl (w.heap.size + 1) ?hx2 33 (enA u) (0, 0) _ b1 Tryz.underlying33 ?hd2 (info_en (enA_size _)) ?_ ?hw2); (case hx2 => rfl); (case hd2 => rfl); (case hw2 => rfl))
    | (go_at_call 24
       (with_reducible refine (HEM.out _).mono ?_)
       rintro e w2 ⟨rfl, hbx⟩
       have b0 := blk_below b0 hbx
       have b1 := blk_below b1 hbx
       have b2 := blk_below b2 hbx
       have HB2 := Lib.hid (HB1.out.trans (hbx.mono HB1.out.size))
       have hz2 : w.heap.size + 3 ≤ w2.heap.size := Nat.le_trans hz1 hbx.size
       clear hbx hz1)
    | ((with_reducible refine wpList_load_blk 29 _ rfl w.heap.size ?hx3 29 p.arr (0, 0) _ b0 Tryz.underlying29 ?hd3 HW.out ?_ ?hw3); (case hx3 => rfl); (case hd3 => rfl); (case hw3 => rfl)))
  have hSd : (w2.drew.heap[w.heap.size]? = some (.cells p.arr 29 (0, 0)) ∧ w2.drew.heap[w.heap.size + 1]? = some (.cells (enA u) 33 (0, 0)) ∧ w2.drew.heap[w.heap.size + 2]? = some (.cells Lp.zero.arr 29 (0, 0)) ∧ Below w.heap.size w w2.drew) := ⟨blk_drew b0, blk_drew b1, blk_drew b2, HB2.out.drew⟩
  have hzd : w.heap.size + 3 ≤ w2.drew.heap.size := hz2
  clear b0 b1 b2 hz2
  refine wp_region_held_drew (S := (fun X => X.heap[w.heap.size]? = some (.cells p.arr 29 (0, 0)) ∧ X.heap[w.heap.size + 1]? = some (.cells (enA u) 33 (0, 0)) ∧ X.heap[w.heap.size + 2]? = some (.cells Lp.zero.arr 29 (0, 0)) ∧ Below w.heap.size w X)) (by kernel_rfl) hSd (fun hHeld => ?_)
  refine take_run 0 (.pointer (some ⟨w.heap.size, 3, none⟩)) rfl (by kernel_rfl) (by kernel_rfl) (by kernel_rfl) (fun _ _ _ h => h) rfl hHeld (fun w => ?_) ?_
  · go_simp
  simp only [Act.put, List.setIfInBounds_toArray, List.set_cons_zero, List.set_cons_succ]
  refine take_if 1 (.slice p.B p.m p.d) rfl (by kernel_rfl) (by kernel_rfl) (by kernel_rfl) (fun _ _ _ h => h) rfl hHeld (fun w' hw' => ?_) ?_
  · have hq := (lg_cells hw'.1).2.2.2
    go_simp
  simp only [Act.put, List.setIfInBounds_toArray, List.set_cons_zero, List.set_cons_succ]
  refine take_run 2 (.int .i64 p.m) rfl (by kernel_rfl) (by kernel_rfl) (by kernel_rfl) (fun _ _ _ h => h) rfl hHeld (fun w => ?_) ?_
  · go_simp
  simp only [Act.put, List.setIfInBounds_toArray, List.set_cons_zero, List.set_cons_succ]
  refine take_blk 3 29 _ w.heap.size 29 _ (0, 0) _ rfl rfl rfl (by kernel_rfl) (by kernel_rfl) (by kernel_rfl) (fun _ _ _ h => h) rfl hHeld (fun X hX => hX.1) Tryz.underlying29 rfl HW.out ?_
  simp only [Act.put, List.setIfInBounds_toArray, List.set_cons_zero, List.set_cons_succ]
  refine one_step 4 (by kernel_rfl) rfl (fun Kq hKq => ?_)
  go_simp
  go_at_call 25
  refine (HSL.out _).mono ?_
  rintro e y1 ⟨rfl, hbx⟩
  have hS1 : (y1.heap[w.heap.size]? = some (.cells p.arr 29 (0, 0)) ∧ y1.heap[w.heap.size + 1]? = some (.cells (enA u) 33 (0, 0)) ∧ y1.heap[w.heap.size + 2]? = some (.cells Lp.zero.arr 29 (0, 0)) ∧ Below w.heap.size w y1) := ⟨blk_below hSd.1 hbx, blk_below hSd.2.1 hbx, blk_below hSd.2.2.1 hbx, hSd.2.2.2.trans (hbx.mono hSd.2.2.2.size)⟩
  have hz1 : w.heap.size + 3 ≤ y1.heap.size := Nat.le_trans hzd hbx.size
  clear hbx
  refine hKq.out _ _ hS1 (fun hHeld0 => ?_)
  clear hKq Kq hHeld
  have hHeld := hHeld0
  clear hHeld0
  try simp only [Act.put, List.setIfInBounds_toArray, List.set_cons_zero, List.set_cons_succ]
  refine take_run 5 (.bool false) rfl (by kernel_rfl) (by kernel_rfl) (by kernel_rfl) (fun _ _ _ h => h) rfl hHeld (fun w => ?_) ?_
  · go_simp
  simp only [Act.put, List.setIfInBounds_toArray, List.set_cons_zero, List.set_cons_succ]
  refine take_run 6 (.bool false) rfl (by kernel_rfl) (by kernel_rfl) (by kernel_rfl) (fun _ _ _ h => h) rfl hHeld (fun w => ?_) ?_
  · go_simp
  simp only [Act.put, List.setIfInBounds_toArray, List.set_cons_zero, List.set_cons_succ]
  refine take_run 7 (.bool false) rfl (by kernel_rfl) (by kernel_rfl) (by kernel_rfl) (fun _ _ _ h => h) rfl hHeld (fun w => ?_) ?_
  · go_simp
  simp only [Act.put, List.setIfInBounds_toArray, List.set_cons_zero, List.set_cons_succ]
  refine take_run 8 (.bool true) rfl (by kernel_rfl) (by kernel_rfl) (by kernel_rfl) (fun _ _ _ h => h) rfl hHeld (fun w => ?_) ?_
  · go_simp
  simp only [Act.put, List.setIfInBounds_toArray, List.set_cons_zero, List.set_cons_succ]
  refine take_run 9 (.bool true) rfl (by kernel_rfl) (by kernel_rfl) (by kernel_rfl) (fun _ _ _ h => h) rfl hHeld (fun w => ?_) ?_
  · go_simp
  simp only [Act.put, List.setIfInBounds_toArray, List.set_cons_zero, List.set_cons_succ]
  refine take_blk 10 29 _ w.heap.size 29 _ (0, 0) _ rfl rfl rfl (by kernel_rfl) (by kernel_rfl) (by kernel_rfl) (fun _ _ _ h => h) rfl hHeld (fun X hX => hX.1) Tryz.underlying29 rfl HW.out ?_
  simp only [Act.put, List.setIfInBounds_toArray, List.set_cons_zero, List.set_cons_succ]
  refine one_step 11 (by kernel_rfl) rfl (fun Kq hKq => ?_)
  go_simp
  go_at_call 20
  refine (HRM.out _ hS1.2.2.2).mono ?_
  rintro e y2 ⟨rfl, hbx⟩
  have hS2 : (y2.heap[w.heap.size]? = some (.cells p.arr 29 (0, 0)) ∧ y2.heap[w.heap.size + 1]? = some (.cells (enA u) 33 (0, 0)) ∧ y2.heap[w.heap.size + 2]? = some (.cells Lp.zero.arr 29 (0, 0)) ∧ Below w.heap.size w y2) := ⟨blk_below hS1.1 hbx, blk_below hS1.2.1 hbx, blk_below hS1.2.2.1 hbx, hS1.2.2.2.trans (hbx.mono hS1.2.2.2.size)⟩
  have hz2 : w.heap.size + 3 ≤ y2.heap.size := Nat.le_trans hz1 hbx.size
  clear hbx
  refine hKq.out _ _ hS2 (fun hHeld0 => ?_)
  clear hKq Kq hHeld
  have hHeld := hHeld0
  clear hHeld0
  try simp only [Act.put, List.setIfInBounds_toArray, List.set_cons_zero, List.set_cons_succ]
  refine take_run 12 (.bool true) rfl (by kernel_rfl) (by kernel_rfl) (by kernel_rfl) (fun _ _ _ h => h) rfl hHeld (fun w => ?_) ?_
  · go_simp
  simp only [Act.put, List.setIfInBounds_toArray, List.set_cons_zero, List.set_cons_succ]
  refine take_run 13 (.bool true) rfl (by kernel_rfl) (by kernel_rfl) (by kernel_rfl) (fun _ _ _ h => h) rfl hHeld (fun w => ?_) ?_
  · go_simp
  simp only [Act.put, List.setIfInBounds_toArray, List.set_cons_zero, List.set_cons_succ]
  refine take_run 14 (.bool true) rfl (by kernel_rfl) (by kernel_rfl) (by kernel_rfl) (fun _ _ _ h => h) rfl hHeld (fun w => ?_) ?_
  · go_simp
  simp only [Act.put, List.setIfInBounds_toArray, List.set_cons_zero, List.set_cons_succ]
  refine wpAnyH_done (by kernel_rfl) ?_ _
  obtain ⟨b0, b1, b2, hb5⟩ := hS2
  have HB5 := Lib.hid hb5
  have hz5 : w.heap.size + 3 ≤ y2.heap.size := hz2
  clear hb5 hHeld
  go_wp2_with (first
    | ((with_reducible refine wpList_load_blk 29 _ rfl w.heap.size ?hx3 29 p.arr (0, 0) _ b0 Tryz.underlying29 ?hd3 HW.out ?_ ?hw3); (case hx3 => rfl); (case hd3 => rfl); (case hw3 => rfl))
    | ((with_reducible refine wpList_store_blk rfl 29 _ _ rfl (w.heap.size + 2) p.arr ?hx4 ?hy4 29 _ b2 HW.out ?hs4 (lp_one _) ?_); (case hx4 => rfl); (case hy4 => rfl); (case hs4 => exact (lp_size (p := Lp.zero) rfl).trans HPS.out.symm)
       intro wF hgF hXF hsF
       have HBF := Lib.hid (HB5.out.grown hgF HB5.out.size (fun k e => by cases e; omega))
       clear hgF hsF))
  refine bodyPost_ret (v := .tuple #[.agg p.arr, .int .i64 12]) ?_ rfl ⟨p, rfl, HL.out.below HBF.out, HBF.out⟩
  exact results_blk_tmp Tryz.results7 _ _ _ (w.heap.size + 2) 29 _ (0, 0) _ rfl hXF Tryz.underlying29 rfl HW.out _ rfl
set_option maxHeartbeats 4000000 in
theorem aradd_oa (p : Lp) (g : Lg) (u : En) (w : World) (h : LgAt w p g) (hu : u.ok) (hsm : p.m ≤ 1000000) (hm : mayG g = true) (he : mayE u = true) (hf : ¬ slotsG g ≤ g.l.length) :
    Calls Tryz.prog 7 #[.agg p.arr, enV u, .bool true] w (GLE (moreG g u, 0) w) := by
  have HMY := Lib.hid (fun (X : World) (hX : Below w.heap.size w X) => armay_any p g X (h.below hX))
  have HEM := Lib.hid (fun (X : World) => ermay_any u X)
  have HRM := Lib.hid (fun (X : World) (hX : Below w.heap.size w X) => arroom_any p g X (h.below hX) hsm)
  have HSL := Lib.hid (fun X => arslots_any p X h.hlen h.fits)
  have HL := Lib.hid h
  have HW := Lib.hid h.whole
  have HPS := Lib.hid (lp_size h.hlen)
  simp only [hm] at HMY
  simp only [he] at HEM
  have hnl := h.ents.len
  have hsl := slots_at h.fits
  have hsq : slotsG g = p.cap.tdiv 62 := by rw [slotsG, h.cap]
  obtain ⟨q, hq⟩ : ∃ q, p.cap.tdiv 62 = q := ⟨_, rfl⟩
  simp only [hq] at HSL hsl hsq
  obtain ⟨RM, hRM⟩ : ∃ R, roomG g = R := ⟨_, rfl⟩
  simp only [hRM] at HRM
  have hsg := hsq
  have hqm : ¬ q ≤ (p.m : Int) := by rw [← hsq, ← hnl]; exact hf
  have hrl : (g.l.length : Int) < slotsG g := by omega
  have hHE : g.ok := h.ok
  obtain ⟨r1, r2, r3⟩ := recG_eq hm he
  have hw := write_rec hm he hrl
  have hwm := (write_may (mayG_iff.1 hm).1 hw).1
  have hml := more_len g u
  have hsy : syncP ⟨g.st.cap, recsC (g.l ++ [u]), 62 * g.l.length⟩ = (⟨g.st.cap, recsC (g.l ++ [u]), 62 * (g.l.length + 1)⟩, 0) := by
    rw [sync_ok hwm]
    show ((⟨g.st.cap, recsC (g.l ++ [u]), ((recsC (g.l ++ [u])).length : Int)⟩ : Sp), (0 : Int)) = _
    rw [hml]
    simp
  have HDT := Lib.hid h.data
  have HEN := Lib.hid (fun (X : World) (hX : Below w.heap.size w X) => (h.ents.below hX).rws)
  have HRC := Lib.hid (fun (X : World) (hX : Below w.heap.size w X) => arrec_any p g u X (h.below hX) hu)
  have HWR := Lib.hid (show ∀ X A6 n6 c6, Below w.heap.size w X → Bts X A6 n6 c6 (recG g u) → Calls Tryz.prog 27 #[.agg #[.int .i64 p.cap, .slice p.A p.n p.c, .int .i64 p.sure], .slice A6 n6 c6] X fun e w' => ∃ A' n' c', e = .returned (.tuple #[.agg #[.int .i64 g.st.cap, .slice A' n' c', .int .i64 (62 * (g.l.length : Int))], .int .i64 0]) ∧ Bts w' A' n' c' (recsC (g.l ++ [u])) ∧ Loc p.A p.n A' n' X ∧ Below X.heap.size X w' from fun X A6 n6 c6 hX h6 => by
    have h0 := rwrite_any g.st (recG g u) p.A A6 p.n p.c n6 c6 X (h.data.below hX) h6
    rw [h.val, hw] at h0
    exact h0)
  have HSY := Lib.hid (show ∀ X A' n' c', Bts X A' n' c' (recsC (g.l ++ [u])) → Calls Tryz.prog 28 #[.agg #[.int .i64 g.st.cap, .slice A' n' c', .int .i64 (62 * (g.l.length : Int))]] X fun e w' => ∃ A2 n2 c2, e = .returned (.tuple #[.agg #[.int .i64 g.st.cap, .slice A2 n2 c2, .int .i64 (62 * ((g.l.length : Int) + 1))], .int .i64 0]) ∧ Bts w' A2 n2 c2 (recsC (g.l ++ [u])) ∧ Loc A' n' A2 n2 X ∧ Below X.heap.size X w' from fun X A' n' c' h6 => by
    have h0 := rsync_any ⟨g.st.cap, recsC (g.l ++ [u]), 62 * g.l.length⟩ A' n' c' X h6
    rw [hsy] at h0
    exact h0)
  have HOK := Lib.hid (show (moreG g u).ok from ⟨fun v hv => by
    rcases List.mem_append.1 hv with hv | hv
    · exact hHE.each v hv
    · rw [List.mem_singleton] at hv; rw [hv]; exact hu, headC_len _, headC_byte _⟩)
  have HFT := Lib.hid h.fits
  rw [h.cap] at HFT
  have HSM := Lib.hid hsm
  have HRO := Lib.hid (show (g.l ++ [u]).map En.row = g.l.map En.row ++ [En.row u] by simp)
  have HRWL := Lib.hid (show (g.l.map En.row).length = p.m by rw [List.length_map, hnl])
  have HZL := Lib.hid (show (headC (g.l ++ [u])).length = 32 from headC_len _)
  simp only [r2] at HRC
  unfold moreG at HOK ⊢
  obtain ⟨C1, hC1⟩ : ∃ x, g.st.cap = x := ⟨_, rfl⟩
  simp only [hC1] at HWR HSY HOK HFT ⊢
  obtain ⟨D1, hD1⟩ : ∃ x, recsC (g.l ++ [u]) = x := ⟨_, rfl⟩
  simp only [hD1] at HWR HSY HOK ⊢
  obtain ⟨S1, hS1⟩ : ∃ x, (62 * (g.l.length : Int)) = x := ⟨_, rfl⟩
  simp only [hS1] at HWR HSY
  obtain ⟨S2, hS2⟩ : ∃ x, (62 * ((g.l.length : Int) + 1)) = x := ⟨_, rfl⟩
  simp only [hS2] at HSY HOK ⊢
  obtain ⟨Z, hZ⟩ : ∃ x, headC (g.l ++ [u]) = x := ⟨_, rfl⟩
  simp only [hZ] at HRC HOK HZL ⊢
  obtain ⟨RC, hRC⟩ : ∃ x, recG g u = x := ⟨_, rfl⟩
  simp only [hRC] at HRC HWR
  obtain ⟨RW, hRW⟩ : ∃ x, g.l.map En.row = x := ⟨_, rfl⟩
  simp only [hRW] at HRO HRWL HEN
  obtain ⟨L2, hL2⟩ : ∃ x, g.l ++ [u] = x := ⟨_, rfl⟩
  simp only [hL2] at HRO HOK ⊢
  clear h hu hsm hsq hsg hq hRM hnl hf hHE r1 r2 r3 hw hwm hml hsy hrl hC1 hD1 hS1 hS2 hZ hRC hRW hL2
  unfold enV at HEM HRC ⊢
  go_enter Tryz.func7, Tryz.ntmps7
  go_wp2_with (first
    | ((with_reducible refine wpList_load_blk 29 _ rfl w.heap.size ?hx1 29 p.arr (0, 0) _ (first_of_c _ _ _ _) Tryz.underlying29 ?hd1 HW.out ?_ ?hw1); (case hx1 => rfl); (case hd1 => rfl); (case hw1 => rfl))
    | (go_at_call 16
       (with_reducible refine (HMY.out _ (three_below_c _ _ _ _)).mono ?_)
       rintro e w1 ⟨rfl, hb1⟩
       obtain ⟨hb0, y0, y1, y2⟩ := after_three_c hb1
       have hz1 : w.heap.size + 3 ≤ w1.heap.size := by have := hb1.size; simpa using this
       have b0 : w1.heap[w.heap.size]? = some (.cells p.arr 29 (0, 0)) := y0
       have b1 : w1.heap[w.heap.size + 1]? = some (.cells (enA u) 33 (0, 0)) := y1
       have b2 : w1.heap[w.heap.size + 2]? = some (.cells Lp.zero.arr 29 (0, 0)) := y2
       have HB1 := Lib.hid hb0
       clear hb1 hb0 y0 y1 y2)
    | ((with_reducible refine wpList_load_blk 33 _ rfl (w.heap.size + 1) ?hx2 33 (enA u) (0, 0) _ b1 Tryz.underlying33 ?hd2 (info_en (enA_size _)) ?_ ?hw2); (case hx2 => rfl); (case hd2 => rfl); (case hw2 => rfl))
    | (go_at_call 24
       (with_reducible refine (HEM.out _).mono ?_)
       rintro e w2 ⟨rfl, hbx⟩
       have b0 := blk_below b0 hbx
       have b1 := blk_below b1 hbx
       have b2 := blk_below b2 hbx
       have HB2 := Lib.hid (HB1.out.trans (hbx.mono HB1.out.size))
       have hz2 : w.heap.size + 3 ≤ w2.heap.size := Nat.le_trans hz1 hbx.size
       clear hbx hz1)
    | ((with_reducible refine wpList_load_blk 29 _ rfl w.heap.size ?hx3 29 p.arr (0, 0) _ b0 Tryz.underlying29 ?hd3 HW.out ?_ ?hw3); (case hx3 => rfl); (case hd3 => rfl); (case hw3 => rfl)))
  have hSd : (w2.drew.heap[w.heap.size]? = some (.cells p.arr 29 (0, 0)) ∧ w2.drew.heap[w.heap.size + 1]? = some (.cells (enA u) 33 (0, 0)) ∧ w2.drew.heap[w.heap.size + 2]? = some (.cells Lp.zero.arr 29 (0, 0)) ∧ Below w.heap.size w w2.drew) := ⟨blk_drew b0, blk_drew b1, blk_drew b2, HB2.out.drew⟩
  have hzd : w.heap.size + 3 ≤ w2.drew.heap.size := hz2
  clear b0 b1 b2 hz2
  refine wp_region_held_drew (S := (fun X => X.heap[w.heap.size]? = some (.cells p.arr 29 (0, 0)) ∧ X.heap[w.heap.size + 1]? = some (.cells (enA u) 33 (0, 0)) ∧ X.heap[w.heap.size + 2]? = some (.cells Lp.zero.arr 29 (0, 0)) ∧ Below w.heap.size w X)) (by kernel_rfl) hSd (fun hHeld => ?_)
  refine take_run 0 (.pointer (some ⟨w.heap.size, 3, none⟩)) rfl (by kernel_rfl) (by kernel_rfl) (by kernel_rfl) (fun _ _ _ h => h) rfl hHeld (fun w => ?_) ?_
  · go_simp
  simp only [Act.put, List.setIfInBounds_toArray, List.set_cons_zero, List.set_cons_succ]
  refine take_if 1 (.slice p.B p.m p.d) rfl (by kernel_rfl) (by kernel_rfl) (by kernel_rfl) (fun _ _ _ h => h) rfl hHeld (fun w' hw' => ?_) ?_
  · have hq := (lg_cells hw'.1).2.2.2
    go_simp
  simp only [Act.put, List.setIfInBounds_toArray, List.set_cons_zero, List.set_cons_succ]
  refine take_run 2 (.int .i64 p.m) rfl (by kernel_rfl) (by kernel_rfl) (by kernel_rfl) (fun _ _ _ h => h) rfl hHeld (fun w => ?_) ?_
  · go_simp
  simp only [Act.put, List.setIfInBounds_toArray, List.set_cons_zero, List.set_cons_succ]
  refine take_blk 3 29 _ w.heap.size 29 _ (0, 0) _ rfl rfl rfl (by kernel_rfl) (by kernel_rfl) (by kernel_rfl) (fun _ _ _ h => h) rfl hHeld (fun X hX => hX.1) Tryz.underlying29 rfl HW.out ?_
  simp only [Act.put, List.setIfInBounds_toArray, List.set_cons_zero, List.set_cons_succ]
  refine one_step 4 (by kernel_rfl) rfl (fun Kq hKq => ?_)
  go_simp
  go_at_call 25
  refine (HSL.out _).mono ?_
  rintro e y1 ⟨rfl, hbx⟩
  have hS1 : (y1.heap[w.heap.size]? = some (.cells p.arr 29 (0, 0)) ∧ y1.heap[w.heap.size + 1]? = some (.cells (enA u) 33 (0, 0)) ∧ y1.heap[w.heap.size + 2]? = some (.cells Lp.zero.arr 29 (0, 0)) ∧ Below w.heap.size w y1) := ⟨blk_below hSd.1 hbx, blk_below hSd.2.1 hbx, blk_below hSd.2.2.1 hbx, hSd.2.2.2.trans (hbx.mono hSd.2.2.2.size)⟩
  have hz1 : w.heap.size + 3 ≤ y1.heap.size := Nat.le_trans hzd hbx.size
  clear hbx
  refine hKq.out _ _ hS1 (fun hHeld0 => ?_)
  clear hKq Kq hHeld
  have hHeld := hHeld0
  clear hHeld0
  try simp only [Act.put, List.setIfInBounds_toArray, List.set_cons_zero, List.set_cons_succ]
  refine take_run 5 (.bool false) rfl (by kernel_rfl) (by kernel_rfl) (by kernel_rfl) (fun _ _ _ h => h) rfl hHeld (fun w => ?_) ?_
  · go_simp
  simp only [Act.put, List.setIfInBounds_toArray, List.set_cons_zero, List.set_cons_succ]
  refine take_run 6 (.bool false) rfl (by kernel_rfl) (by kernel_rfl) (by kernel_rfl) (fun _ _ _ h => h) rfl hHeld (fun w => ?_) ?_
  · go_simp
  simp only [Act.put, List.setIfInBounds_toArray, List.set_cons_zero, List.set_cons_succ]
  refine take_run 7 (.bool true) rfl (by kernel_rfl) (by kernel_rfl) (by kernel_rfl) (fun _ _ _ h => h) rfl hHeld (fun w => ?_) ?_
  · go_simp
  simp only [Act.put, List.setIfInBounds_toArray, List.set_cons_zero, List.set_cons_succ]
  refine take_run 8 (.bool false) rfl (by kernel_rfl) (by kernel_rfl) (by kernel_rfl) (fun _ _ _ h => h) rfl hHeld (fun w => ?_) ?_
  · go_simp
  simp only [Act.put, List.setIfInBounds_toArray, List.set_cons_zero, List.set_cons_succ]
  refine take_run 9 (.bool false) rfl (by kernel_rfl) (by kernel_rfl) (by kernel_rfl) (fun _ _ _ h => h) rfl hHeld (fun w => ?_) ?_
  · go_simp
  simp only [Act.put, List.setIfInBounds_toArray, List.set_cons_zero, List.set_cons_succ]
  refine take_off 10 rfl (by kernel_rfl) (by kernel_rfl) (by kernel_rfl) (fun _ _ _ h => h) rfl hHeld ?_
  simp only [Act.put, List.setIfInBounds_toArray, List.set_cons_zero, List.set_cons_succ]
  refine take_off 11 rfl (by kernel_rfl) (by kernel_rfl) (by kernel_rfl) (fun _ _ _ h => h) rfl hHeld ?_
  simp only [Act.put, List.setIfInBounds_toArray, List.set_cons_zero, List.set_cons_succ]
  refine take_off 12 rfl (by kernel_rfl) (by kernel_rfl) (by kernel_rfl) (fun _ _ _ h => h) rfl hHeld ?_
  simp only [Act.put, List.setIfInBounds_toArray, List.set_cons_zero, List.set_cons_succ]
  refine take_run 13 (.bool false) rfl (by kernel_rfl) (by kernel_rfl) (by kernel_rfl) (fun _ _ _ h => h) rfl hHeld (fun w => ?_) ?_
  · go_simp
  simp only [Act.put, List.setIfInBounds_toArray, List.set_cons_zero, List.set_cons_succ]
  refine take_run 14 (.bool false) rfl (by kernel_rfl) (by kernel_rfl) (by kernel_rfl) (fun _ _ _ h => h) rfl hHeld (fun w => ?_) ?_
  · go_simp
  simp only [Act.put, List.setIfInBounds_toArray, List.set_cons_zero, List.set_cons_succ]
  refine wpAnyH_done (by kernel_rfl) ?_ _
  obtain ⟨b0, b1, b2, hb5⟩ := hS1
  have HB5 := Lib.hid hb5
  have hz5 : w.heap.size + 3 ≤ y1.heap.size := hz1
  clear hb5 hHeld
  go_wp2_with (first
    | ((with_reducible refine wpList_load_blk 29 _ rfl w.heap.size ?hx3 29 p.arr (0, 0) _ b0 Tryz.underlying29 ?hd3 HW.out ?_ ?hw3); (case hx3 => rfl); (case hd3 => rfl); (case hw3 => rfl))
    | ((with_reducible refine wpList_load_blk 33 _ rfl (w.heap.size + 1) ?hx5 33 (enA u) (0, 0) _ b1 Tryz.underlying33 ?hd5 (info_en (enA_size _)) ?_ ?hw5); (case hx5 => rfl); (case hd5 => rfl); (case hw5 => rfl))
    | (go_at_call 26
       (with_reducible refine (HRC.out _ HB5.out).mono ?_)
       rintro e w6 ⟨A6, n6, c6, rfl, hbt, hloc, hbx⟩
       have HD6 := Lib.hid hbt
       have b0 := blk_below b0 hbx
       have b1 := blk_below b1 hbx
       have b2 := blk_below b2 hbx
       have HB6 := Lib.hid (HB5.out.trans (hbx.mono HB5.out.size))
       have hz6 : w.heap.size + 3 ≤ w6.heap.size := Nat.le_trans hz5 hbx.size
       clear hbx hbt hloc hz5)
    | ((with_reducible refine wpList_store_blk rfl 27 _ _ rfl w6.heap.size (idv Z) ?hx6 ?hy6 27 _ (heap_alloc_new w6 _) (info32 HZL.out) ?hs6 (idv_one _) ?_); (case hx6 => rfl); (case hy6 => rfl); (case hs6 => rw [idv_size, HZL.out]; rfl)
       intro w7 hg7 hX hs7
       have hX : RowB w7 w6.heap.size 27 Z := hX
       have hbx : Below w6.heap.size w6 w7 := Below.grows (one_alloc w6 _) hg7 (size_le_alloc _ _) (Nat.le_refl _)
       have HD6 := Lib.hid (HD6.out.below hbx)
       have b0 := blk_below b0 hbx
       have b1 := blk_below b1 hbx
       have b2 := blk_below b2 hbx
       have hrs := lg_st b0
       have HB7 := Lib.hid (HB6.out.trans (hbx.mono HB6.out.size))
       have hz7 : w.heap.size + 3 ≤ w7.heap.size := Nat.le_trans hz6 hbx.size
       clear hbx hg7 hs7)
    | ((with_reducible refine wpList_load_on 24 _ rfl w.heap.size 0 ?hx7 [.int .i64 p.cap, .slice p.A p.n p.c, .int .i64 p.sure] _ rfl _ hrs Tryz.underlying24 ?hd7 (by kernel_rfl) ?_ ?hw7); (case hx7 => rfl); (case hd7 => rfl); (case hw7 => rfl))
    | (go_at_call 27
       (with_reducible refine (HWR.out _ A6 n6 c6 HB7.out HD6.out).mono ?_)
       rintro e w8 ⟨A8, n8, c8, rfl, hbt, hloc, hbx⟩
       have hf8 := loc_far HDT.out hloc hz7
       have HD8 := Lib.hid hbt
       have b0 := blk_below b0 hbx
       have b1 := blk_below b1 hbx
       have b2 := blk_below b2 hbx
       have hX := hX.keep hbx
       have HB8 := Lib.hid (HB7.out.trans (hbx.mono HB7.out.size))
       have hz8 : w.heap.size + 3 ≤ w8.heap.size := Nat.le_trans hz7 hbx.size
       clear hbx hbt hloc hz7 hrs)
    | (go_at_call 28
       (with_reducible refine (HSY.out _ A8 n8 c8 (HD8.out.below (one_alloc w8 _))).mono ?_)
       rintro e w9 ⟨A9, n9, c9, rfl, hbt, hloc, hbx⟩
       have hz9 : w.heap.size + 3 ≤ w9.heap.size := Nat.le_trans (Nat.le_trans hz8 (size_le_alloc _ _)) hbx.size
       have hf9 := loc_far2 hf8 hloc (Nat.le_trans hz8 (size_le_alloc _ _))
       have b0 := blk_below (blk_below b0 (one_alloc w8 _)) hbx
       have b1 := blk_below (blk_below b1 (one_alloc w8 _)) hbx
       have b2 := blk_below (blk_below b2 (one_alloc w8 _)) hbx
       have hX := (hX.keep (one_alloc w8 _)).keep hbx
       have HB9 := Lib.hid ((HB8.out.alloc HB8.out.size _).trans (hbx.mono (HB8.out.alloc HB8.out.size _).size))
       have HDW := Lib.hid (hbt.below (one_alloc w9 (.cells #[.int .i64 C1, .slice A9 n9 c9, .int .i64 S2] 24 (0, 0))))
       have HBW := Lib.hid (HB9.out.alloc HB9.out.size (.cells #[.int .i64 C1, .slice A9 n9 c9, .int .i64 S2] 24 (0, 0)))
       have b0W := blk_below b0 (one_alloc w9 (.cells #[.int .i64 C1, .slice A9 n9 c9, .int .i64 S2] 24 (0, 0)))
       have b1W := blk_below b1 (one_alloc w9 (.cells #[.int .i64 C1, .slice A9 n9 c9, .int .i64 S2] 24 (0, 0)))
       have b2W := blk_below b2 (one_alloc w9 (.cells #[.int .i64 C1, .slice A9 n9 c9, .int .i64 S2] 24 (0, 0)))
       have hXW := hX.keep (one_alloc w9 (.cells #[.int .i64 C1, .slice A9 n9 c9, .int .i64 S2] 24 (0, 0)))
       have stW := heap_alloc_new w9 (.cells #[.int .i64 C1, .slice A9 n9 c9, .int .i64 S2] 24 (0, 0))
       have x3 := (lg_cells b0W).2.2.2
       clear hbx hbt hloc hz8 hf8 b0 b1 b2 hX b0W)
    | (at_builtin
       refine wpList_append_r rfl 25 33 9 72 _ _ rfl Tryz.underlying25 info_entry (by omega) (w9.alloc (.cells #[.int .i64 C1, .slice A9 n9 c9, .int .i64 S2] 24 (0, 0))).heap.size (.slice none 0 0) [] rfl (OwnR.nil _ _ _ _) p.B p.m p.d RW rfl (HEN.out _ HBW.out) (by have := HSM.out; simp; omega) (by have := HSM.out; simp; omega) (Nat.le_refl _) ?_
       intro v10 w10 hown10 hg10
       have hbW : Below (w9.alloc (.cells #[.int .i64 C1, .slice A9 n9 c9, .int .i64 S2] 24 (0, 0))).heap.size (w9.alloc (.cells #[.int .i64 C1, .slice A9 n9 c9, .int .i64 S2] 24 (0, 0))) w10 := (Below.refl _ _).grown hg10 (Nat.le_refl _) (fun k hk => by simp [Value.ownBlock] at hk)
       rw [List.nil_append] at hown10
       have HBK := Lib.hid hbW
       clear hg10 hbW x3))
  obtain ⟨g0, g1, g2, g3, g4, g5, g6, g7, g8⟩ := u
  have SC := Lib.hid (show ∀ X, Below (w9.alloc (.cells #[.int .i64 C1, .slice A9 n9 c9, .int .i64 S2] 24 (0, 0))).heap.size (w9.alloc (.cells #[.int .i64 C1, .slice A9 n9 c9, .int .i64 S2] 24 (0, 0))) X → (fun X => X.heap[w9.heap.size]? = some (.cells #[.int .i64 C1, .slice A9 n9 c9, .int .i64 S2] 24 (0, 0)) ∧ X.heap[w.heap.size + 1]? = some (.cells (enA ⟨g0, g1, g2, g3, g4, g5, g6, g7, g8⟩) 33 (0, 0)) ∧ RowB X w6.heap.size 27 Z ∧ Below w.heap.size w X) X from fun X hX => ⟨blk_below stW hX, blk_below b1W hX, hXW.keep hX, HBW.out.trans (hX.mono HBW.out.size)⟩)
  have HP := Lib.hid (show Lp.arr ⟨C1, none, 0, 0, S2, none, 0, 0, Z⟩ = Lp.arr ⟨C1, none, 0, 0, S2, none, 0, 0, Z⟩ from rfl)
  have hBd := HBK.out.drew
  have hSd := SC.out _ hBd
  have hwS : w9.heap.size + 1 = (w9.alloc (.cells #[.int .i64 C1, .slice A9 n9 c9, .int .i64 S2] 24 (0, 0))).heap.size := by simp
  clear stW b1W hXW
  refine wp_region_held_drew (S := (fun X => X.heap[w9.heap.size]? = some (.cells #[.int .i64 C1, .slice A9 n9 c9, .int .i64 S2] 24 (0, 0)) ∧ X.heap[w.heap.size + 1]? = some (.cells (enA ⟨g0, g1, g2, g3, g4, g5, g6, g7, g8⟩) 33 (0, 0)) ∧ RowB X w6.heap.size 27 Z ∧ Below w.heap.size w X)) (by kernel_rfl) hSd (fun hHeld => ?_)
  refine take_blk 0 24 _ w9.heap.size 24 _ (0, 0) _ rfl rfl rfl (by kernel_rfl) (by kernel_rfl) (by kernel_rfl) (fun _ _ _ h => h) rfl hHeld (fun X hX => hX.1) Tryz.underlying24 rfl (size_st3 _ _ _) ?_
  simp only [Act.put, List.setIfInBounds_toArray, List.set_cons_zero, List.set_cons_succ]
  refine take_move 1 (.tmp 16) v10 rfl rfl rfl (by kernel_rfl) (by kernel_rfl) (by kernel_rfl) (fun _ _ _ h => h) rfl hHeld ?_
  simp only [Act.put, List.setIfInBounds_toArray, List.set_cons_zero, List.set_cons_succ]
  refine take_blk 2 33 _ (w.heap.size + 1) 33 #[.int .i64 g0, .int .i64 g1, .int .i64 g2, .int .i64 g3, .int .u64 g4, .int .u64 g5, .int .i64 g6, .int .i64 g7, .int .i64 g8] (0, 0) _ rfl rfl rfl (by kernel_rfl) (by kernel_rfl) (by kernel_rfl) (fun _ _ _ h => h) rfl hHeld (fun X hX => hX.2.1) Tryz.underlying33 rfl (info_en rfl) ?_
  simp only [Act.put, List.setIfInBounds_toArray, List.set_cons_zero, List.set_cons_succ]
  refine take_if 5 (.agg (idv Z)) rfl (by kernel_rfl) (by kernel_rfl) (by kernel_rfl) (fun _ _ _ h => h) rfl hHeld (fun w' hw' => ?_) ?_
  · exact id_load hw'.2.2.1 HZL.out rfl rfl
  simp only [Act.put, List.setIfInBounds_toArray, List.set_cons_zero, List.set_cons_succ]
  refine one_step 3 (by kernel_rfl) rfl (fun Kq hKq => ?_)
  have hz := one_rws 9 33 w10.drew (En.row ⟨g0, g1, g2, g3, g4, g5, g6, g7, g8⟩) rfl (row_one9 ⟨g0, g1, g2, g3, g4, g5, g6, g7, g8⟩)
  have hBz : Below (w9.alloc (.cells #[.int .i64 C1, .slice A9 n9 c9, .int .i64 S2] 24 (0, 0))).heap.size (w9.alloc (.cells #[.int .i64 C1, .slice A9 n9 c9, .int .i64 S2] 24 (0, 0))) (w10.drew.alloc (.cells #[.int .i64 g0, .int .i64 g1, .int .i64 g2, .int .i64 g3, .int .u64 g4, .int .u64 g5, .int .i64 g6, .int .i64 g7, .int .i64 g8] 33 (0, 0))) := hBd.trans ((one_alloc w10.drew _).mono hBd.size)
  have hSz := SC.out _ hBz
  have hownz : OwnR 33 9 (w10.drew.alloc (.cells #[.int .i64 g0, .int .i64 g1, .int .i64 g2, .int .i64 g3, .int .u64 g4, .int .u64 g5, .int .i64 g6, .int .i64 g7, .int .i64 g8] 33 (0, 0))) (w9.alloc (.cells #[.int .i64 C1, .slice A9 n9 c9, .int .i64 S2] 24 (0, 0))).heap.size v10 RW := hown10.draw1.more _
  go_simp
  refine hKq.out _ _ hSz (fun hHeld0 => ?_)
  clear hKq Kq hHeld
  have hHeld := hHeld0
  clear hHeld0
  try simp only [Act.put, List.setIfInBounds_toArray, List.set_cons_zero, List.set_cons_succ]
  refine one_step 4 (by kernel_rfl) rfl (fun Kq hKq => ?_)
  refine step_append_r 25 33 9 72 _ _ rfl Tryz.underlying25 info_entry (by omega) (w9.alloc (.cells #[.int .i64 C1, .slice A9 n9 c9, .int .i64 S2] 24 (0, 0))).heap.size v10 RW rfl hownz _ 1 1 [En.row ⟨g0, g1, g2, g3, g4, g5, g6, g7, g8⟩] rfl hz (by have := HSM.out; have := HRWL.out; omega) (by have := HSM.out; have := HRWL.out; omega) hBz.size rfl ?_
  intro v4 y4 hown4 hg4
  have hB4 : Below (w9.alloc (.cells #[.int .i64 C1, .slice A9 n9 c9, .int .i64 S2] 24 (0, 0))).heap.size (w9.alloc (.cells #[.int .i64 C1, .slice A9 n9 c9, .int .i64 S2] 24 (0, 0))) y4 := hBz.grown hg4 hBz.size (fun k hk => (hownz.size k hk).1)
  have hS4 := SC.out _ hB4
  rw [← HRO.out] at hown4
  have hv4 := own_ens hown4
  obtain ⟨B4, m4, d4, rfl, -⟩ := hv4
  refine hKq.out _ _ hS4 (fun hHeld0 => ?_)
  clear hKq Kq hHeld
  have hHeld := hHeld0
  clear hHeld0
  try simp only [Act.put, List.setIfInBounds_toArray, List.set_cons_zero, List.set_cons_succ]
  have HLS := Lib.hid (show (Lp.arr ⟨C1, A9, n9, c9, S2, B4, m4, d4, Z⟩).size = 36 from lp_size HZL.out)
  refine take_build 6 29 _ [(0, .agg #[.int .i64 C1, .slice A9 n9 c9, .int .i64 S2]), (1, .slice B4 m4 d4), (2, .agg (idv Z))] (Lp.arr ⟨C1, A9, n9, c9, S2, B4, m4, d4, Z⟩) rfl rfl rfl (built_log ⟨C1, A9, n9, c9, S2, B4, m4, d4, Z⟩ HZL.out) (by kernel_rfl) (by kernel_rfl) (by kernel_rfl) (fun _ _ _ h => h) rfl hHeld ?_
  simp only [Act.put, List.setIfInBounds_toArray, List.set_cons_zero, List.set_cons_succ]
  refine one_step 7 (by kernel_rfl) rfl (fun Kq hKq => ?_)
  refine step_store_row 29 _ _ rfl (w.heap.size + 2) (Lp.arr ⟨C1, A9, n9, c9, S2, B4, m4, d4, Z⟩) rfl rfl 29 _ (blk_below b2W hB4) (info_log HLS.out) ((lp_size (p := Lp.zero) rfl).trans HLS.out.symm) (lp_one _) rfl ?_
  intro wF hgF hXF hsF
  have hSF : (fun X => X.heap[w9.heap.size]? = some (.cells #[.int .i64 C1, .slice A9 n9 c9, .int .i64 S2] 24 (0, 0)) ∧ X.heap[w.heap.size + 1]? = some (.cells (enA ⟨g0, g1, g2, g3, g4, g5, g6, g7, g8⟩) 33 (0, 0)) ∧ RowB X w6.heap.size 27 Z ∧ Below w.heap.size w X) wF := ⟨blk_other hS4.1 hgF (by omega), blk_other hS4.2.1 hgF (by omega), rowb_grown hS4.2.2.1 hgF (by omega), hS4.2.2.2.grown hgF hS4.2.2.2.size (fun k e => by cases e; omega)⟩
  have hdF := (HDW.out.below hB4).kept hf9 hgF (by omega) (by omega)
  have hownF := hown4.far hgF (ownr_far hown4 (by omega))
  refine hKq.out _ _ hSF (fun hHeld0 => ?_)
  clear hKq Kq hHeld
  have hHeld := hHeld0
  clear hHeld0
  try simp only [Act.put, List.setIfInBounds_toArray, List.set_cons_zero, List.set_cons_succ]
  refine take_run 8 (.int .i64 0) rfl (by kernel_rfl) (by kernel_rfl) (by kernel_rfl) (fun _ _ _ h => h) rfl hHeld (fun w => ?_) ?_
  · go_simp
  simp only [Act.put, List.setIfInBounds_toArray, List.set_cons_zero, List.set_cons_succ]
  refine wpAnyH_done (by kernel_rfl) ?_ _
  obtain ⟨B5, m5, d5, he5, henF⟩ := own_ens hownF
  cases he5
  have hbF := hSF.2.2.2
  go_wp2
  refine bodyPost_ret (v := .tuple #[.agg (Lp.arr ⟨C1, A9, n9, c9, S2, B4, m4, d4, Z⟩), .int .i64 0]) ?_ rfl ⟨_, rfl, ⟨rfl, rfl, rfl, hdF, henF, HOK.out, HFT.out⟩, hbF⟩
  exact results_blk_tmp Tryz.results7 _ _ _ (w.heap.size + 2) 29 _ (0, 0) _ rfl hXF Tryz.underlying29 rfl (info_log HLS.out) _ rfl
set_option maxHeartbeats 4000000 in
theorem aradd_ob (p : Lp) (g : Lg) (u : En) (w : World) (h : LgAt w p g) (hu : u.ok) (hsm : p.m ≤ 1000000) (hm : mayG g = true) (he : mayE u = true) (hf : ¬ slotsG g ≤ g.l.length) (hr : ¬ roomG g = 0) :
    Calls Tryz.prog 7 #[.agg p.arr, enV u, .bool false] w (GLE (moreG g u, 0) w) := by
  have HMY := Lib.hid (fun (X : World) (hX : Below w.heap.size w X) => armay_any p g X (h.below hX))
  have HEM := Lib.hid (fun (X : World) => ermay_any u X)
  have HRM := Lib.hid (fun (X : World) (hX : Below w.heap.size w X) => arroom_any p g X (h.below hX) hsm)
  have HSL := Lib.hid (fun X => arslots_any p X h.hlen h.fits)
  have HL := Lib.hid h
  have HW := Lib.hid h.whole
  have HPS := Lib.hid (lp_size h.hlen)
  simp only [hm] at HMY
  simp only [he] at HEM
  have hnl := h.ents.len
  have hsl := slots_at h.fits
  have hsq : slotsG g = p.cap.tdiv 62 := by rw [slotsG, h.cap]
  obtain ⟨q, hq⟩ : ∃ q, p.cap.tdiv 62 = q := ⟨_, rfl⟩
  simp only [hq] at HSL hsl hsq
  obtain ⟨RM, hRM⟩ : ∃ R, roomG g = R := ⟨_, rfl⟩
  simp only [hRM] at HRM
  have hsg := hsq
  have hqm : ¬ q ≤ (p.m : Int) := by rw [← hsq, ← hnl]; exact hf
  have hr0 : ¬ RM = 0 := by rw [← hRM]; exact hr
  have hrl : (g.l.length : Int) < slotsG g := by omega
  have hHE : g.ok := h.ok
  obtain ⟨r1, r2, r3⟩ := recG_eq hm he
  have hw := write_rec hm he hrl
  have hwm := (write_may (mayG_iff.1 hm).1 hw).1
  have hml := more_len g u
  have hsy : syncP ⟨g.st.cap, recsC (g.l ++ [u]), 62 * g.l.length⟩ = (⟨g.st.cap, recsC (g.l ++ [u]), 62 * (g.l.length + 1)⟩, 0) := by
    rw [sync_ok hwm]
    show ((⟨g.st.cap, recsC (g.l ++ [u]), ((recsC (g.l ++ [u])).length : Int)⟩ : Sp), (0 : Int)) = _
    rw [hml]
    simp
  have HDT := Lib.hid h.data
  have HEN := Lib.hid (fun (X : World) (hX : Below w.heap.size w X) => (h.ents.below hX).rws)
  have HRC := Lib.hid (fun (X : World) (hX : Below w.heap.size w X) => arrec_any p g u X (h.below hX) hu)
  have HWR := Lib.hid (show ∀ X A6 n6 c6, Below w.heap.size w X → Bts X A6 n6 c6 (recG g u) → Calls Tryz.prog 27 #[.agg #[.int .i64 p.cap, .slice p.A p.n p.c, .int .i64 p.sure], .slice A6 n6 c6] X fun e w' => ∃ A' n' c', e = .returned (.tuple #[.agg #[.int .i64 g.st.cap, .slice A' n' c', .int .i64 (62 * (g.l.length : Int))], .int .i64 0]) ∧ Bts w' A' n' c' (recsC (g.l ++ [u])) ∧ Loc p.A p.n A' n' X ∧ Below X.heap.size X w' from fun X A6 n6 c6 hX h6 => by
    have h0 := rwrite_any g.st (recG g u) p.A A6 p.n p.c n6 c6 X (h.data.below hX) h6
    rw [h.val, hw] at h0
    exact h0)
  have HSY := Lib.hid (show ∀ X A' n' c', Bts X A' n' c' (recsC (g.l ++ [u])) → Calls Tryz.prog 28 #[.agg #[.int .i64 g.st.cap, .slice A' n' c', .int .i64 (62 * (g.l.length : Int))]] X fun e w' => ∃ A2 n2 c2, e = .returned (.tuple #[.agg #[.int .i64 g.st.cap, .slice A2 n2 c2, .int .i64 (62 * ((g.l.length : Int) + 1))], .int .i64 0]) ∧ Bts w' A2 n2 c2 (recsC (g.l ++ [u])) ∧ Loc A' n' A2 n2 X ∧ Below X.heap.size X w' from fun X A' n' c' h6 => by
    have h0 := rsync_any ⟨g.st.cap, recsC (g.l ++ [u]), 62 * g.l.length⟩ A' n' c' X h6
    rw [hsy] at h0
    exact h0)
  have HOK := Lib.hid (show (moreG g u).ok from ⟨fun v hv => by
    rcases List.mem_append.1 hv with hv | hv
    · exact hHE.each v hv
    · rw [List.mem_singleton] at hv; rw [hv]; exact hu, headC_len _, headC_byte _⟩)
  have HFT := Lib.hid h.fits
  rw [h.cap] at HFT
  have HSM := Lib.hid hsm
  have HRO := Lib.hid (show (g.l ++ [u]).map En.row = g.l.map En.row ++ [En.row u] by simp)
  have HRWL := Lib.hid (show (g.l.map En.row).length = p.m by rw [List.length_map, hnl])
  have HZL := Lib.hid (show (headC (g.l ++ [u])).length = 32 from headC_len _)
  simp only [r2] at HRC
  unfold moreG at HOK ⊢
  obtain ⟨C1, hC1⟩ : ∃ x, g.st.cap = x := ⟨_, rfl⟩
  simp only [hC1] at HWR HSY HOK HFT ⊢
  obtain ⟨D1, hD1⟩ : ∃ x, recsC (g.l ++ [u]) = x := ⟨_, rfl⟩
  simp only [hD1] at HWR HSY HOK ⊢
  obtain ⟨S1, hS1⟩ : ∃ x, (62 * (g.l.length : Int)) = x := ⟨_, rfl⟩
  simp only [hS1] at HWR HSY
  obtain ⟨S2, hS2⟩ : ∃ x, (62 * ((g.l.length : Int) + 1)) = x := ⟨_, rfl⟩
  simp only [hS2] at HSY HOK ⊢
  obtain ⟨Z, hZ⟩ : ∃ x, headC (g.l ++ [u]) = x := ⟨_, rfl⟩
  simp only [hZ] at HRC HOK HZL ⊢
  obtain ⟨RC, hRC⟩ : ∃ x, recG g u = x := ⟨_, rfl⟩
  simp only [hRC] at HRC HWR
  obtain ⟨RW, hRW⟩ : ∃ x, g.l.map En.row = x := ⟨_, rfl⟩
  simp only [hRW] at HRO HRWL HEN
  obtain ⟨L2, hL2⟩ : ∃ x, g.l ++ [u] = x := ⟨_, rfl⟩
  simp only [hL2] at HRO HOK ⊢
  clear h hu hsm hsq hsg hq hRM hnl hf hHE r1 r2 r3 hw hwm hml hsy hrl hC1 hD1 hS1 hS2 hZ hRC hRW hL2 hr
  unfold enV at HEM HRC ⊢
  go_enter Tryz.func7, Tryz.ntmps7
  go_wp2_with (first
    | ((with_reducible refine wpList_load_blk 29 _ rfl w.heap.size ?hx1 29 p.arr (0, 0) _ (first_of_c _ _ _ _) Tryz.underlying29 ?hd1 HW.out ?_ ?hw1); (case hx1 => rfl); (case hd1 => rfl); (case hw1 => rfl))
    | (go_at_call 16
       (with_reducible refine (HMY.out _ (three_below_c _ _ _ _)).mono ?_)
       rintro e w1 ⟨rfl, hb1⟩
       obtain ⟨hb0, y0, y1, y2⟩ := after_three_c hb1
       have hz1 : w.heap.size + 3 ≤ w1.heap.size := by have := hb1.size; simpa using this
       have b0 : w1.heap[w.heap.size]? = some (.cells p.arr 29 (0, 0)) := y0
       have b1 : w1.heap[w.heap.size + 1]? = some (.cells (enA u) 33 (0, 0)) := y1
       have b2 : w1.heap[w.heap.size + 2]? = some (.cells Lp.zero.arr 29 (0, 0)) := y2
       have HB1 := Lib.hid hb0
       clear hb1 hb0 y0 y1 y2)
    | ((with_reducible refine wpList_load_blk 33 _ rfl (w.heap.size + 1) ?hx2 33 (enA u) (0, 0) _ b1 Tryz.underlying33 ?hd2 (info_en (enA_size _)) ?_ ?hw2); (case hx2 => rfl); (case hd2 => rfl); (case hw2 => rfl))
    | (go_at_call 24
       (with_reducible refine (HEM.out _).mono ?_)
       rintro e w2 ⟨rfl, hbx⟩
       have b0 := blk_below b0 hbx
       have b1 := blk_below b1 hbx
       have b2 := blk_below b2 hbx
       have HB2 := Lib.hid (HB1.out.trans (hbx.mono HB1.out.size))
       have hz2 : w.heap.size + 3 ≤ w2.heap.size := Nat.le_trans hz1 hbx.size
       clear hbx hz1)
    | ((with_reducible refine wpList_load_blk 29 _ rfl w.heap.size ?hx3 29 p.arr (0, 0) _ b0 Tryz.underlying29 ?hd3 HW.out ?_ ?hw3); (case hx3 => rfl); (case hd3 => rfl); (case hw3 => rfl)))
  have hSd : (w2.drew.heap[w.heap.size]? = some (.cells p.arr 29 (0, 0)) ∧ w2.drew.heap[w.heap.size + 1]? = some (.cells (enA u) 33 (0, 0)) ∧ w2.drew.heap[w.heap.size + 2]? = some (.cells Lp.zero.arr 29 (0, 0)) ∧ Below w.heap.size w w2.drew) := ⟨blk_drew b0, blk_drew b1, blk_drew b2, HB2.out.drew⟩
  have hzd : w.heap.size + 3 ≤ w2.drew.heap.size := hz2
  clear b0 b1 b2 hz2
  refine wp_region_held_drew (S := (fun X => X.heap[w.heap.size]? = some (.cells p.arr 29 (0, 0)) ∧ X.heap[w.heap.size + 1]? = some (.cells (enA u) 33 (0, 0)) ∧ X.heap[w.heap.size + 2]? = some (.cells Lp.zero.arr 29 (0, 0)) ∧ Below w.heap.size w X)) (by kernel_rfl) hSd (fun hHeld => ?_)
  refine take_run 0 (.pointer (some ⟨w.heap.size, 3, none⟩)) rfl (by kernel_rfl) (by kernel_rfl) (by kernel_rfl) (fun _ _ _ h => h) rfl hHeld (fun w => ?_) ?_
  · go_simp
  simp only [Act.put, List.setIfInBounds_toArray, List.set_cons_zero, List.set_cons_succ]
  refine take_if 1 (.slice p.B p.m p.d) rfl (by kernel_rfl) (by kernel_rfl) (by kernel_rfl) (fun _ _ _ h => h) rfl hHeld (fun w' hw' => ?_) ?_
  · have hq := (lg_cells hw'.1).2.2.2
    go_simp
  simp only [Act.put, List.setIfInBounds_toArray, List.set_cons_zero, List.set_cons_succ]
  refine take_run 2 (.int .i64 p.m) rfl (by kernel_rfl) (by kernel_rfl) (by kernel_rfl) (fun _ _ _ h => h) rfl hHeld (fun w => ?_) ?_
  · go_simp
  simp only [Act.put, List.setIfInBounds_toArray, List.set_cons_zero, List.set_cons_succ]
  refine take_blk 3 29 _ w.heap.size 29 _ (0, 0) _ rfl rfl rfl (by kernel_rfl) (by kernel_rfl) (by kernel_rfl) (fun _ _ _ h => h) rfl hHeld (fun X hX => hX.1) Tryz.underlying29 rfl HW.out ?_
  simp only [Act.put, List.setIfInBounds_toArray, List.set_cons_zero, List.set_cons_succ]
  refine one_step 4 (by kernel_rfl) rfl (fun Kq hKq => ?_)
  go_simp
  go_at_call 25
  refine (HSL.out _).mono ?_
  rintro e y1 ⟨rfl, hbx⟩
  have hS1 : (y1.heap[w.heap.size]? = some (.cells p.arr 29 (0, 0)) ∧ y1.heap[w.heap.size + 1]? = some (.cells (enA u) 33 (0, 0)) ∧ y1.heap[w.heap.size + 2]? = some (.cells Lp.zero.arr 29 (0, 0)) ∧ Below w.heap.size w y1) := ⟨blk_below hSd.1 hbx, blk_below hSd.2.1 hbx, blk_below hSd.2.2.1 hbx, hSd.2.2.2.trans (hbx.mono hSd.2.2.2.size)⟩
  have hz1 : w.heap.size + 3 ≤ y1.heap.size := Nat.le_trans hzd hbx.size
  clear hbx
  refine hKq.out _ _ hS1 (fun hHeld0 => ?_)
  clear hKq Kq hHeld
  have hHeld := hHeld0
  clear hHeld0
  try simp only [Act.put, List.setIfInBounds_toArray, List.set_cons_zero, List.set_cons_succ]
  refine take_run 5 (.bool false) rfl (by kernel_rfl) (by kernel_rfl) (by kernel_rfl) (fun _ _ _ h => h) rfl hHeld (fun w => ?_) ?_
  · go_simp
  simp only [Act.put, List.setIfInBounds_toArray, List.set_cons_zero, List.set_cons_succ]
  refine take_run 6 (.bool false) rfl (by kernel_rfl) (by kernel_rfl) (by kernel_rfl) (fun _ _ _ h => h) rfl hHeld (fun w => ?_) ?_
  · go_simp
  simp only [Act.put, List.setIfInBounds_toArray, List.set_cons_zero, List.set_cons_succ]
  refine take_run 7 (.bool false) rfl (by kernel_rfl) (by kernel_rfl) (by kernel_rfl) (fun _ _ _ h => h) rfl hHeld (fun w => ?_) ?_
  · go_simp
  simp only [Act.put, List.setIfInBounds_toArray, List.set_cons_zero, List.set_cons_succ]
  refine take_run 8 (.bool true) rfl (by kernel_rfl) (by kernel_rfl) (by kernel_rfl) (fun _ _ _ h => h) rfl hHeld (fun w => ?_) ?_
  · go_simp
  simp only [Act.put, List.setIfInBounds_toArray, List.set_cons_zero, List.set_cons_succ]
  refine take_run 9 (.bool true) rfl (by kernel_rfl) (by kernel_rfl) (by kernel_rfl) (fun _ _ _ h => h) rfl hHeld (fun w => ?_) ?_
  · go_simp
  simp only [Act.put, List.setIfInBounds_toArray, List.set_cons_zero, List.set_cons_succ]
  refine take_blk 10 29 _ w.heap.size 29 _ (0, 0) _ rfl rfl rfl (by kernel_rfl) (by kernel_rfl) (by kernel_rfl) (fun _ _ _ h => h) rfl hHeld (fun X hX => hX.1) Tryz.underlying29 rfl HW.out ?_
  simp only [Act.put, List.setIfInBounds_toArray, List.set_cons_zero, List.set_cons_succ]
  refine one_step 11 (by kernel_rfl) rfl (fun Kq hKq => ?_)
  go_simp
  go_at_call 20
  refine (HRM.out _ hS1.2.2.2).mono ?_
  rintro e y2 ⟨rfl, hbx⟩
  have hS2 : (y2.heap[w.heap.size]? = some (.cells p.arr 29 (0, 0)) ∧ y2.heap[w.heap.size + 1]? = some (.cells (enA u) 33 (0, 0)) ∧ y2.heap[w.heap.size + 2]? = some (.cells Lp.zero.arr 29 (0, 0)) ∧ Below w.heap.size w y2) := ⟨blk_below hS1.1 hbx, blk_below hS1.2.1 hbx, blk_below hS1.2.2.1 hbx, hS1.2.2.2.trans (hbx.mono hS1.2.2.2.size)⟩
  have hz2 : w.heap.size + 3 ≤ y2.heap.size := Nat.le_trans hz1 hbx.size
  clear hbx
  refine hKq.out _ _ hS2 (fun hHeld0 => ?_)
  clear hKq Kq hHeld
  have hHeld := hHeld0
  clear hHeld0
  try simp only [Act.put, List.setIfInBounds_toArray, List.set_cons_zero, List.set_cons_succ]
  refine take_run 12 (.bool false) rfl (by kernel_rfl) (by kernel_rfl) (by kernel_rfl) (fun _ _ _ h => h) rfl hHeld (fun w => ?_) ?_
  · go_simp
  simp only [Act.put, List.setIfInBounds_toArray, List.set_cons_zero, List.set_cons_succ]
  refine take_run 13 (.bool false) rfl (by kernel_rfl) (by kernel_rfl) (by kernel_rfl) (fun _ _ _ h => h) rfl hHeld (fun w => ?_) ?_
  · go_simp
  simp only [Act.put, List.setIfInBounds_toArray, List.set_cons_zero, List.set_cons_succ]
  refine take_run 14 (.bool false) rfl (by kernel_rfl) (by kernel_rfl) (by kernel_rfl) (fun _ _ _ h => h) rfl hHeld (fun w => ?_) ?_
  · go_simp
  simp only [Act.put, List.setIfInBounds_toArray, List.set_cons_zero, List.set_cons_succ]
  refine wpAnyH_done (by kernel_rfl) ?_ _
  obtain ⟨b0, b1, b2, hb5⟩ := hS2
  have HB5 := Lib.hid hb5
  have hz5 : w.heap.size + 3 ≤ y2.heap.size := hz2
  clear hb5 hHeld
  go_wp2_with (first
    | ((with_reducible refine wpList_load_blk 29 _ rfl w.heap.size ?hx3 29 p.arr (0, 0) _ b0 Tryz.underlying29 ?hd3 HW.out ?_ ?hw3); (case hx3 => rfl); (case hd3 => rfl); (case hw3 => rfl))
    | ((with_reducible refine wpList_load_blk 33 _ rfl (w.heap.size + 1) ?hx5 33 (enA u) (0, 0) _ b1 Tryz.underlying33 ?hd5 (info_en (enA_size _)) ?_ ?hw5); (case hx5 => rfl); (case hd5 => rfl); (case hw5 => rfl))
    | (go_at_call 26
       (with_reducible refine (HRC.out _ HB5.out).mono ?_)
       rintro e w6 ⟨A6, n6, c6, rfl, hbt, hloc, hbx⟩
       have HD6 := Lib.hid hbt
       have b0 := blk_below b0 hbx
       have b1 := blk_below b1 hbx
       have b2 := blk_below b2 hbx
       have HB6 := Lib.hid (HB5.out.trans (hbx.mono HB5.out.size))
       have hz6 : w.heap.size + 3 ≤ w6.heap.size := Nat.le_trans hz5 hbx.size
       clear hbx hbt hloc hz5)
    | ((with_reducible refine wpList_store_blk rfl 27 _ _ rfl w6.heap.size (idv Z) ?hx6 ?hy6 27 _ (heap_alloc_new w6 _) (info32 HZL.out) ?hs6 (idv_one _) ?_); (case hx6 => rfl); (case hy6 => rfl); (case hs6 => rw [idv_size, HZL.out]; rfl)
       intro w7 hg7 hX hs7
       have hX : RowB w7 w6.heap.size 27 Z := hX
       have hbx : Below w6.heap.size w6 w7 := Below.grows (one_alloc w6 _) hg7 (size_le_alloc _ _) (Nat.le_refl _)
       have HD6 := Lib.hid (HD6.out.below hbx)
       have b0 := blk_below b0 hbx
       have b1 := blk_below b1 hbx
       have b2 := blk_below b2 hbx
       have hrs := lg_st b0
       have HB7 := Lib.hid (HB6.out.trans (hbx.mono HB6.out.size))
       have hz7 : w.heap.size + 3 ≤ w7.heap.size := Nat.le_trans hz6 hbx.size
       clear hbx hg7 hs7)
    | ((with_reducible refine wpList_load_on 24 _ rfl w.heap.size 0 ?hx7 [.int .i64 p.cap, .slice p.A p.n p.c, .int .i64 p.sure] _ rfl _ hrs Tryz.underlying24 ?hd7 (by kernel_rfl) ?_ ?hw7); (case hx7 => rfl); (case hd7 => rfl); (case hw7 => rfl))
    | (go_at_call 27
       (with_reducible refine (HWR.out _ A6 n6 c6 HB7.out HD6.out).mono ?_)
       rintro e w8 ⟨A8, n8, c8, rfl, hbt, hloc, hbx⟩
       have hf8 := loc_far HDT.out hloc hz7
       have HD8 := Lib.hid hbt
       have b0 := blk_below b0 hbx
       have b1 := blk_below b1 hbx
       have b2 := blk_below b2 hbx
       have hX := hX.keep hbx
       have HB8 := Lib.hid (HB7.out.trans (hbx.mono HB7.out.size))
       have hz8 : w.heap.size + 3 ≤ w8.heap.size := Nat.le_trans hz7 hbx.size
       clear hbx hbt hloc hz7 hrs)
    | (go_at_call 28
       (with_reducible refine (HSY.out _ A8 n8 c8 (HD8.out.below (one_alloc w8 _))).mono ?_)
       rintro e w9 ⟨A9, n9, c9, rfl, hbt, hloc, hbx⟩
       have hz9 : w.heap.size + 3 ≤ w9.heap.size := Nat.le_trans (Nat.le_trans hz8 (size_le_alloc _ _)) hbx.size
       have hf9 := loc_far2 hf8 hloc (Nat.le_trans hz8 (size_le_alloc _ _))
       have b0 := blk_below (blk_below b0 (one_alloc w8 _)) hbx
       have b1 := blk_below (blk_below b1 (one_alloc w8 _)) hbx
       have b2 := blk_below (blk_below b2 (one_alloc w8 _)) hbx
       have hX := (hX.keep (one_alloc w8 _)).keep hbx
       have HB9 := Lib.hid ((HB8.out.alloc HB8.out.size _).trans (hbx.mono (HB8.out.alloc HB8.out.size _).size))
       have HDW := Lib.hid (hbt.below (one_alloc w9 (.cells #[.int .i64 C1, .slice A9 n9 c9, .int .i64 S2] 24 (0, 0))))
       have HBW := Lib.hid (HB9.out.alloc HB9.out.size (.cells #[.int .i64 C1, .slice A9 n9 c9, .int .i64 S2] 24 (0, 0)))
       have b0W := blk_below b0 (one_alloc w9 (.cells #[.int .i64 C1, .slice A9 n9 c9, .int .i64 S2] 24 (0, 0)))
       have b1W := blk_below b1 (one_alloc w9 (.cells #[.int .i64 C1, .slice A9 n9 c9, .int .i64 S2] 24 (0, 0)))
       have b2W := blk_below b2 (one_alloc w9 (.cells #[.int .i64 C1, .slice A9 n9 c9, .int .i64 S2] 24 (0, 0)))
       have hXW := hX.keep (one_alloc w9 (.cells #[.int .i64 C1, .slice A9 n9 c9, .int .i64 S2] 24 (0, 0)))
       have stW := heap_alloc_new w9 (.cells #[.int .i64 C1, .slice A9 n9 c9, .int .i64 S2] 24 (0, 0))
       have x3 := (lg_cells b0W).2.2.2
       clear hbx hbt hloc hz8 hf8 b0 b1 b2 hX b0W)
    | (at_builtin
       refine wpList_append_r rfl 25 33 9 72 _ _ rfl Tryz.underlying25 info_entry (by omega) (w9.alloc (.cells #[.int .i64 C1, .slice A9 n9 c9, .int .i64 S2] 24 (0, 0))).heap.size (.slice none 0 0) [] rfl (OwnR.nil _ _ _ _) p.B p.m p.d RW rfl (HEN.out _ HBW.out) (by have := HSM.out; simp; omega) (by have := HSM.out; simp; omega) (Nat.le_refl _) ?_
       intro v10 w10 hown10 hg10
       have hbW : Below (w9.alloc (.cells #[.int .i64 C1, .slice A9 n9 c9, .int .i64 S2] 24 (0, 0))).heap.size (w9.alloc (.cells #[.int .i64 C1, .slice A9 n9 c9, .int .i64 S2] 24 (0, 0))) w10 := (Below.refl _ _).grown hg10 (Nat.le_refl _) (fun k hk => by simp [Value.ownBlock] at hk)
       rw [List.nil_append] at hown10
       have HBK := Lib.hid hbW
       clear hg10 hbW x3))
  obtain ⟨g0, g1, g2, g3, g4, g5, g6, g7, g8⟩ := u
  have SC := Lib.hid (show ∀ X, Below (w9.alloc (.cells #[.int .i64 C1, .slice A9 n9 c9, .int .i64 S2] 24 (0, 0))).heap.size (w9.alloc (.cells #[.int .i64 C1, .slice A9 n9 c9, .int .i64 S2] 24 (0, 0))) X → (fun X => X.heap[w9.heap.size]? = some (.cells #[.int .i64 C1, .slice A9 n9 c9, .int .i64 S2] 24 (0, 0)) ∧ X.heap[w.heap.size + 1]? = some (.cells (enA ⟨g0, g1, g2, g3, g4, g5, g6, g7, g8⟩) 33 (0, 0)) ∧ RowB X w6.heap.size 27 Z ∧ Below w.heap.size w X) X from fun X hX => ⟨blk_below stW hX, blk_below b1W hX, hXW.keep hX, HBW.out.trans (hX.mono HBW.out.size)⟩)
  have HP := Lib.hid (show Lp.arr ⟨C1, none, 0, 0, S2, none, 0, 0, Z⟩ = Lp.arr ⟨C1, none, 0, 0, S2, none, 0, 0, Z⟩ from rfl)
  have hBd := HBK.out.drew
  have hSd := SC.out _ hBd
  have hwS : w9.heap.size + 1 = (w9.alloc (.cells #[.int .i64 C1, .slice A9 n9 c9, .int .i64 S2] 24 (0, 0))).heap.size := by simp
  clear stW b1W hXW
  refine wp_region_held_drew (S := (fun X => X.heap[w9.heap.size]? = some (.cells #[.int .i64 C1, .slice A9 n9 c9, .int .i64 S2] 24 (0, 0)) ∧ X.heap[w.heap.size + 1]? = some (.cells (enA ⟨g0, g1, g2, g3, g4, g5, g6, g7, g8⟩) 33 (0, 0)) ∧ RowB X w6.heap.size 27 Z ∧ Below w.heap.size w X)) (by kernel_rfl) hSd (fun hHeld => ?_)
  refine take_blk 0 24 _ w9.heap.size 24 _ (0, 0) _ rfl rfl rfl (by kernel_rfl) (by kernel_rfl) (by kernel_rfl) (fun _ _ _ h => h) rfl hHeld (fun X hX => hX.1) Tryz.underlying24 rfl (size_st3 _ _ _) ?_
  simp only [Act.put, List.setIfInBounds_toArray, List.set_cons_zero, List.set_cons_succ]
  refine take_move 1 (.tmp 16) v10 rfl rfl rfl (by kernel_rfl) (by kernel_rfl) (by kernel_rfl) (fun _ _ _ h => h) rfl hHeld ?_
  simp only [Act.put, List.setIfInBounds_toArray, List.set_cons_zero, List.set_cons_succ]
  refine take_blk 2 33 _ (w.heap.size + 1) 33 #[.int .i64 g0, .int .i64 g1, .int .i64 g2, .int .i64 g3, .int .u64 g4, .int .u64 g5, .int .i64 g6, .int .i64 g7, .int .i64 g8] (0, 0) _ rfl rfl rfl (by kernel_rfl) (by kernel_rfl) (by kernel_rfl) (fun _ _ _ h => h) rfl hHeld (fun X hX => hX.2.1) Tryz.underlying33 rfl (info_en rfl) ?_
  simp only [Act.put, List.setIfInBounds_toArray, List.set_cons_zero, List.set_cons_succ]
  refine take_if 5 (.agg (idv Z)) rfl (by kernel_rfl) (by kernel_rfl) (by kernel_rfl) (fun _ _ _ h => h) rfl hHeld (fun w' hw' => ?_) ?_
  · exact id_load hw'.2.2.1 HZL.out rfl rfl
  simp only [Act.put, List.setIfInBounds_toArray, List.set_cons_zero, List.set_cons_succ]
  refine one_step 3 (by kernel_rfl) rfl (fun Kq hKq => ?_)
  have hz := one_rws 9 33 w10.drew (En.row ⟨g0, g1, g2, g3, g4, g5, g6, g7, g8⟩) rfl (row_one9 ⟨g0, g1, g2, g3, g4, g5, g6, g7, g8⟩)
  have hBz : Below (w9.alloc (.cells #[.int .i64 C1, .slice A9 n9 c9, .int .i64 S2] 24 (0, 0))).heap.size (w9.alloc (.cells #[.int .i64 C1, .slice A9 n9 c9, .int .i64 S2] 24 (0, 0))) (w10.drew.alloc (.cells #[.int .i64 g0, .int .i64 g1, .int .i64 g2, .int .i64 g3, .int .u64 g4, .int .u64 g5, .int .i64 g6, .int .i64 g7, .int .i64 g8] 33 (0, 0))) := hBd.trans ((one_alloc w10.drew _).mono hBd.size)
  have hSz := SC.out _ hBz
  have hownz : OwnR 33 9 (w10.drew.alloc (.cells #[.int .i64 g0, .int .i64 g1, .int .i64 g2, .int .i64 g3, .int .u64 g4, .int .u64 g5, .int .i64 g6, .int .i64 g7, .int .i64 g8] 33 (0, 0))) (w9.alloc (.cells #[.int .i64 C1, .slice A9 n9 c9, .int .i64 S2] 24 (0, 0))).heap.size v10 RW := hown10.draw1.more _
  go_simp
  refine hKq.out _ _ hSz (fun hHeld0 => ?_)
  clear hKq Kq hHeld
  have hHeld := hHeld0
  clear hHeld0
  try simp only [Act.put, List.setIfInBounds_toArray, List.set_cons_zero, List.set_cons_succ]
  refine one_step 4 (by kernel_rfl) rfl (fun Kq hKq => ?_)
  refine step_append_r 25 33 9 72 _ _ rfl Tryz.underlying25 info_entry (by omega) (w9.alloc (.cells #[.int .i64 C1, .slice A9 n9 c9, .int .i64 S2] 24 (0, 0))).heap.size v10 RW rfl hownz _ 1 1 [En.row ⟨g0, g1, g2, g3, g4, g5, g6, g7, g8⟩] rfl hz (by have := HSM.out; have := HRWL.out; omega) (by have := HSM.out; have := HRWL.out; omega) hBz.size rfl ?_
  intro v4 y4 hown4 hg4
  have hB4 : Below (w9.alloc (.cells #[.int .i64 C1, .slice A9 n9 c9, .int .i64 S2] 24 (0, 0))).heap.size (w9.alloc (.cells #[.int .i64 C1, .slice A9 n9 c9, .int .i64 S2] 24 (0, 0))) y4 := hBz.grown hg4 hBz.size (fun k hk => (hownz.size k hk).1)
  have hS4 := SC.out _ hB4
  rw [← HRO.out] at hown4
  have hv4 := own_ens hown4
  obtain ⟨B4, m4, d4, rfl, -⟩ := hv4
  refine hKq.out _ _ hS4 (fun hHeld0 => ?_)
  clear hKq Kq hHeld
  have hHeld := hHeld0
  clear hHeld0
  try simp only [Act.put, List.setIfInBounds_toArray, List.set_cons_zero, List.set_cons_succ]
  have HLS := Lib.hid (show (Lp.arr ⟨C1, A9, n9, c9, S2, B4, m4, d4, Z⟩).size = 36 from lp_size HZL.out)
  refine take_build 6 29 _ [(0, .agg #[.int .i64 C1, .slice A9 n9 c9, .int .i64 S2]), (1, .slice B4 m4 d4), (2, .agg (idv Z))] (Lp.arr ⟨C1, A9, n9, c9, S2, B4, m4, d4, Z⟩) rfl rfl rfl (built_log ⟨C1, A9, n9, c9, S2, B4, m4, d4, Z⟩ HZL.out) (by kernel_rfl) (by kernel_rfl) (by kernel_rfl) (fun _ _ _ h => h) rfl hHeld ?_
  simp only [Act.put, List.setIfInBounds_toArray, List.set_cons_zero, List.set_cons_succ]
  refine one_step 7 (by kernel_rfl) rfl (fun Kq hKq => ?_)
  refine step_store_row 29 _ _ rfl (w.heap.size + 2) (Lp.arr ⟨C1, A9, n9, c9, S2, B4, m4, d4, Z⟩) rfl rfl 29 _ (blk_below b2W hB4) (info_log HLS.out) ((lp_size (p := Lp.zero) rfl).trans HLS.out.symm) (lp_one _) rfl ?_
  intro wF hgF hXF hsF
  have hSF : (fun X => X.heap[w9.heap.size]? = some (.cells #[.int .i64 C1, .slice A9 n9 c9, .int .i64 S2] 24 (0, 0)) ∧ X.heap[w.heap.size + 1]? = some (.cells (enA ⟨g0, g1, g2, g3, g4, g5, g6, g7, g8⟩) 33 (0, 0)) ∧ RowB X w6.heap.size 27 Z ∧ Below w.heap.size w X) wF := ⟨blk_other hS4.1 hgF (by omega), blk_other hS4.2.1 hgF (by omega), rowb_grown hS4.2.2.1 hgF (by omega), hS4.2.2.2.grown hgF hS4.2.2.2.size (fun k e => by cases e; omega)⟩
  have hdF := (HDW.out.below hB4).kept hf9 hgF (by omega) (by omega)
  have hownF := hown4.far hgF (ownr_far hown4 (by omega))
  refine hKq.out _ _ hSF (fun hHeld0 => ?_)
  clear hKq Kq hHeld
  have hHeld := hHeld0
  clear hHeld0
  try simp only [Act.put, List.setIfInBounds_toArray, List.set_cons_zero, List.set_cons_succ]
  refine take_run 8 (.int .i64 0) rfl (by kernel_rfl) (by kernel_rfl) (by kernel_rfl) (fun _ _ _ h => h) rfl hHeld (fun w => ?_) ?_
  · go_simp
  simp only [Act.put, List.setIfInBounds_toArray, List.set_cons_zero, List.set_cons_succ]
  refine wpAnyH_done (by kernel_rfl) ?_ _
  obtain ⟨B5, m5, d5, he5, henF⟩ := own_ens hownF
  cases he5
  have hbF := hSF.2.2.2
  go_wp2
  refine bodyPost_ret (v := .tuple #[.agg (Lp.arr ⟨C1, A9, n9, c9, S2, B4, m4, d4, Z⟩), .int .i64 0]) ?_ rfl ⟨_, rfl, ⟨rfl, rfl, rfl, hdF, henF, HOK.out, HFT.out⟩, hbF⟩
  exact results_blk_tmp Tryz.results7 _ _ _ (w.heap.size + 2) 29 _ (0, 0) _ rfl hXF Tryz.underlying29 rfl (info_log HLS.out) _ rfl
theorem aradd_any (p : Lp) (g : Lg) (u : En) (urg : Bool) (w : World) (h : LgAt w p g) (hu : u.ok) (hsm : p.m ≤ 1000000) : Calls Tryz.prog 7 #[.agg p.arr, enV u, .bool urg] w (GLE (addG g u urg) w) := by
  cases hm : mayG g with
  | false => rw [add_bad (.inl hm)]; exact aradd_one p g u urg w h hu hsm hm
  | true =>
    cases he : mayE u with
    | false => rw [add_bad (.inr he)]; exact aradd_two p g u urg w h hu hsm hm he
    | true =>
      by_cases hf : slotsG g ≤ g.l.length
      · rw [add_full hm he (by rw [fullG, decide_eq_true hf]; rfl)]; exact aradd_fa p g u urg w h hu hsm hm he hf
      · cases urg with
        | true => rw [add_ok hm he (by rw [fullG, decide_eq_false hf]; rfl)]; exact aradd_oa p g u w h hu hsm hm he hf
        | false =>
          by_cases hr : roomG g = 0
          · rw [add_full hm he (by rw [fullG, decide_eq_true hr]; simp)]; exact aradd_fb p g u w h hu hsm hm he hf hr
          · rw [add_ok hm he (by rw [fullG, decide_eq_false hf, decide_eq_false hr]; rfl)]; exact aradd_ob p g u w h hu hsm hm he hf hr
end Go.Proofs.YtafmompplcaadaaGreatDoor
