/- Joined texts: The walk over package audit's Torn. The walks over package store's New, and the document's. The walk over the document's New of a log. The walk over package audit's New. The walk over the document's Same of logs. The walk over package audit's Same. The walk over package audit's Open of a store. AudOk: what package audit does, of the landed code. -/
import Derived.Test.YtafmompplcaadaaDoorAuJN
import Derived.Test.YtafmompplcaadaaDoorAuJG
import Derived.Test.YtafmompplcaadaaDoorAuJH
import Derived.Test.YtafmompplcaadaaDoorAuJK
import Derived.Test.YtafmompplcaadaaDoorAuJJ
/- The walk over package audit's Torn. -/
namespace Go.Proofs.YtafmompplcaadaaDoor
set_option maxRecDepth 100000
set_option linter.unusedVariables false
set_option linter.unusedSimpArgs false
open Go.RowKit

set_option maxHeartbeats 4000000 in
theorem atorn_no (p : Lp) (g : Lg) (u : En) (keep : Int) (w : World) (hK : KTab w) (h : LgAt w p g) (hsm : LgSm g) (hu : u.ok) (he : mayE u = false) :
    Calls Tryd.prog 15 #[.agg p.arr, enV u, .int .i64 keep] w (GSt (tornG g u keep) w) := by
  have HK := Lib.hid hK
  have HW := Lib.hid h.whole
  have HOW := Lib.hid (fun (X : World) (hX : Below w.heap.size w X) => aown_any p g X (h.below hX) hsm)
  have HWR := Lib.hid (fun (k : Nat) (q : Lp) (X : World) (hk : KTab X) (hD : Desk X (w.heap.size + 3) k q g) => awrite_no (w.heap.size + 3) k q g u 0 X hk hD hsm hu he)
  have HAG := Lib.hid (show tornG g u keep = g.st by rw [tornG, he]; simp)
  clear h hK hsm hu
  unfold enV at HWR ⊢
  unfold Wrote at HWR
  go_enter Tryd.func15, Tryd.ntmps15
  go_wp2
  refine wp_scope_ahead 0 rfl ?_
  go_wp2_with (first
    | (refine wp_goto ⟨rfl, ?_⟩)
    | (apply wp_label)
    | ((with_reducible refine wpList_load_blk 29 _ rfl w.heap.size ?hx1 29 p.arr (0, 0) _ (first_of3 _ _ _ _) Tryd.underlying29 ?hd1 HW.out ?_ ?hw1); (case hx1 => rfl); (case hd1 => rfl); (case hw1 => rfl))
    | (go_at_call 23
       (with_reducible refine (HOW.out _ (three_below w _ _ _)).mono ?_)
       rintro e w1 ⟨q, rfl, hq, ho, hqa, hb1⟩
       obtain ⟨hB1, y0, y1, y2⟩ := after_three_c hb1
       have hsz : ∀ o1 o2 o3 : Obj, (((w.alloc o1).alloc o2).alloc o3).heap.size = w.heap.size + 3 := fun _ _ _ => by simp
       rw [hsz] at ho hqa
       have hz1 : w.heap.size + 3 ≤ w1.heap.size := by have := hb1.size; rw [hsz] at this; exact this
       have ke1 : w1.heap[w.heap.size + 1]? = some (.cells (enA u) 33 (0, 0)) := y1
       have hr1 : w1.heap[w.heap.size + 1 + 1]? = some (.cells #[.int .i64 0, .slice none 0 0, .int .i64 0] 24 (0, 0)) := y2
       have HB1 := Lib.hid hB1
       have HQ1 := Lib.hid hq
       have HQO := Lib.hid ho
       have HQA := Lib.hid hqa
       have HZ1 := Lib.hid hz1
       have HDK := Lib.hid (built_desk q hq.hlen)
       have HWD := Lib.hid (info_desk (C := q.arr) (lp_size hq.hlen))
       clear hb1 hB1 y0 y1 y2 hq ho hqa hz1 hsz)
    | ((with_reducible refine wpList_build_to rfl 57 _ rfl [(0, .agg q.arr)] q.arr ?hl2 ?hb2 ?_); (case hl2 => rfl); (case hb2 => exact HDK.out))
    | ((with_reducible refine wpList_store_blk rfl 57 _ _ rfl w1.heap.size q.arr ?hx3 ?hy3 57 _ (heap_alloc_new w1 _) HWD.out ?hs3 (lp_one _) ?_); (case hx3 => rfl); (case hy3 => rfl); (case hs3 => exact (lp_size (p := Lp.zero) rfl).trans (lp_size HQ1.out.hlen).symm)
       intro w2 hg2 kd2 hs2
       have hbx : Below w1.heap.size w1 w2 := Below.grows (one_alloc w1 _) hg2 (size_le_alloc _ _) (Nat.le_refl _)
       have ke2 := blk_below ke1 hbx
       have hr2 := blk_below hr1 hbx
       have HB2 := Lib.hid (HB1.out.trans (hbx.mono HB1.out.size))
       have HD2 := Lib.hid (show Desk w2 (w.heap.size + 3) w1.heap.size q g from ⟨kd2, HQ1.out.below hbx, HQO.out.below hbx, HZ1.out, HQA.out⟩)
       have HZ2 := Lib.hid (Nat.le_trans HZ1.out hbx.size)
       clear hbx hg2 hs2 ke1 hr1 kd2)
    | ((with_reducible refine wpList_load_blk 33 _ rfl (w.heap.size + 1) ?hx4 33 (enA u) (0, 0) _ ke2 Tryd.underlying33 ?hd4 (info_en (enA_size _)) ?_ ?hw4); (case hx4 => rfl); (case hd4 => rfl); (case hw4 => rfl))
    | (go_at_call 24
       (with_reducible refine (HWR.out w1.heap.size q w2 (HK.out.from HB2.out) HD2.out).mono ?_)
       rintro e w3 ⟨r, rfl, kd3, hr, hra, hro, hbx⟩
       have hr3 := (hbx.block _ (Nat.lt_succ_self (w.heap.size + 1 + 1))).trans hr2
       have HR3 := Lib.hid hr
       have HRA := Lib.hid hra
       have HRO := Lib.hid hro
       have HB3 := Lib.hid (HB2.out.trans (hbx.mono (Nat.le_add_right _ 3)))
       have HZ3 := Lib.hid (hbx.size_from HZ2.out)
       have HI3 := Lib.hid (info_log (lp_size hr.hlen))
       have hb3z : BoxT w3 (w.heap.size + 1 + 1) 24 0 none 0 0 0 := hr3
       obtain ⟨z0, z1, z2⟩ := hb3z.cells
       have e0 := hb3z.free 0
       have e1 := hb3z.free 1
       have e2 := hb3z.free 2
       clear hb3z
       clear hbx hr hra hro hr2 ke2)
    | ((with_reducible refine wpList_load_on 24 _ rfl w1.heap.size 0 ?hx6 [.int .i64 r.cap, .slice r.A r.n r.c, .int .i64 r.sure] _ rfl _ (dk_st kd3) Tryd.underlying24 ?hd6 (by kernel_rfl) ?_ ?hw6); (case hx6 => rfl); (case hd6 => rfl); (case hw6 => rfl)))
  have hb7 := set3_below HB3.out (Nat.le_trans (Nat.le_succ _) (Nat.le_succ _)) (.int .i64 r.cap) (.slice r.A r.n r.c) (.int .i64 r.sure) (g := w.heap.size + 1 + 1)
  have hd7 := HR3.out.data.set3 (far_at (lo := 0) HRA.out) (g := w.heap.size + 1 + 1) (Nat.zero_le _) (Nat.lt_succ_self _) (.int .i64 r.cap) (.slice r.A r.n r.c) (.int .i64 r.sure)
  have hx7 := set3_heap (.int .i64 r.cap) (.slice r.A r.n r.c) (.int .i64 r.sure) (show BoxT w3 (w.heap.size + 1 + 1) 24 0 none 0 0 0 from hr3)
  first | rw [Exit.noGoto_ret] | rw [jump_ret] | skip
  refine bodyPost_ret (v := .agg #[.int .i64 r.cap, .slice r.A r.n r.c, .int .i64 r.sure]) ?_ rfl ?_
  · exact ret_store1 Tryd.results15 _ _ (w.heap.size + 1 + 1) 24 _ _ _ rfl hx7
  · rw [HAG.out]
    exact ⟨r.A, r.n, r.c, by rw [HR3.out.cap, HR3.out.sure], hd7, hb7⟩
set_option maxHeartbeats 4000000 in
theorem atorn_may (p : Lp) (g : Lg) (u : En) (keep : Int) (w : World) (hK : KTab w) (h : LgAt w p g) (hsm : LgSm g) (hu : u.ok) (he : mayE u = true) (hm : mayG g = false) :
    Calls Tryd.prog 15 #[.agg p.arr, enV u, .int .i64 keep] w (GSt (tornG g u keep) w) := by
  have HK := Lib.hid hK
  have HW := Lib.hid h.whole
  have HOW := Lib.hid (fun (X : World) (hX : Below w.heap.size w X) => aown_any p g X (h.below hX) hsm)
  have HWR := Lib.hid (fun (k : Nat) (q : Lp) (X : World) (hk : KTab X) (hD : Desk X (w.heap.size + 3) k q g) => awrite_may (w.heap.size + 3) k q g u 0 X hk hD hsm hu he hm)
  have HAG := Lib.hid (show tornG g u keep = g.st by rw [tornG, hm]; simp)
  clear h hK hsm hu
  unfold enV at HWR ⊢
  unfold Wrote at HWR
  go_enter Tryd.func15, Tryd.ntmps15
  go_wp2
  refine wp_scope_ahead 0 rfl ?_
  go_wp2_with (first
    | (refine wp_goto ⟨rfl, ?_⟩)
    | (apply wp_label)
    | ((with_reducible refine wpList_load_blk 29 _ rfl w.heap.size ?hx1 29 p.arr (0, 0) _ (first_of3 _ _ _ _) Tryd.underlying29 ?hd1 HW.out ?_ ?hw1); (case hx1 => rfl); (case hd1 => rfl); (case hw1 => rfl))
    | (go_at_call 23
       (with_reducible refine (HOW.out _ (three_below w _ _ _)).mono ?_)
       rintro e w1 ⟨q, rfl, hq, ho, hqa, hb1⟩
       obtain ⟨hB1, y0, y1, y2⟩ := after_three_c hb1
       have hsz : ∀ o1 o2 o3 : Obj, (((w.alloc o1).alloc o2).alloc o3).heap.size = w.heap.size + 3 := fun _ _ _ => by simp
       rw [hsz] at ho hqa
       have hz1 : w.heap.size + 3 ≤ w1.heap.size := by have := hb1.size; rw [hsz] at this; exact this
       have ke1 : w1.heap[w.heap.size + 1]? = some (.cells (enA u) 33 (0, 0)) := y1
       have hr1 : w1.heap[w.heap.size + 1 + 1]? = some (.cells #[.int .i64 0, .slice none 0 0, .int .i64 0] 24 (0, 0)) := y2
       have HB1 := Lib.hid hB1
       have HQ1 := Lib.hid hq
       have HQO := Lib.hid ho
       have HQA := Lib.hid hqa
       have HZ1 := Lib.hid hz1
       have HDK := Lib.hid (built_desk q hq.hlen)
       have HWD := Lib.hid (info_desk (C := q.arr) (lp_size hq.hlen))
       clear hb1 hB1 y0 y1 y2 hq ho hqa hz1 hsz)
    | ((with_reducible refine wpList_build_to rfl 57 _ rfl [(0, .agg q.arr)] q.arr ?hl2 ?hb2 ?_); (case hl2 => rfl); (case hb2 => exact HDK.out))
    | ((with_reducible refine wpList_store_blk rfl 57 _ _ rfl w1.heap.size q.arr ?hx3 ?hy3 57 _ (heap_alloc_new w1 _) HWD.out ?hs3 (lp_one _) ?_); (case hx3 => rfl); (case hy3 => rfl); (case hs3 => exact (lp_size (p := Lp.zero) rfl).trans (lp_size HQ1.out.hlen).symm)
       intro w2 hg2 kd2 hs2
       have hbx : Below w1.heap.size w1 w2 := Below.grows (one_alloc w1 _) hg2 (size_le_alloc _ _) (Nat.le_refl _)
       have ke2 := blk_below ke1 hbx
       have hr2 := blk_below hr1 hbx
       have HB2 := Lib.hid (HB1.out.trans (hbx.mono HB1.out.size))
       have HD2 := Lib.hid (show Desk w2 (w.heap.size + 3) w1.heap.size q g from ⟨kd2, HQ1.out.below hbx, HQO.out.below hbx, HZ1.out, HQA.out⟩)
       have HZ2 := Lib.hid (Nat.le_trans HZ1.out hbx.size)
       clear hbx hg2 hs2 ke1 hr1 kd2)
    | ((with_reducible refine wpList_load_blk 33 _ rfl (w.heap.size + 1) ?hx4 33 (enA u) (0, 0) _ ke2 Tryd.underlying33 ?hd4 (info_en (enA_size _)) ?_ ?hw4); (case hx4 => rfl); (case hd4 => rfl); (case hw4 => rfl))
    | (go_at_call 24
       (with_reducible refine (HWR.out w1.heap.size q w2 (HK.out.from HB2.out) HD2.out).mono ?_)
       rintro e w3 ⟨r, rfl, kd3, hr, hra, hro, hbx⟩
       have hr3 := (hbx.block _ (Nat.lt_succ_self (w.heap.size + 1 + 1))).trans hr2
       have HR3 := Lib.hid hr
       have HRA := Lib.hid hra
       have HRO := Lib.hid hro
       have HB3 := Lib.hid (HB2.out.trans (hbx.mono (Nat.le_add_right _ 3)))
       have HZ3 := Lib.hid (hbx.size_from HZ2.out)
       have HI3 := Lib.hid (info_log (lp_size hr.hlen))
       have hb3z : BoxT w3 (w.heap.size + 1 + 1) 24 0 none 0 0 0 := hr3
       obtain ⟨z0, z1, z2⟩ := hb3z.cells
       have e0 := hb3z.free 0
       have e1 := hb3z.free 1
       have e2 := hb3z.free 2
       clear hb3z
       clear hbx hr hra hro hr2 ke2)
    | ((with_reducible refine wpList_load_on 24 _ rfl w1.heap.size 0 ?hx6 [.int .i64 r.cap, .slice r.A r.n r.c, .int .i64 r.sure] _ rfl _ (dk_st kd3) Tryd.underlying24 ?hd6 (by kernel_rfl) ?_ ?hw6); (case hx6 => rfl); (case hd6 => rfl); (case hw6 => rfl)))
  have hb7 := set3_below HB3.out (Nat.le_trans (Nat.le_succ _) (Nat.le_succ _)) (.int .i64 r.cap) (.slice r.A r.n r.c) (.int .i64 r.sure) (g := w.heap.size + 1 + 1)
  have hd7 := HR3.out.data.set3 (far_at (lo := 0) HRA.out) (g := w.heap.size + 1 + 1) (Nat.zero_le _) (Nat.lt_succ_self _) (.int .i64 r.cap) (.slice r.A r.n r.c) (.int .i64 r.sure)
  have hx7 := set3_heap (.int .i64 r.cap) (.slice r.A r.n r.c) (.int .i64 r.sure) (show BoxT w3 (w.heap.size + 1 + 1) 24 0 none 0 0 0 from hr3)
  first | rw [Exit.noGoto_ret] | rw [jump_ret] | skip
  refine bodyPost_ret (v := .agg #[.int .i64 r.cap, .slice r.A r.n r.c, .int .i64 r.sure]) ?_ rfl ?_
  · exact ret_store1 Tryd.results15 _ _ (w.heap.size + 1 + 1) 24 _ _ _ rfl hx7
  · rw [HAG.out]
    exact ⟨r.A, r.n, r.c, by rw [HR3.out.cap, HR3.out.sure], hd7, hb7⟩
set_option maxHeartbeats 4000000 in
theorem atorn_full (p : Lp) (g : Lg) (u : En) (keep : Int) (w : World) (hK : KTab w) (h : LgAt w p g) (hsm : LgSm g) (hu : u.ok) (he : mayE u = true) (hm : mayG g = true) (hs : slotsG g - g.l.length ≤ 0) :
    Calls Tryd.prog 15 #[.agg p.arr, enV u, .int .i64 keep] w (GSt (tornG g u keep) w) := by
  have HK := Lib.hid hK
  have HW := Lib.hid h.whole
  have HOW := Lib.hid (fun (X : World) (hX : Below w.heap.size w X) => aown_any p g X (h.below hX) hsm)
  have HWR := Lib.hid (fun (k : Nat) (q : Lp) (X : World) (hk : KTab X) (hD : Desk X (w.heap.size + 3) k q g) => awrite_full (w.heap.size + 3) k q g u 0 X hk hD hsm hu he hm hs)
  have HAG := Lib.hid (show tornG g u keep = g.st by rw [tornG, decide_eq_false (show ¬ (g.l.length : Int) < slotsG g by omega)]; simp)
  clear h hK hsm hu
  unfold enV at HWR ⊢
  unfold Wrote at HWR
  go_enter Tryd.func15, Tryd.ntmps15
  go_wp2
  refine wp_scope_ahead 0 rfl ?_
  go_wp2_with (first
    | (refine wp_goto ⟨rfl, ?_⟩)
    | (apply wp_label)
    | ((with_reducible refine wpList_load_blk 29 _ rfl w.heap.size ?hx1 29 p.arr (0, 0) _ (first_of3 _ _ _ _) Tryd.underlying29 ?hd1 HW.out ?_ ?hw1); (case hx1 => rfl); (case hd1 => rfl); (case hw1 => rfl))
    | (go_at_call 23
       (with_reducible refine (HOW.out _ (three_below w _ _ _)).mono ?_)
       rintro e w1 ⟨q, rfl, hq, ho, hqa, hb1⟩
       obtain ⟨hB1, y0, y1, y2⟩ := after_three_c hb1
       have hsz : ∀ o1 o2 o3 : Obj, (((w.alloc o1).alloc o2).alloc o3).heap.size = w.heap.size + 3 := fun _ _ _ => by simp
       rw [hsz] at ho hqa
       have hz1 : w.heap.size + 3 ≤ w1.heap.size := by have := hb1.size; rw [hsz] at this; exact this
       have ke1 : w1.heap[w.heap.size + 1]? = some (.cells (enA u) 33 (0, 0)) := y1
       have hr1 : w1.heap[w.heap.size + 1 + 1]? = some (.cells #[.int .i64 0, .slice none 0 0, .int .i64 0] 24 (0, 0)) := y2
       have HB1 := Lib.hid hB1
       have HQ1 := Lib.hid hq
       have HQO := Lib.hid ho
       have HQA := Lib.hid hqa
       have HZ1 := Lib.hid hz1
       have HDK := Lib.hid (built_desk q hq.hlen)
       have HWD := Lib.hid (info_desk (C := q.arr) (lp_size hq.hlen))
       clear hb1 hB1 y0 y1 y2 hq ho hqa hz1 hsz)
    | ((with_reducible refine wpList_build_to rfl 57 _ rfl [(0, .agg q.arr)] q.arr ?hl2 ?hb2 ?_); (case hl2 => rfl); (case hb2 => exact HDK.out))
    | ((with_reducible refine wpList_store_blk rfl 57 _ _ rfl w1.heap.size q.arr ?hx3 ?hy3 57 _ (heap_alloc_new w1 _) HWD.out ?hs3 (lp_one _) ?_); (case hx3 => rfl); (case hy3 => rfl); (case hs3 => exact (lp_size (p := Lp.zero) rfl).trans (lp_size HQ1.out.hlen).symm)
       intro w2 hg2 kd2 hs2
       have hbx : Below w1.heap.size w1 w2 := Below.grows (one_alloc w1 _) hg2 (size_le_alloc _ _) (Nat.le_refl _)
       have ke2 := blk_below ke1 hbx
       have hr2 := blk_below hr1 hbx
       have HB2 := Lib.hid (HB1.out.trans (hbx.mono HB1.out.size))
       have HD2 := Lib.hid (show Desk w2 (w.heap.size + 3) w1.heap.size q g from ⟨kd2, HQ1.out.below hbx, HQO.out.below hbx, HZ1.out, HQA.out⟩)
       have HZ2 := Lib.hid (Nat.le_trans HZ1.out hbx.size)
       clear hbx hg2 hs2 ke1 hr1 kd2)
    | ((with_reducible refine wpList_load_blk 33 _ rfl (w.heap.size + 1) ?hx4 33 (enA u) (0, 0) _ ke2 Tryd.underlying33 ?hd4 (info_en (enA_size _)) ?_ ?hw4); (case hx4 => rfl); (case hd4 => rfl); (case hw4 => rfl))
    | (go_at_call 24
       (with_reducible refine (HWR.out w1.heap.size q w2 (HK.out.from HB2.out) HD2.out).mono ?_)
       rintro e w3 ⟨r, rfl, kd3, hr, hra, hro, hbx⟩
       have hr3 := (hbx.block _ (Nat.lt_succ_self (w.heap.size + 1 + 1))).trans hr2
       have HR3 := Lib.hid hr
       have HRA := Lib.hid hra
       have HRO := Lib.hid hro
       have HB3 := Lib.hid (HB2.out.trans (hbx.mono (Nat.le_add_right _ 3)))
       have HZ3 := Lib.hid (hbx.size_from HZ2.out)
       have HI3 := Lib.hid (info_log (lp_size hr.hlen))
       have hb3z : BoxT w3 (w.heap.size + 1 + 1) 24 0 none 0 0 0 := hr3
       obtain ⟨z0, z1, z2⟩ := hb3z.cells
       have e0 := hb3z.free 0
       have e1 := hb3z.free 1
       have e2 := hb3z.free 2
       clear hb3z
       clear hbx hr hra hro hr2 ke2)
    | ((with_reducible refine wpList_load_on 24 _ rfl w1.heap.size 0 ?hx6 [.int .i64 r.cap, .slice r.A r.n r.c, .int .i64 r.sure] _ rfl _ (dk_st kd3) Tryd.underlying24 ?hd6 (by kernel_rfl) ?_ ?hw6); (case hx6 => rfl); (case hd6 => rfl); (case hw6 => rfl)))
  have hb7 := set3_below HB3.out (Nat.le_trans (Nat.le_succ _) (Nat.le_succ _)) (.int .i64 r.cap) (.slice r.A r.n r.c) (.int .i64 r.sure) (g := w.heap.size + 1 + 1)
  have hd7 := HR3.out.data.set3 (far_at (lo := 0) HRA.out) (g := w.heap.size + 1 + 1) (Nat.zero_le _) (Nat.lt_succ_self _) (.int .i64 r.cap) (.slice r.A r.n r.c) (.int .i64 r.sure)
  have hx7 := set3_heap (.int .i64 r.cap) (.slice r.A r.n r.c) (.int .i64 r.sure) (show BoxT w3 (w.heap.size + 1 + 1) 24 0 none 0 0 0 from hr3)
  first | rw [Exit.noGoto_ret] | rw [jump_ret] | skip
  refine bodyPost_ret (v := .agg #[.int .i64 r.cap, .slice r.A r.n r.c, .int .i64 r.sure]) ?_ rfl ?_
  · exact ret_store1 Tryd.results15 _ _ (w.heap.size + 1 + 1) 24 _ _ _ rfl hx7
  · rw [HAG.out]
    exact ⟨r.A, r.n, r.c, by rw [HR3.out.cap, HR3.out.sure], hd7, hb7⟩
set_option maxHeartbeats 4000000 in
theorem atorn_ok (p : Lp) (g : Lg) (u : En) (keep : Int) (w : World) (hK : KTab w) (h : LgAt w p g) (hsm : LgSm g) (hu : u.ok) (he : mayE u = true) (hm : mayG g = true) (hs : 0 < slotsG g - g.l.length) :
    Calls Tryd.prog 15 #[.agg p.arr, enV u, .int .i64 keep] w (GSt (tornG g u keep) w) := by
  have HK := Lib.hid hK
  have HW := Lib.hid h.whole
  have HOW := Lib.hid (fun (X : World) (hX : Below w.heap.size w X) => aown_any p g X (h.below hX) hsm)
  have HWR := Lib.hid (fun (k : Nat) (q : Lp) (X : World) (hk : KTab X) (hD : Desk X (w.heap.size + 3) k q g) => awrite_ok (w.heap.size + 3) k q g u 0 X hk hD hsm hu he hm hs (by omega))
  have hwr := write_rec hm he (show (g.l.length : Int) < slotsG g by omega)
  have hdl : (writeP g.st (recG g u)).1.data.length ≤ 140737488355328 := by rw [hwr]; show (recsC (g.l ++ [u])).length ≤ _; rw [more_len]; have := hsm.2; omega
  have HSY := Lib.hid (show ∀ (r : Lp) (X : World), LgAt X r ⟨(writeP g.st (recG g u)).1, g.l ++ [u], linkP g.head u⟩ → Calls Tryd.prog 29 #[.agg #[.int .i64 r.cap, .slice r.A r.n r.c, .int .i64 r.sure], .int .i64 keep] X (GSn (crashP (writeP g.st (recG g u)).1 keep) X) from fun r X hr => by
    have h0 := stcrash_new (writeP g.st (recG g u)).1 keep r.A r.n r.c X hr.data (by have := hr.data.len; simp only at this; omega)
    rw [hr.val] at h0
    exact h0)
  have HAG := Lib.hid (show tornG g u keep = crashP (writeP g.st (recG g u)).1 keep by rw [tornG, hm, he, decide_eq_true (show (g.l.length : Int) < slotsG g by omega)]; rfl)
  obtain ⟨T, hT⟩ : ∃ T, crashP (writeP g.st (recG g u)).1 keep = T := ⟨_, rfl⟩
  simp only [hT] at HSY HAG
  obtain ⟨C2, D2, S2⟩ := T
  unfold GSn at HSY
  simp only at HSY
  clear hT hwr hdl
  clear h hK hsm hu
  unfold enV at HWR ⊢
  unfold Wrote at HWR
  go_enter Tryd.func15, Tryd.ntmps15
  go_wp2
  refine wp_scope_ahead 0 rfl ?_
  go_wp2_with (first
    | (refine wp_goto ⟨rfl, ?_⟩)
    | (apply wp_label)
    | ((with_reducible refine wpList_load_blk 29 _ rfl w.heap.size ?hx1 29 p.arr (0, 0) _ (first_of3 _ _ _ _) Tryd.underlying29 ?hd1 HW.out ?_ ?hw1); (case hx1 => rfl); (case hd1 => rfl); (case hw1 => rfl))
    | (go_at_call 23
       (with_reducible refine (HOW.out _ (three_below w _ _ _)).mono ?_)
       rintro e w1 ⟨q, rfl, hq, ho, hqa, hb1⟩
       obtain ⟨hB1, y0, y1, y2⟩ := after_three_c hb1
       have hsz : ∀ o1 o2 o3 : Obj, (((w.alloc o1).alloc o2).alloc o3).heap.size = w.heap.size + 3 := fun _ _ _ => by simp
       rw [hsz] at ho hqa
       have hz1 : w.heap.size + 3 ≤ w1.heap.size := by have := hb1.size; rw [hsz] at this; exact this
       have ke1 : w1.heap[w.heap.size + 1]? = some (.cells (enA u) 33 (0, 0)) := y1
       have hr1 : w1.heap[w.heap.size + 1 + 1]? = some (.cells #[.int .i64 0, .slice none 0 0, .int .i64 0] 24 (0, 0)) := y2
       have HB1 := Lib.hid hB1
       have HQ1 := Lib.hid hq
       have HQO := Lib.hid ho
       have HQA := Lib.hid hqa
       have HZ1 := Lib.hid hz1
       have HDK := Lib.hid (built_desk q hq.hlen)
       have HWD := Lib.hid (info_desk (C := q.arr) (lp_size hq.hlen))
       clear hb1 hB1 y0 y1 y2 hq ho hqa hz1 hsz)
    | ((with_reducible refine wpList_build_to rfl 57 _ rfl [(0, .agg q.arr)] q.arr ?hl2 ?hb2 ?_); (case hl2 => rfl); (case hb2 => exact HDK.out))
    | ((with_reducible refine wpList_store_blk rfl 57 _ _ rfl w1.heap.size q.arr ?hx3 ?hy3 57 _ (heap_alloc_new w1 _) HWD.out ?hs3 (lp_one _) ?_); (case hx3 => rfl); (case hy3 => rfl); (case hs3 => exact (lp_size (p := Lp.zero) rfl).trans (lp_size HQ1.out.hlen).symm)
       intro w2 hg2 kd2 hs2
       have hbx : Below w1.heap.size w1 w2 := Below.grows (one_alloc w1 _) hg2 (size_le_alloc _ _) (Nat.le_refl _)
       have ke2 := blk_below ke1 hbx
       have hr2 := blk_below hr1 hbx
       have HB2 := Lib.hid (HB1.out.trans (hbx.mono HB1.out.size))
       have HD2 := Lib.hid (show Desk w2 (w.heap.size + 3) w1.heap.size q g from ⟨kd2, HQ1.out.below hbx, HQO.out.below hbx, HZ1.out, HQA.out⟩)
       have HZ2 := Lib.hid (Nat.le_trans HZ1.out hbx.size)
       clear hbx hg2 hs2 ke1 hr1 kd2)
    | ((with_reducible refine wpList_load_blk 33 _ rfl (w.heap.size + 1) ?hx4 33 (enA u) (0, 0) _ ke2 Tryd.underlying33 ?hd4 (info_en (enA_size _)) ?_ ?hw4); (case hx4 => rfl); (case hd4 => rfl); (case hw4 => rfl))
    | (go_at_call 24
       (with_reducible refine (HWR.out w1.heap.size q w2 (HK.out.from HB2.out) HD2.out).mono ?_)
       rintro e w3 ⟨r, rfl, kd3, hr, hra, hro, hbx⟩
       have hr3 := (hbx.block _ (Nat.lt_succ_self (w.heap.size + 1 + 1))).trans hr2
       have HR3 := Lib.hid hr
       have HRA := Lib.hid hra
       have HRO := Lib.hid hro
       have HB3 := Lib.hid (HB2.out.trans (hbx.mono (Nat.le_add_right _ 3)))
       have HZ3 := Lib.hid (hbx.size_from HZ2.out)
       have HI3 := Lib.hid (info_log (lp_size hr.hlen))
       skip
       clear hbx hr hra hro hr2 ke2)
    | ((with_reducible refine wpList_load_on 24 _ rfl w1.heap.size 0 ?hx6 [.int .i64 r.cap, .slice r.A r.n r.c, .int .i64 r.sure] _ rfl _ (dk_st kd3) Tryd.underlying24 ?hd6 (by kernel_rfl) ?_ ?hw6); (case hx6 => rfl); (case hd6 => rfl); (case hw6 => rfl))
    | (go_at_call 29
       (with_reducible refine (HSY.out r w3 HR3.out).mono ?_)
       rintro e w5 ⟨A5, n5, c5, rfl, hbt, hlo, hbx⟩
       have kd5 := blk_below kd3 hbx
       have hr5 := blk_below hr3 hbx
       have hB5 := HB3.out.trans (hbx.mono HB3.out.size)
       have hro5 := HRO.out.below hbx
       have hra5 : ∀ a, A5 = some a → w.heap.size + 3 ≤ a.block := fun a ha => Nat.le_trans HZ3.out (hlo a ha)
       have hgd : w1.heap.size < w3.heap.size := (Array.getElem?_eq_some_iff.1 kd3).1
       have hgt := hbt.kept (blk_far (n := n5) (lo := 0) hlo (Nat.le_refl _)) (dk_grown012 kd5 C2 A5 n5 c5 S2) (Nat.zero_le _) hgd
       obtain ⟨c0, c1, c2, -⟩ := dk_cells kd5
       have f0 := dk_free kd5 0
       have f1 := dk_free kd5 1
       have f2 := dk_free kd5 2
       have kd6 := dk_set012 kd5 C2 A5 n5 c5 S2
       have hg6 := dk_grown012 kd5 C2 A5 n5 c5 S2
       have hr6 := blk_other hr5 hg6 (by have := HZ1.out; omega)
       have hro6 := hro5.far hg6 (own_ne hro5 kd5)
       have hB6 := hB5.grown hg6 hB5.size (fun k e => by cases e; have := HZ1.out; omega)
       have hbz : BoxT (((w5.setCell ⟨w1.heap.size, 0, none⟩ (.int .i64 C2)).setCell ⟨w1.heap.size, 1, none⟩ (.slice A5 n5 c5)).setCell ⟨w1.heap.size, 2, none⟩ (.int .i64 S2)) (w.heap.size + 1 + 1) 24 0 none 0 0 0 := hr6
       have HBZ := Lib.hid hbz
       obtain ⟨z0, z1, z2⟩ := hbz.cells
       have e0 := hbz.free 0
       have e1 := hbz.free 1
       have e2 := hbz.free 2
       clear hbz
       clear hbx hbt hlo kd3 hr3 hr5 hro5 hB5 hg6 kd5 hgd)
    | ((with_reducible refine wpList_load_on 24 _ rfl w1.heap.size 0 ?hx9 [.int .i64 C2, .slice A5 n5 c5, .int .i64 S2] _ rfl _ (dk_st kd6) Tryd.underlying24 ?hd9 (by kernel_rfl) ?_ ?hw9); (case hx9 => rfl); (case hd9 => rfl); (case hw9 => rfl)))
  have hb7 := set3_below hB6 (Nat.le_trans (Nat.le_succ _) (Nat.le_succ _)) (.int .i64 C2) (.slice A5 n5 c5) (.int .i64 S2) (g := w.heap.size + 1 + 1)
  have hd7 := hgt.set3 (far_at (lo := 0) hra5) (g := w.heap.size + 1 + 1) (Nat.zero_le _) (Nat.lt_succ_self _) (.int .i64 C2) (.slice A5 n5 c5) (.int .i64 S2)
  have hx7 := set3_heap (.int .i64 C2) (.slice A5 n5 c5) (.int .i64 S2) HBZ.out
  first | rw [Exit.noGoto_ret] | rw [jump_ret] | skip
  refine bodyPost_ret (v := .agg #[.int .i64 C2, .slice A5 n5 c5, .int .i64 S2]) ?_ rfl ?_
  · exact ret_store1 Tryd.results15 _ _ (w.heap.size + 1 + 1) 24 _ _ _ rfl hx7
  · rw [HAG.out]
    exact ⟨_, _, _, rfl, hd7, hb7⟩
theorem atorn_any (p : Lp) (g : Lg) (u : En) (keep : Int) (w : World) (hK : KTab w) (h : LgAt w p g) (hsm : LgSm g) (hu : u.ok) :
    Calls Tryd.prog 15 #[.agg p.arr, enV u, .int .i64 keep] w (GSt (tornG g u keep) w) := by
  cases he : mayE u with
  | false => exact atorn_no p g u keep w hK h hsm hu he
  | true =>
    cases hm : mayG g with
    | false => exact atorn_may p g u keep w hK h hsm hu he hm
    | true =>
      by_cases hs : slotsG g - g.l.length ≤ 0
      · exact atorn_full p g u keep w hK h hsm hu he hm hs
      · exact atorn_ok p g u keep w hK h hsm hu he hm (by omega)
end Go.Proofs.YtafmompplcaadaaDoor

/- The walks over package store's New, and the document's. -/
namespace Go.Proofs.YtafmompplcaadaaDoor
set_option maxRecDepth 100000
set_option linter.unusedVariables false
set_option linter.unusedSimpArgs false
open Go.RowKit

theorem one_set3 {w w1 : World} (h : Below w.heap.size w w1) (x y z : Value) : Below w.heap.size w (((w1.setCell ⟨w.heap.size, 0, none⟩ x).setCell ⟨w.heap.size, 1, none⟩ y).setCell ⟨w.heap.size, 2, none⟩ z) := set3_below h (Nat.le_refl _) _ _ _
set_option maxHeartbeats 1000000 in
theorem stnew_any (room : Int) (w : World) :
    Calls Tryd.prog 34 #[.int .i64 room] w (GSB (newP room) w) := by
  cases hm : mayT room 0 0 with
  | false =>
    have hno : ¬ (0 ≤ room ∧ room ≤ 16384) := fun h => by
      have := mayT_iff.2 (show 0 ≤ room ∧ room ≤ 16384 ∧ ((0 : Nat) : Int) ≤ room ∧ (0 : Int) ≤ 0 ∧ (0 : Int) ≤ ((0 : Nat) : Int) from ⟨h.1, h.2, h.1, Int.le_refl _, Int.le_refl _⟩)
      rw [hm] at this
      cases this
    have HR := Lib.hid (show newP room = (⟨0, [], 0⟩, false) from by rw [newP, if_neg hno])
    have HM := Lib.hid hm
    clear hm hno
    go_enter Tryd.func34, Tryd.ntmps34
    go_wp2_with (go_at_call 16
                 (with_reducible refine (stmay_any _ none 0 0 _ _ (by omega)).mono ?_)
                 rintro e w2 ⟨he, hb2⟩
                 rw [HM.out] at he
                 subst he
                 obtain ⟨hB2, hs2, y1, y2⟩ := after_two hb2
                 have HX2 := Lib.hid (show BoxT w2 w.heap.size 24 0 none 0 0 0 from y1)
                 obtain ⟨z0, z1, z2⟩ := HX2.out.cells
                 have g0 := HX2.out.free 0
                 have g1 := HX2.out.free 1
                 have g2 := HX2.out.free 2
                 have HB2 := Lib.hid hB2
                 clear hb2 hB2 hs2 y1 y2)
    refine bodyPost_ret (v := .tuple #[.agg #[.int .i64 0, .slice none 0 0, .int .i64 0], .bool false]) ?_ ?_ ?_
    · exact ret_store Tryd.results34 _ _ w.heap.size 24 _ _ _ _ rfl (set3_heap _ _ _ HX2.out) rfl
    · rfl
    · rw [HR.out]
      exact ⟨rfl, one_set3 HB2.out _ _ _⟩
  | true =>
    obtain ⟨q1, q2, -, -, -⟩ := mayT_iff.1 hm
    have HR := Lib.hid (show newP room = (⟨room, [], 0⟩, true) from by rw [newP, if_pos ⟨q1, q2⟩])
    have HM := Lib.hid hm
    clear hm q1 q2
    go_enter Tryd.func34, Tryd.ntmps34
    go_wp2_with (go_at_call 16
                 (with_reducible refine (stmay_any _ none 0 0 _ _ (by omega)).mono ?_)
                 rintro e w2 ⟨he, hb2⟩
                 rw [HM.out] at he
                 subst he
                 obtain ⟨hB2, hs2, y1, y2⟩ := after_two hb2
                 have HX2 := Lib.hid (show BoxT w2 w.heap.size 24 0 none 0 0 0 from y1)
                 have HF2 := Lib.hid (show BoxT w2 (w.heap.size + 1) 24 room none 0 0 0 from y2)
                 obtain ⟨z0, z1, z2⟩ := HX2.out.cells
                 obtain ⟨x0, x1, x2⟩ := HF2.out.cells
                 have g0 := HX2.out.free 0
                 have g1 := HX2.out.free 1
                 have g2 := HX2.out.free 2
                 have HB2 := Lib.hid hB2
                 clear hb2 hB2 hs2 y1 y2)
    refine bodyPost_ret (v := .tuple #[.agg #[.int .i64 room, .slice none 0 0, .int .i64 0], .bool true]) ?_ ?_ ?_
    · exact ret_store Tryd.results34 _ _ w.heap.size 24 _ _ _ _ rfl (set3_heap _ _ _ HX2.out) rfl
    · rfl
    · rw [HR.out]
      exact ⟨rfl, one_set3 HB2.out _ _ _⟩
end Go.Proofs.YtafmompplcaadaaDoor

/- The walk over the document's New of a log. -/
namespace Go.Proofs.YtafmompplcaadaaDoor
set_option maxRecDepth 100000
set_option linter.unusedVariables false
set_option linter.unusedSimpArgs false
open Go.RowKit

theorem new_log (room : Int) : newG room = (if 0 ≤ room ∧ room ≤ 16384 then (⟨⟨room, [], 0⟩, [], startC⟩, true) else (zeroG, false)) := rfl
theorem start_at (w : World) (room : Int) (h : 0 ≤ room ∧ room ≤ 16384) : LgAt w ⟨room, none, 0, 0, 0, none, 0, 0, headC []⟩ ⟨⟨room, [], 0⟩, [], headC []⟩ := ⟨rfl, rfl, rfl, Bts.nil w, Ens.nil w, ⟨fun u hu => (by cases hu), headC_len _, headC_byte _⟩, by simp only; omega⟩
end Go.Proofs.YtafmompplcaadaaDoor

/- The walk over package audit's New. -/
namespace Go.Proofs.YtafmompplcaadaaDoor
set_option maxRecDepth 100000
set_option linter.unusedVariables false
set_option linter.unusedSimpArgs false
open Go.RowKit

set_option maxHeartbeats 2000000 in
theorem anew_no (room : Int) (w : World) (h : ¬ (0 ≤ room ∧ room ≤ 16384)) : Calls Tryd.prog 20 #[.int .i64 room] w (GLB (zeroG, false) w) := by
  have HNW := Lib.hid (show ∀ X, Calls Tryd.prog 34 #[.int .i64 room] X fun e w' => e = .returned (.tuple #[.agg #[.int .i64 0, .slice none 0 0, .int .i64 0], .bool false]) ∧ Below X.heap.size X w' from fun X => by
    have h0 := stnew_any room X
    rw [show newP room = (⟨0, [], 0⟩, false) by rw [newP, if_neg h]] at h0
    exact h0)
  have hbox := heap_alloc_new w (.cells Lp.zero.arr 29 (0, 0))
  have HB0 := Lib.hid (one_alloc w (.cells Lp.zero.arr 29 (0, 0)))
  have HZS := Lib.hid (info_log (C := Lp.zero.arr) (lp_size rfl))
  clear h
  go_enter Tryd.func20, Tryd.ntmps20
  go_wp2_with (first
    | (go_at_call 34
       (with_reducible refine (HNW.out _).mono ?_)
       rintro e w1 ⟨rfl, hb1⟩
       have hb1 : Below (w.alloc (.cells Lp.zero.arr 29 (0, 0))).heap.size (w.alloc (.cells Lp.zero.arr 29 (0, 0))) w1 := hb1
       have hbox := blk_below hbox hb1
       have HB1 := Lib.hid (HB0.out.trans (hb1.mono HB0.out.size))
       clear hb1)
    | ((with_reducible refine wpList_build_to rfl 29 _ rfl [] _ rfl built_zero_g ?_))
    | ((with_reducible refine wpList_store_blk rfl 29 _ _ rfl w.heap.size Lp.zero.arr ?hx3 ?hy3 29 _ (blk_below hbox (one_alloc w1 _)) HZS.out ?hs3 (lp_one _) ?_); (case hx3 => rfl); (case hy3 => rfl); (case hs3 => rfl)
       intro w3 hg3 hX3 hs3
       have HB3 := Lib.hid ((HB1.out.alloc HB1.out.size _).grown hg3 (HB1.out.alloc HB1.out.size _).size (fun k e => by cases e; exact Nat.le_refl _))
       clear hg3 hs3))
  refine bodyPost_ret (v := .tuple #[.agg Lp.zero.arr, .bool false]) ?_ rfl ⟨Lp.zero, rfl, zero_at _, HB3.out⟩
  exact results_blk_tmp Tryd.results20 _ _ _ w.heap.size 29 _ (0, 0) _ rfl hX3 Tryd.underlying29 rfl HZS.out _ rfl
set_option maxHeartbeats 2000000 in
theorem anew_yes (room : Int) (w : World) (hK : KTab w) (h : 0 ≤ room ∧ room ≤ 16384) : Calls Tryd.prog 20 #[.int .i64 room] w (GLB (⟨⟨room, [], 0⟩, [], headC []⟩, true) w) := by
  have HNW := Lib.hid (show ∀ X, Calls Tryd.prog 34 #[.int .i64 room] X fun e w' => e = .returned (.tuple #[.agg #[.int .i64 room, .slice none 0 0, .int .i64 0], .bool true]) ∧ Below X.heap.size X w' from fun X => by
    have h0 := stnew_any room X
    rw [show newP room = (⟨room, [], 0⟩, true) by rw [newP, if_pos h]] at h0
    exact h0)
  have hbox := heap_alloc_new w (.cells Lp.zero.arr 29 (0, 0))
  have HB0 := Lib.hid (one_alloc w (.cells Lp.zero.arr 29 (0, 0)))
  have HSA := Lib.hid (fun X => start_at X room h)
  obtain ⟨Z, hZ⟩ : ∃ Z, headC [] = Z := ⟨_, rfl⟩
  have HZL := Lib.hid (show Z.length = 32 by rw [← hZ]; exact headC_len _)
  have HHD := Lib.hid (show ∀ X, Below w.heap.size w X → Calls Tryd.prog 35 #[] X fun e w' => e = .returned (.agg (idv Z)) ∧ Below X.heap.size X w' from fun X hX => by
    rw [← hZ]; exact cstart_any X (hK.from hX))
  rw [hZ] at HSA ⊢
  have HBU := Lib.hid (built_new ⟨room, none, 0, 0, 0, none, 0, 0, Z⟩ HZL.out)
  simp only at HBU
  obtain ⟨R, hR⟩ : ∃ R, (Lp.arr ⟨room, none, 0, 0, 0, none, 0, 0, Z⟩) = R := ⟨_, rfl⟩
  have HRS := Lib.hid (show R.size = 36 by rw [← hR]; exact lp_size HZL.out)
  have HRO := Lib.hid (show R.all (·.oneCell') = true by rw [← hR]; exact lp_one _)
  have HR := Lib.hid hR
  rw [hR] at HBU
  clear h hZ hR hK
  go_enter Tryd.func20, Tryd.ntmps20
  go_wp2_with (first
    | (go_at_call 34
       (with_reducible refine (HNW.out _).mono ?_)
       rintro e w1 ⟨rfl, hb1⟩
       have hb1 : Below (w.alloc (.cells Lp.zero.arr 29 (0, 0))).heap.size (w.alloc (.cells Lp.zero.arr 29 (0, 0))) w1 := hb1
       have hlt : w.heap.size < w1.heap.size := Nat.lt_of_lt_of_le (by simp) hb1.size
       have hbox := blk_below hbox hb1
       have HB1 := Lib.hid (HB0.out.trans (hb1.mono HB0.out.size))
       clear hb1))
  have hbod := blk_drew (blk_below hbox (one_alloc w1 (.cells #[.int .i64 room, .slice none 0 0, .int .i64 0] 24 (0, 0))))
  have hS := heap_alloc_new w1 (.cells #[.int .i64 room, .slice none 0 0, .int .i64 0] 24 (0, 0))
  have hSd : (w1.alloc (.cells #[.int .i64 room, .slice none 0 0, .int .i64 0] 24 (0, 0))).drew.heap[w1.heap.size]? = some (.cells #[.int .i64 room, .slice none 0 0, .int .i64 0] 24 (0, 0)) ∧ Below w.heap.size w (w1.alloc (.cells #[.int .i64 room, .slice none 0 0, .int .i64 0] 24 (0, 0))).drew := ⟨blk_drew hS, (HB1.out.alloc HB1.out.size _).drew⟩
  clear hS hbox
  refine wp_region_held_drew (S := fun X => X.heap[w1.heap.size]? = some (.cells #[.int .i64 room, .slice none 0 0, .int .i64 0] 24 (0, 0)) ∧ Below w.heap.size w X) (by kernel_rfl) hSd (fun hHeld => ?_)
  refine take_blk 0 24 _ w1.heap.size 24 _ (0, 0) _ rfl rfl rfl (by kernel_rfl) (by kernel_rfl) (by kernel_rfl) (fun _ _ _ h => h) rfl hHeld (fun X hX => hX.1) Tryd.underlying24 rfl size_st ?_
  simp only [Act.put, List.setIfInBounds_toArray, List.set_cons_zero, List.set_cons_succ]
  refine one_step 1 (by kernel_rfl) rfl (fun Kq hKq => ?_)
  go_simp
  go_at_call 35
  refine (HHD.out _ hSd.2).mono ?_
  rintro e y1 ⟨rfl, hbx⟩
  have hS1 : y1.heap[w1.heap.size]? = some (.cells #[.int .i64 room, .slice none 0 0, .int .i64 0] 24 (0, 0)) ∧ Below w.heap.size w y1 := ⟨blk_below hSd.1 hbx, hSd.2.trans (hbx.mono hSd.2.size)⟩
  have hboy := blk_below hbod hbx
  refine hKq.out _ _ hS1 (fun hHeld0 => ?_)
  clear hKq Kq hHeld hbx hbod
  have hHeld := hHeld0
  clear hHeld0
  try simp only [Act.put, List.setIfInBounds_toArray, List.set_cons_zero, List.set_cons_succ]
  refine take_build 2 29 _ _ R rfl rfl rfl HBU.out (by kernel_rfl) (by kernel_rfl) (by kernel_rfl) (fun _ _ _ h => h) rfl hHeld ?_
  simp only [Act.put, List.setIfInBounds_toArray, List.set_cons_zero, List.set_cons_succ]
  refine one_step 3 (by kernel_rfl) rfl (fun Kq hKq => ?_)
  refine step_store_row 29 _ _ rfl w.heap.size R rfl rfl 29 _ hboy (info_log HRS.out) (by rw [HRS.out]; rfl) HRO.out rfl ?_
  intro w3 hg3 hX3 hs3
  have hS3 : w3.heap[w1.heap.size]? = some (.cells #[.int .i64 room, .slice none 0 0, .int .i64 0] 24 (0, 0)) ∧ Below w.heap.size w w3 := ⟨blk_other hS1.1 hg3 (by omega), hS1.2.grown hg3 hS1.2.size (fun k e => by cases e; exact Nat.le_refl _)⟩
  refine hKq.out _ _ hS3 (fun hHeld0 => ?_)
  clear hKq Kq hHeld
  have hHeld := hHeld0
  clear hHeld0
  try simp only [Act.put, List.setIfInBounds_toArray, List.set_cons_zero, List.set_cons_succ]
  refine take_run 4 (.bool true) rfl (by kernel_rfl) (by kernel_rfl) (by kernel_rfl) (fun _ _ _ h => h) rfl hHeld (fun w => ?_) ?_
  · go_simp
  simp only [Act.put, List.setIfInBounds_toArray, List.set_cons_zero, List.set_cons_succ]
  refine wpAnyH_done (by kernel_rfl) ?_ _
  go_wp2
  have HBE := Lib.hid hS3.2
  refine bodyPost_ret (v := .tuple #[.agg R, .bool true]) ?_ rfl ⟨⟨room, none, 0, 0, 0, none, 0, 0, Z⟩, by rw [HR.out], HSA.out _, HBE.out⟩
  exact results_blk_tmp Tryd.results20 _ _ _ w.heap.size 29 _ (0, 0) _ rfl hX3 Tryd.underlying29 rfl (info_log HRS.out) _ rfl
theorem anew_any (room : Int) (w : World) (hK : KTab w) : Calls Tryd.prog 20 #[.int .i64 room] w (GLB (newG room) w) := by
  by_cases h : 0 ≤ room ∧ room ≤ 16384
  · rw [newG, if_pos h]; exact anew_yes room w hK h
  · rw [newG, if_neg h]; exact anew_no room w h
end Go.Proofs.YtafmompplcaadaaDoor

/- The walk over the document's Same of logs. -/
namespace Go.Proofs.YtafmompplcaadaaDoor
set_option maxRecDepth 100000
set_option linter.unusedVariables false
set_option linter.unusedSimpArgs false
open Go.RowKit

theorem boxes_log (w : World) (P Q : Array Value) : (w.alloc (.cells P 29 (0, 0))).heap.size = w.heap.size + 1 ∧ ((w.alloc (.cells P 29 (0, 0))).alloc (.cells Q 29 (0, 0))).heap[w.heap.size]? = some (.cells P 29 (0, 0)) ∧ ((w.alloc (.cells P 29 (0, 0))).alloc (.cells Q 29 (0, 0))).heap[w.heap.size + 1]? = some (.cells Q 29 (0, 0)) := by
  have h0 : (w.alloc (.cells P 29 (0, 0))).heap.size = w.heap.size + 1 := by simp
  have h1 := heap_alloc_new w (.cells P 29 (0, 0))
  have h2 := heap_alloc_new (w.alloc (.cells P 29 (0, 0))) (.cells Q 29 (0, 0))
  rw [h0] at h2
  exact ⟨h0, ((one_alloc (w.alloc (.cells P 29 (0, 0))) (.cells Q 29 (0, 0))).block _ (Array.getElem?_eq_some_iff.1 h1).1).trans h1, h2⟩
end Go.Proofs.YtafmompplcaadaaDoor

/- The walk over package audit's Same. -/
namespace Go.Proofs.YtafmompplcaadaaDoor
set_option maxRecDepth 100000
set_option linter.unusedVariables false
set_option linter.unusedSimpArgs false
open Go.RowKit

set_option maxHeartbeats 2000000 in
theorem asame_st (p q : Lp) (a b : Lg) (w : World) (ha : LgAt w p a) (hb : LgAt w q b) (hs : sameP a.st b.st = false) :
    Calls Tryd.prog 13 #[.agg p.arr, .agg q.arr] w (GBe false w) := by
  have hHL := ha.hlen
  have hHL2 := hb.hlen
  have HSM := Lib.hid (show ∀ X, Below w.heap.size w X → Calls Tryd.prog 27 #[.agg #[.int .i64 p.cap, .slice p.A p.n p.c, .int .i64 p.sure], .agg #[.int .i64 q.cap, .slice q.A q.n q.c, .int .i64 q.sure]] X (GBool (sameP a.st b.st) X) from fun X hX => by
    have h0 := stsame_any a.st b.st p.A q.A p.n p.c q.n q.c X (ha.data.below hX) (hb.data.below hX)
    rw [ha.val, hb.val] at h0
    exact h0)
  have HES := Lib.hid (fun (X : World) (hX : Below w.heap.size w X) => esame_any p.B p.m p.d a.l q.B q.m q.d b.l X (ha.ents.below hX) (hb.ents.below hX))
  obtain ⟨hz, hbox, hboy⟩ := boxes_log w p.arr q.arr
  have HB0 := Lib.hid (two_below w (.cells p.arr 29 (0, 0)) (.cells q.arr 29 (0, 0)))
  have hrs := lg_st hbox
  have hrt := lg_st hboy
  rw [hs] at HSM
  clear HES
  clear ha hb hz
  go_enter Tryd.func13, Tryd.ntmps13
  go_wp2_with (first
    | ((with_reducible refine wpList_load_on 24 _ rfl w.heap.size 0 ?hx1 [.int .i64 p.cap, .slice p.A p.n p.c, .int .i64 p.sure] _ rfl _ hrs Tryd.underlying24 ?hd1 (by kernel_rfl) ?_ ?hw1); (case hx1 => rfl); (case hd1 => rfl); (case hw1 => rfl))
    | ((with_reducible refine wpList_load_on 24 _ rfl (w.heap.size + 1) 0 ?hx2 [.int .i64 q.cap, .slice q.A q.n q.c, .int .i64 q.sure] _ rfl _ hrt Tryd.underlying24 ?hd2 (by kernel_rfl) ?_ ?hw2); (case hx2 => rfl); (case hd2 => rfl); (case hw2 => rfl))
    | (go_at_call 27
       (with_reducible refine (HSM.out _ HB0.out).mono ?_)
       rintro e w1 ⟨rfl, hb1⟩
       have hb1 : Below ((w.alloc (.cells p.arr 29 (0, 0))).alloc (.cells q.arr 29 (0, 0))).heap.size ((w.alloc (.cells p.arr 29 (0, 0))).alloc (.cells q.arr 29 (0, 0))) w1 := hb1
       have hbox := blk_below hbox hb1
       have hboy := blk_below hboy hb1
       obtain ⟨x0, x1, x2, x3⟩ := lg_cells hbox
       obtain ⟨y0, y1, y2, y3⟩ := lg_cells hboy
       have HB1 := Lib.hid (HB0.out.trans (hb1.mono HB0.out.size))
       clear hb1))
  go_ret
  exact ⟨rfl, HB1.out⟩
set_option maxHeartbeats 2000000 in
theorem asame_en (p q : Lp) (a b : Lg) (w : World) (ha : LgAt w p a) (hb : LgAt w q b) (hs : sameP a.st b.st = true) (he : sameE a.l b.l = false) :
    Calls Tryd.prog 13 #[.agg p.arr, .agg q.arr] w (GBe false w) := by
  have hHL := ha.hlen
  have hHL2 := hb.hlen
  have HSM := Lib.hid (show ∀ X, Below w.heap.size w X → Calls Tryd.prog 27 #[.agg #[.int .i64 p.cap, .slice p.A p.n p.c, .int .i64 p.sure], .agg #[.int .i64 q.cap, .slice q.A q.n q.c, .int .i64 q.sure]] X (GBool (sameP a.st b.st) X) from fun X hX => by
    have h0 := stsame_any a.st b.st p.A q.A p.n p.c q.n q.c X (ha.data.below hX) (hb.data.below hX)
    rw [ha.val, hb.val] at h0
    exact h0)
  have HES := Lib.hid (fun (X : World) (hX : Below w.heap.size w X) => esame_any p.B p.m p.d a.l q.B q.m q.d b.l X (ha.ents.below hX) (hb.ents.below hX))
  obtain ⟨hz, hbox, hboy⟩ := boxes_log w p.arr q.arr
  have HB0 := Lib.hid (two_below w (.cells p.arr 29 (0, 0)) (.cells q.arr 29 (0, 0)))
  have hrs := lg_st hbox
  have hrt := lg_st hboy
  rw [hs] at HSM
  rw [he] at HES
  clear ha hb hz
  go_enter Tryd.func13, Tryd.ntmps13
  go_wp2_with (first
    | ((with_reducible refine wpList_load_on 24 _ rfl w.heap.size 0 ?hx1 [.int .i64 p.cap, .slice p.A p.n p.c, .int .i64 p.sure] _ rfl _ hrs Tryd.underlying24 ?hd1 (by kernel_rfl) ?_ ?hw1); (case hx1 => rfl); (case hd1 => rfl); (case hw1 => rfl))
    | ((with_reducible refine wpList_load_on 24 _ rfl (w.heap.size + 1) 0 ?hx2 [.int .i64 q.cap, .slice q.A q.n q.c, .int .i64 q.sure] _ rfl _ hrt Tryd.underlying24 ?hd2 (by kernel_rfl) ?_ ?hw2); (case hx2 => rfl); (case hd2 => rfl); (case hw2 => rfl))
    | (go_at_call 27
       (with_reducible refine (HSM.out _ HB0.out).mono ?_)
       rintro e w1 ⟨rfl, hb1⟩
       have hb1 : Below ((w.alloc (.cells p.arr 29 (0, 0))).alloc (.cells q.arr 29 (0, 0))).heap.size ((w.alloc (.cells p.arr 29 (0, 0))).alloc (.cells q.arr 29 (0, 0))) w1 := hb1
       have hbox := blk_below hbox hb1
       have hboy := blk_below hboy hb1
       obtain ⟨x0, x1, x2, x3⟩ := lg_cells hbox
       obtain ⟨y0, y1, y2, y3⟩ := lg_cells hboy
       have HB1 := Lib.hid (HB0.out.trans (hb1.mono HB0.out.size))
       clear hb1)
    | (go_at_call 14
       (with_reducible refine (HES.out _ HB1.out).mono ?_)
       rintro e w2 ⟨rfl, hbx⟩
       have hbox := blk_below hbox hbx
       have hboy := blk_below hboy hbx
       have hrh := lg_head hbox
       have hrk := lg_head hboy
       clear x0 x1 x2 x3 y0 y1 y2 y3
       have HB2 := Lib.hid (HB1.out.trans (hbx.mono HB1.out.size))
       clear hbx))
  go_ret
  exact ⟨rfl, HB2.out⟩
set_option maxHeartbeats 2000000 in
theorem asame_hd (p q : Lp) (a b : Lg) (w : World) (ha : LgAt w p a) (hb : LgAt w q b) (hs : sameP a.st b.st = true) (he : sameE a.l b.l = true) :
    Calls Tryd.prog 13 #[.agg p.arr, .agg q.arr] w (GBe (decide (a.head = b.head)) w) := by
  have hHL := ha.hlen
  have hHL2 := hb.hlen
  have HSM := Lib.hid (show ∀ X, Below w.heap.size w X → Calls Tryd.prog 27 #[.agg #[.int .i64 p.cap, .slice p.A p.n p.c, .int .i64 p.sure], .agg #[.int .i64 q.cap, .slice q.A q.n q.c, .int .i64 q.sure]] X (GBool (sameP a.st b.st) X) from fun X hX => by
    have h0 := stsame_any a.st b.st p.A q.A p.n p.c q.n q.c X (ha.data.below hX) (hb.data.below hX)
    rw [ha.val, hb.val] at h0
    exact h0)
  have HES := Lib.hid (fun (X : World) (hX : Below w.heap.size w X) => esame_any p.B p.m p.d a.l q.B q.m q.d b.l X (ha.ents.below hX) (hb.ents.below hX))
  obtain ⟨hz, hbox, hboy⟩ := boxes_log w p.arr q.arr
  have HB0 := Lib.hid (two_below w (.cells p.arr 29 (0, 0)) (.cells q.arr 29 (0, 0)))
  have hrs := lg_st hbox
  have hrt := lg_st hboy
  rw [hs] at HSM
  rw [he] at HES
  have HHI := Lib.hid ha.info
  have HHJ := Lib.hid hb.info
  have HE := Lib.hid (show ∀ w, (Op.equalIn 10000 27 (.agg (idv p.H)) (.agg (idv q.H))).run Tryd.prog w = .ok (decide (a.head = b.head)) w from fun w => by rw [eq_ids _ _ hHL hHL2, ha.head, hb.head])
  obtain ⟨E, hE⟩ : ∃ E, decide (a.head = b.head) = E := ⟨_, rfl⟩
  rw [hE] at HE ⊢
  clear hE
  clear ha hb hz
  go_enter Tryd.func13, Tryd.ntmps13
  go_wp2_with (first
    | ((with_reducible refine wpList_load_on 24 _ rfl w.heap.size 0 ?hx1 [.int .i64 p.cap, .slice p.A p.n p.c, .int .i64 p.sure] _ rfl _ hrs Tryd.underlying24 ?hd1 (by kernel_rfl) ?_ ?hw1); (case hx1 => rfl); (case hd1 => rfl); (case hw1 => rfl))
    | ((with_reducible refine wpList_load_on 24 _ rfl (w.heap.size + 1) 0 ?hx2 [.int .i64 q.cap, .slice q.A q.n q.c, .int .i64 q.sure] _ rfl _ hrt Tryd.underlying24 ?hd2 (by kernel_rfl) ?_ ?hw2); (case hx2 => rfl); (case hd2 => rfl); (case hw2 => rfl))
    | (go_at_call 27
       (with_reducible refine (HSM.out _ HB0.out).mono ?_)
       rintro e w1 ⟨rfl, hb1⟩
       have hb1 : Below ((w.alloc (.cells p.arr 29 (0, 0))).alloc (.cells q.arr 29 (0, 0))).heap.size ((w.alloc (.cells p.arr 29 (0, 0))).alloc (.cells q.arr 29 (0, 0))) w1 := hb1
       have hbox := blk_below hbox hb1
       have hboy := blk_below hboy hb1
       obtain ⟨x0, x1, x2, x3⟩ := lg_cells hbox
       obtain ⟨y0, y1, y2, y3⟩ := lg_cells hboy
       have HB1 := Lib.hid (HB0.out.trans (hb1.mono HB0.out.size))
       clear hb1)
    | (go_at_call 14
       (with_reducible refine (HES.out _ HB1.out).mono ?_)
       rintro e w2 ⟨rfl, hbx⟩
       have hbox := blk_below hbox hbx
       have hboy := blk_below hboy hbx
       have hrh := lg_head hbox
       have hrk := lg_head hboy
       clear x0 x1 x2 x3 y0 y1 y2 y3
       have HB2 := Lib.hid (HB1.out.trans (hbx.mono HB1.out.size))
       clear hbx)
    | ((with_reducible refine wpList_load_on 27 _ rfl w.heap.size 4 ?hx4 (byv p.H) (idv p.H) rfl _ hrh Tryd.underlying27 ?hd4 HHI.out ?_ ?hw4); (case hx4 => rfl); (case hd4 => rfl); (case hw4 => rfl))
    | ((with_reducible refine wpList_load_on 27 _ rfl (w.heap.size + 1) 4 ?hx6 (byv q.H) (idv q.H) rfl _ hrk Tryd.underlying27 ?hd6 HHJ.out ?_ ?hw6); (case hx6 => rfl); (case hd6 => rfl); (case hw6 => rfl))
    | ((with_reducible refine wpList_eq_id .eql _ _ rfl (idv p.H) (idv q.H) ?hx5 ?hy5 E E (.inl ⟨rfl, rfl⟩) (fun w => HE.out w) ?_ ?hw5); (case hx5 => rfl); (case hy5 => rfl); (case hw5 => rfl)))
  go_ret
  exact ⟨rfl, HB2.out⟩
theorem asame_any (p q : Lp) (a b : Lg) (w : World) (ha : LgAt w p a) (hb : LgAt w q b) : Calls Tryd.prog 13 #[.agg p.arr, .agg q.arr] w (GBe (sameG a b) w) := by
  cases hs : sameP a.st b.st with
  | false => rw [show sameG a b = false by rw [sameG, hs]; rfl]; exact asame_st p q a b w ha hb hs
  | true =>
    cases he : sameE a.l b.l with
    | false => rw [show sameG a b = false by rw [sameG, he]; simp]; exact asame_en p q a b w ha hb hs he
    | true => rw [show sameG a b = decide (a.head = b.head) by rw [sameG, hs, he]; simp]; exact asame_hd p q a b w ha hb hs he
end Go.Proofs.YtafmompplcaadaaDoor

/- The walk over package audit's Open of a store. -/
namespace Go.Proofs.YtafmompplcaadaaDoor
set_option maxRecDepth 100000
set_option linter.unusedVariables false
set_option linter.unusedSimpArgs false
open Go.RowKit

set_option maxHeartbeats 4000000 in
theorem aopen_yes (s : Sp) (A : Option Addr) (n c : Nat) (w : World) (hK : KTab w) (hb : Bts w A n c s.data) (hsm : n ≤ 1000000) (hm : mayP s = true) :
    Calls Tryd.prog 12 #[.agg #[.int .i64 s.cap, .slice A n c, .int .i64 s.sure]] w (GLE (openG s) w) := by
  have HRD := Lib.hid (fun (X : World) (hX : Below w.heap.size w X) => creadl_any A n c s.data X (hK.from hX) (hb.below hX))
  have HCV := Lib.hid (show ∀ X, Below w.heap.size w X → Calls Tryd.prog 26 #[.agg #[.int .i64 s.cap, .slice A n c, .int .i64 s.sure], .int .i64 (62 * ((readC s.data).length : Int))] X (GSEn (cutP s (62 * ((readC s.data).length : Int))) X) from fun X hX => stcut_new s _ A n c X (hb.below hX) (by omega))
  obtain ⟨e0, -, hok⟩ := open_any hm (bytes_mem hb.ok)
  have hz2 := cut_read hm (bytes_mem hb.ok)
  have hd := may_data hm
  have hop : openG s = (⟨(cutP s (62 * ((readC s.data).length : Int))).1, readC s.data, headC (readC s.data)⟩, 0) := by rw [openG, if_pos hm]
  have hcp : -9223372036854775808 ≤ (cutP s (62 * ((readC s.data).length : Int))).1.cap ∧ (cutP s (62 * ((readC s.data).length : Int))).1.cap ≤ 9223372036854775807 := by
    rw [hop] at e0
    have := congrArg (fun q : Lg × Int => q.1.st.cap) e0
    simp only at this
    rw [this]
    omega
  rw [e0] at hok
  simp only at hok
  clear e0 hd
  have hZL := headC_len (readC s.data)
  have hZB := headC_byte (readC s.data)
  obtain ⟨R, hR⟩ : ∃ R, readC s.data = R := ⟨_, rfl⟩
  simp only [hR] at HRD HCV hok hZL hZB hz2 hop hcp
  obtain ⟨Z, hZ⟩ : ∃ Z, headC R = Z := ⟨_, rfl⟩
  simp only [hZ] at HRD hok hZL hZB hop
  obtain ⟨T, hT⟩ : ∃ T, cutP s (62 * (R.length : Int)) = T := ⟨_, rfl⟩
  simp only [hT] at HCV hz2 hop hcp
  obtain ⟨⟨C1, D1, S1⟩, E1⟩ := T
  simp only at hz2 hop hcp
  subst hz2
  have HOP := Lib.hid hop
  have HOK := Lib.hid (show Lg.ok ⟨⟨C1, D1, S1⟩, R, Z⟩ from ⟨hok, hZL, hZB⟩)
  have HFT := Lib.hid hcp
  have HZL := Lib.hid hZL
  unfold GSEn GRl at *
  simp only at HCV
  obtain ⟨cap, hcap⟩ : ∃ x, s.cap = x := ⟨_, rfl⟩
  obtain ⟨sure, hsure⟩ : ∃ x, s.sure = x := ⟨_, rfl⟩
  obtain ⟨OG, hOG⟩ : ∃ x, openG s = x := ⟨_, rfl⟩
  rw [hOG] at HOP ⊢
  rw [hcap, hsure] at ⊢
  simp only [hcap, hsure] at HCV
  have HLS := Lib.hid (fun (A' : Option Addr) (n' c' : Nat) (B : Option Addr) (m d : Nat) => (show (Lp.arr ⟨C1, A', n', c', S1, B, m, d, Z⟩).size = 36 from lp_size HZL.out))
  have HZS := Lib.hid (info_log (C := Lp.zero.arr) (lp_size rfl))
  clear hb hcap hsure hT hZ hR hok hZL hZB hop hcp hK hsm hOG
  go_enter Tryd.func12, Tryd.ntmps12
  go_wp2
  refine wp_scope_ahead 0 rfl ?_
  go_wp2_with (first
    | (refine wp_goto ⟨rfl, ?_⟩)
    | (apply wp_label)
    | (go_at_call 17
       (with_reducible refine (HRD.out _ (three_below w _ _ _)).mono ?_)
       rintro e w1 ⟨B, m, d, rfl, hen, hloc, hb1⟩
       obtain ⟨hB1, y0, y1, y2⟩ := after_three_c hb1
       have hst : w1.heap[w.heap.size]? = some (.cells #[.int .i64 cap, .slice A n c, .int .i64 sure] 24 (0, 0)) := y0
       have hres : w1.heap[w.heap.size + 1]? = some (.cells Lp.zero.arr 29 (0, 0)) := y1
       have hdk : w1.heap[w.heap.size + 1 + 1]? = some (.cells Lp.zero.arr 57 (0, 0)) := y2
       have hz1 : w.heap.size + 3 ≤ w1.heap.size := by have := hb1.size; simpa using this
       have hfe := blk_far (n := m) (lo := w.heap.size) hloc (show w.heap.size + 3 ≤ _ by simp)
       have d3 : w1.cell? ⟨w.heap.size + 1 + 1, 3, none⟩ = some (.slice none 0 0) := (dk_cells hdk).2.2.2
       have f3 := dk_free hdk 3
       have hdk3 := dk_set3 hdk B m d
       have hg3 := dk_grown3 hdk B m d
       have hst3 := blk_other hst hg3 (by omega)
       have hres3 := blk_other hres hg3 (by omega)
       have hen3 := ens_kept hen hfe hg3 (by omega) (by omega)
       have hB3 := hB1.grown hg3 hB1.size (fun k e => by cases e; omega)
       have hz3 : w.heap.size + 3 ≤ (w1.setCell ⟨w.heap.size + 1 + 1, 3, none⟩ (.slice B m d)).heap.size := by simpa using hz1
       clear hb1 hloc y0 y1 y2 hen hB1 hst hres hg3 hz1 hdk)
    | ((with_reducible refine wpList_store_in rfl 27 _ _ rfl (w.heap.size + 1 + 1) 4 (.agg (idv Z)) (idv Z) ?hx4 ?hy4 (agg_cells _) 57 (Lp.zero.putB B m d).arr ((Lp.zero.putB B m d).putH Z).arr hdk3 (info32 HZL.out) ?hl4 (idv_one _) (new_h (Lp.zero.putB B m d) Z (putB_len _ _ _) HZL.out) ?_); (case hx4 => rfl); (case hy4 => rfl); (case hl4 => rw [idv_size, HZL.out, lp_size (putB_len B m d)]; exact Nat.le_refl _)
       intro w4 hg4 hdk4 hs4
       have hdk4 : w4.heap[w.heap.size + 1 + 1]? = some (.cells (Lp.arr ⟨0, none, 0, 0, 0, B, m, d, Z⟩) 57 (0, 0)) := hdk4
       have hst4 := blk_other hst3 hg4 (by omega)
       have hres4 := blk_other hres3 hg4 (by omega)
       have hen4 := ens_kept hen3 hfe hg4 (by omega) (by omega)
       have hB4 := hB3.grown hg4 hB3.size (fun k e => by cases e; omega)
       have hz4 : w.heap.size + 3 ≤ w4.heap.size := by omega
       clear hst3 hres3 hen3 hg4 hs4 hdk3 d3 f3 hB3 hz3)
    | ((with_reducible refine wpList_load_blk 24 _ rfl w.heap.size ?hx5 24 #[.int .i64 cap, .slice A n c, .int .i64 sure] (0, 0) _ hst4 Tryd.underlying24 ?hd5 (size_st3 _ _ _) ?_ ?hw5); (case hx5 => rfl); (case hd5 => rfl); (case hw5 => rfl))
    | (go_at_call 26
       (with_reducible refine (HCV.out _ hB4).mono ?_)
       rintro e w5 ⟨A', n', c', rfl, hbt, hloc, hbx⟩
       have hfd := blk_far (n := n') (lo := w.heap.size) hloc hz4
       have hdk5 := blk_below hdk4 hbx
       have hres5 := blk_below hres4 hbx
       have hen5 := hen4.below hbx
       have hB5 := hB4.trans (hbx.mono hB4.size)
       obtain ⟨c0, c1, c2, -⟩ := dk_cells hdk5
       have f0 := dk_free hdk5 0
       have f1 := dk_free hdk5 1
       have f2 := dk_free hdk5 2
       have hdk6 := dk_set012 hdk5 C1 A' n' c' S1
       simp only [Lp.putS] at hdk6
       have hg6 := dk_grown012 hdk5 C1 A' n' c' S1
       have hres6 := blk_other hres5 hg6 (by omega)
       have hen6 := ens_kept hen5 hfe hg6 (by omega) (by omega)
       have hbt6 := hbt.kept hfd hg6 (by omega) (by omega)
       have hB6 := hB5.grown hg6 hB5.size (fun k e => by cases e; omega)
       clear hloc hbt hbx hdk4 hst4 hres4 hen4 hB4 hz4 hdk5 hres5 hen5 hB5 hg6)
    | ((with_reducible refine wpList_load_blk 29 _ rfl (w.heap.size + 1 + 1) ?hx7 57 (Lp.arr ⟨C1, A', n', c', S1, B, m, d, Z⟩) (0, 0) _ hdk6 Tryd.underlying29 ?hd7 (info_log (HLS.out _ _ _ _ _ _)) ?_ ?hw7); (case hx7 => rfl); (case hd7 => rfl); (case hw7 => rfl))
    | ((with_reducible refine wpList_store_blk rfl 29 _ _ rfl (w.heap.size + 1) (Lp.arr ⟨C1, A', n', c', S1, B, m, d, Z⟩) ?hx8 ?hy8 29 _ hres6 (info_log (HLS.out _ _ _ _ _ _)) ?hs8 (lp_one _) ?_); (case hx8 => rfl); (case hy8 => rfl); (case hs8 => exact (lp_size (p := Lp.zero) rfl).trans (HLS.out _ _ _ _ _ _).symm)
       intro w7 hg7 hX7 hs7))
  have hda7 := hbt6.kept hfd hg7 (Nat.le_succ _) (by omega)
  have hen7 := ens_kept hen6 hfe hg7 (Nat.le_succ _) (by omega)
  have hb7 := hB6.grown hg7 hB6.size (fun k e => by cases e; exact Nat.le_succ _)
  first | rw [Exit.noGoto_ret] | rw [jump_ret] | skip
  refine bodyPost_ret (v := .tuple #[.agg (Lp.arr ⟨C1, A', n', c', S1, B, m, d, Z⟩), .int .i64 0]) ?_ rfl ?_
  · exact results_blk_tmp Tryd.results12 _ _ _ (w.heap.size + 1) 29 _ (0, 0) _ rfl hX7 Tryd.underlying29 rfl (info_log (HLS.out _ _ _ _ _ _)) _ rfl
  · rw [HOP.out]
    exact ⟨_, rfl, ⟨rfl, rfl, rfl, hda7, hen7, HOK.out, HFT.out⟩, hb7⟩
set_option maxHeartbeats 4000000 in
theorem aopen_no (s : Sp) (A : Option Addr) (n c : Nat) (w : World) (hK : KTab w) (hb : Bts w A n c s.data) (hsm : n ≤ 1000000) (hm : mayP s = false) :
    Calls Tryd.prog 12 #[.agg #[.int .i64 s.cap, .slice A n c, .int .i64 s.sure]] w (GLE (openG s) w) := by
  have HRD := Lib.hid (fun (X : World) (hX : Below w.heap.size w X) => creadl_any A n c s.data X (hK.from hX) (hb.below hX))
  have HCV := Lib.hid (show ∀ X, Below w.heap.size w X → Calls Tryd.prog 26 #[.agg #[.int .i64 s.cap, .slice A n c, .int .i64 s.sure], .int .i64 (62 * ((readC s.data).length : Int))] X (GSEn (cutP s (62 * ((readC s.data).length : Int))) X) from fun X hX => stcut_new s _ A n c X (hb.below hX) (by omega))
  have hz2 := congrArg (·.2) (cut_no_st hm (62 * ((readC s.data).length : Int)))
  simp only at hz2
  have hop : openG s = (zeroG, 1) := by rw [openG, if_neg (by rw [hm]; simp)]
  have hok : ∀ u ∈ readC s.data, u.ok := (reads_all (bytes_mem hb.ok)).2.2.2
  have hcp : (62 * ((readC s.data).length : Int)) = 62 * ((readC s.data).length : Int) := rfl
  have hZL := headC_len (readC s.data)
  have hZB := headC_byte (readC s.data)
  obtain ⟨R, hR⟩ : ∃ R, readC s.data = R := ⟨_, rfl⟩
  simp only [hR] at HRD HCV hok hZL hZB hz2 hop hcp
  obtain ⟨Z, hZ⟩ : ∃ Z, headC R = Z := ⟨_, rfl⟩
  simp only [hZ] at HRD hok hZL hZB hop
  obtain ⟨T, hT⟩ : ∃ T, cutP s (62 * (R.length : Int)) = T := ⟨_, rfl⟩
  simp only [hT] at HCV hz2 hop hcp
  obtain ⟨⟨C1, D1, S1⟩, E1⟩ := T
  simp only at hz2 hop hcp
  subst hz2
  have HOP := Lib.hid hop
  have HOK := Lib.hid (show Lg.ok ⟨⟨C1, D1, S1⟩, R, Z⟩ from ⟨hok, hZL, hZB⟩)
  have HFT := Lib.hid hcp
  have HZL := Lib.hid hZL
  unfold GSEn GRl at *
  simp only at HCV
  obtain ⟨cap, hcap⟩ : ∃ x, s.cap = x := ⟨_, rfl⟩
  obtain ⟨sure, hsure⟩ : ∃ x, s.sure = x := ⟨_, rfl⟩
  obtain ⟨OG, hOG⟩ : ∃ x, openG s = x := ⟨_, rfl⟩
  rw [hOG] at HOP ⊢
  rw [hcap, hsure] at ⊢
  simp only [hcap, hsure] at HCV
  have HLS := Lib.hid (fun (A' : Option Addr) (n' c' : Nat) (B : Option Addr) (m d : Nat) => (show (Lp.arr ⟨C1, A', n', c', S1, B, m, d, Z⟩).size = 36 from lp_size HZL.out))
  have HZS := Lib.hid (info_log (C := Lp.zero.arr) (lp_size rfl))
  clear hb hcap hsure hT hZ hR hok hZL hZB hop hcp hK hsm hOG
  go_enter Tryd.func12, Tryd.ntmps12
  go_wp2
  refine wp_scope_ahead 0 rfl ?_
  go_wp2_with (first
    | (refine wp_goto ⟨rfl, ?_⟩)
    | (apply wp_label)
    | (go_at_call 17
       (with_reducible refine (HRD.out _ (three_below w _ _ _)).mono ?_)
       rintro e w1 ⟨B, m, d, rfl, hen, hloc, hb1⟩
       obtain ⟨hB1, y0, y1, y2⟩ := after_three_c hb1
       have hst : w1.heap[w.heap.size]? = some (.cells #[.int .i64 cap, .slice A n c, .int .i64 sure] 24 (0, 0)) := y0
       have hres : w1.heap[w.heap.size + 1]? = some (.cells Lp.zero.arr 29 (0, 0)) := y1
       have hdk : w1.heap[w.heap.size + 1 + 1]? = some (.cells Lp.zero.arr 57 (0, 0)) := y2
       have hz1 : w.heap.size + 3 ≤ w1.heap.size := by have := hb1.size; simpa using this
       have hfe := blk_far (n := m) (lo := w.heap.size) hloc (show w.heap.size + 3 ≤ _ by simp)
       have d3 : w1.cell? ⟨w.heap.size + 1 + 1, 3, none⟩ = some (.slice none 0 0) := (dk_cells hdk).2.2.2
       have f3 := dk_free hdk 3
       have hdk3 := dk_set3 hdk B m d
       have hg3 := dk_grown3 hdk B m d
       have hst3 := blk_other hst hg3 (by omega)
       have hres3 := blk_other hres hg3 (by omega)
       have hen3 := ens_kept hen hfe hg3 (by omega) (by omega)
       have hB3 := hB1.grown hg3 hB1.size (fun k e => by cases e; omega)
       have hz3 : w.heap.size + 3 ≤ (w1.setCell ⟨w.heap.size + 1 + 1, 3, none⟩ (.slice B m d)).heap.size := by simpa using hz1
       clear hb1 hloc y0 y1 y2 hen hB1 hst hres hg3 hz1 hdk)
    | ((with_reducible refine wpList_store_in rfl 27 _ _ rfl (w.heap.size + 1 + 1) 4 (.agg (idv Z)) (idv Z) ?hx4 ?hy4 (agg_cells _) 57 (Lp.zero.putB B m d).arr ((Lp.zero.putB B m d).putH Z).arr hdk3 (info32 HZL.out) ?hl4 (idv_one _) (new_h (Lp.zero.putB B m d) Z (putB_len _ _ _) HZL.out) ?_); (case hx4 => rfl); (case hy4 => rfl); (case hl4 => rw [idv_size, HZL.out, lp_size (putB_len B m d)]; exact Nat.le_refl _)
       intro w4 hg4 hdk4 hs4
       have hdk4 : w4.heap[w.heap.size + 1 + 1]? = some (.cells (Lp.arr ⟨0, none, 0, 0, 0, B, m, d, Z⟩) 57 (0, 0)) := hdk4
       have hst4 := blk_other hst3 hg4 (by omega)
       have hres4 := blk_other hres3 hg4 (by omega)
       have hen4 := ens_kept hen3 hfe hg4 (by omega) (by omega)
       have hB4 := hB3.grown hg4 hB3.size (fun k e => by cases e; omega)
       have hz4 : w.heap.size + 3 ≤ w4.heap.size := by omega
       clear hst3 hres3 hen3 hg4 hs4 hdk3 d3 f3 hB3 hz3)
    | ((with_reducible refine wpList_load_blk 24 _ rfl w.heap.size ?hx5 24 #[.int .i64 cap, .slice A n c, .int .i64 sure] (0, 0) _ hst4 Tryd.underlying24 ?hd5 (size_st3 _ _ _) ?_ ?hw5); (case hx5 => rfl); (case hd5 => rfl); (case hw5 => rfl))
    | (go_at_call 26
       (with_reducible refine (HCV.out _ hB4).mono ?_)
       rintro e w5 ⟨A', n', c', rfl, hbt, hloc, hbx⟩
       have hfd := blk_far (n := n') (lo := w.heap.size) hloc hz4
       have hdk5 := blk_below hdk4 hbx
       have hres5 := blk_below hres4 hbx
       have hen5 := hen4.below hbx
       have hB5 := hB4.trans (hbx.mono hB4.size)
       obtain ⟨c0, c1, c2, -⟩ := dk_cells hdk5
       have f0 := dk_free hdk5 0
       have f1 := dk_free hdk5 1
       have f2 := dk_free hdk5 2
       have hdk6 := dk_set012 hdk5 C1 A' n' c' S1
       simp only [Lp.putS] at hdk6
       have hg6 := dk_grown012 hdk5 C1 A' n' c' S1
       have hres6 := blk_other hres5 hg6 (by omega)
       have hen6 := ens_kept hen5 hfe hg6 (by omega) (by omega)
       have hbt6 := hbt.kept hfd hg6 (by omega) (by omega)
       have hB6 := hB5.grown hg6 hB5.size (fun k e => by cases e; omega)
       clear hloc hbt hbx hdk4 hst4 hres4 hen4 hB4 hz4 hdk5 hres5 hen5 hB5 hg6)
    | ((with_reducible refine wpList_build_to rfl 29 _ rfl [] _ rfl built_zero_g ?_))
    | ((with_reducible refine wpList_store_blk rfl 29 _ _ rfl (w.heap.size + 1) Lp.zero.arr ?hx8 ?hy8 29 _ hres6 HZS.out ?hs8 (lp_one _) ?_); (case hx8 => rfl); (case hy8 => rfl); (case hs8 => rfl)
       intro w7 hg7 hX7 hs7))
  have hb7 := hB6.grown hg7 hB6.size (fun k e => by cases e; exact Nat.le_succ _)
  first | rw [Exit.noGoto_ret] | rw [jump_ret] | skip
  refine bodyPost_ret (v := .tuple #[.agg Lp.zero.arr, .int .i64 1]) ?_ rfl ?_
  · exact results_blk_tmp Tryd.results12 _ _ _ (w.heap.size + 1) 29 _ (0, 0) _ rfl hX7 Tryd.underlying29 rfl HZS.out _ rfl
  · rw [HOP.out]
    exact ⟨Lp.zero, rfl, zero_at _, hb7⟩
theorem aopen_any (s : Sp) (A : Option Addr) (n c : Nat) (w : World) (hK : KTab w) (hb : Bts w A n c s.data) (hsm : n ≤ 1000000) :
    Calls Tryd.prog 12 #[.agg #[.int .i64 s.cap, .slice A n c, .int .i64 s.sure]] w (GLE (openG s) w) := by
  cases hm : mayP s with
  | false => exact aopen_no s A n c w hK hb hsm hm
  | true => exact aopen_yes s A n c w hK hb hsm hm
end Go.Proofs.YtafmompplcaadaaDoor

/- AudOk: what package audit does, of the landed code. -/
namespace Go.Proofs.YtafmompplcaadaaDoor
set_option maxRecDepth 100000
set_option linter.unusedVariables false
set_option linter.unusedSimpArgs false
open Go.RowKit

theorem aud_ok : AudOk where
  new := fun room X hK => anew_any room X hK
  may := fun p g X hK h _ => amay_any p g X hK h
  same := fun p q a b X _ ha hb _ _ => asame_any p q a b X ha hb
  open_ := fun s A n c X hK hb hn => aopen_any s A n c X hK hb hn
  room := fun p g X hK h hs => aroom_any p g X hK h (by have := h.ents.len; have := hs.2; omega)
  add := fun p g u urg X hK h hs hu => aadd_any p g u urg X hK h hs hu
  torn := fun p g u keep X hK h hs hu => atorn_any p g u keep X hK h hs hu
end Go.Proofs.YtafmompplcaadaaDoor
