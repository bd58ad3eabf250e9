/- Joined texts: The walk over package audit's Torn. The walk over package audit's New. The walks over package entry's Same. The walk over package audit's Same. A region that draws its order, inside a fence, walked by hand; what a call that makes new memory alone leaves to an iterator's invariants. Package chain's records: whole records, handed on with the head ahead of each. -/
import Derived.Test.YtafmompplcaadaaGreatDoorAuJT
import Derived.Test.YtafmompplcaadaaGreatDoorAuJI
import Derived.Test.YtafmompplcaadaaGreatDoorAuJN
import Derived.Test.YtafmompplcaadaaGreatDoorAuJP
import Derived.Test.YtafmompplcaadaaGreatDoorAuJH
import Derived.Test.YtafmompplcaadaaGreatDoorAuJO
import Derived.Test.YtafmompplcaadaaGreatDoorAuJK
import Derived.Test.YtafmompplcaadaaGreatDoorAuJQ
import Derived.Shelf.RegionOpen
import Derived.Deep.RegionHeld
import Derived.Laws.EntriesVeiled
/- The walk over package audit's Torn. -/
namespace Go.Proofs.YtafmompplcaadaaGreatDoor
set_option maxRecDepth 100000
set_option linter.unusedVariables false
set_option linter.unusedSimpArgs false
open Go.RowKit

set_option maxHeartbeats 4000000 in
theorem atorn_no (p : Lp) (g : Lg) (u : En) (keep : Int) (w : World) (hK : KTab w) (h : LgAt w p g) (hsm : LgSm g) (hu : u.ok) (he : mayE u = false) :
    Calls Tryz.prog 14 #[.agg p.arr, enV u, .int .i64 keep] w (GSt (tornG g u keep) w) := by
  have HK := Lib.hid hK
  have HW := Lib.hid h.whole
  have HOW := Lib.hid (fun (X : World) (hX : Below w.heap.size w X) => aown_any p g X (h.below hX) hsm)
  have HWR := Lib.hid (fun (k : Nat) (q : Lp) (X : World) (hk : KTab X) (hD : Desk X (w.heap.size + 3) k q g) => awrite_no (w.heap.size + 3) k q g u 0 X hk hD hsm hu he)
  have HAG := Lib.hid (show tornG g u keep = g.st by rw [tornG, he]; simp)
  clear h hK hsm hu
  unfold enV at HWR ⊢
  unfold Wrote at HWR
  go_enter Tryz.func14, Tryz.ntmps14
  go_wp2
  refine wp_scope_ahead 0 rfl ?_
  go_wp2_with (first
    | (refine wp_goto ⟨rfl, ?_⟩)
    | (apply wp_label)
    | ((with_reducible refine wpList_load_blk 29 _ rfl w.heap.size ?hx1 29 p.arr (0, 0) _ (first_of3 _ _ _ _) Tryz.underlying29 ?hd1 HW.out ?_ ?hw1); (case hx1 => rfl); (case hd1 => rfl); (case hw1 => rfl))
    | (go_at_call 21
       (with_reducible refine (HOW.out _ (three_below w _ _ _)).mono ?_)
       rintro e w1 ⟨q, rfl, hq, ho, hqa, hb1⟩
       obtain ⟨hB1, y0, y1, y2⟩ := after_three_c hb1
       have hsz : ∀ o1 o2 o3 : Obj, (((w.alloc o1).alloc o2).alloc o3).heap.size = w.heap.size + 3 := fun _ _ _ => by simp
       rw [hsz] at ho hqa
       have hz1 : w.heap.size + 3 ≤ w1.heap.size := by have := hb1.size; rw [hsz] at this; exact this
       have ke1 : w1.heap[w.heap.size + 1]? = some (.cells (enA u) 33 (0, 0)) := y1
       have hr1 : w1.heap[w.heap.size + 1 + 1]? = some (.cells #[.int .i64 0, .slice none 0 0, .int .i64 0] 24 (0, 0)) := y2
       have HB1 := Lib.hid hB1
       have HQ1 := Lib.hid hq
       have HQO := Lib.hid ho
       have HQA := Lib.hid hqa
       have HZ1 := Lib.hid hz1
       have HDK := Lib.hid (built_desk q hq.hlen)
       have HWD := Lib.hid (info_desk (C := q.arr) (lp_size hq.hlen))
       clear hb1 hB1 y0 y1 y2 hq ho hqa hz1 hsz)
    | ((with_reducible refine wpList_build_to rfl 48 _ rfl [(0, .agg q.arr)] q.arr ?hl2 ?hb2 ?_); (case hl2 => rfl); (case hb2 => exact HDK.out))
    | ((with_reducible refine wpList_store_blk rfl 48 _ _ rfl w1.heap.size q.arr ?hx3 ?hy3 48 _ (heap_alloc_new w1 _) HWD.out ?hs3 (lp_one _) ?_); (case hx3 => rfl); (case hy3 => rfl); (case hs3 => exact (lp_size (p := Lp.zero) rfl).trans (lp_size HQ1.out.hlen).symm)
       intro w2 hg2 kd2 hs2
       have hbx : Below w1.heap.size w1 w2 := Below.grows (one_alloc w1 _) hg2 (size_le_alloc _ _) (Nat.le_refl _)
       have ke2 := blk_below ke1 hbx
       have hr2 := blk_below hr1 hbx
       have HB2 := Lib.hid (HB1.out.trans (hbx.mono HB1.out.size))
       have HD2 := Lib.hid (show Desk w2 (w.heap.size + 3) w1.heap.size q g from ⟨kd2, HQ1.out.below hbx, HQO.out.below hbx, HZ1.out, HQA.out⟩)
       have HZ2 := Lib.hid (Nat.le_trans HZ1.out hbx.size)
       clear hbx hg2 hs2 ke1 hr1 kd2)
    | ((with_reducible refine wpList_load_blk 33 _ rfl (w.heap.size + 1) ?hx4 33 (enA u) (0, 0) _ ke2 Tryz.underlying33 ?hd4 (info_en (enA_size _)) ?_ ?hw4); (case hx4 => rfl); (case hd4 => rfl); (case hw4 => rfl))
    | (go_at_call 22
       (with_reducible refine (HWR.out w1.heap.size q w2 (HK.out.from HB2.out) HD2.out).mono ?_)
       rintro e w3 ⟨r, rfl, kd3, hr, hra, hro, hbx⟩
       have hr3 := (hbx.block _ (Nat.lt_succ_self (w.heap.size + 1 + 1))).trans hr2
       have HR3 := Lib.hid hr
       have HRA := Lib.hid hra
       have HRO := Lib.hid hro
       have HB3 := Lib.hid (HB2.out.trans (hbx.mono (Nat.le_add_right _ 3)))
       have HZ3 := Lib.hid (hbx.size_from HZ2.out)
       have HI3 := Lib.hid (info_log (lp_size hr.hlen))
       have hb3z : BoxT w3 (w.heap.size + 1 + 1) 24 0 none 0 0 0 := hr3
       obtain ⟨z0, z1, z2⟩ := hb3z.cells
       have e0 := hb3z.free 0
       have e1 := hb3z.free 1
       have e2 := hb3z.free 2
       clear hb3z
       clear hbx hr hra hro hr2 ke2)
    | ((with_reducible refine wpList_load_on 24 _ rfl w1.heap.size 0 ?hx6 [.int .i64 r.cap, .slice r.A r.n r.c, .int .i64 r.sure] _ rfl _ (dk_st kd3) Tryz.underlying24 ?hd6 (by kernel_rfl) ?_ ?hw6); (case hx6 => rfl); (case hd6 => rfl); (case hw6 => rfl)))
  have hb7 := set3_below HB3.out (Nat.le_trans (Nat.le_succ _) (Nat.le_succ _)) (.int .i64 r.cap) (.slice r.A r.n r.c) (.int .i64 r.sure) (g := w.heap.size + 1 + 1)
  have hd7 := HR3.out.data.set3 (far_at (lo := 0) HRA.out) (g := w.heap.size + 1 + 1) (Nat.zero_le _) (Nat.lt_succ_self _) (.int .i64 r.cap) (.slice r.A r.n r.c) (.int .i64 r.sure)
  have hx7 := set3_heap (.int .i64 r.cap) (.slice r.A r.n r.c) (.int .i64 r.sure) (show BoxT w3 (w.heap.size + 1 + 1) 24 0 none 0 0 0 from hr3)
  first | rw [Exit.noGoto_ret] | rw [jump_ret] | skip
  refine bodyPost_ret (v := .agg #[.int .i64 r.cap, .slice r.A r.n r.c, .int .i64 r.sure]) ?_ rfl ?_
  · exact ret_store1 Tryz.results14 _ _ (w.heap.size + 1 + 1) 24 _ _ _ rfl hx7
  · rw [HAG.out]
    exact ⟨r.A, r.n, r.c, by rw [HR3.out.cap, HR3.out.sure], hd7, hb7⟩
set_option maxHeartbeats 4000000 in
theorem atorn_may (p : Lp) (g : Lg) (u : En) (keep : Int) (w : World) (hK : KTab w) (h : LgAt w p g) (hsm : LgSm g) (hu : u.ok) (he : mayE u = true) (hm : mayG g = false) :
    Calls Tryz.prog 14 #[.agg p.arr, enV u, .int .i64 keep] w (GSt (tornG g u keep) w) := by
  have HK := Lib.hid hK
  have HW := Lib.hid h.whole
  have HOW := Lib.hid (fun (X : World) (hX : Below w.heap.size w X) => aown_any p g X (h.below hX) hsm)
  have HWR := Lib.hid (fun (k : Nat) (q : Lp) (X : World) (hk : KTab X) (hD : Desk X (w.heap.size + 3) k q g) => awrite_may (w.heap.size + 3) k q g u 0 X hk hD hsm hu he hm)
  have HAG := Lib.hid (show tornG g u keep = g.st by rw [tornG, hm]; simp)
  clear h hK hsm hu
  unfold enV at HWR ⊢
  unfold Wrote at HWR
  go_enter Tryz.func14, Tryz.ntmps14
  go_wp2
  refine wp_scope_ahead 0 rfl ?_
  go_wp2_with (first
    | (refine wp_goto ⟨rfl, ?_⟩)
    | (apply wp_label)
    | ((with_reducible refine wpList_load_blk 29 _ rfl w.heap.size ?hx1 29 p.arr (0, 0) _ (first_of3 _ _ _ _) Tryz.underlying29 ?hd1 HW.out ?_ ?hw1); (case hx1 => rfl); (case hd1 => rfl); (case hw1 => rfl))
    | (go_at_call 21
       (with_reducible refine (HOW.out _ (three_below w _ _ _)).mono ?_)
       rintro e w1 ⟨q, rfl, hq, ho, hqa, hb1⟩
       obtain ⟨hB1, y0, y1, y2⟩ := after_three_c hb1
       have hsz : ∀ o1 o2 o3 : Obj, (((w.alloc o1).alloc o2).alloc o3).heap.size = w.heap.size + 3 := fun _ _ _ => by simp
       rw [hsz] at ho hqa
       have hz1 : w.heap.size + 3 ≤ w1.heap.size := by have := hb1.size; rw [hsz] at this; exact this
       have ke1 : w1.heap[w.heap.size + 1]? = some (.cells (enA u) 33 (0, 0)) := y1
       have hr1 : w1.heap[w.heap.size + 1 + 1]? = some (.cells #[.int .i64 0, .slice none 0 0, .int .i64 0] 24 (0, 0)) := y2
       have HB1 := Lib.hid hB1
       have HQ1 := Lib.hid hq
       have HQO := Lib.hid ho
       have HQA := Lib.hid hqa
       have HZ1 := Lib.hid hz1
       have HDK := Lib.hid (built_desk q hq.hlen)
       have HWD := Lib.hid (info_desk (C := q.arr) (lp_size hq.hlen))
       clear hb1 hB1 y0 y1 y2 hq ho hqa hz1 hsz)
    | ((with_reducible refine wpList_build_to rfl 48 _ rfl [(0, .agg q.arr)] q.arr ?hl2 ?hb2 ?_); (case hl2 => rfl); (case hb2 => exact HDK.out))
    | ((with_reducible refine wpList_store_blk rfl 48 _ _ rfl w1.heap.size q.arr ?hx3 ?hy3 48 _ (heap_alloc_new w1 _) HWD.out ?hs3 (lp_one _) ?_); (case hx3 => rfl); (case hy3 => rfl); (case hs3 => exact (lp_size (p := Lp.zero) rfl).trans (lp_size HQ1.out.hlen).symm)
       intro w2 hg2 kd2 hs2
       have hbx : Below w1.heap.size w1 w2 := Below.grows (one_alloc w1 _) hg2 (size_le_alloc _ _) (Nat.le_refl _)
       have ke2 := blk_below ke1 hbx
       have hr2 := blk_below hr1 hbx
       have HB2 := Lib.hid (HB1.out.trans (hbx.mono HB1.out.size))
       have HD2 := Lib.hid (show Desk w2 (w.heap.size + 3) w1.heap.size q g from ⟨kd2, HQ1.out.below hbx, HQO.out.below hbx, HZ1.out, HQA.out⟩)
       have HZ2 := Lib.hid (Nat.le_trans HZ1.out hbx.size)
       clear hbx hg2 hs2 ke1 hr1 kd2)
    | ((with_reducible refine wpList_load_blk 33 _ rfl (w.heap.size + 1) ?hx4 33 (enA u) (0, 0) _ ke2 Tryz.underlying33 ?hd4 (info_en (enA_size _)) ?_ ?hw4); (case hx4 => rfl); (case hd4 => rfl); (case hw4 => rfl))
    | (go_at_call 22
       (with_reducible refine (HWR.out w1.heap.size q w2 (HK.out.from HB2.out) HD2.out).mono ?_)
       rintro e w3 ⟨r, rfl, kd3, hr, hra, hro, hbx⟩
       have hr3 := (hbx.block _ (Nat.lt_succ_self (w.heap.size + 1 + 1))).trans hr2
       have HR3 := Lib.hid hr
       have HRA := Lib.hid hra
       have HRO := Lib.hid hro
       have HB3 := Lib.hid (HB2.out.trans (hbx.mono (Nat.le_add_right _ 3)))
       have HZ3 := Lib.hid (hbx.size_from HZ2.out)
       have HI3 := Lib.hid (info_log (lp_size hr.hlen))
       have hb3z : BoxT w3 (w.heap.size + 1 + 1) 24 0 none 0 0 0 := hr3
       obtain ⟨z0, z1, z2⟩ := hb3z.cells
       have e0 := hb3z.free 0
       have e1 := hb3z.free 1
       have e2 := hb3z.free 2
       clear hb3z
       clear hbx hr hra hro hr2 ke2)
    | ((with_reducible refine wpList_load_on 24 _ rfl w1.heap.size 0 ?hx6 [.int .i64 r.cap, .slice r.A r.n r.c, .int .i64 r.sure] _ rfl _ (dk_st kd3) Tryz.underlying24 ?hd6 (by kernel_rfl) ?_ ?hw6); (case hx6 => rfl); (case hd6 => rfl); (case hw6 => rfl)))
  have hb7 := set3_below HB3.out (Nat.le_trans (Nat.le_succ _) (Nat.le_succ _)) (.int .i64 r.cap) (.slice r.A r.n r.c) (.int .i64 r.sure) (g := w.heap.size + 1 + 1)
  have hd7 := HR3.out.data.set3 (far_at (lo := 0) HRA.out) (g := w.heap.size + 1 + 1) (Nat.zero_le _) (Nat.lt_succ_self _) (.int .i64 r.cap) (.slice r.A r.n r.c) (.int .i64 r.sure)
  have hx7 := set3_heap (.int .i64 r.cap) (.slice r.A r.n r.c) (.int .i64 r.sure) (show BoxT w3 (w.heap.size + 1 + 1) 24 0 none 0 0 0 from hr3)
  first | rw [Exit.noGoto_ret] | rw [jump_ret] | skip
  refine bodyPost_ret (v := .agg #[.int .i64 r.cap, .slice r.A r.n r.c, .int .i64 r.sure]) ?_ rfl ?_
  · exact ret_store1 Tryz.results14 _ _ (w.heap.size + 1 + 1) 24 _ _ _ rfl hx7
  · rw [HAG.out]
    exact ⟨r.A, r.n, r.c, by rw [HR3.out.cap, HR3.out.sure], hd7, hb7⟩
set_option maxHeartbeats 4000000 in
theorem atorn_full (p : Lp) (g : Lg) (u : En) (keep : Int) (w : World) (hK : KTab w) (h : LgAt w p g) (hsm : LgSm g) (hu : u.ok) (he : mayE u = true) (hm : mayG g = true) (hs : slotsG g - g.l.length ≤ 0) :
    Calls Tryz.prog 14 #[.agg p.arr, enV u, .int .i64 keep] w (GSt (tornG g u keep) w) := by
  have HK := Lib.hid hK
  have HW := Lib.hid h.whole
  have HOW := Lib.hid (fun (X : World) (hX : Below w.heap.size w X) => aown_any p g X (h.below hX) hsm)
  have HWR := Lib.hid (fun (k : Nat) (q : Lp) (X : World) (hk : KTab X) (hD : Desk X (w.heap.size + 3) k q g) => awrite_full (w.heap.size + 3) k q g u 0 X hk hD hsm hu he hm hs)
  have HAG := Lib.hid (show tornG g u keep = g.st by rw [tornG, decide_eq_false (show ¬ (g.l.length : Int) < slotsG g by omega)]; simp)
  clear h hK hsm hu
  unfold enV at HWR ⊢
  unfold Wrote at HWR
  go_enter Tryz.func14, Tryz.ntmps14
  go_wp2
  refine wp_scope_ahead 0 rfl ?_
  go_wp2_with (first
    | (refine wp_goto ⟨rfl, ?_⟩)
    | (apply wp_label)
    | ((with_reducible refine wpList_load_blk 29 _ rfl w.heap.size ?hx1 29 p.arr (0, 0) _ (first_of3 _ _ _ _) Tryz.underlying29 ?hd1 HW.out ?_ ?hw1); (case hx1 => rfl); (case hd1 => rfl); (case hw1 => rfl))
    | (go_at_call 21
       (with_reducible refine (HOW.out _ (three_below w _ _ _)).mono ?_)
       rintro e w1 ⟨q, rfl, hq, ho, hqa, hb1⟩
       obtain ⟨hB1, y0, y1, y2⟩ := after_three_c hb1
       have hsz : ∀ o1 o2 o3 : Obj, (((w.alloc o1).alloc o2).alloc o3).heap.size = w.heap.size + 3 := fun _ _ _ => by simp
       rw [hsz] at ho hqa
       have hz1 : w.heap.size + 3 ≤ w1.heap.size := by have := hb1.size; rw [hsz] at this; exact this
       have ke1 : w1.heap[w.heap.size + 1]? = some (.cells (enA u) 33 (0, 0)) := y1
       have hr1 : w1.heap[w.heap.size + 1 + 1]? = some (.cells #[.int .i64 0, .slice none 0 0, .int .i64 0] 24 (0, 0)) := y2
       have HB1 := Lib.hid hB1
       have HQ1 := Lib.hid hq
       have HQO := Lib.hid ho
       have HQA := Lib.hid hqa
       have HZ1 := Lib.hid hz1
       have HDK := Lib.hid (built_desk q hq.hlen)
       have HWD := Lib.hid (info_desk (C := q.arr) (lp_size hq.hlen))
       clear hb1 hB1 y0 y1 y2 hq ho hqa hz1 hsz)
    | ((with_reducible refine wpList_build_to rfl 48 _ rfl [(0, .agg q.arr)] q.arr ?hl2 ?hb2 ?_); (case hl2 => rfl); (case hb2 => exact HDK.out))
    | ((with_reducible refine wpList_store_blk rfl 48 _ _ rfl w1.heap.size q.arr ?hx3 ?hy3 48 _ (heap_alloc_new w1 _) HWD.out ?hs3 (lp_one _) ?_); (case hx3 => rfl); (case hy3 => rfl); (case hs3 => exact (lp_size (p := Lp.zero) rfl).trans (lp_size HQ1.out.hlen).symm)
       intro w2 hg2 kd2 hs2
       have hbx : Below w1.heap.size w1 w2 := Below.grows (one_alloc w1 _) hg2 (size_le_alloc _ _) (Nat.le_refl _)
       have ke2 := blk_below ke1 hbx
       have hr2 := blk_below hr1 hbx
       have HB2 := Lib.hid (HB1.out.trans (hbx.mono HB1.out.size))
       have HD2 := Lib.hid (show Desk w2 (w.heap.size + 3) w1.heap.size q g from ⟨kd2, HQ1.out.below hbx, HQO.out.below hbx, HZ1.out, HQA.out⟩)
       have HZ2 := Lib.hid (Nat.le_trans HZ1.out hbx.size)
       clear hbx hg2 hs2 ke1 hr1 kd2)
    | ((with_reducible refine wpList_load_blk 33 _ rfl (w.heap.size + 1) ?hx4 33 (enA u) (0, 0) _ ke2 Tryz.underlying33 ?hd4 (info_en (enA_size _)) ?_ ?hw4); (case hx4 => rfl); (case hd4 => rfl); (case hw4 => rfl))
    | (go_at_call 22
       (with_reducible refine (HWR.out w1.heap.size q w2 (HK.out.from HB2.out) HD2.out).mono ?_)
       rintro e w3 ⟨r, rfl, kd3, hr, hra, hro, hbx⟩
       have hr3 := (hbx.block _ (Nat.lt_succ_self (w.heap.size + 1 + 1))).trans hr2
       have HR3 := Lib.hid hr
       have HRA := Lib.hid hra
       have HRO := Lib.hid hro
       have HB3 := Lib.hid (HB2.out.trans (hbx.mono (Nat.le_add_right _ 3)))
       have HZ3 := Lib.hid (hbx.size_from HZ2.out)
       have HI3 := Lib.hid (info_log (lp_size hr.hlen))
       have hb3z : BoxT w3 (w.heap.size + 1 + 1) 24 0 none 0 0 0 := hr3
       obtain ⟨z0, z1, z2⟩ := hb3z.cells
       have e0 := hb3z.free 0
       have e1 := hb3z.free 1
       have e2 := hb3z.free 2
       clear hb3z
       clear hbx hr hra hro hr2 ke2)
    | ((with_reducible refine wpList_load_on 24 _ rfl w1.heap.size 0 ?hx6 [.int .i64 r.cap, .slice r.A r.n r.c, .int .i64 r.sure] _ rfl _ (dk_st kd3) Tryz.underlying24 ?hd6 (by kernel_rfl) ?_ ?hw6); (case hx6 => rfl); (case hd6 => rfl); (case hw6 => rfl)))
  have hb7 := set3_below HB3.out (Nat.le_trans (Nat.le_succ _) (Nat.le_succ _)) (.int .i64 r.cap) (.slice r.A r.n r.c) (.int .i64 r.sure) (g := w.heap.size + 1 + 1)
  have hd7 := HR3.out.data.set3 (far_at (lo := 0) HRA.out) (g := w.heap.size + 1 + 1) (Nat.zero_le _) (Nat.lt_succ_self _) (.int .i64 r.cap) (.slice r.A r.n r.c) (.int .i64 r.sure)
  have hx7 := set3_heap (.int .i64 r.cap) (.slice r.A r.n r.c) (.int .i64 r.sure) (show BoxT w3 (w.heap.size + 1 + 1) 24 0 none 0 0 0 from hr3)
  first | rw [Exit.noGoto_ret] | rw [jump_ret] | skip
  refine bodyPost_ret (v := .agg #[.int .i64 r.cap, .slice r.A r.n r.c, .int .i64 r.sure]) ?_ rfl ?_
  · exact ret_store1 Tryz.results14 _ _ (w.heap.size + 1 + 1) 24 _ _ _ rfl hx7
  · rw [HAG.out]
    exact ⟨r.A, r.n, r.c, by rw [HR3.out.cap, HR3.out.sure], hd7, hb7⟩
set_option maxHeartbeats 4000000 in
theorem atorn_ok (p : Lp) (g : Lg) (u : En) (keep : Int) (w : World) (hK : KTab w) (h : LgAt w p g) (hsm : LgSm g) (hu : u.ok) (he : mayE u = true) (hm : mayG g = true) (hs : 0 < slotsG g - g.l.length) :
    Calls Tryz.prog 14 #[.agg p.arr, enV u, .int .i64 keep] w (GSt (tornG g u keep) w) := by
  have HK := Lib.hid hK
  have HW := Lib.hid h.whole
  have HOW := Lib.hid (fun (X : World) (hX : Below w.heap.size w X) => aown_any p g X (h.below hX) hsm)
  have HWR := Lib.hid (fun (k : Nat) (q : Lp) (X : World) (hk : KTab X) (hD : Desk X (w.heap.size + 3) k q g) => awrite_ok (w.heap.size + 3) k q g u 0 X hk hD hsm hu he hm hs (by omega))
  have hwr := write_rec hm he (show (g.l.length : Int) < slotsG g by omega)
  have hdl : (writeP g.st (recG g u)).1.data.length ≤ 140737488355328 := by rw [hwr]; show (recsC (g.l ++ [u])).length ≤ _; rw [more_len]; have := hsm.2; omega
  have HSY := Lib.hid (show ∀ (r : Lp) (X : World), LgAt X r ⟨(writeP g.st (recG g u)).1, g.l ++ [u], linkP g.head u⟩ → Calls Tryz.prog 39 #[.agg #[.int .i64 r.cap, .slice r.A r.n r.c, .int .i64 r.sure], .int .i64 keep] X (GSn (crashP (writeP g.st (recG g u)).1 keep) X) from fun r X hr => by
    have h0 := stcrash_new (writeP g.st (recG g u)).1 keep r.A r.n r.c X hr.data (by have := hr.data.len; simp only at this; omega)
    rw [hr.val] at h0
    exact h0)
  have HAG := Lib.hid (show tornG g u keep = crashP (writeP g.st (recG g u)).1 keep by rw [tornG, hm, he, decide_eq_true (show (g.l.length : Int) < slotsG g by omega)]; rfl)
  obtain ⟨T, hT⟩ : ∃ T, crashP (writeP g.st (recG g u)).1 keep = T := ⟨_, rfl⟩
  simp only [hT] at HSY HAG
  obtain ⟨C2, D2, S2⟩ := T
  unfold GSn at HSY
  simp only at HSY
  clear hT hwr hdl
  clear h hK hsm hu
  unfold enV at HWR ⊢
  unfold Wrote at HWR
  go_enter Tryz.func14, Tryz.ntmps14
  go_wp2
  refine wp_scope_ahead 0 rfl ?_
  go_wp2_with (first
    | (refine wp_goto ⟨rfl, ?_⟩)
    | (apply wp_label)
    | ((with_reducible refine wpList_load_blk 29 _ rfl w.heap.size ?hx1 29 p.arr (0, 0) _ (first_of3 _ _ _ _) Tryz.underlying29 ?hd1 HW.out ?_ ?hw1); (case hx1 => rfl); (case hd1 => rfl); (case hw1 => rfl))
    | (go_at_call 21
       (with_reducible refine (HOW.out _ (three_below w _ _ _)).mono ?_)
       rintro e w1 ⟨q, rfl, hq, ho, hqa, hb1⟩
       obtain ⟨hB1, y0, y1, y2⟩ := after_three_c hb1
       have hsz : ∀ o1 o2 o3 : Obj, (((w.alloc o1).alloc o2).alloc o3).heap.size = w.heap.size + 3 := fun _ _ _ => by simp
       rw [hsz] at ho hqa
       have hz1 : w.heap.size + 3 ≤ w1.heap.size := by have := hb1.size; rw [hsz] at this; exact this
       have ke1 : w1.heap[w.heap.size + 1]? = some (.cells (enA u) 33 (0, 0)) := y1
       have hr1 : w1.heap[w.heap.size + 1 + 1]? = some (.cells #[.int .i64 0, .slice none 0 0, .int .i64 0] 24 (0, 0)) := y2
       have HB1 := Lib.hid hB1
       have HQ1 := Lib.hid hq
       have HQO := Lib.hid ho
       have HQA := Lib.hid hqa
       have HZ1 := Lib.hid hz1
       have HDK := Lib.hid (built_desk q hq.hlen)
       have HWD := Lib.hid (info_desk (C := q.arr) (lp_size hq.hlen))
       clear hb1 hB1 y0 y1 y2 hq ho hqa hz1 hsz)
    | ((with_reducible refine wpList_build_to rfl 48 _ rfl [(0, .agg q.arr)] q.arr ?hl2 ?hb2 ?_); (case hl2 => rfl); (case hb2 => exact HDK.out))
    | ((with_reducible refine wpList_store_blk rfl 48 _ _ rfl w1.heap.size q.arr ?hx3 ?hy3 48 _ (heap_alloc_new w1 _) HWD.out ?hs3 (lp_one _) ?_); (case hx3 => rfl); (case hy3 => rfl); (case hs3 => exact (lp_size (p := Lp.zero) rfl).trans (lp_size HQ1.out.hlen).symm)
       intro w2 hg2 kd2 hs2
       have hbx : Below w1.heap.size w1 w2 := Below.grows (one_alloc w1 _) hg2 (size_le_alloc _ _) (Nat.le_refl _)
       have ke2 := blk_below ke1 hbx
       have hr2 := blk_below hr1 hbx
       have HB2 := Lib.hid (HB1.out.trans (hbx.mono HB1.out.size))
       have HD2 := Lib.hid (show Desk w2 (w.heap.size + 3) w1.heap.size q g from ⟨kd2, HQ1.out.below hbx, HQO.out.below hbx, HZ1.out, HQA.out⟩)
       have HZ2 := Lib.hid (Nat.le_trans HZ1.out hbx.size)
       clear hbx hg2 hs2 ke1 hr1 kd2)
    | ((with_reducible refine wpList_load_blk 33 _ rfl (w.heap.size + 1) ?hx4 33 (enA u) (0, 0) _ ke2 Tryz.underlying33 ?hd4 (info_en (enA_size _)) ?_ ?hw4); (case hx4 => rfl); (case hd4 => rfl); (case hw4 => rfl))
    | (go_at_call 22
       (with_reducible refine (HWR.out w1.heap.size q w2 (HK.out.from HB2.out) HD2.out).mono ?_)
       rintro e w3 ⟨r, rfl, kd3, hr, hra, hro, hbx⟩
       have hr3 := (hbx.block _ (Nat.lt_succ_self (w.heap.size + 1 + 1))).trans hr2
       have HR3 := Lib.hid hr
       have HRA := Lib.hid hra
       have HRO := Lib.hid hro
       have HB3 := Lib.hid (HB2.out.trans (hbx.mono (Nat.le_add_right _ 3)))
       have HZ3 := Lib.hid (hbx.size_from HZ2.out)
       have HI3 := Lib.hid (info_log (lp_size hr.hlen))
       skip
       clear hbx hr hra hro hr2 ke2)
    | ((with_reducible refine wpList_load_on 24 _ rfl w1.heap.size 0 ?hx6 [.int .i64 r.cap, .slice r.A r.n r.c, .int .i64 r.sure] _ rfl _ (dk_st kd3) Tryz.underlying24 ?hd6 (by kernel_rfl) ?_ ?hw6); (case hx6 => rfl); (case hd6 => rfl); (case hw6 => rfl))
    | (go_at_call 39
       (with_reducible refine (HSY.out r w3 HR3.out).mono ?_)
       rintro e w5 ⟨A5, n5, c5, rfl, hbt, hlo, hbx⟩
       have kd5 := blk_below kd3 hbx
       have hr5 := blk_below hr3 hbx
       have hB5 := HB3.out.trans (hbx.mono HB3.out.size)
       have hro5 := HRO.out.below hbx
       have hra5 : ∀ a, A5 = some a → w.heap.size + 3 ≤ a.block := fun a ha => Nat.le_trans HZ3.out (hlo a ha)
       have hgd : w1.heap.size < w3.heap.size := (Array.getElem?_eq_some_iff.1 kd3).1
       have hgt := hbt.kept (blk_far (n := n5) (lo := 0) hlo (Nat.le_refl _)) (dk_grown012 kd5 C2 A5 n5 c5 S2) (Nat.zero_le _) hgd
       obtain ⟨c0, c1, c2, -⟩ := dk_cells kd5
       have f0 := dk_free kd5 0
       have f1 := dk_free kd5 1
       have f2 := dk_free kd5 2
       have kd6 := dk_set012 kd5 C2 A5 n5 c5 S2
       have hg6 := dk_grown012 kd5 C2 A5 n5 c5 S2
       have hr6 := blk_other hr5 hg6 (by have := HZ1.out; omega)
       have hro6 := hro5.far hg6 (own_ne hro5 kd5)
       have hB6 := hB5.grown hg6 hB5.size (fun k e => by cases e; have := HZ1.out; omega)
       have hbz : BoxT (((w5.setCell ⟨w1.heap.size, 0, none⟩ (.int .i64 C2)).setCell ⟨w1.heap.size, 1, none⟩ (.slice A5 n5 c5)).setCell ⟨w1.heap.size, 2, none⟩ (.int .i64 S2)) (w.heap.size + 1 + 1) 24 0 none 0 0 0 := hr6
       have HBZ := Lib.hid hbz
       obtain ⟨z0, z1, z2⟩ := hbz.cells
       have e0 := hbz.free 0
       have e1 := hbz.free 1
       have e2 := hbz.free 2
       clear hbz
       clear hbx hbt hlo kd3 hr3 hr5 hro5 hB5 hg6 kd5 hgd)
    | ((with_reducible refine wpList_load_on 24 _ rfl w1.heap.size 0 ?hx9 [.int .i64 C2, .slice A5 n5 c5, .int .i64 S2] _ rfl _ (dk_st kd6) Tryz.underlying24 ?hd9 (by kernel_rfl) ?_ ?hw9); (case hx9 => rfl); (case hd9 => rfl); (case hw9 => rfl)))
  have hb7 := set3_below hB6 (Nat.le_trans (Nat.le_succ _) (Nat.le_succ _)) (.int .i64 C2) (.slice A5 n5 c5) (.int .i64 S2) (g := w.heap.size + 1 + 1)
  have hd7 := hgt.set3 (far_at (lo := 0) hra5) (g := w.heap.size + 1 + 1) (Nat.zero_le _) (Nat.lt_succ_self _) (.int .i64 C2) (.slice A5 n5 c5) (.int .i64 S2)
  have hx7 := set3_heap (.int .i64 C2) (.slice A5 n5 c5) (.int .i64 S2) HBZ.out
  first | rw [Exit.noGoto_ret] | rw [jump_ret] | skip
  refine bodyPost_ret (v := .agg #[.int .i64 C2, .slice A5 n5 c5, .int .i64 S2]) ?_ rfl ?_
  · exact ret_store1 Tryz.results14 _ _ (w.heap.size + 1 + 1) 24 _ _ _ rfl hx7
  · rw [HAG.out]
    exact ⟨_, _, _, rfl, hd7, hb7⟩
theorem atorn_any (p : Lp) (g : Lg) (u : En) (keep : Int) (w : World) (hK : KTab w) (h : LgAt w p g) (hsm : LgSm g) (hu : u.ok) :
    Calls Tryz.prog 14 #[.agg p.arr, enV u, .int .i64 keep] w (GSt (tornG g u keep) w) := by
  cases he : mayE u with
  | false => exact atorn_no p g u keep w hK h hsm hu he
  | true =>
    cases hm : mayG g with
    | false => exact atorn_may p g u keep w hK h hsm hu he hm
    | true =>
      by_cases hs : slotsG g - g.l.length ≤ 0
      · exact atorn_full p g u keep w hK h hsm hu he hm hs
      · exact atorn_ok p g u keep w hK h hsm hu he hm (by omega)
end Go.Proofs.YtafmompplcaadaaGreatDoor

/- The walk over package audit's New. -/
namespace Go.Proofs.YtafmompplcaadaaGreatDoor
set_option maxRecDepth 100000
set_option linter.unusedVariables false
set_option linter.unusedSimpArgs false
open Go.RowKit

set_option maxHeartbeats 2000000 in
theorem anew_no (room : Int) (w : World) (h : ¬ (0 ≤ room ∧ room ≤ 16384)) : Calls Tryz.prog 10 #[.int .i64 room] w (GLB (zeroG, false) w) := by
  have HNW := Lib.hid (show ∀ X, Calls Tryz.prog 34 #[.int .i64 room] X fun e w' => e = .returned (.tuple #[.agg #[.int .i64 0, .slice none 0 0, .int .i64 0], .bool false]) ∧ Below X.heap.size X w' from fun X => by
    have h0 := stnew_any room X
    rw [show newP room = (⟨0, [], 0⟩, false) by rw [newP, if_neg h]] at h0
    exact h0)
  have hbox := heap_alloc_new w (.cells Lp.zero.arr 29 (0, 0))
  have HB0 := Lib.hid (one_alloc w (.cells Lp.zero.arr 29 (0, 0)))
  have HZS := Lib.hid (info_log (C := Lp.zero.arr) (lp_size rfl))
  clear h
  go_enter Tryz.func10, Tryz.ntmps10
  go_wp2_with (first
    | (go_at_call 34
       (with_reducible refine (HNW.out _).mono ?_)
       rintro e w1 ⟨rfl, hb1⟩
       have hb1 : Below (w.alloc (.cells Lp.zero.arr 29 (0, 0))).heap.size (w.alloc (.cells Lp.zero.arr 29 (0, 0))) w1 := hb1
       have hbox := blk_below hbox hb1
       have HB1 := Lib.hid (HB0.out.trans (hb1.mono HB0.out.size))
       clear hb1)
    | ((with_reducible refine wpList_build_to rfl 29 _ rfl [] _ rfl built_zero_g ?_))
    | ((with_reducible refine wpList_store_blk rfl 29 _ _ rfl w.heap.size Lp.zero.arr ?hx3 ?hy3 29 _ (blk_below hbox (one_alloc w1 _)) HZS.out ?hs3 (lp_one _) ?_); (case hx3 => rfl); (case hy3 => rfl); (case hs3 => rfl)
       intro w3 hg3 hX3 hs3
       have HB3 := Lib.hid ((HB1.out.alloc HB1.out.size _).grown hg3 (HB1.out.alloc HB1.out.size _).size (fun k e => by cases e; exact Nat.le_refl _))
       clear hg3 hs3))
  refine bodyPost_ret (v := .tuple #[.agg Lp.zero.arr, .bool false]) ?_ rfl ⟨Lp.zero, rfl, zero_at _, HB3.out⟩
  exact results_blk_tmp Tryz.results10 _ _ _ w.heap.size 29 _ (0, 0) _ rfl hX3 Tryz.underlying29 rfl HZS.out _ rfl
set_option maxHeartbeats 2000000 in
theorem anew_yes (room : Int) (w : World) (hK : KTab w) (h : 0 ≤ room ∧ room ≤ 16384) : Calls Tryz.prog 10 #[.int .i64 room] w (GLB (⟨⟨room, [], 0⟩, [], headC []⟩, true) w) := by
  have HNW := Lib.hid (show ∀ X, Calls Tryz.prog 34 #[.int .i64 room] X fun e w' => e = .returned (.tuple #[.agg #[.int .i64 room, .slice none 0 0, .int .i64 0], .bool true]) ∧ Below X.heap.size X w' from fun X => by
    have h0 := stnew_any room X
    rw [show newP room = (⟨room, [], 0⟩, true) by rw [newP, if_pos h]] at h0
    exact h0)
  have hbox := heap_alloc_new w (.cells Lp.zero.arr 29 (0, 0))
  have HB0 := Lib.hid (one_alloc w (.cells Lp.zero.arr 29 (0, 0)))
  have HSA := Lib.hid (fun X => start_at X room h)
  obtain ⟨Z, hZ⟩ : ∃ Z, headC [] = Z := ⟨_, rfl⟩
  have HZL := Lib.hid (show Z.length = 32 by rw [← hZ]; exact headC_len _)
  have HHD := Lib.hid (show ∀ X, Below w.heap.size w X → Calls Tryz.prog 35 #[] X fun e w' => e = .returned (.agg (idv Z)) ∧ Below X.heap.size X w' from fun X hX => by
    rw [← hZ]; exact cstart_any X (hK.from hX))
  rw [hZ] at HSA ⊢
  have HBU := Lib.hid (built_new ⟨room, none, 0, 0, 0, none, 0, 0, Z⟩ HZL.out)
  simp only at HBU
  obtain ⟨R, hR⟩ : ∃ R, (Lp.arr ⟨room, none, 0, 0, 0, none, 0, 0, Z⟩) = R := ⟨_, rfl⟩
  have HRS := Lib.hid (show R.size = 36 by rw [← hR]; exact lp_size HZL.out)
  have HRO := Lib.hid (show R.all (·.oneCell') = true by rw [← hR]; exact lp_one _)
  have HR := Lib.hid hR
  rw [hR] at HBU
  clear h hZ hR hK
  go_enter Tryz.func10, Tryz.ntmps10
  go_wp2_with (first
    | (go_at_call 34
       (with_reducible refine (HNW.out _).mono ?_)
       rintro e w1 ⟨rfl, hb1⟩
       have hb1 : Below (w.alloc (.cells Lp.zero.arr 29 (0, 0))).heap.size (w.alloc (.cells Lp.zero.arr 29 (0, 0))) w1 := hb1
       have hlt : w.heap.size < w1.heap.size := Nat.lt_of_lt_of_le (by simp) hb1.size
       have hbox := blk_below hbox hb1
       have HB1 := Lib.hid (HB0.out.trans (hb1.mono HB0.out.size))
       clear hb1))
  have hbod := blk_drew (blk_below hbox (one_alloc w1 (.cells #[.int .i64 room, .slice none 0 0, .int .i64 0] 24 (0, 0))))
  have hS := heap_alloc_new w1 (.cells #[.int .i64 room, .slice none 0 0, .int .i64 0] 24 (0, 0))
  have hSd : (w1.alloc (.cells #[.int .i64 room, .slice none 0 0, .int .i64 0] 24 (0, 0))).drew.heap[w1.heap.size]? = some (.cells #[.int .i64 room, .slice none 0 0, .int .i64 0] 24 (0, 0)) ∧ Below w.heap.size w (w1.alloc (.cells #[.int .i64 room, .slice none 0 0, .int .i64 0] 24 (0, 0))).drew := ⟨blk_drew hS, (HB1.out.alloc HB1.out.size _).drew⟩
  clear hS hbox
  refine wp_region_held_drew (S := fun X => X.heap[w1.heap.size]? = some (.cells #[.int .i64 room, .slice none 0 0, .int .i64 0] 24 (0, 0)) ∧ Below w.heap.size w X) (by kernel_rfl) hSd (fun hHeld => ?_)
  refine take_blk 0 24 _ w1.heap.size 24 _ (0, 0) _ rfl rfl rfl (by kernel_rfl) (by kernel_rfl) (by kernel_rfl) (fun _ _ _ h => h) rfl hHeld (fun X hX => hX.1) Tryz.underlying24 rfl size_st ?_
  simp only [Act.put, List.setIfInBounds_toArray, List.set_cons_zero, List.set_cons_succ]
  refine one_step 1 (by kernel_rfl) rfl (fun Kq hKq => ?_)
  go_simp
  go_at_call 35
  refine (HHD.out _ hSd.2).mono ?_
  rintro e y1 ⟨rfl, hbx⟩
  have hS1 : y1.heap[w1.heap.size]? = some (.cells #[.int .i64 room, .slice none 0 0, .int .i64 0] 24 (0, 0)) ∧ Below w.heap.size w y1 := ⟨blk_below hSd.1 hbx, hSd.2.trans (hbx.mono hSd.2.size)⟩
  have hboy := blk_below hbod hbx
  refine hKq.out _ _ hS1 (fun hHeld0 => ?_)
  clear hKq Kq hHeld hbx hbod
  have hHeld := hHeld0
  clear hHeld0
  try simp only [Act.put, List.setIfInBounds_toArray, List.set_cons_zero, List.set_cons_succ]
  refine take_build 2 29 _ _ R rfl rfl rfl HBU.out (by kernel_rfl) (by kernel_rfl) (by kernel_rfl) (fun _ _ _ h => h) rfl hHeld ?_
  simp only [Act.put, List.setIfInBounds_toArray, List.set_cons_zero, List.set_cons_succ]
  refine one_step 3 (by kernel_rfl) rfl (fun Kq hKq => ?_)
  refine step_store_row 29 _ _ rfl w.heap.size R rfl rfl 29 _ hboy (info_log HRS.out) (by rw [HRS.out]; rfl) HRO.out rfl ?_
  intro w3 hg3 hX3 hs3
  have hS3 : w3.heap[w1.heap.size]? = some (.cells #[.int .i64 room, .slice none 0 0, .int .i64 0] 24 (0, 0)) ∧ Below w.heap.size w w3 := ⟨blk_other hS1.1 hg3 (by omega), hS1.2.grown hg3 hS1.2.size (fun k e => by cases e; exact Nat.le_refl _)⟩
  refine hKq.out _ _ hS3 (fun hHeld0 => ?_)
  clear hKq Kq hHeld
  have hHeld := hHeld0
  clear hHeld0
  try simp only [Act.put, List.setIfInBounds_toArray, List.set_cons_zero, List.set_cons_succ]
  refine take_run 4 (.bool true) rfl (by kernel_rfl) (by kernel_rfl) (by kernel_rfl) (fun _ _ _ h => h) rfl hHeld (fun w => ?_) ?_
  · go_simp
  simp only [Act.put, List.setIfInBounds_toArray, List.set_cons_zero, List.set_cons_succ]
  refine wpAnyH_done (by kernel_rfl) ?_ _
  go_wp2
  have HBE := Lib.hid hS3.2
  refine bodyPost_ret (v := .tuple #[.agg R, .bool true]) ?_ rfl ⟨⟨room, none, 0, 0, 0, none, 0, 0, Z⟩, by rw [HR.out], HSA.out _, HBE.out⟩
  exact results_blk_tmp Tryz.results10 _ _ _ w.heap.size 29 _ (0, 0) _ rfl hX3 Tryz.underlying29 rfl (info_log HRS.out) _ rfl
theorem anew_any (room : Int) (w : World) (hK : KTab w) : Calls Tryz.prog 10 #[.int .i64 room] w (GLB (newG room) w) := by
  by_cases h : 0 ≤ room ∧ room ≤ 16384
  · rw [newG, if_pos h]; exact anew_yes room w hK h
  · rw [newG, if_neg h]; exact anew_no room w h
end Go.Proofs.YtafmompplcaadaaGreatDoor

/- The walks over package entry's Same. -/
namespace Go.Proofs.YtafmompplcaadaaGreatDoor
set_option linter.unusedVariables false
set_option linter.unusedSimpArgs false
open Go.RowKit

set_option maxHeartbeats 2000000 in
theorem eequal_any (A : Option Addr) (n c : Nat) (l : List En) (B : Option Addr) (m d : Nat) (l2 : List En) (w : World) (hl : Ens w A n c l) (hm : Ens w B m d l2) :
    Calls Tryz.prog 63 #[.slice A n c, .slice B m d] w (GBe (sameE l l2) w) := by
  have hn := hl.small
  have hn2 := hm.small
  have HL := Lib.hid hl.len
  have HL2 := Lib.hid hm.len
  by_cases hmm : n = m
  · subst hmm
    have hne : ((n : Int) != (n : Int)) = false := by simp
    go_enter Tryz.func63, Tryz.ntmps63
    go_wp2
    go_loopw [5, 13] (fun x v wr => ∃ j : Nat, j ≤ n ∧ v = .int .i64 j ∧ l.take j = l2.take j ∧ Below w.heap.size w wr) (fun x v _ => n - (intOf v).toNat)
    case atStart => exact ⟨0, Nat.zero_le _, rfl, by simp, Below.refl _ _⟩
    case round =>
      obtain ⟨j, hj, rfl, hsm, hbw⟩ := hrel
      have HBW := Lib.hid hbw
      by_cases hlt : j < n
      · obtain ⟨b, off, u, rfl, hu, hr1⟩ := (hl.below hbw).range j hlt
        obtain ⟨b2, off2, v, rfl, hv, hr2⟩ := (hm.below hbw).range j hlt
        have HNX := Lib.hid (same_take hu hv hsm)
        have HST := Lib.hid (same_stop hu hv)
        have R1 := Lib.hid hr1
        have R2 := Lib.hid hr2
        have q0 : 0 ≤ (j : Int) := by omega
        have q1 : (j : Int) < n := by omega
        clear hbw hsm hu hv hr1 hr2
        go_wp2
        obtain ⟨Y0, hY0⟩ : ∃ Y, wr.drew = Y := ⟨_, rfl⟩
        have HB0 := Lib.hid (show Below w.heap.size w Y0 by rw [← hY0]; exact HBW.out.drew)
        refine wp_region_held_drew (S := (fun w' => w'.rangeAt b (off + j * 9) u.row ∧ w'.rangeAt b2 (off2 + j * 9) v.row)) (by kernel_rfl) ⟨R1.out, R2.out⟩ (fun hHeld => ?_)
        rw [hY0] at hHeld ⊢
        clear hY0
        refine take_move 0 (.tmp 0) (.slice (some ⟨b, off, none⟩) n c) rfl rfl rfl (by kernel_rfl) (by kernel_rfl) (by kernel_rfl) (fun _ _ _ h => h) rfl hHeld ?_
        simp only [Act.put, List.setIfInBounds_toArray, List.set_cons_zero, List.set_cons_succ]
        refine take_move 1 (.tmp 5) (.int .i64 j) rfl rfl rfl (by kernel_rfl) (by kernel_rfl) (by kernel_rfl) (fun _ _ _ h => h) rfl hHeld ?_
        simp only [Act.put, List.setIfInBounds_toArray, List.set_cons_zero, List.set_cons_succ]
        refine take_run 2 (.pointer (some ⟨b, off + j * 9, none⟩)) rfl (by kernel_rfl) (by kernel_rfl) (by kernel_rfl) (fun _ _ _ h => h) rfl hHeld (fun w => ?_) ?_
        · go_simp
        simp only [Act.put, List.setIfInBounds_toArray, List.set_cons_zero, List.set_cons_succ]
        refine take_if 3 (.agg (enA u)) rfl (by kernel_rfl) (by kernel_rfl) (by kernel_rfl) (fun _ _ _ h => h) rfl hHeld (fun w' hw' => ?_) ?_
        · exact run_load_en rfl rfl hw'.1
        simp only [Act.put, List.setIfInBounds_toArray, List.set_cons_zero, List.set_cons_succ]
        refine take_move 4 (.tmp 1) (.slice (some ⟨b2, off2, none⟩) n d) rfl rfl rfl (by kernel_rfl) (by kernel_rfl) (by kernel_rfl) (fun _ _ _ h => h) rfl hHeld ?_
        simp only [Act.put, List.setIfInBounds_toArray, List.set_cons_zero, List.set_cons_succ]
        refine take_move 5 (.tmp 5) (.int .i64 j) rfl rfl rfl (by kernel_rfl) (by kernel_rfl) (by kernel_rfl) (fun _ _ _ h => h) rfl hHeld ?_
        simp only [Act.put, List.setIfInBounds_toArray, List.set_cons_zero, List.set_cons_succ]
        refine take_run 6 (.pointer (some ⟨b2, off2 + j * 9, none⟩)) rfl (by kernel_rfl) (by kernel_rfl) (by kernel_rfl) (fun _ _ _ h => h) rfl hHeld (fun w => ?_) ?_
        · go_simp
        simp only [Act.put, List.setIfInBounds_toArray, List.set_cons_zero, List.set_cons_succ]
        refine take_if 7 (.agg (enA v)) rfl (by kernel_rfl) (by kernel_rfl) (by kernel_rfl) (fun _ _ _ h => h) rfl hHeld (fun w' hw' => ?_) ?_
        · exact run_load_en rfl rfl hw'.2
        simp only [Act.put, List.setIfInBounds_toArray, List.set_cons_zero, List.set_cons_succ]
        refine take_run 8 (.bool (!decide (u = v))) rfl (by kernel_rfl) (by kernel_rfl) (by kernel_rfl) (fun _ _ _ h => h) rfl hHeld (fun w => ?_) ?_
        · exact run_eq_en rfl rfl rfl (.inr ⟨rfl, rfl⟩) (eq_ens u v w)
        simp only [Act.put, List.setIfInBounds_toArray, List.set_cons_zero, List.set_cons_succ]
        refine wpAnyH_done (by kernel_rfl) ?_ _
        by_cases he : u = v
        · have hd : decide (u = v) = true := decide_eq_true he
          rw [hd]
          have HN2 := Lib.hid (HNX.out he)
          clear hd he HNX HST
          go_wp2
          go_roundw
          case rel => exact ⟨j + 1, by omega, by go_num, HN2.out, HB0.out⟩
          case measure => simp [intOf]; omega
        · have hd : decide (u = v) = false := decide_eq_false he
          rw [hd]
          have HS2 := Lib.hid (HST.out he)
          clear hd he HNX HST
          go_wp2
          go_ret
          exact ⟨by rw [HS2.out]; rfl, HB0.out⟩
      · obtain rfl : j = n := by omega
        rw [List.take_of_length_le (by rw [HL.out]; exact Nat.le_refl _), List.take_of_length_le (by rw [HL2.out]; exact Nat.le_refl _)] at hsm
        have HS := Lib.hid (show sameE l l2 = true by rw [sameE, decide_eq_true_eq]; exact hsm)
        clear hbw hsm
        go_wp2
        go_ret
        exact ⟨by rw [HS.out]; rfl, HBW.out⟩
  · have hne : ((n : Int) != (m : Int)) = true := by rw [bne_iff_ne]; omega
    have hr : false = sameE l l2 := (same_len (by rw [HL.out, HL2.out]; exact hmm)).symm
    have HR := Lib.hid hr
    clear hr
    go_enter Tryz.func63, Tryz.ntmps63
    go_wp2
    go_ret
    exact ⟨congrArg (fun b => Ending.returned (Value.bool b)) HR.out, Below.refl _ _⟩
theorem esame_any (A : Option Addr) (n c : Nat) (l : List En) (B : Option Addr) (m d : Nat) (l2 : List En) (w : World) (hl : Ens w A n c l) (hm : Ens w B m d l2) :
    Calls Tryz.prog 46 #[.slice A n c, .slice B m d] w (GBe (sameE l l2) w) := by
  have HC := Lib.hid (eequal_any A n c l B m d l2 w hl hm)
  obtain ⟨E, hE⟩ : ∃ E, sameE l l2 = E := ⟨_, rfl⟩
  rw [hE] at HC ⊢
  clear hl hm hE
  go_enter Tryz.func46, Tryz.ntmps46
  go_wp2_with (go_at_call 63; refine HC.out.mono ?_; rintro e w1 ⟨rfl, hb4⟩; have HB4 := Lib.hid hb4; clear hb4)
  go_ret
  exact ⟨rfl, HB4.out⟩
end Go.Proofs.YtafmompplcaadaaGreatDoor

/- The walk over package audit's Same. -/
namespace Go.Proofs.YtafmompplcaadaaGreatDoor
set_option maxRecDepth 100000
set_option linter.unusedVariables false
set_option linter.unusedSimpArgs false
open Go.RowKit

set_option maxHeartbeats 2000000 in
theorem asame_st (p q : Lp) (a b : Lg) (w : World) (ha : LgAt w p a) (hb : LgAt w q b) (hs : sameP a.st b.st = false) :
    Calls Tryz.prog 18 #[.agg p.arr, .agg q.arr] w (GBe false w) := by
  have hHL := ha.hlen
  have hHL2 := hb.hlen
  have HSM := Lib.hid (show ∀ X, Below w.heap.size w X → Calls Tryz.prog 45 #[.agg #[.int .i64 p.cap, .slice p.A p.n p.c, .int .i64 p.sure], .agg #[.int .i64 q.cap, .slice q.A q.n q.c, .int .i64 q.sure]] X (GBool (sameP a.st b.st) X) from fun X hX => by
    have h0 := stsame_any a.st b.st p.A q.A p.n p.c q.n q.c X (ha.data.below hX) (hb.data.below hX)
    rw [ha.val, hb.val] at h0
    exact h0)
  have HES := Lib.hid (fun (X : World) (hX : Below w.heap.size w X) => esame_any p.B p.m p.d a.l q.B q.m q.d b.l X (ha.ents.below hX) (hb.ents.below hX))
  obtain ⟨hz, hbox, hboy⟩ := boxes_log w p.arr q.arr
  have HB0 := Lib.hid (two_below w (.cells p.arr 29 (0, 0)) (.cells q.arr 29 (0, 0)))
  have hrs := lg_st hbox
  have hrt := lg_st hboy
  rw [hs] at HSM
  clear HES
  clear ha hb hz
  go_enter Tryz.func18, Tryz.ntmps18
  go_wp2_with (first
    | ((with_reducible refine wpList_load_on 24 _ rfl w.heap.size 0 ?hx1 [.int .i64 p.cap, .slice p.A p.n p.c, .int .i64 p.sure] _ rfl _ hrs Tryz.underlying24 ?hd1 (by kernel_rfl) ?_ ?hw1); (case hx1 => rfl); (case hd1 => rfl); (case hw1 => rfl))
    | ((with_reducible refine wpList_load_on 24 _ rfl (w.heap.size + 1) 0 ?hx2 [.int .i64 q.cap, .slice q.A q.n q.c, .int .i64 q.sure] _ rfl _ hrt Tryz.underlying24 ?hd2 (by kernel_rfl) ?_ ?hw2); (case hx2 => rfl); (case hd2 => rfl); (case hw2 => rfl))
    | (go_at_call 45
       (with_reducible refine (HSM.out _ HB0.out).mono ?_)
       rintro e w1 ⟨rfl, hb1⟩
       have hb1 : Below ((w.alloc (.cells p.arr 29 (0, 0))).alloc (.cells q.arr 29 (0, 0))).heap.size ((w.alloc (.cells p.arr 29 (0, 0))).alloc (.cells q.arr 29 (0, 0))) w1 := hb1
       have hbox := blk_below hbox hb1
       have hboy := blk_below hboy hb1
       obtain ⟨x0, x1, x2, x3⟩ := lg_cells hbox
       obtain ⟨y0, y1, y2, y3⟩ := lg_cells hboy
       have HB1 := Lib.hid (HB0.out.trans (hb1.mono HB0.out.size))
       clear hb1))
  go_ret
  exact ⟨rfl, HB1.out⟩
set_option maxHeartbeats 2000000 in
theorem asame_en (p q : Lp) (a b : Lg) (w : World) (ha : LgAt w p a) (hb : LgAt w q b) (hs : sameP a.st b.st = true) (he : sameE a.l b.l = false) :
    Calls Tryz.prog 18 #[.agg p.arr, .agg q.arr] w (GBe false w) := by
  have hHL := ha.hlen
  have hHL2 := hb.hlen
  have HSM := Lib.hid (show ∀ X, Below w.heap.size w X → Calls Tryz.prog 45 #[.agg #[.int .i64 p.cap, .slice p.A p.n p.c, .int .i64 p.sure], .agg #[.int .i64 q.cap, .slice q.A q.n q.c, .int .i64 q.sure]] X (GBool (sameP a.st b.st) X) from fun X hX => by
    have h0 := stsame_any a.st b.st p.A q.A p.n p.c q.n q.c X (ha.data.below hX) (hb.data.below hX)
    rw [ha.val, hb.val] at h0
    exact h0)
  have HES := Lib.hid (fun (X : World) (hX : Below w.heap.size w X) => esame_any p.B p.m p.d a.l q.B q.m q.d b.l X (ha.ents.below hX) (hb.ents.below hX))
  obtain ⟨hz, hbox, hboy⟩ := boxes_log w p.arr q.arr
  have HB0 := Lib.hid (two_below w (.cells p.arr 29 (0, 0)) (.cells q.arr 29 (0, 0)))
  have hrs := lg_st hbox
  have hrt := lg_st hboy
  rw [hs] at HSM
  rw [he] at HES
  clear ha hb hz
  go_enter Tryz.func18, Tryz.ntmps18
  go_wp2_with (first
    | ((with_reducible refine wpList_load_on 24 _ rfl w.heap.size 0 ?hx1 [.int .i64 p.cap, .slice p.A p.n p.c, .int .i64 p.sure] _ rfl _ hrs Tryz.underlying24 ?hd1 (by kernel_rfl) ?_ ?hw1); (case hx1 => rfl); (case hd1 => rfl); (case hw1 => rfl))
    | ((with_reducible refine wpList_load_on 24 _ rfl (w.heap.size + 1) 0 ?hx2 [.int .i64 q.cap, .slice q.A q.n q.c, .int .i64 q.sure] _ rfl _ hrt Tryz.underlying24 ?hd2 (by kernel_rfl) ?_ ?hw2); (case hx2 => rfl); (case hd2 => rfl); (case hw2 => rfl))
    | (go_at_call 45
       (with_reducible refine (HSM.out _ HB0.out).mono ?_)
       rintro e w1 ⟨rfl, hb1⟩
       have hb1 : Below ((w.alloc (.cells p.arr 29 (0, 0))).alloc (.cells q.arr 29 (0, 0))).heap.size ((w.alloc (.cells p.arr 29 (0, 0))).alloc (.cells q.arr 29 (0, 0))) w1 := hb1
       have hbox := blk_below hbox hb1
       have hboy := blk_below hboy hb1
       obtain ⟨x0, x1, x2, x3⟩ := lg_cells hbox
       obtain ⟨y0, y1, y2, y3⟩ := lg_cells hboy
       have HB1 := Lib.hid (HB0.out.trans (hb1.mono HB0.out.size))
       clear hb1)
    | (go_at_call 46
       (with_reducible refine (HES.out _ HB1.out).mono ?_)
       rintro e w2 ⟨rfl, hbx⟩
       have hbox := blk_below hbox hbx
       have hboy := blk_below hboy hbx
       have hrh := lg_head hbox
       have hrk := lg_head hboy
       clear x0 x1 x2 x3 y0 y1 y2 y3
       have HB2 := Lib.hid (HB1.out.trans (hbx.mono HB1.out.size))
       clear hbx))
  go_ret
  exact ⟨rfl, HB2.out⟩
set_option maxHeartbeats 2000000 in
theorem asame_hd (p q : Lp) (a b : Lg) (w : World) (ha : LgAt w p a) (hb : LgAt w q b) (hs : sameP a.st b.st = true) (he : sameE a.l b.l = true) :
    Calls Tryz.prog 18 #[.agg p.arr, .agg q.arr] w (GBe (decide (a.head = b.head)) w) := by
  have hHL := ha.hlen
  have hHL2 := hb.hlen
  have HSM := Lib.hid (show ∀ X, Below w.heap.size w X → Calls Tryz.prog 45 #[.agg #[.int .i64 p.cap, .slice p.A p.n p.c, .int .i64 p.sure], .agg #[.int .i64 q.cap, .slice q.A q.n q.c, .int .i64 q.sure]] X (GBool (sameP a.st b.st) X) from fun X hX => by
    have h0 := stsame_any a.st b.st p.A q.A p.n p.c q.n q.c X (ha.data.below hX) (hb.data.below hX)
    rw [ha.val, hb.val] at h0
    exact h0)
  have HES := Lib.hid (fun (X : World) (hX : Below w.heap.size w X) => esame_any p.B p.m p.d a.l q.B q.m q.d b.l X (ha.ents.below hX) (hb.ents.below hX))
  obtain ⟨hz, hbox, hboy⟩ := boxes_log w p.arr q.arr
  have HB0 := Lib.hid (two_below w (.cells p.arr 29 (0, 0)) (.cells q.arr 29 (0, 0)))
  have hrs := lg_st hbox
  have hrt := lg_st hboy
  rw [hs] at HSM
  rw [he] at HES
  have HHI := Lib.hid ha.info
  have HHJ := Lib.hid hb.info
  have HE := Lib.hid (show ∀ w, (Op.equalIn 10000 27 (.agg (idv p.H)) (.agg (idv q.H))).run Tryz.prog w = .ok (decide (a.head = b.head)) w from fun w => by rw [eq_ids _ _ hHL hHL2, ha.head, hb.head])
  obtain ⟨E, hE⟩ : ∃ E, decide (a.head = b.head) = E := ⟨_, rfl⟩
  rw [hE] at HE ⊢
  clear hE
  clear ha hb hz
  go_enter Tryz.func18, Tryz.ntmps18
  go_wp2_with (first
    | ((with_reducible refine wpList_load_on 24 _ rfl w.heap.size 0 ?hx1 [.int .i64 p.cap, .slice p.A p.n p.c, .int .i64 p.sure] _ rfl _ hrs Tryz.underlying24 ?hd1 (by kernel_rfl) ?_ ?hw1); (case hx1 => rfl); (case hd1 => rfl); (case hw1 => rfl))
    | ((with_reducible refine wpList_load_on 24 _ rfl (w.heap.size + 1) 0 ?hx2 [.int .i64 q.cap, .slice q.A q.n q.c, .int .i64 q.sure] _ rfl _ hrt Tryz.underlying24 ?hd2 (by kernel_rfl) ?_ ?hw2); (case hx2 => rfl); (case hd2 => rfl); (case hw2 => rfl))
    | (go_at_call 45
       (with_reducible refine (HSM.out _ HB0.out).mono ?_)
       rintro e w1 ⟨rfl, hb1⟩
       have hb1 : Below ((w.alloc (.cells p.arr 29 (0, 0))).alloc (.cells q.arr 29 (0, 0))).heap.size ((w.alloc (.cells p.arr 29 (0, 0))).alloc (.cells q.arr 29 (0, 0))) w1 := hb1
       have hbox := blk_below hbox hb1
       have hboy := blk_below hboy hb1
       obtain ⟨x0, x1, x2, x3⟩ := lg_cells hbox
       obtain ⟨y0, y1, y2, y3⟩ := lg_cells hboy
       have HB1 := Lib.hid (HB0.out.trans (hb1.mono HB0.out.size))
       clear hb1)
    | (go_at_call 46
       (with_reducible refine (HES.out _ HB1.out).mono ?_)
       rintro e w2 ⟨rfl, hbx⟩
       have hbox := blk_below hbox hbx
       have hboy := blk_below hboy hbx
       have hrh := lg_head hbox
       have hrk := lg_head hboy
       clear x0 x1 x2 x3 y0 y1 y2 y3
       have HB2 := Lib.hid (HB1.out.trans (hbx.mono HB1.out.size))
       clear hbx)
    | ((with_reducible refine wpList_load_on 27 _ rfl w.heap.size 4 ?hx4 (byv p.H) (idv p.H) rfl _ hrh Tryz.underlying27 ?hd4 HHI.out ?_ ?hw4); (case hx4 => rfl); (case hd4 => rfl); (case hw4 => rfl))
    | ((with_reducible refine wpList_load_on 27 _ rfl (w.heap.size + 1) 4 ?hx6 (byv q.H) (idv q.H) rfl _ hrk Tryz.underlying27 ?hd6 HHJ.out ?_ ?hw6); (case hx6 => rfl); (case hd6 => rfl); (case hw6 => rfl))
    | ((with_reducible refine wpList_eq_id .eql _ _ rfl (idv p.H) (idv q.H) ?hx5 ?hy5 E E (.inl ⟨rfl, rfl⟩) (fun w => HE.out w) ?_ ?hw5); (case hx5 => rfl); (case hy5 => rfl); (case hw5 => rfl)))
  go_ret
  exact ⟨rfl, HB2.out⟩
theorem asame_any (p q : Lp) (a b : Lg) (w : World) (ha : LgAt w p a) (hb : LgAt w q b) : Calls Tryz.prog 18 #[.agg p.arr, .agg q.arr] w (GBe (sameG a b) w) := by
  cases hs : sameP a.st b.st with
  | false => rw [show sameG a b = false by rw [sameG, hs]; rfl]; exact asame_st p q a b w ha hb hs
  | true =>
    cases he : sameE a.l b.l with
    | false => rw [show sameG a b = false by rw [sameG, he]; simp]; exact asame_en p q a b w ha hb hs he
    | true => rw [show sameG a b = decide (a.head = b.head) by rw [sameG, hs, he]; simp]; exact asame_hd p q a b w ha hb hs he
end Go.Proofs.YtafmompplcaadaaGreatDoor

/- A region that draws its order, inside a fence, walked by hand; what a call that makes new memory alone leaves to an iterator's invariants. -/
namespace Go.Proofs.YtafmompplcaadaaGreatDoor
set_option linter.unusedVariables false
open Go.RowKit

section
variable {F : Fence} {n : Nat} {P : Program} {l : List Oper} {Q : Exit → Act → World → Prop} {md : Region.Mode} {oi oj : Oper} {fuel : Nat} {listed : Array Bool} {a : Act} {w : World}
/-- one operation taken first: what it yields hangs on no world, and it calls nobody (of an activation of a function) -/
theorem takeF (hro : F.round = none) (i : Nat) (v : Value) (hi : l[i]? = some oi) (hs : Region.noSelect l.toArray = true) (hf : Region.free md l.toArray listed i = true) (hr : (Region.ready md l.toArray listed).contains i = true)
    (hQ : ∀ c a w, Q (.panic c) (a.put oi.dst v) w → Q (.panic c) a w) (hw : Region.wanted oi (yielded l.toArray a.tmps) = true) (hab : ∀ w, oi.about P w a.eval = none) (hrun : ∀ w, (execOp a.eval oi).run P w = .ok (.value v) w)
    (h : wpAnyIn F n P md l.toArray Q fuel (listed.setIfInBounds i true) (a.put oi.dst v) w) : wpAnyIn F n P md l.toArray Q (fuel + 1) listed a w :=
  wpAnyIn_take hro (by simpa using hi) hs hf hr hQ ⟨.inl ⟨hw, hrun⟩, hab⟩ h
theorem takeF_move (hro : F.round = none) (i : Nat) (x : Operand) (v : Value) (hi : l[i]? = some oi) (ho : oi.op = .move x) (hv : a.eval x = v) (hs : Region.noSelect l.toArray = true) (hf : Region.free md l.toArray listed i = true) (hr : (Region.ready md l.toArray listed).contains i = true)
    (hQ : ∀ c a w, Q (.panic c) (a.put oi.dst v) w → Q (.panic c) a w) (hw : Region.wanted oi (yielded l.toArray a.tmps) = true) (hab : ∀ w, oi.about P w a.eval = none)
    (h : wpAnyIn F n P md l.toArray Q fuel (listed.setIfInBounds i true) (a.put oi.dst v) w) : wpAnyIn F n P md l.toArray Q (fuel + 1) listed a w :=
  takeF hro i v hi hs hf hr hQ hw hab (fun w => by unfold execOp; simp [ho, hv]) h
/-- the only one that may come up; two that may -/
theorem oneF (i : Nat) (hr : Region.ready md l.toArray listed = [i]) (hi : l[i]? = some oi)
    (h : ∀ K' : Act → World → Prop, Shut (∀ a w, wpAnyIn F n P md l.toArray Q fuel (listed.setIfInBounds i true) a w → K' a w) → if Region.wanted oi (yielded l.toArray a.tmps) = true then Oper.wpIn F n P oi a w K' Q else (∀ f, oi.about P w a.eval = some f → F.fn f) ∧ K' (a.put oi.dst undef) w) :
    wpAnyIn F n P md l.toArray Q (fuel + 1) listed a w :=
  wpAnyIn_ready hr (by simp) (AllReadyIn.cons (by simpa using hi) h AllReadyIn.nil)
theorem twoF (i j : Nat) (hr : Region.ready md l.toArray listed = [i, j]) (hi : l[i]? = some oi) (hj : l[j]? = some oj)
    (h1 : ∀ K' : Act → World → Prop, Shut (∀ a w, wpAnyIn F n P md l.toArray Q fuel (listed.setIfInBounds i true) a w → K' a w) → if Region.wanted oi (yielded l.toArray a.tmps) = true then Oper.wpIn F n P oi a w K' Q else (∀ f, oi.about P w a.eval = some f → F.fn f) ∧ K' (a.put oi.dst undef) w)
    (h2 : ∀ K' : Act → World → Prop, Shut (∀ a w, wpAnyIn F n P md l.toArray Q fuel (listed.setIfInBounds j true) a w → K' a w) → if Region.wanted oj (yielded l.toArray a.tmps) = true then Oper.wpIn F n P oj a w K' Q else (∀ f, oj.about P w a.eval = some f → F.fn f) ∧ K' (a.put oj.dst undef) w) :
    wpAnyIn F n P md l.toArray Q (fuel + 1) listed a w :=
  wpAnyIn_ready hr (by simp) (AllReadyIn.cons (by simpa using hi) h1 (AllReadyIn.cons (by simpa using hj) h2 AllReadyIn.nil))
end
theorem below_kept {W W' : World} (h : Below W.heap.size W W') : W.grownBy W' none := ⟨h.os, h.tape, h.output, h.size, fun k hk _ => h.block k hk⟩
theorem ownFrom_below {β : Type} {B : Nat} {I : β → World → Prop} (h : OwnFrom B I) {s : β} {W W' : World} (hs : I s W) (hb : Below W.heap.size W W') : I s W' := h s W W' none hs (below_kept hb) (fun r e => by cases e)
theorem keepB_below {n : Nat} {bs : List Nat} {X Y : World} (h : Below X.heap.size X Y) (hn : n ≤ X.heap.size) : KeepB n bs X Y := ⟨h.mono hn, fun b _ o ho => (h.block b (Array.getElem?_eq_some_iff.1 ho).1).trans ho⟩
theorem keepsFrom_below {B : Nat} {X Y : World} (h : Below X.heap.size X Y) : KeepsFrom B X Y := KeepsFrom.of_grownBy (below_kept h) (fun j e => by cases e)
theorem boxed_below {w w' : World} {g : Nat} {t : TypeId} {v : Value} (h : Boxed w g t v) (hb : Below w.heap.size w w') : Boxed w' g t v := (hb.block g h.lt).trans h
theorem below_drew1 (w : World) : Below w.heap.size w w.drew := (Below.refl _ w).drew
end Go.Proofs.YtafmompplcaadaaGreatDoor

/- Package chain's records: whole records, handed on with the head ahead of each. -/
namespace Go.Proofs.YtafmompplcaadaaGreatDoor
set_option maxRecDepth 100000
set_option linter.unusedVariables false
set_option linter.unusedSimpArgs false
open Go.RowKit Go.Shelf
attribute [local go_sem] Oper.semAt_some

/-- a head, and the record behind it -/
def recV (A : Option Addr) (c : Nat) (b : List Int) (k : Nat) : Array Value := #[.agg (idv (headB (b.take (62 * k)))), .slice (A.map fun a => ⟨a.block, a.off + 62 * k, none⟩) 62 (c - 62 * k)]
def recN (n : Nat) : Nat := min (n / 62) 264
set_option maxRecDepth 100000 in
set_option maxHeartbeats 4000000 in
theorem recs_hands (A : Option Addr) (n c : Nat) (b : List Int) (Bs : Nat) (wb w0 : World) (hK : KTab wb) (hb : Bts wb A n c b) (hb0 : Below wb.heap.size wb w0) (hbox : Boxed w0 Bs 22 (.slice A n c)) :
    HandsC Tryz.prog 84 #[.pointer (some ⟨Bs, 0, none⟩)] (recV A c b) (recN n) (fun _ => KeepB wb.heap.size [Bs]) w0 := by
  intro m L J Jx W hW hJ hJx hY h0
  have hbW : Boxed W Bs 22 (.slice A n c) := (hW.block Bs hbox.lt).trans hbox
  have hboxW := hbW.cell
  have HBW := Lib.hid hbW
  have hn := hb.small
  have HBL := Lib.hid hb.len
  have HD := Lib.hid hb
  have HY := Lib.hid hY
  have HJ := Lib.hid hJ
  have HK := Lib.hid hK
  have HW := Lib.hid (hb0.trans (hW.mono hb0.size))
  have hN : recN n = min (n / 62) 264 := rfl
  obtain ⟨N, hN2⟩ : ∃ N, recN n = N := ⟨_, rfl⟩
  rw [hN2] at HY hN ⊢
  have hN62 : 62 * N ≤ n := by omega
  have hN264 : N ≤ 264 := by omega
  have HN := Lib.hid hN
  have hmin : min ((n : Int) / 62) 264 = N := by omega
  have hmx : Tryz.prog.follows .mixedOrders = true := by kernel_rfl
  clear hY hW hbox hb hJ hJx hb0 hbW hK hN hN2
  refine callsIn_of_wp Tryz.func84 rfl trivial ?_ rfl
  simp only [Tryz.ntmps84, List.size_toArray, List.length_cons, List.length_nil, Nat.reduceAdd, Nat.reduceSub, Array.replicate_succ, Array.replicate_zero, List.push_toArray, List.append_toArray, List.nil_append, List.cons_append]
  rcases (show (n : Int) / 62 ≤ 264 ∧ (n : Int) / 62 = N ∨ ¬ (n : Int) / 62 ≤ 264 ∧ (264 : Int) = N by omega) with ⟨hq, e⟩ | ⟨hq, e⟩
  all_goals
    gi_wp2
    try rw [e]
    clear e hq hmin
    gi_loopw [3, 4, 9] (fun x y i wr => ∃ k : Nat, k ≤ N ∧ i = .int .i64 k ∧ J k wr ∧ Below wb.heap.size wb wr ∧ Boxed wr Bs 22 (.slice A n c)) (fun _ _ i _ => N - (intOf i).toNat)
    case atStart => exact ⟨0, Nat.zero_le _, rfl, h0, HW.out, HBW.out⟩
    case round =>
      obtain ⟨k, hk, rfl, hJk, hB, hbr⟩ := hrel
      by_cases hlt : k < N
      · obtain ⟨hc1, hbt1⟩ := run_to (HD.out.below hB) ((k : Int) * 62) (hi := 62 * k) (by omega) (by omega)
        obtain ⟨bb, oo, rfl, hbt2, hcut2⟩ := cut_any (HD.out.below hB) (62 * k) 62 (by omega) (by omega)
        have hc2 : ∀ W : World, (Instr.slice 22 (.slice (some ⟨bb, oo, none⟩) n c) (some (.int .i64 ((k : Int) * 62))) (some (.int .i64 ((k : Int) * 62 + 62))) none).run Tryz.prog W = .ok (.slice (some ⟨bb, oo + 62 * k, none⟩) 62 (c - 62 * k)) W := fun W => hcut2 _ _ W (by omega) (by omega)
        have q0 : 0 ≤ (k : Int) := by omega
        have q1 : (k : Int) < N := by omega
        have hbx := hbr.cell
        have HB1 := Lib.hid hB
        have HBR := Lib.hid hbr
        have HJk := Lib.hid hJk
        have HHD := Lib.hid (fun (X : World) (hX : Below wr.heap.size wr X) => callsIn_wide (n := m - 1).2 (cheadof_any (some ⟨bb, oo, none⟩) (62 * k) c (b.take (62 * k)) X (HK.out.from (hB.trans (hX.mono hB.size))) (hbt1.below hX) (by omega)))
        have HYY := Lib.hid (fun (X : World) (hX : Below wr.heap.size wr X) => yield_any (m - 1) (HY.out k X hlt (ownFrom_below HJ.out hJk hX)))
        simp only [recV, Option.map_some] at HYY
        clear hB hbr hJk hbt1 hbt2 hcut2
        have hw62 : IntKind.i64.wrap ((k : Int) * 62 + 62) = (k : Int) * 62 + 62 := by rw [IntKind.wrap_i64]; omega
        gi_wp2
        refine wpIn_region_any hmx ?_
        change wpAnyIn _ _ _ _ _ _ _ _ _ (World.drew _)
        obtain ⟨Y0, hY0⟩ : ∃ Y, wr.drew = Y := ⟨_, rfl⟩
        have hS0 : Below wr.heap.size wr Y0 := by rw [← hY0]; exact below_drew1 wr
        rw [hY0]
        have hbx : Y0.cell? ⟨Bs, 0, none⟩ = some (.slice (some ⟨bb, oo, none⟩) n c) := (boxed_below HBR.out hS0).cell
        clear hY0
        refine takeF_move rfl 0 (.tmp 0) (.func (.yield L) #[] #[]) rfl rfl rfl (by kernel_rfl) (by kernel_rfl) (by kernel_rfl) (fun _ _ _ h => h) rfl (fun _ => rfl) ?_
        simp only [Act.put, List.setIfInBounds_toArray, List.set_cons_zero, List.set_cons_succ]
        refine takeF_move rfl 2 (.tmp 4) (.int .i64 ((k : Int) * 62)) rfl rfl rfl (by kernel_rfl) (by kernel_rfl) (by kernel_rfl) (fun _ _ _ h => h) rfl (fun _ => rfl) ?_
        simp only [Act.put, List.setIfInBounds_toArray, List.set_cons_zero, List.set_cons_succ]
        refine takeF_move rfl 6 (.tmp 4) (.int .i64 ((k : Int) * 62)) rfl rfl rfl (by kernel_rfl) (by kernel_rfl) (by kernel_rfl) (fun _ _ _ h => h) rfl (fun _ => rfl) ?_
        simp only [Act.put, List.setIfInBounds_toArray, List.set_cons_zero, List.set_cons_succ]
        refine takeF_move rfl 7 (.tmp 4) (.int .i64 ((k : Int) * 62)) rfl rfl rfl (by kernel_rfl) (by kernel_rfl) (by kernel_rfl) (fun _ _ _ h => h) rfl (fun _ => rfl) ?_
        simp only [Act.put, List.setIfInBounds_toArray, List.set_cons_zero, List.set_cons_succ]
        refine takeF rfl 8 (.int .i64 ((k : Int) * 62 + 62)) rfl (by kernel_rfl) (by kernel_rfl) (by kernel_rfl) (fun _ _ _ h => h) rfl (fun _ => rfl) (fun w => ?_) ?_
        · go_simp
        simp only [Act.put, List.setIfInBounds_toArray, List.set_cons_zero, List.set_cons_succ]
        refine twoF 1 5 (by kernel_rfl) rfl rfl (fun Kq hKq => ?_) (fun Kq hKq => ?_)
        · skip
          go_simp
          refine hKq.out _ _ ?_
          clear hKq Kq
          try simp only [Act.put, List.setIfInBounds_toArray, List.set_cons_zero, List.set_cons_succ]
          refine takeF rfl 3 (.slice (some ⟨bb, oo, none⟩) (62 * k) c) rfl (by kernel_rfl) (by kernel_rfl) (by kernel_rfl) (fun _ _ _ h => h) rfl (fun _ => rfl) (fun w => ?_) ?_
          · go_simp
          simp only [Act.put, List.setIfInBounds_toArray, List.set_cons_zero, List.set_cons_succ]
          refine twoF 4 5 (by kernel_rfl) rfl rfl (fun Kq hKq => ?_) (fun Kq hKq => ?_)
          · skip
            go_simp
            refine ⟨trivial, (fun h => by simp [Fence.wide] at h), ?_⟩
            gi_at_call 58
            refine (HHD.out _ hS0).mono ?_
            rintro e w4 ⟨rfl, hb4⟩
            have hSw4 : Below wr.heap.size wr w4 := hS0.trans (hb4.mono hS0.size)
            have hbx : w4.cell? ⟨Bs, 0, none⟩ = some (.slice (some ⟨bb, oo, none⟩) n c) := (boxed_below HBR.out hSw4).cell
            clear hb4
            simp only []
            refine hKq.out _ _ ?_
            clear hKq Kq
            try simp only [Act.put, List.setIfInBounds_toArray, List.set_cons_zero, List.set_cons_succ]
            refine oneF 5 (by kernel_rfl) rfl (fun Kq hKq => ?_)
            go_simp
            refine hKq.out _ _ ?_
            clear hKq Kq
            try simp only [Act.put, List.setIfInBounds_toArray, List.set_cons_zero, List.set_cons_succ]
            refine takeF rfl 9 (.slice (some ⟨bb, oo + 62 * k, none⟩) 62 (c - 62 * k)) rfl (by kernel_rfl) (by kernel_rfl) (by kernel_rfl) (fun _ _ _ h => h) rfl (fun _ => rfl) (fun w => ?_) ?_
            · go_simp
            simp only [Act.put, List.setIfInBounds_toArray, List.set_cons_zero, List.set_cons_succ]
            obtain ⟨fn, tmps, assign, body, hy, hR⟩ := HYY.out _ hSw4
            have HR := Lib.hid hR
            clear hR
            refine oneF 10 (by kernel_rfl) rfl (fun Kq hKq => ?_)
            go_simp
            refine ⟨(fun h => by simp [Fence.wide] at h), HR.out.mono ?_⟩
            rintro e W3 (⟨rfl, hJ3, hk3, -⟩ | ⟨rfl, hJx3, -⟩)
            · have HJ3 := Lib.hid hJ3
              have HK3 := Lib.hid hk3
              clear hJ3 hk3 hy HR
              simp only []
              refine hKq.out _ _ ?_
              clear hKq Kq
              try simp only [Act.put, List.setIfInBounds_toArray, List.set_cons_zero, List.set_cons_succ]
              refine takeF rfl 11 (.bool false) rfl (by kernel_rfl) (by kernel_rfl) (by kernel_rfl) (fun _ _ _ h => h) rfl (fun _ => rfl) (fun w => ?_) ?_
              · go_simp
              simp only [Act.put, List.setIfInBounds_toArray, List.set_cons_zero, List.set_cons_succ]
              refine wpAnyIn_done (by kernel_rfl) ?_ _
              gi_wp2
              go_roundw
              case rel => exact ⟨k + 1, by omega, by go_num, HJ3.out, (HB1.out.trans (hSw4.mono HB1.out.size)).trans HK3.out.1, HK3.out.2 Bs (by simp) _ (boxed_below HBR.out hSw4)⟩
              case measure => simp [intOf]; omega
            · have HJX := Lib.hid hJx3
              clear hJx3 hy HR
              simp only []
              refine hKq.out _ _ ?_
              clear hKq Kq
              try simp only [Act.put, List.setIfInBounds_toArray, List.set_cons_zero, List.set_cons_succ]
              refine takeF rfl 11 (.bool true) rfl (by kernel_rfl) (by kernel_rfl) (by kernel_rfl) (fun _ _ _ h => h) rfl (fun _ => rfl) (fun w => ?_) ?_
              · go_simp
              simp only [Act.put, List.setIfInBounds_toArray, List.set_cons_zero, List.set_cons_succ]
              refine wpAnyIn_done (by kernel_rfl) ?_ _
              gi_wp2
              refine bodyPost_ret (results_none rfl _ _ _) rfl ?_
              exact ⟨⟨_, rfl⟩, .inr HJX.out⟩
          · skip
            go_simp
            refine hKq.out _ _ ?_
            clear hKq Kq
            try simp only [Act.put, List.setIfInBounds_toArray, List.set_cons_zero, List.set_cons_succ]
            refine takeF rfl 9 (.slice (some ⟨bb, oo + 62 * k, none⟩) 62 (c - 62 * k)) rfl (by kernel_rfl) (by kernel_rfl) (by kernel_rfl) (fun _ _ _ h => h) rfl (fun _ => rfl) (fun w => ?_) ?_
            · go_simp
            simp only [Act.put, List.setIfInBounds_toArray, List.set_cons_zero, List.set_cons_succ]
            refine oneF 4 (by kernel_rfl) rfl (fun Kq hKq => ?_)
            go_simp
            refine ⟨trivial, (fun h => by simp [Fence.wide] at h), ?_⟩
            gi_at_call 58
            refine (HHD.out _ hS0).mono ?_
            rintro e w4 ⟨rfl, hb4⟩
            have hSw4 : Below wr.heap.size wr w4 := hS0.trans (hb4.mono hS0.size)
            have hbx : w4.cell? ⟨Bs, 0, none⟩ = some (.slice (some ⟨bb, oo, none⟩) n c) := (boxed_below HBR.out hSw4).cell
            clear hb4
            simp only []
            refine hKq.out _ _ ?_
            clear hKq Kq
            try simp only [Act.put, List.setIfInBounds_toArray, List.set_cons_zero, List.set_cons_succ]
            obtain ⟨fn, tmps, assign, body, hy, hR⟩ := HYY.out _ hSw4
            have HR := Lib.hid hR
            clear hR
            refine oneF 10 (by kernel_rfl) rfl (fun Kq hKq => ?_)
            go_simp
            refine ⟨(fun h => by simp [Fence.wide] at h), HR.out.mono ?_⟩
            rintro e W3 (⟨rfl, hJ3, hk3, -⟩ | ⟨rfl, hJx3, -⟩)
            · have HJ3 := Lib.hid hJ3
              have HK3 := Lib.hid hk3
              clear hJ3 hk3 hy HR
              simp only []
              refine hKq.out _ _ ?_
              clear hKq Kq
              try simp only [Act.put, List.setIfInBounds_toArray, List.set_cons_zero, List.set_cons_succ]
              refine takeF rfl 11 (.bool false) rfl (by kernel_rfl) (by kernel_rfl) (by kernel_rfl) (fun _ _ _ h => h) rfl (fun _ => rfl) (fun w => ?_) ?_
              · go_simp
              simp only [Act.put, List.setIfInBounds_toArray, List.set_cons_zero, List.set_cons_succ]
              refine wpAnyIn_done (by kernel_rfl) ?_ _
              gi_wp2
              go_roundw
              case rel => exact ⟨k + 1, by omega, by go_num, HJ3.out, (HB1.out.trans (hSw4.mono HB1.out.size)).trans HK3.out.1, HK3.out.2 Bs (by simp) _ (boxed_below HBR.out hSw4)⟩
              case measure => simp [intOf]; omega
            · have HJX := Lib.hid hJx3
              clear hJx3 hy HR
              simp only []
              refine hKq.out _ _ ?_
              clear hKq Kq
              try simp only [Act.put, List.setIfInBounds_toArray, List.set_cons_zero, List.set_cons_succ]
              refine takeF rfl 11 (.bool true) rfl (by kernel_rfl) (by kernel_rfl) (by kernel_rfl) (fun _ _ _ h => h) rfl (fun _ => rfl) (fun w => ?_) ?_
              · go_simp
              simp only [Act.put, List.setIfInBounds_toArray, List.set_cons_zero, List.set_cons_succ]
              refine wpAnyIn_done (by kernel_rfl) ?_ _
              gi_wp2
              refine bodyPost_ret (results_none rfl _ _ _) rfl ?_
              exact ⟨⟨_, rfl⟩, .inr HJX.out⟩
        · skip
          go_simp
          refine hKq.out _ _ ?_
          clear hKq Kq
          try simp only [Act.put, List.setIfInBounds_toArray, List.set_cons_zero, List.set_cons_succ]
          refine takeF rfl 9 (.slice (some ⟨bb, oo + 62 * k, none⟩) 62 (c - 62 * k)) rfl (by kernel_rfl) (by kernel_rfl) (by kernel_rfl) (fun _ _ _ h => h) rfl (fun _ => rfl) (fun w => ?_) ?_
          · go_simp
          simp only [Act.put, List.setIfInBounds_toArray, List.set_cons_zero, List.set_cons_succ]
          refine oneF 1 (by kernel_rfl) rfl (fun Kq hKq => ?_)
          go_simp
          refine hKq.out _ _ ?_
          clear hKq Kq
          try simp only [Act.put, List.setIfInBounds_toArray, List.set_cons_zero, List.set_cons_succ]
          refine takeF rfl 3 (.slice (some ⟨bb, oo, none⟩) (62 * k) c) rfl (by kernel_rfl) (by kernel_rfl) (by kernel_rfl) (fun _ _ _ h => h) rfl (fun _ => rfl) (fun w => ?_) ?_
          · go_simp
          simp only [Act.put, List.setIfInBounds_toArray, List.set_cons_zero, List.set_cons_succ]
          refine oneF 4 (by kernel_rfl) rfl (fun Kq hKq => ?_)
          go_simp
          refine ⟨trivial, (fun h => by simp [Fence.wide] at h), ?_⟩
          gi_at_call 58
          refine (HHD.out _ hS0).mono ?_
          rintro e w4 ⟨rfl, hb4⟩
          have hSw4 : Below wr.heap.size wr w4 := hS0.trans (hb4.mono hS0.size)
          have hbx : w4.cell? ⟨Bs, 0, none⟩ = some (.slice (some ⟨bb, oo, none⟩) n c) := (boxed_below HBR.out hSw4).cell
          clear hb4
          simp only []
          refine hKq.out _ _ ?_
          clear hKq Kq
          try simp only [Act.put, List.setIfInBounds_toArray, List.set_cons_zero, List.set_cons_succ]
          obtain ⟨fn, tmps, assign, body, hy, hR⟩ := HYY.out _ hSw4
          have HR := Lib.hid hR
          clear hR
          refine oneF 10 (by kernel_rfl) rfl (fun Kq hKq => ?_)
          go_simp
          refine ⟨(fun h => by simp [Fence.wide] at h), HR.out.mono ?_⟩
          rintro e W3 (⟨rfl, hJ3, hk3, -⟩ | ⟨rfl, hJx3, -⟩)
          · have HJ3 := Lib.hid hJ3
            have HK3 := Lib.hid hk3
            clear hJ3 hk3 hy HR
            simp only []
            refine hKq.out _ _ ?_
            clear hKq Kq
            try simp only [Act.put, List.setIfInBounds_toArray, List.set_cons_zero, List.set_cons_succ]
            refine takeF rfl 11 (.bool false) rfl (by kernel_rfl) (by kernel_rfl) (by kernel_rfl) (fun _ _ _ h => h) rfl (fun _ => rfl) (fun w => ?_) ?_
            · go_simp
            simp only [Act.put, List.setIfInBounds_toArray, List.set_cons_zero, List.set_cons_succ]
            refine wpAnyIn_done (by kernel_rfl) ?_ _
            gi_wp2
            go_roundw
            case rel => exact ⟨k + 1, by omega, by go_num, HJ3.out, (HB1.out.trans (hSw4.mono HB1.out.size)).trans HK3.out.1, HK3.out.2 Bs (by simp) _ (boxed_below HBR.out hSw4)⟩
            case measure => simp [intOf]; omega
          · have HJX := Lib.hid hJx3
            clear hJx3 hy HR
            simp only []
            refine hKq.out _ _ ?_
            clear hKq Kq
            try simp only [Act.put, List.setIfInBounds_toArray, List.set_cons_zero, List.set_cons_succ]
            refine takeF rfl 11 (.bool true) rfl (by kernel_rfl) (by kernel_rfl) (by kernel_rfl) (fun _ _ _ h => h) rfl (fun _ => rfl) (fun w => ?_) ?_
            · go_simp
            simp only [Act.put, List.setIfInBounds_toArray, List.set_cons_zero, List.set_cons_succ]
            refine wpAnyIn_done (by kernel_rfl) ?_ _
            gi_wp2
            refine bodyPost_ret (results_none rfl _ _ _) rfl ?_
            exact ⟨⟨_, rfl⟩, .inr HJX.out⟩
      · obtain rfl : k = N := by omega
        gi_wp2
        go_end0
        exact ⟨⟨_, rfl⟩, .inl hJk⟩
end Go.Proofs.YtafmompplcaadaaGreatDoor
