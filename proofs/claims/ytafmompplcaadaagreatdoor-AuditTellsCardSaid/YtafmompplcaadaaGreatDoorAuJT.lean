/- Joined texts: The walk over package audit's Add. -/
import Derived.Test.YtafmompplcaadaaGreatDoorAuJR
import Derived.Test.YtafmompplcaadaaGreatDoorAuJS
import Derived.Test.YtafmompplcaadaaGreatDoorAuJO
/- The walk over package audit's Add. -/
namespace Go.Proofs.YtafmompplcaadaaGreatDoor
set_option maxRecDepth 100000
set_option linter.unusedVariables false
set_option linter.unusedSimpArgs false
open Go.RowKit

theorem first_of3 (w : World) (o1 o2 o3 : Obj) : (((w.alloc o1).alloc o2).alloc o3).heap[w.heap.size]? = some o1 := (after_three_c (Below.refl _ _)).2.1
/-- gives a log, and an error, all in new memory -/
def GLEl (r : Lg × Int) (w : World) (e : Ending) (w' : World) : Prop := ∃ p : Lp, e = .returned (.tuple #[.agg p.arr, .int .i64 r.2]) ∧ LgAt w' p r.1 ∧ (∀ a, p.A = some a → w.heap.size ≤ a.block) ∧ (∀ a, p.B = some a → w.heap.size ≤ a.block) ∧ Below w.heap.size w w'
theorem own_ens_ents {w : World} {B : Nat} {A : Option Addr} {n c : Nat} {l : List En} (h : OwnR 33 9 w B (.slice A n c) (l.map En.row)) : Ens w A n c l := by
  obtain ⟨A', n', c', e, h'⟩ := own_ens h
  cases e
  exact h'
theorem full_of {g : Lg} {u : Bool} (hm : mayG g = true) : fullG g u = decide (slotsG g - g.l.length ≤ (if u then 0 else 4)) := by
  have hc := may_data (mayG_iff.1 hm).1
  have hs := slots_most (mayG_iff.1 hm).1
  cases u with
  | true =>
    rw [fullG]
    simp only [Bool.not_true, Bool.false_and, Bool.or_false, if_true]
    exact decide_eq_decide.2 (by omega)
  | false =>
    rw [fullG, room_yes hm]
    simp only [Bool.not_false, Bool.true_and, Bool.false_eq_true, if_false]
    rw [← Bool.decide_or]
    exact decide_eq_decide.2 (by omega)
set_option maxHeartbeats 4000000 in
theorem aadd_no_u (p : Lp) (g : Lg) (u : En) (w : World) (hK : KTab w) (h : LgAt w p g) (hsm : LgSm g) (hu : u.ok) (he : mayE u = false) :
    Calls Tryz.prog 6 #[.agg p.arr, enV u, .bool true] w (GLEl (addG g u true) w) := by
  have HK := Lib.hid hK
  have HW := Lib.hid h.whole
  have HOW := Lib.hid (fun (X : World) (hX : Below w.heap.size w X) => aown_any p g X (h.below hX) hsm)
  have HWR := Lib.hid (fun (k : Nat) (q : Lp) (X : World) (hk : KTab X) (hD : Desk X (w.heap.size + 3) k q g) => awrite_no (w.heap.size + 3) k q g u 0 X hk hD hsm hu he)
  have HAG := Lib.hid (show addG g u true = (g, 1) from add_bad (.inr he))
  clear h hK hsm hu
  unfold enV at HWR ⊢
  unfold Wrote at HWR
  go_enter Tryz.func6, Tryz.ntmps6
  go_wp2
  refine wp_scope_ahead 0 rfl ?_
  go_wp2_with (first
    | (refine wp_goto ⟨rfl, ?_⟩)
    | (apply wp_label)
    | ((with_reducible refine wpList_load_blk 29 _ rfl w.heap.size ?hx1 29 p.arr (0, 0) _ (first_of3 _ _ _ _) Tryz.underlying29 ?hd1 HW.out ?_ ?hw1); (case hx1 => rfl); (case hd1 => rfl); (case hw1 => rfl))
    | (go_at_call 21
       (with_reducible refine (HOW.out _ (three_below w _ _ _)).mono ?_)
       rintro e w1 ⟨q, rfl, hq, ho, hqa, hb1⟩
       obtain ⟨hB1, y0, y1, y2⟩ := after_three_c hb1
       have hsz : ∀ o1 o2 o3 : Obj, (((w.alloc o1).alloc o2).alloc o3).heap.size = w.heap.size + 3 := fun _ _ _ => by simp
       rw [hsz] at ho hqa
       have hz1 : w.heap.size + 3 ≤ w1.heap.size := by have := hb1.size; rw [hsz] at this; exact this
       have ke1 : w1.heap[w.heap.size + 1]? = some (.cells (enA u) 33 (0, 0)) := y1
       have hr1 : w1.heap[w.heap.size + 1 + 1]? = some (.cells Lp.zero.arr 29 (0, 0)) := y2
       have HB1 := Lib.hid hB1
       have HQ1 := Lib.hid hq
       have HQO := Lib.hid ho
       have HQA := Lib.hid hqa
       have HZ1 := Lib.hid hz1
       have HDK := Lib.hid (built_desk q hq.hlen)
       have HWD := Lib.hid (info_desk (C := q.arr) (lp_size hq.hlen))
       clear hb1 hB1 y0 y1 y2 hq ho hqa hz1 hsz)
    | ((with_reducible refine wpList_build_to rfl 48 _ rfl [(0, .agg q.arr)] q.arr ?hl2 ?hb2 ?_); (case hl2 => rfl); (case hb2 => exact HDK.out))
    | ((with_reducible refine wpList_store_blk rfl 48 _ _ rfl w1.heap.size q.arr ?hx3 ?hy3 48 _ (heap_alloc_new w1 _) HWD.out ?hs3 (lp_one _) ?_); (case hx3 => rfl); (case hy3 => rfl); (case hs3 => exact (lp_size (p := Lp.zero) rfl).trans (lp_size HQ1.out.hlen).symm)
       intro w2 hg2 kd2 hs2
       have hbx : Below w1.heap.size w1 w2 := Below.grows (one_alloc w1 _) hg2 (size_le_alloc _ _) (Nat.le_refl _)
       have ke2 := blk_below ke1 hbx
       have hr2 := blk_below hr1 hbx
       have HB2 := Lib.hid (HB1.out.trans (hbx.mono HB1.out.size))
       have HD2 := Lib.hid (show Desk w2 (w.heap.size + 3) w1.heap.size q g from ⟨kd2, HQ1.out.below hbx, HQO.out.below hbx, HZ1.out, HQA.out⟩)
       have HZ2 := Lib.hid (Nat.le_trans HZ1.out hbx.size)
       clear hbx hg2 hs2 ke1 hr1 kd2)
    | ((with_reducible refine wpList_load_blk 33 _ rfl (w.heap.size + 1) ?hx4 33 (enA u) (0, 0) _ ke2 Tryz.underlying33 ?hd4 (info_en (enA_size _)) ?_ ?hw4); (case hx4 => rfl); (case hd4 => rfl); (case hw4 => rfl))
    | (go_at_call 22
       (with_reducible refine (HWR.out w1.heap.size q w2 (HK.out.from HB2.out) HD2.out).mono ?_)
       rintro e w3 ⟨r, rfl, kd3, hr, hra, hro, hbx⟩
       have hr3 := (hbx.block _ (Nat.lt_succ_self (w.heap.size + 1 + 1))).trans hr2
       have HR3 := Lib.hid hr
       have HRA := Lib.hid hra
       have HRO := Lib.hid hro
       have HB3 := Lib.hid (HB2.out.trans (hbx.mono (Nat.le_add_right _ 3)))
       have HZ3 := Lib.hid (hbx.size_from HZ2.out)
       have HI3 := Lib.hid (info_log (lp_size hr.hlen))
       skip
       clear hbx hr hra hro hr2 ke2)
    | ((with_reducible refine wpList_load_blk 29 _ rfl w1.heap.size ?hx7 48 r.arr (0, 0) _ kd3 Tryz.underlying29 ?hd7 HI3.out ?_ ?hw7); (case hx7 => rfl); (case hd7 => rfl); (case hw7 => rfl))
    | ((with_reducible refine wpList_store_blk rfl 29 _ _ rfl (w.heap.size + 1 + 1) r.arr ?hx8 ?hy8 29 _ hr3 HI3.out ?hs8 (lp_one _) ?_); (case hx8 => rfl); (case hy8 => rfl); (case hs8 => exact (lp_size (p := Lp.zero) rfl).trans (lp_size HR3.out.hlen).symm)
       intro w7 hg7 hX7 hs7))
  have hL7 := LgAt.kept_g HR3.out HRA.out HRO.out hg7 (Nat.lt_succ_self _)
  have hb7 := HB3.out.grown hg7 HB3.out.size (fun k e => by cases e; omega)
  first | rw [Exit.noGoto_ret] | rw [jump_ret] | skip
  refine bodyPost_ret (v := .tuple #[.agg r.arr, .int .i64 1]) ?_ rfl ?_
  · exact results_blk_tmp Tryz.results6 _ _ _ (w.heap.size + 1 + 1) 29 _ (0, 0) _ rfl hX7 Tryz.underlying29 rfl HI3.out _ rfl
  · rw [HAG.out]
    exact ⟨_, rfl, hL7, fun a ha => Nat.le_trans (Nat.le_add_right _ 3) (HRA.out a ha), fun a ha => Nat.le_trans (Nat.le_add_right _ 3) ((HRO.out).size a.block (by have ha2 : r.B = some a := ha; rw [ha2]; rfl)).1, hb7⟩
set_option maxHeartbeats 4000000 in
theorem aadd_may_u (p : Lp) (g : Lg) (u : En) (w : World) (hK : KTab w) (h : LgAt w p g) (hsm : LgSm g) (hu : u.ok) (he : mayE u = true) (hm : mayG g = false) :
    Calls Tryz.prog 6 #[.agg p.arr, enV u, .bool true] w (GLEl (addG g u true) w) := by
  have HK := Lib.hid hK
  have HW := Lib.hid h.whole
  have HOW := Lib.hid (fun (X : World) (hX : Below w.heap.size w X) => aown_any p g X (h.below hX) hsm)
  have HWR := Lib.hid (fun (k : Nat) (q : Lp) (X : World) (hk : KTab X) (hD : Desk X (w.heap.size + 3) k q g) => awrite_may (w.heap.size + 3) k q g u 0 X hk hD hsm hu he hm)
  have HAG := Lib.hid (show addG g u true = (g, 1) from add_bad (.inl hm))
  clear h hK hsm hu
  unfold enV at HWR ⊢
  unfold Wrote at HWR
  go_enter Tryz.func6, Tryz.ntmps6
  go_wp2
  refine wp_scope_ahead 0 rfl ?_
  go_wp2_with (first
    | (refine wp_goto ⟨rfl, ?_⟩)
    | (apply wp_label)
    | ((with_reducible refine wpList_load_blk 29 _ rfl w.heap.size ?hx1 29 p.arr (0, 0) _ (first_of3 _ _ _ _) Tryz.underlying29 ?hd1 HW.out ?_ ?hw1); (case hx1 => rfl); (case hd1 => rfl); (case hw1 => rfl))
    | (go_at_call 21
       (with_reducible refine (HOW.out _ (three_below w _ _ _)).mono ?_)
       rintro e w1 ⟨q, rfl, hq, ho, hqa, hb1⟩
       obtain ⟨hB1, y0, y1, y2⟩ := after_three_c hb1
       have hsz : ∀ o1 o2 o3 : Obj, (((w.alloc o1).alloc o2).alloc o3).heap.size = w.heap.size + 3 := fun _ _ _ => by simp
       rw [hsz] at ho hqa
       have hz1 : w.heap.size + 3 ≤ w1.heap.size := by have := hb1.size; rw [hsz] at this; exact this
       have ke1 : w1.heap[w.heap.size + 1]? = some (.cells (enA u) 33 (0, 0)) := y1
       have hr1 : w1.heap[w.heap.size + 1 + 1]? = some (.cells Lp.zero.arr 29 (0, 0)) := y2
       have HB1 := Lib.hid hB1
       have HQ1 := Lib.hid hq
       have HQO := Lib.hid ho
       have HQA := Lib.hid hqa
       have HZ1 := Lib.hid hz1
       have HDK := Lib.hid (built_desk q hq.hlen)
       have HWD := Lib.hid (info_desk (C := q.arr) (lp_size hq.hlen))
       clear hb1 hB1 y0 y1 y2 hq ho hqa hz1 hsz)
    | ((with_reducible refine wpList_build_to rfl 48 _ rfl [(0, .agg q.arr)] q.arr ?hl2 ?hb2 ?_); (case hl2 => rfl); (case hb2 => exact HDK.out))
    | ((with_reducible refine wpList_store_blk rfl 48 _ _ rfl w1.heap.size q.arr ?hx3 ?hy3 48 _ (heap_alloc_new w1 _) HWD.out ?hs3 (lp_one _) ?_); (case hx3 => rfl); (case hy3 => rfl); (case hs3 => exact (lp_size (p := Lp.zero) rfl).trans (lp_size HQ1.out.hlen).symm)
       intro w2 hg2 kd2 hs2
       have hbx : Below w1.heap.size w1 w2 := Below.grows (one_alloc w1 _) hg2 (size_le_alloc _ _) (Nat.le_refl _)
       have ke2 := blk_below ke1 hbx
       have hr2 := blk_below hr1 hbx
       have HB2 := Lib.hid (HB1.out.trans (hbx.mono HB1.out.size))
       have HD2 := Lib.hid (show Desk w2 (w.heap.size + 3) w1.heap.size q g from ⟨kd2, HQ1.out.below hbx, HQO.out.below hbx, HZ1.out, HQA.out⟩)
       have HZ2 := Lib.hid (Nat.le_trans HZ1.out hbx.size)
       clear hbx hg2 hs2 ke1 hr1 kd2)
    | ((with_reducible refine wpList_load_blk 33 _ rfl (w.heap.size + 1) ?hx4 33 (enA u) (0, 0) _ ke2 Tryz.underlying33 ?hd4 (info_en (enA_size _)) ?_ ?hw4); (case hx4 => rfl); (case hd4 => rfl); (case hw4 => rfl))
    | (go_at_call 22
       (with_reducible refine (HWR.out w1.heap.size q w2 (HK.out.from HB2.out) HD2.out).mono ?_)
       rintro e w3 ⟨r, rfl, kd3, hr, hra, hro, hbx⟩
       have hr3 := (hbx.block _ (Nat.lt_succ_self (w.heap.size + 1 + 1))).trans hr2
       have HR3 := Lib.hid hr
       have HRA := Lib.hid hra
       have HRO := Lib.hid hro
       have HB3 := Lib.hid (HB2.out.trans (hbx.mono (Nat.le_add_right _ 3)))
       have HZ3 := Lib.hid (hbx.size_from HZ2.out)
       have HI3 := Lib.hid (info_log (lp_size hr.hlen))
       skip
       clear hbx hr hra hro hr2 ke2)
    | ((with_reducible refine wpList_load_blk 29 _ rfl w1.heap.size ?hx7 48 r.arr (0, 0) _ kd3 Tryz.underlying29 ?hd7 HI3.out ?_ ?hw7); (case hx7 => rfl); (case hd7 => rfl); (case hw7 => rfl))
    | ((with_reducible refine wpList_store_blk rfl 29 _ _ rfl (w.heap.size + 1 + 1) r.arr ?hx8 ?hy8 29 _ hr3 HI3.out ?hs8 (lp_one _) ?_); (case hx8 => rfl); (case hy8 => rfl); (case hs8 => exact (lp_size (p := Lp.zero) rfl).trans (lp_size HR3.out.hlen).symm)
       intro w7 hg7 hX7 hs7))
  have hL7 := LgAt.kept_g HR3.out HRA.out HRO.out hg7 (Nat.lt_succ_self _)
  have hb7 := HB3.out.grown hg7 HB3.out.size (fun k e => by cases e; omega)
  first | rw [Exit.noGoto_ret] | rw [jump_ret] | skip
  refine bodyPost_ret (v := .tuple #[.agg r.arr, .int .i64 1]) ?_ rfl ?_
  · exact results_blk_tmp Tryz.results6 _ _ _ (w.heap.size + 1 + 1) 29 _ (0, 0) _ rfl hX7 Tryz.underlying29 rfl HI3.out _ rfl
  · rw [HAG.out]
    exact ⟨_, rfl, hL7, fun a ha => Nat.le_trans (Nat.le_add_right _ 3) (HRA.out a ha), fun a ha => Nat.le_trans (Nat.le_add_right _ 3) ((HRO.out).size a.block (by have ha2 : r.B = some a := ha; rw [ha2]; rfl)).1, hb7⟩
set_option maxHeartbeats 4000000 in
theorem aadd_full_u (p : Lp) (g : Lg) (u : En) (w : World) (hK : KTab w) (h : LgAt w p g) (hsm : LgSm g) (hu : u.ok) (he : mayE u = true) (hm : mayG g = true) (hs : slotsG g - g.l.length ≤ 0) :
    Calls Tryz.prog 6 #[.agg p.arr, enV u, .bool true] w (GLEl (addG g u true) w) := by
  have HK := Lib.hid hK
  have HW := Lib.hid h.whole
  have HOW := Lib.hid (fun (X : World) (hX : Below w.heap.size w X) => aown_any p g X (h.below hX) hsm)
  have HWR := Lib.hid (fun (k : Nat) (q : Lp) (X : World) (hk : KTab X) (hD : Desk X (w.heap.size + 3) k q g) => awrite_full (w.heap.size + 3) k q g u 0 X hk hD hsm hu he hm hs)
  have HAG := Lib.hid (show addG g u true = (g, 12) from add_full hm he (by rw [full_of hm]; simpa using hs))
  clear h hK hsm hu
  unfold enV at HWR ⊢
  unfold Wrote at HWR
  go_enter Tryz.func6, Tryz.ntmps6
  go_wp2
  refine wp_scope_ahead 0 rfl ?_
  go_wp2_with (first
    | (refine wp_goto ⟨rfl, ?_⟩)
    | (apply wp_label)
    | ((with_reducible refine wpList_load_blk 29 _ rfl w.heap.size ?hx1 29 p.arr (0, 0) _ (first_of3 _ _ _ _) Tryz.underlying29 ?hd1 HW.out ?_ ?hw1); (case hx1 => rfl); (case hd1 => rfl); (case hw1 => rfl))
    | (go_at_call 21
       (with_reducible refine (HOW.out _ (three_below w _ _ _)).mono ?_)
       rintro e w1 ⟨q, rfl, hq, ho, hqa, hb1⟩
       obtain ⟨hB1, y0, y1, y2⟩ := after_three_c hb1
       have hsz : ∀ o1 o2 o3 : Obj, (((w.alloc o1).alloc o2).alloc o3).heap.size = w.heap.size + 3 := fun _ _ _ => by simp
       rw [hsz] at ho hqa
       have hz1 : w.heap.size + 3 ≤ w1.heap.size := by have := hb1.size; rw [hsz] at this; exact this
       have ke1 : w1.heap[w.heap.size + 1]? = some (.cells (enA u) 33 (0, 0)) := y1
       have hr1 : w1.heap[w.heap.size + 1 + 1]? = some (.cells Lp.zero.arr 29 (0, 0)) := y2
       have HB1 := Lib.hid hB1
       have HQ1 := Lib.hid hq
       have HQO := Lib.hid ho
       have HQA := Lib.hid hqa
       have HZ1 := Lib.hid hz1
       have HDK := Lib.hid (built_desk q hq.hlen)
       have HWD := Lib.hid (info_desk (C := q.arr) (lp_size hq.hlen))
       clear hb1 hB1 y0 y1 y2 hq ho hqa hz1 hsz)
    | ((with_reducible refine wpList_build_to rfl 48 _ rfl [(0, .agg q.arr)] q.arr ?hl2 ?hb2 ?_); (case hl2 => rfl); (case hb2 => exact HDK.out))
    | ((with_reducible refine wpList_store_blk rfl 48 _ _ rfl w1.heap.size q.arr ?hx3 ?hy3 48 _ (heap_alloc_new w1 _) HWD.out ?hs3 (lp_one _) ?_); (case hx3 => rfl); (case hy3 => rfl); (case hs3 => exact (lp_size (p := Lp.zero) rfl).trans (lp_size HQ1.out.hlen).symm)
       intro w2 hg2 kd2 hs2
       have hbx : Below w1.heap.size w1 w2 := Below.grows (one_alloc w1 _) hg2 (size_le_alloc _ _) (Nat.le_refl _)
       have ke2 := blk_below ke1 hbx
       have hr2 := blk_below hr1 hbx
       have HB2 := Lib.hid (HB1.out.trans (hbx.mono HB1.out.size))
       have HD2 := Lib.hid (show Desk w2 (w.heap.size + 3) w1.heap.size q g from ⟨kd2, HQ1.out.below hbx, HQO.out.below hbx, HZ1.out, HQA.out⟩)
       have HZ2 := Lib.hid (Nat.le_trans HZ1.out hbx.size)
       clear hbx hg2 hs2 ke1 hr1 kd2)
    | ((with_reducible refine wpList_load_blk 33 _ rfl (w.heap.size + 1) ?hx4 33 (enA u) (0, 0) _ ke2 Tryz.underlying33 ?hd4 (info_en (enA_size _)) ?_ ?hw4); (case hx4 => rfl); (case hd4 => rfl); (case hw4 => rfl))
    | (go_at_call 22
       (with_reducible refine (HWR.out w1.heap.size q w2 (HK.out.from HB2.out) HD2.out).mono ?_)
       rintro e w3 ⟨r, rfl, kd3, hr, hra, hro, hbx⟩
       have hr3 := (hbx.block _ (Nat.lt_succ_self (w.heap.size + 1 + 1))).trans hr2
       have HR3 := Lib.hid hr
       have HRA := Lib.hid hra
       have HRO := Lib.hid hro
       have HB3 := Lib.hid (HB2.out.trans (hbx.mono (Nat.le_add_right _ 3)))
       have HZ3 := Lib.hid (hbx.size_from HZ2.out)
       have HI3 := Lib.hid (info_log (lp_size hr.hlen))
       skip
       clear hbx hr hra hro hr2 ke2)
    | ((with_reducible refine wpList_load_blk 29 _ rfl w1.heap.size ?hx7 48 r.arr (0, 0) _ kd3 Tryz.underlying29 ?hd7 HI3.out ?_ ?hw7); (case hx7 => rfl); (case hd7 => rfl); (case hw7 => rfl))
    | ((with_reducible refine wpList_store_blk rfl 29 _ _ rfl (w.heap.size + 1 + 1) r.arr ?hx8 ?hy8 29 _ hr3 HI3.out ?hs8 (lp_one _) ?_); (case hx8 => rfl); (case hy8 => rfl); (case hs8 => exact (lp_size (p := Lp.zero) rfl).trans (lp_size HR3.out.hlen).symm)
       intro w7 hg7 hX7 hs7))
  have hL7 := LgAt.kept_g HR3.out HRA.out HRO.out hg7 (Nat.lt_succ_self _)
  have hb7 := HB3.out.grown hg7 HB3.out.size (fun k e => by cases e; omega)
  first | rw [Exit.noGoto_ret] | rw [jump_ret] | skip
  refine bodyPost_ret (v := .tuple #[.agg r.arr, .int .i64 12]) ?_ rfl ?_
  · exact results_blk_tmp Tryz.results6 _ _ _ (w.heap.size + 1 + 1) 29 _ (0, 0) _ rfl hX7 Tryz.underlying29 rfl HI3.out _ rfl
  · rw [HAG.out]
    exact ⟨_, rfl, hL7, fun a ha => Nat.le_trans (Nat.le_add_right _ 3) (HRA.out a ha), fun a ha => Nat.le_trans (Nat.le_add_right _ 3) ((HRO.out).size a.block (by have ha2 : r.B = some a := ha; rw [ha2]; rfl)).1, hb7⟩
set_option maxHeartbeats 4000000 in
theorem aadd_ok_u (p : Lp) (g : Lg) (u : En) (w : World) (hK : KTab w) (h : LgAt w p g) (hsm : LgSm g) (hu : u.ok) (he : mayE u = true) (hm : mayG g = true) (hs : 0 < slotsG g - g.l.length) :
    Calls Tryz.prog 6 #[.agg p.arr, enV u, .bool true] w (GLEl (addG g u true) w) := by
  have HK := Lib.hid hK
  have HW := Lib.hid h.whole
  have HOW := Lib.hid (fun (X : World) (hX : Below w.heap.size w X) => aown_any p g X (h.below hX) hsm)
  have HWR := Lib.hid (fun (k : Nat) (q : Lp) (X : World) (hk : KTab X) (hD : Desk X (w.heap.size + 3) k q g) => awrite_ok (w.heap.size + 3) k q g u 0 X hk hD hsm hu he hm hs (by omega))
  have hr : (g.l.length : Int) < slotsG g := by omega
  have hwr := write_rec hm he hr
  have hwm := (write_may (mayG_iff.1 hm).1 hwr).1
  have hsy : (syncP (writeP g.st (recG g u)).1).2 = 0 := by rw [hwr, sync_ok hwm]
  have hsc : (syncP (writeP g.st (recG g u)).1).1.cap = g.st.cap := by rw [hwr, sync_ok hwm]
  have HCF := Lib.hid (show -9223372036854775808 ≤ (syncP (writeP g.st (recG g u)).1).1.cap ∧ (syncP (writeP g.st (recG g u)).1).1.cap ≤ 9223372036854775807 by rw [hsc, ← h.cap]; exact h.fits)
  have hdl : (writeP g.st (recG g u)).1.data.length ≤ 140737488355328 := by rw [hwr]; show (recsC (g.l ++ [u])).length ≤ _; rw [more_len]; have := hsm.2; omega
  have HSY := Lib.hid (show ∀ (r : Lp) (X : World), LgAt X r ⟨(writeP g.st (recG g u)).1, g.l ++ [u], linkP g.head u⟩ → Calls Tryz.prog 23 #[.agg #[.int .i64 r.cap, .slice r.A r.n r.c, .int .i64 r.sure]] X (GSEn (syncP (writeP g.st (recG g u)).1) X) from fun r X hr => by
    have h0 := stsync_new (writeP g.st (recG g u)).1 r.A r.n r.c X hr.data (by have := hr.data.len; simp only at this; omega)
    rw [hr.val] at h0
    exact h0)
  obtain ⟨T, hT⟩ : ∃ T, syncP (writeP g.st (recG g u)).1 = T := ⟨_, rfl⟩
  simp only [hT] at HSY HCF hsy
  have HAG := Lib.hid (show addG g u true = (⟨(syncP (writeP g.st (recG g u)).1).1, g.l ++ [u], linkP g.head u⟩, 0) by
    rw [addG, hm, he, full_of hm, decide_eq_false (by simpa using hs)]; rfl)
  rw [hT] at HAG
  obtain ⟨⟨C2, D2, S2⟩, E2⟩ := T
  simp only at hsy HSY HCF HAG
  subst hsy
  unfold GSEn at HSY
  simp only at HSY
  clear hT hwr hwm hsc hdl hr
  clear h hK hsm hu
  unfold enV at HWR ⊢
  unfold Wrote at HWR
  go_enter Tryz.func6, Tryz.ntmps6
  go_wp2
  refine wp_scope_ahead 0 rfl ?_
  go_wp2_with (first
    | (refine wp_goto ⟨rfl, ?_⟩)
    | (apply wp_label)
    | ((with_reducible refine wpList_load_blk 29 _ rfl w.heap.size ?hx1 29 p.arr (0, 0) _ (first_of3 _ _ _ _) Tryz.underlying29 ?hd1 HW.out ?_ ?hw1); (case hx1 => rfl); (case hd1 => rfl); (case hw1 => rfl))
    | (go_at_call 21
       (with_reducible refine (HOW.out _ (three_below w _ _ _)).mono ?_)
       rintro e w1 ⟨q, rfl, hq, ho, hqa, hb1⟩
       obtain ⟨hB1, y0, y1, y2⟩ := after_three_c hb1
       have hsz : ∀ o1 o2 o3 : Obj, (((w.alloc o1).alloc o2).alloc o3).heap.size = w.heap.size + 3 := fun _ _ _ => by simp
       rw [hsz] at ho hqa
       have hz1 : w.heap.size + 3 ≤ w1.heap.size := by have := hb1.size; rw [hsz] at this; exact this
       have ke1 : w1.heap[w.heap.size + 1]? = some (.cells (enA u) 33 (0, 0)) := y1
       have hr1 : w1.heap[w.heap.size + 1 + 1]? = some (.cells Lp.zero.arr 29 (0, 0)) := y2
       have HB1 := Lib.hid hB1
       have HQ1 := Lib.hid hq
       have HQO := Lib.hid ho
       have HQA := Lib.hid hqa
       have HZ1 := Lib.hid hz1
       have HDK := Lib.hid (built_desk q hq.hlen)
       have HWD := Lib.hid (info_desk (C := q.arr) (lp_size hq.hlen))
       clear hb1 hB1 y0 y1 y2 hq ho hqa hz1 hsz)
    | ((with_reducible refine wpList_build_to rfl 48 _ rfl [(0, .agg q.arr)] q.arr ?hl2 ?hb2 ?_); (case hl2 => rfl); (case hb2 => exact HDK.out))
    | ((with_reducible refine wpList_store_blk rfl 48 _ _ rfl w1.heap.size q.arr ?hx3 ?hy3 48 _ (heap_alloc_new w1 _) HWD.out ?hs3 (lp_one _) ?_); (case hx3 => rfl); (case hy3 => rfl); (case hs3 => exact (lp_size (p := Lp.zero) rfl).trans (lp_size HQ1.out.hlen).symm)
       intro w2 hg2 kd2 hs2
       have hbx : Below w1.heap.size w1 w2 := Below.grows (one_alloc w1 _) hg2 (size_le_alloc _ _) (Nat.le_refl _)
       have ke2 := blk_below ke1 hbx
       have hr2 := blk_below hr1 hbx
       have HB2 := Lib.hid (HB1.out.trans (hbx.mono HB1.out.size))
       have HD2 := Lib.hid (show Desk w2 (w.heap.size + 3) w1.heap.size q g from ⟨kd2, HQ1.out.below hbx, HQO.out.below hbx, HZ1.out, HQA.out⟩)
       have HZ2 := Lib.hid (Nat.le_trans HZ1.out hbx.size)
       clear hbx hg2 hs2 ke1 hr1 kd2)
    | ((with_reducible refine wpList_load_blk 33 _ rfl (w.heap.size + 1) ?hx4 33 (enA u) (0, 0) _ ke2 Tryz.underlying33 ?hd4 (info_en (enA_size _)) ?_ ?hw4); (case hx4 => rfl); (case hd4 => rfl); (case hw4 => rfl))
    | (go_at_call 22
       (with_reducible refine (HWR.out w1.heap.size q w2 (HK.out.from HB2.out) HD2.out).mono ?_)
       rintro e w3 ⟨r, rfl, kd3, hr, hra, hro, hbx⟩
       have hr3 := (hbx.block _ (Nat.lt_succ_self (w.heap.size + 1 + 1))).trans hr2
       have HR3 := Lib.hid hr
       have HRA := Lib.hid hra
       have HRO := Lib.hid hro
       have HB3 := Lib.hid (HB2.out.trans (hbx.mono (Nat.le_add_right _ 3)))
       have HZ3 := Lib.hid (hbx.size_from HZ2.out)
       have HI3 := Lib.hid (info_log (lp_size hr.hlen))
       skip
       clear hbx hr hra hro hr2 ke2)
    | ((with_reducible refine wpList_load_on 24 _ rfl w1.heap.size 0 ?hx6 [.int .i64 r.cap, .slice r.A r.n r.c, .int .i64 r.sure] _ rfl _ (dk_st kd3) Tryz.underlying24 ?hd6 (by kernel_rfl) ?_ ?hw6); (case hx6 => rfl); (case hd6 => rfl); (case hw6 => rfl))
    | (go_at_call 23
       (with_reducible refine (HSY.out r w3 HR3.out).mono ?_)
       rintro e w5 ⟨A5, n5, c5, rfl, hbt, hlo, hbx⟩
       have kd5 := blk_below kd3 hbx
       have hr5 := blk_below hr3 hbx
       have hB5 := HB3.out.trans (hbx.mono HB3.out.size)
       have hro5 := HRO.out.below hbx
       have hra5 : ∀ a, A5 = some a → w.heap.size + 3 ≤ a.block := fun a ha => Nat.le_trans HZ3.out (hlo a ha)
       have hgd : w1.heap.size < w3.heap.size := (Array.getElem?_eq_some_iff.1 kd3).1
       have hgt := hbt.kept (blk_far (n := n5) (lo := 0) hlo (Nat.le_refl _)) (dk_grown012 kd5 C2 A5 n5 c5 S2) (Nat.zero_le _) hgd
       obtain ⟨c0, c1, c2, -⟩ := dk_cells kd5
       have f0 := dk_free kd5 0
       have f1 := dk_free kd5 1
       have f2 := dk_free kd5 2
       have kd6 := dk_set012 kd5 C2 A5 n5 c5 S2
       have hg6 := dk_grown012 kd5 C2 A5 n5 c5 S2
       have hr6 := blk_other hr5 hg6 (by have := HZ1.out; omega)
       have hro6 := hro5.far hg6 (own_ne hro5 kd5)
       have hB6 := hB5.grown hg6 hB5.size (fun k e => by cases e; have := HZ1.out; omega)
       have HR6 := Lib.hid (show LgAt _ (r.putS C2 A5 n5 c5 S2) ⟨⟨C2, D2, S2⟩, g.l ++ [u], linkP g.head u⟩ from ⟨rfl, rfl, HR3.out.head, hgt, (own_ens_ents hro6), ⟨HR3.out.ok.each, HR3.out.ok.len, HR3.out.ok.byte⟩, HCF.out⟩)
       have HI6 := Lib.hid (info_log (lp_size HR6.out.hlen))
       clear hbx hbt hlo kd3 hr3 hr5 hro5 hB5 hg6 kd5 hgd)
    | ((with_reducible refine wpList_load_blk 29 _ rfl w1.heap.size ?hx7 48 (r.putS C2 A5 n5 c5 S2).arr (0, 0) _ kd6 Tryz.underlying29 ?hd7 HI6.out ?_ ?hw7); (case hx7 => rfl); (case hd7 => rfl); (case hw7 => rfl))
    | ((with_reducible refine wpList_store_blk rfl 29 _ _ rfl (w.heap.size + 1 + 1) (r.putS C2 A5 n5 c5 S2).arr ?hx8 ?hy8 29 _ hr6 HI6.out ?hs8 (lp_one _) ?_); (case hx8 => rfl); (case hy8 => rfl); (case hs8 => exact (lp_size (p := Lp.zero) rfl).trans (lp_size HR6.out.hlen).symm)
       intro w7 hg7 hX7 hs7))
  have hL7 := LgAt.kept_g HR6.out hra5 hro6 hg7 (Nat.lt_succ_self _)
  have hb7 := hB6.grown hg7 hB6.size (fun k e => by cases e; omega)
  first | rw [Exit.noGoto_ret] | rw [jump_ret] | skip
  refine bodyPost_ret (v := .tuple #[.agg (r.putS C2 A5 n5 c5 S2).arr, .int .i64 0]) ?_ rfl ?_
  · exact results_blk_tmp Tryz.results6 _ _ _ (w.heap.size + 1 + 1) 29 _ (0, 0) _ rfl hX7 Tryz.underlying29 rfl HI6.out _ rfl
  · rw [HAG.out]
    exact ⟨_, rfl, hL7, fun a ha => Nat.le_trans (Nat.le_add_right _ 3) (hra5 a ha), fun a ha => Nat.le_trans (Nat.le_add_right _ 3) ((hro6).size a.block (by have ha2 : r.B = some a := ha; rw [ha2]; rfl)).1, hb7⟩
set_option maxHeartbeats 4000000 in
theorem aadd_no_w (p : Lp) (g : Lg) (u : En) (w : World) (hK : KTab w) (h : LgAt w p g) (hsm : LgSm g) (hu : u.ok) (he : mayE u = false) :
    Calls Tryz.prog 6 #[.agg p.arr, enV u, .bool false] w (GLEl (addG g u false) w) := by
  have HK := Lib.hid hK
  have HW := Lib.hid h.whole
  have HOW := Lib.hid (fun (X : World) (hX : Below w.heap.size w X) => aown_any p g X (h.below hX) hsm)
  have HWR := Lib.hid (fun (k : Nat) (q : Lp) (X : World) (hk : KTab X) (hD : Desk X (w.heap.size + 3) k q g) => awrite_no (w.heap.size + 3) k q g u 4 X hk hD hsm hu he)
  have HAG := Lib.hid (show addG g u false = (g, 1) from add_bad (.inr he))
  clear h hK hsm hu
  unfold enV at HWR ⊢
  unfold Wrote at HWR
  go_enter Tryz.func6, Tryz.ntmps6
  go_wp2
  refine wp_scope_ahead 0 rfl ?_
  go_wp2_with (first
    | (refine wp_goto ⟨rfl, ?_⟩)
    | (apply wp_label)
    | ((with_reducible refine wpList_load_blk 29 _ rfl w.heap.size ?hx1 29 p.arr (0, 0) _ (first_of3 _ _ _ _) Tryz.underlying29 ?hd1 HW.out ?_ ?hw1); (case hx1 => rfl); (case hd1 => rfl); (case hw1 => rfl))
    | (go_at_call 21
       (with_reducible refine (HOW.out _ (three_below w _ _ _)).mono ?_)
       rintro e w1 ⟨q, rfl, hq, ho, hqa, hb1⟩
       obtain ⟨hB1, y0, y1, y2⟩ := after_three_c hb1
       have hsz : ∀ o1 o2 o3 : Obj, (((w.alloc o1).alloc o2).alloc o3).heap.size = w.heap.size + 3 := fun _ _ _ => by simp
       rw [hsz] at ho hqa
       have hz1 : w.heap.size + 3 ≤ w1.heap.size := by have := hb1.size; rw [hsz] at this; exact this
       have ke1 : w1.heap[w.heap.size + 1]? = some (.cells (enA u) 33 (0, 0)) := y1
       have hr1 : w1.heap[w.heap.size + 1 + 1]? = some (.cells Lp.zero.arr 29 (0, 0)) := y2
       have HB1 := Lib.hid hB1
       have HQ1 := Lib.hid hq
       have HQO := Lib.hid ho
       have HQA := Lib.hid hqa
       have HZ1 := Lib.hid hz1
       have HDK := Lib.hid (built_desk q hq.hlen)
       have HWD := Lib.hid (info_desk (C := q.arr) (lp_size hq.hlen))
       clear hb1 hB1 y0 y1 y2 hq ho hqa hz1 hsz)
    | ((with_reducible refine wpList_build_to rfl 48 _ rfl [(0, .agg q.arr)] q.arr ?hl2 ?hb2 ?_); (case hl2 => rfl); (case hb2 => exact HDK.out))
    | ((with_reducible refine wpList_store_blk rfl 48 _ _ rfl w1.heap.size q.arr ?hx3 ?hy3 48 _ (heap_alloc_new w1 _) HWD.out ?hs3 (lp_one _) ?_); (case hx3 => rfl); (case hy3 => rfl); (case hs3 => exact (lp_size (p := Lp.zero) rfl).trans (lp_size HQ1.out.hlen).symm)
       intro w2 hg2 kd2 hs2
       have hbx : Below w1.heap.size w1 w2 := Below.grows (one_alloc w1 _) hg2 (size_le_alloc _ _) (Nat.le_refl _)
       have ke2 := blk_below ke1 hbx
       have hr2 := blk_below hr1 hbx
       have HB2 := Lib.hid (HB1.out.trans (hbx.mono HB1.out.size))
       have HD2 := Lib.hid (show Desk w2 (w.heap.size + 3) w1.heap.size q g from ⟨kd2, HQ1.out.below hbx, HQO.out.below hbx, HZ1.out, HQA.out⟩)
       have HZ2 := Lib.hid (Nat.le_trans HZ1.out hbx.size)
       clear hbx hg2 hs2 ke1 hr1 kd2)
    | ((with_reducible refine wpList_load_blk 33 _ rfl (w.heap.size + 1) ?hx4 33 (enA u) (0, 0) _ ke2 Tryz.underlying33 ?hd4 (info_en (enA_size _)) ?_ ?hw4); (case hx4 => rfl); (case hd4 => rfl); (case hw4 => rfl))
    | (go_at_call 22
       (with_reducible refine (HWR.out w1.heap.size q w2 (HK.out.from HB2.out) HD2.out).mono ?_)
       rintro e w3 ⟨r, rfl, kd3, hr, hra, hro, hbx⟩
       have hr3 := (hbx.block _ (Nat.lt_succ_self (w.heap.size + 1 + 1))).trans hr2
       have HR3 := Lib.hid hr
       have HRA := Lib.hid hra
       have HRO := Lib.hid hro
       have HB3 := Lib.hid (HB2.out.trans (hbx.mono (Nat.le_add_right _ 3)))
       have HZ3 := Lib.hid (hbx.size_from HZ2.out)
       have HI3 := Lib.hid (info_log (lp_size hr.hlen))
       skip
       clear hbx hr hra hro hr2 ke2)
    | ((with_reducible refine wpList_load_blk 29 _ rfl w1.heap.size ?hx7 48 r.arr (0, 0) _ kd3 Tryz.underlying29 ?hd7 HI3.out ?_ ?hw7); (case hx7 => rfl); (case hd7 => rfl); (case hw7 => rfl))
    | ((with_reducible refine wpList_store_blk rfl 29 _ _ rfl (w.heap.size + 1 + 1) r.arr ?hx8 ?hy8 29 _ hr3 HI3.out ?hs8 (lp_one _) ?_); (case hx8 => rfl); (case hy8 => rfl); (case hs8 => exact (lp_size (p := Lp.zero) rfl).trans (lp_size HR3.out.hlen).symm)
       intro w7 hg7 hX7 hs7))
  have hL7 := LgAt.kept_g HR3.out HRA.out HRO.out hg7 (Nat.lt_succ_self _)
  have hb7 := HB3.out.grown hg7 HB3.out.size (fun k e => by cases e; omega)
  first | rw [Exit.noGoto_ret] | rw [jump_ret] | skip
  refine bodyPost_ret (v := .tuple #[.agg r.arr, .int .i64 1]) ?_ rfl ?_
  · exact results_blk_tmp Tryz.results6 _ _ _ (w.heap.size + 1 + 1) 29 _ (0, 0) _ rfl hX7 Tryz.underlying29 rfl HI3.out _ rfl
  · rw [HAG.out]
    exact ⟨_, rfl, hL7, fun a ha => Nat.le_trans (Nat.le_add_right _ 3) (HRA.out a ha), fun a ha => Nat.le_trans (Nat.le_add_right _ 3) ((HRO.out).size a.block (by have ha2 : r.B = some a := ha; rw [ha2]; rfl)).1, hb7⟩
set_option maxHeartbeats 4000000 in
theorem aadd_may_w (p : Lp) (g : Lg) (u : En) (w : World) (hK : KTab w) (h : LgAt w p g) (hsm : LgSm g) (hu : u.ok) (he : mayE u = true) (hm : mayG g = false) :
    Calls Tryz.prog 6 #[.agg p.arr, enV u, .bool false] w (GLEl (addG g u false) w) := by
  have HK := Lib.hid hK
  have HW := Lib.hid h.whole
  have HOW := Lib.hid (fun (X : World) (hX : Below w.heap.size w X) => aown_any p g X (h.below hX) hsm)
  have HWR := Lib.hid (fun (k : Nat) (q : Lp) (X : World) (hk : KTab X) (hD : Desk X (w.heap.size + 3) k q g) => awrite_may (w.heap.size + 3) k q g u 4 X hk hD hsm hu he hm)
  have HAG := Lib.hid (show addG g u false = (g, 1) from add_bad (.inl hm))
  clear h hK hsm hu
  unfold enV at HWR ⊢
  unfold Wrote at HWR
  go_enter Tryz.func6, Tryz.ntmps6
  go_wp2
  refine wp_scope_ahead 0 rfl ?_
  go_wp2_with (first
    | (refine wp_goto ⟨rfl, ?_⟩)
    | (apply wp_label)
    | ((with_reducible refine wpList_load_blk 29 _ rfl w.heap.size ?hx1 29 p.arr (0, 0) _ (first_of3 _ _ _ _) Tryz.underlying29 ?hd1 HW.out ?_ ?hw1); (case hx1 => rfl); (case hd1 => rfl); (case hw1 => rfl))
    | (go_at_call 21
       (with_reducible refine (HOW.out _ (three_below w _ _ _)).mono ?_)
       rintro e w1 ⟨q, rfl, hq, ho, hqa, hb1⟩
       obtain ⟨hB1, y0, y1, y2⟩ := after_three_c hb1
       have hsz : ∀ o1 o2 o3 : Obj, (((w.alloc o1).alloc o2).alloc o3).heap.size = w.heap.size + 3 := fun _ _ _ => by simp
       rw [hsz] at ho hqa
       have hz1 : w.heap.size + 3 ≤ w1.heap.size := by have := hb1.size; rw [hsz] at this; exact this
       have ke1 : w1.heap[w.heap.size + 1]? = some (.cells (enA u) 33 (0, 0)) := y1
       have hr1 : w1.heap[w.heap.size + 1 + 1]? = some (.cells Lp.zero.arr 29 (0, 0)) := y2
       have HB1 := Lib.hid hB1
       have HQ1 := Lib.hid hq
       have HQO := Lib.hid ho
       have HQA := Lib.hid hqa
       have HZ1 := Lib.hid hz1
       have HDK := Lib.hid (built_desk q hq.hlen)
       have HWD := Lib.hid (info_desk (C := q.arr) (lp_size hq.hlen))
       clear hb1 hB1 y0 y1 y2 hq ho hqa hz1 hsz)
    | ((with_reducible refine wpList_build_to rfl 48 _ rfl [(0, .agg q.arr)] q.arr ?hl2 ?hb2 ?_); (case hl2 => rfl); (case hb2 => exact HDK.out))
    | ((with_reducible refine wpList_store_blk rfl 48 _ _ rfl w1.heap.size q.arr ?hx3 ?hy3 48 _ (heap_alloc_new w1 _) HWD.out ?hs3 (lp_one _) ?_); (case hx3 => rfl); (case hy3 => rfl); (case hs3 => exact (lp_size (p := Lp.zero) rfl).trans (lp_size HQ1.out.hlen).symm)
       intro w2 hg2 kd2 hs2
       have hbx : Below w1.heap.size w1 w2 := Below.grows (one_alloc w1 _) hg2 (size_le_alloc _ _) (Nat.le_refl _)
       have ke2 := blk_below ke1 hbx
       have hr2 := blk_below hr1 hbx
       have HB2 := Lib.hid (HB1.out.trans (hbx.mono HB1.out.size))
       have HD2 := Lib.hid (show Desk w2 (w.heap.size + 3) w1.heap.size q g from ⟨kd2, HQ1.out.below hbx, HQO.out.below hbx, HZ1.out, HQA.out⟩)
       have HZ2 := Lib.hid (Nat.le_trans HZ1.out hbx.size)
       clear hbx hg2 hs2 ke1 hr1 kd2)
    | ((with_reducible refine wpList_load_blk 33 _ rfl (w.heap.size + 1) ?hx4 33 (enA u) (0, 0) _ ke2 Tryz.underlying33 ?hd4 (info_en (enA_size _)) ?_ ?hw4); (case hx4 => rfl); (case hd4 => rfl); (case hw4 => rfl))
    | (go_at_call 22
       (with_reducible refine (HWR.out w1.heap.size q w2 (HK.out.from HB2.out) HD2.out).mono ?_)
       rintro e w3 ⟨r, rfl, kd3, hr, hra, hro, hbx⟩
       have hr3 := (hbx.block _ (Nat.lt_succ_self (w.heap.size + 1 + 1))).trans hr2
       have HR3 := Lib.hid hr
       have HRA := Lib.hid hra
       have HRO := Lib.hid hro
       have HB3 := Lib.hid (HB2.out.trans (hbx.mono (Nat.le_add_right _ 3)))
       have HZ3 := Lib.hid (hbx.size_from HZ2.out)
       have HI3 := Lib.hid (info_log (lp_size hr.hlen))
       skip
       clear hbx hr hra hro hr2 ke2)
    | ((with_reducible refine wpList_load_blk 29 _ rfl w1.heap.size ?hx7 48 r.arr (0, 0) _ kd3 Tryz.underlying29 ?hd7 HI3.out ?_ ?hw7); (case hx7 => rfl); (case hd7 => rfl); (case hw7 => rfl))
    | ((with_reducible refine wpList_store_blk rfl 29 _ _ rfl (w.heap.size + 1 + 1) r.arr ?hx8 ?hy8 29 _ hr3 HI3.out ?hs8 (lp_one _) ?_); (case hx8 => rfl); (case hy8 => rfl); (case hs8 => exact (lp_size (p := Lp.zero) rfl).trans (lp_size HR3.out.hlen).symm)
       intro w7 hg7 hX7 hs7))
  have hL7 := LgAt.kept_g HR3.out HRA.out HRO.out hg7 (Nat.lt_succ_self _)
  have hb7 := HB3.out.grown hg7 HB3.out.size (fun k e => by cases e; omega)
  first | rw [Exit.noGoto_ret] | rw [jump_ret] | skip
  refine bodyPost_ret (v := .tuple #[.agg r.arr, .int .i64 1]) ?_ rfl ?_
  · exact results_blk_tmp Tryz.results6 _ _ _ (w.heap.size + 1 + 1) 29 _ (0, 0) _ rfl hX7 Tryz.underlying29 rfl HI3.out _ rfl
  · rw [HAG.out]
    exact ⟨_, rfl, hL7, fun a ha => Nat.le_trans (Nat.le_add_right _ 3) (HRA.out a ha), fun a ha => Nat.le_trans (Nat.le_add_right _ 3) ((HRO.out).size a.block (by have ha2 : r.B = some a := ha; rw [ha2]; rfl)).1, hb7⟩
set_option maxHeartbeats 4000000 in
theorem aadd_full_w (p : Lp) (g : Lg) (u : En) (w : World) (hK : KTab w) (h : LgAt w p g) (hsm : LgSm g) (hu : u.ok) (he : mayE u = true) (hm : mayG g = true) (hs : slotsG g - g.l.length ≤ 4) :
    Calls Tryz.prog 6 #[.agg p.arr, enV u, .bool false] w (GLEl (addG g u false) w) := by
  have HK := Lib.hid hK
  have HW := Lib.hid h.whole
  have HOW := Lib.hid (fun (X : World) (hX : Below w.heap.size w X) => aown_any p g X (h.below hX) hsm)
  have HWR := Lib.hid (fun (k : Nat) (q : Lp) (X : World) (hk : KTab X) (hD : Desk X (w.heap.size + 3) k q g) => awrite_full (w.heap.size + 3) k q g u 4 X hk hD hsm hu he hm hs)
  have HAG := Lib.hid (show addG g u false = (g, 12) from add_full hm he (by rw [full_of hm]; simpa using hs))
  clear h hK hsm hu
  unfold enV at HWR ⊢
  unfold Wrote at HWR
  go_enter Tryz.func6, Tryz.ntmps6
  go_wp2
  refine wp_scope_ahead 0 rfl ?_
  go_wp2_with (first
    | (refine wp_goto ⟨rfl, ?_⟩)
    | (apply wp_label)
    | ((with_reducible refine wpList_load_blk 29 _ rfl w.heap.size ?hx1 29 p.arr (0, 0) _ (first_of3 _ _ _ _) Tryz.underlying29 ?hd1 HW.out ?_ ?hw1); (case hx1 => rfl); (case hd1 => rfl); (case hw1 => rfl))
    | (go_at_call 21
       (with_reducible refine (HOW.out _ (three_below w _ _ _)).mono ?_)
       rintro e w1 ⟨q, rfl, hq, ho, hqa, hb1⟩
       obtain ⟨hB1, y0, y1, y2⟩ := after_three_c hb1
       have hsz : ∀ o1 o2 o3 : Obj, (((w.alloc o1).alloc o2).alloc o3).heap.size = w.heap.size + 3 := fun _ _ _ => by simp
       rw [hsz] at ho hqa
       have hz1 : w.heap.size + 3 ≤ w1.heap.size := by have := hb1.size; rw [hsz] at this; exact this
       have ke1 : w1.heap[w.heap.size + 1]? = some (.cells (enA u) 33 (0, 0)) := y1
       have hr1 : w1.heap[w.heap.size + 1 + 1]? = some (.cells Lp.zero.arr 29 (0, 0)) := y2
       have HB1 := Lib.hid hB1
       have HQ1 := Lib.hid hq
       have HQO := Lib.hid ho
       have HQA := Lib.hid hqa
       have HZ1 := Lib.hid hz1
       have HDK := Lib.hid (built_desk q hq.hlen)
       have HWD := Lib.hid (info_desk (C := q.arr) (lp_size hq.hlen))
       clear hb1 hB1 y0 y1 y2 hq ho hqa hz1 hsz)
    | ((with_reducible refine wpList_build_to rfl 48 _ rfl [(0, .agg q.arr)] q.arr ?hl2 ?hb2 ?_); (case hl2 => rfl); (case hb2 => exact HDK.out))
    | ((with_reducible refine wpList_store_blk rfl 48 _ _ rfl w1.heap.size q.arr ?hx3 ?hy3 48 _ (heap_alloc_new w1 _) HWD.out ?hs3 (lp_one _) ?_); (case hx3 => rfl); (case hy3 => rfl); (case hs3 => exact (lp_size (p := Lp.zero) rfl).trans (lp_size HQ1.out.hlen).symm)
       intro w2 hg2 kd2 hs2
       have hbx : Below w1.heap.size w1 w2 := Below.grows (one_alloc w1 _) hg2 (size_le_alloc _ _) (Nat.le_refl _)
       have ke2 := blk_below ke1 hbx
       have hr2 := blk_below hr1 hbx
       have HB2 := Lib.hid (HB1.out.trans (hbx.mono HB1.out.size))
       have HD2 := Lib.hid (show Desk w2 (w.heap.size + 3) w1.heap.size q g from ⟨kd2, HQ1.out.below hbx, HQO.out.below hbx, HZ1.out, HQA.out⟩)
       have HZ2 := Lib.hid (Nat.le_trans HZ1.out hbx.size)
       clear hbx hg2 hs2 ke1 hr1 kd2)
    | ((with_reducible refine wpList_load_blk 33 _ rfl (w.heap.size + 1) ?hx4 33 (enA u) (0, 0) _ ke2 Tryz.underlying33 ?hd4 (info_en (enA_size _)) ?_ ?hw4); (case hx4 => rfl); (case hd4 => rfl); (case hw4 => rfl))
    | (go_at_call 22
       (with_reducible refine (HWR.out w1.heap.size q w2 (HK.out.from HB2.out) HD2.out).mono ?_)
       rintro e w3 ⟨r, rfl, kd3, hr, hra, hro, hbx⟩
       have hr3 := (hbx.block _ (Nat.lt_succ_self (w.heap.size + 1 + 1))).trans hr2
       have HR3 := Lib.hid hr
       have HRA := Lib.hid hra
       have HRO := Lib.hid hro
       have HB3 := Lib.hid (HB2.out.trans (hbx.mono (Nat.le_add_right _ 3)))
       have HZ3 := Lib.hid (hbx.size_from HZ2.out)
       have HI3 := Lib.hid (info_log (lp_size hr.hlen))
       skip
       clear hbx hr hra hro hr2 ke2)
    | ((with_reducible refine wpList_load_blk 29 _ rfl w1.heap.size ?hx7 48 r.arr (0, 0) _ kd3 Tryz.underlying29 ?hd7 HI3.out ?_ ?hw7); (case hx7 => rfl); (case hd7 => rfl); (case hw7 => rfl))
    | ((with_reducible refine wpList_store_blk rfl 29 _ _ rfl (w.heap.size + 1 + 1) r.arr ?hx8 ?hy8 29 _ hr3 HI3.out ?hs8 (lp_one _) ?_); (case hx8 => rfl); (case hy8 => rfl); (case hs8 => exact (lp_size (p := Lp.zero) rfl).trans (lp_size HR3.out.hlen).symm)
       intro w7 hg7 hX7 hs7))
  have hL7 := LgAt.kept_g HR3.out HRA.out HRO.out hg7 (Nat.lt_succ_self _)
  have hb7 := HB3.out.grown hg7 HB3.out.size (fun k e => by cases e; omega)
  first | rw [Exit.noGoto_ret] | rw [jump_ret] | skip
  refine bodyPost_ret (v := .tuple #[.agg r.arr, .int .i64 12]) ?_ rfl ?_
  · exact results_blk_tmp Tryz.results6 _ _ _ (w.heap.size + 1 + 1) 29 _ (0, 0) _ rfl hX7 Tryz.underlying29 rfl HI3.out _ rfl
  · rw [HAG.out]
    exact ⟨_, rfl, hL7, fun a ha => Nat.le_trans (Nat.le_add_right _ 3) (HRA.out a ha), fun a ha => Nat.le_trans (Nat.le_add_right _ 3) ((HRO.out).size a.block (by have ha2 : r.B = some a := ha; rw [ha2]; rfl)).1, hb7⟩
set_option maxHeartbeats 4000000 in
theorem aadd_ok_w (p : Lp) (g : Lg) (u : En) (w : World) (hK : KTab w) (h : LgAt w p g) (hsm : LgSm g) (hu : u.ok) (he : mayE u = true) (hm : mayG g = true) (hs : 4 < slotsG g - g.l.length) :
    Calls Tryz.prog 6 #[.agg p.arr, enV u, .bool false] w (GLEl (addG g u false) w) := by
  have HK := Lib.hid hK
  have HW := Lib.hid h.whole
  have HOW := Lib.hid (fun (X : World) (hX : Below w.heap.size w X) => aown_any p g X (h.below hX) hsm)
  have HWR := Lib.hid (fun (k : Nat) (q : Lp) (X : World) (hk : KTab X) (hD : Desk X (w.heap.size + 3) k q g) => awrite_ok (w.heap.size + 3) k q g u 4 X hk hD hsm hu he hm hs (by omega))
  have hr : (g.l.length : Int) < slotsG g := by omega
  have hwr := write_rec hm he hr
  have hwm := (write_may (mayG_iff.1 hm).1 hwr).1
  have hsy : (syncP (writeP g.st (recG g u)).1).2 = 0 := by rw [hwr, sync_ok hwm]
  have hsc : (syncP (writeP g.st (recG g u)).1).1.cap = g.st.cap := by rw [hwr, sync_ok hwm]
  have HCF := Lib.hid (show -9223372036854775808 ≤ (syncP (writeP g.st (recG g u)).1).1.cap ∧ (syncP (writeP g.st (recG g u)).1).1.cap ≤ 9223372036854775807 by rw [hsc, ← h.cap]; exact h.fits)
  have hdl : (writeP g.st (recG g u)).1.data.length ≤ 140737488355328 := by rw [hwr]; show (recsC (g.l ++ [u])).length ≤ _; rw [more_len]; have := hsm.2; omega
  have HSY := Lib.hid (show ∀ (r : Lp) (X : World), LgAt X r ⟨(writeP g.st (recG g u)).1, g.l ++ [u], linkP g.head u⟩ → Calls Tryz.prog 23 #[.agg #[.int .i64 r.cap, .slice r.A r.n r.c, .int .i64 r.sure]] X (GSEn (syncP (writeP g.st (recG g u)).1) X) from fun r X hr => by
    have h0 := stsync_new (writeP g.st (recG g u)).1 r.A r.n r.c X hr.data (by have := hr.data.len; simp only at this; omega)
    rw [hr.val] at h0
    exact h0)
  obtain ⟨T, hT⟩ : ∃ T, syncP (writeP g.st (recG g u)).1 = T := ⟨_, rfl⟩
  simp only [hT] at HSY HCF hsy
  have HAG := Lib.hid (show addG g u false = (⟨(syncP (writeP g.st (recG g u)).1).1, g.l ++ [u], linkP g.head u⟩, 0) by
    rw [addG, hm, he, full_of hm, decide_eq_false (by simpa using hs)]; rfl)
  rw [hT] at HAG
  obtain ⟨⟨C2, D2, S2⟩, E2⟩ := T
  simp only at hsy HSY HCF HAG
  subst hsy
  unfold GSEn at HSY
  simp only at HSY
  clear hT hwr hwm hsc hdl hr
  clear h hK hsm hu
  unfold enV at HWR ⊢
  unfold Wrote at HWR
  go_enter Tryz.func6, Tryz.ntmps6
  go_wp2
  refine wp_scope_ahead 0 rfl ?_
  go_wp2_with (first
    | (refine wp_goto ⟨rfl, ?_⟩)
    | (apply wp_label)
    | ((with_reducible refine wpList_load_blk 29 _ rfl w.heap.size ?hx1 29 p.arr (0, 0) _ (first_of3 _ _ _ _) Tryz.underlying29 ?hd1 HW.out ?_ ?hw1); (case hx1 => rfl); (case hd1 => rfl); (case hw1 => rfl))
    | (go_at_call 21
       (with_reducible refine (HOW.out _ (three_below w _ _ _)).mono ?_)
       rintro e w1 ⟨q, rfl, hq, ho, hqa, hb1⟩
       obtain ⟨hB1, y0, y1, y2⟩ := after_three_c hb1
       have hsz : ∀ o1 o2 o3 : Obj, (((w.alloc o1).alloc o2).alloc o3).heap.size = w.heap.size + 3 := fun _ _ _ => by simp
       rw [hsz] at ho hqa
       have hz1 : w.heap.size + 3 ≤ w1.heap.size := by have := hb1.size; rw [hsz] at this; exact this
       have ke1 : w1.heap[w.heap.size + 1]? = some (.cells (enA u) 33 (0, 0)) := y1
       have hr1 : w1.heap[w.heap.size + 1 + 1]? = some (.cells Lp.zero.arr 29 (0, 0)) := y2
       have HB1 := Lib.hid hB1
       have HQ1 := Lib.hid hq
       have HQO := Lib.hid ho
       have HQA := Lib.hid hqa
       have HZ1 := Lib.hid hz1
       have HDK := Lib.hid (built_desk q hq.hlen)
       have HWD := Lib.hid (info_desk (C := q.arr) (lp_size hq.hlen))
       clear hb1 hB1 y0 y1 y2 hq ho hqa hz1 hsz)
    | ((with_reducible refine wpList_build_to rfl 48 _ rfl [(0, .agg q.arr)] q.arr ?hl2 ?hb2 ?_); (case hl2 => rfl); (case hb2 => exact HDK.out))
    | ((with_reducible refine wpList_store_blk rfl 48 _ _ rfl w1.heap.size q.arr ?hx3 ?hy3 48 _ (heap_alloc_new w1 _) HWD.out ?hs3 (lp_one _) ?_); (case hx3 => rfl); (case hy3 => rfl); (case hs3 => exact (lp_size (p := Lp.zero) rfl).trans (lp_size HQ1.out.hlen).symm)
       intro w2 hg2 kd2 hs2
       have hbx : Below w1.heap.size w1 w2 := Below.grows (one_alloc w1 _) hg2 (size_le_alloc _ _) (Nat.le_refl _)
       have ke2 := blk_below ke1 hbx
       have hr2 := blk_below hr1 hbx
       have HB2 := Lib.hid (HB1.out.trans (hbx.mono HB1.out.size))
       have HD2 := Lib.hid (show Desk w2 (w.heap.size + 3) w1.heap.size q g from ⟨kd2, HQ1.out.below hbx, HQO.out.below hbx, HZ1.out, HQA.out⟩)
       have HZ2 := Lib.hid (Nat.le_trans HZ1.out hbx.size)
       clear hbx hg2 hs2 ke1 hr1 kd2)
    | ((with_reducible refine wpList_load_blk 33 _ rfl (w.heap.size + 1) ?hx4 33 (enA u) (0, 0) _ ke2 Tryz.underlying33 ?hd4 (info_en (enA_size _)) ?_ ?hw4); (case hx4 => rfl); (case hd4 => rfl); (case hw4 => rfl))
    | (go_at_call 22
       (with_reducible refine (HWR.out w1.heap.size q w2 (HK.out.from HB2.out) HD2.out).mono ?_)
       rintro e w3 ⟨r, rfl, kd3, hr, hra, hro, hbx⟩
       have hr3 := (hbx.block _ (Nat.lt_succ_self (w.heap.size + 1 + 1))).trans hr2
       have HR3 := Lib.hid hr
       have HRA := Lib.hid hra
       have HRO := Lib.hid hro
       have HB3 := Lib.hid (HB2.out.trans (hbx.mono (Nat.le_add_right _ 3)))
       have HZ3 := Lib.hid (hbx.size_from HZ2.out)
       have HI3 := Lib.hid (info_log (lp_size hr.hlen))
       skip
       clear hbx hr hra hro hr2 ke2)
    | ((with_reducible refine wpList_load_on 24 _ rfl w1.heap.size 0 ?hx6 [.int .i64 r.cap, .slice r.A r.n r.c, .int .i64 r.sure] _ rfl _ (dk_st kd3) Tryz.underlying24 ?hd6 (by kernel_rfl) ?_ ?hw6); (case hx6 => rfl); (case hd6 => rfl); (case hw6 => rfl))
    | (go_at_call 23
       (with_reducible refine (HSY.out r w3 HR3.out).mono ?_)
       rintro e w5 ⟨A5, n5, c5, rfl, hbt, hlo, hbx⟩
       have kd5 := blk_below kd3 hbx
       have hr5 := blk_below hr3 hbx
       have hB5 := HB3.out.trans (hbx.mono HB3.out.size)
       have hro5 := HRO.out.below hbx
       have hra5 : ∀ a, A5 = some a → w.heap.size + 3 ≤ a.block := fun a ha => Nat.le_trans HZ3.out (hlo a ha)
       have hgd : w1.heap.size < w3.heap.size := (Array.getElem?_eq_some_iff.1 kd3).1
       have hgt := hbt.kept (blk_far (n := n5) (lo := 0) hlo (Nat.le_refl _)) (dk_grown012 kd5 C2 A5 n5 c5 S2) (Nat.zero_le _) hgd
       obtain ⟨c0, c1, c2, -⟩ := dk_cells kd5
       have f0 := dk_free kd5 0
       have f1 := dk_free kd5 1
       have f2 := dk_free kd5 2
       have kd6 := dk_set012 kd5 C2 A5 n5 c5 S2
       have hg6 := dk_grown012 kd5 C2 A5 n5 c5 S2
       have hr6 := blk_other hr5 hg6 (by have := HZ1.out; omega)
       have hro6 := hro5.far hg6 (own_ne hro5 kd5)
       have hB6 := hB5.grown hg6 hB5.size (fun k e => by cases e; have := HZ1.out; omega)
       have HR6 := Lib.hid (show LgAt _ (r.putS C2 A5 n5 c5 S2) ⟨⟨C2, D2, S2⟩, g.l ++ [u], linkP g.head u⟩ from ⟨rfl, rfl, HR3.out.head, hgt, (own_ens_ents hro6), ⟨HR3.out.ok.each, HR3.out.ok.len, HR3.out.ok.byte⟩, HCF.out⟩)
       have HI6 := Lib.hid (info_log (lp_size HR6.out.hlen))
       clear hbx hbt hlo kd3 hr3 hr5 hro5 hB5 hg6 kd5 hgd)
    | ((with_reducible refine wpList_load_blk 29 _ rfl w1.heap.size ?hx7 48 (r.putS C2 A5 n5 c5 S2).arr (0, 0) _ kd6 Tryz.underlying29 ?hd7 HI6.out ?_ ?hw7); (case hx7 => rfl); (case hd7 => rfl); (case hw7 => rfl))
    | ((with_reducible refine wpList_store_blk rfl 29 _ _ rfl (w.heap.size + 1 + 1) (r.putS C2 A5 n5 c5 S2).arr ?hx8 ?hy8 29 _ hr6 HI6.out ?hs8 (lp_one _) ?_); (case hx8 => rfl); (case hy8 => rfl); (case hs8 => exact (lp_size (p := Lp.zero) rfl).trans (lp_size HR6.out.hlen).symm)
       intro w7 hg7 hX7 hs7))
  have hL7 := LgAt.kept_g HR6.out hra5 hro6 hg7 (Nat.lt_succ_self _)
  have hb7 := hB6.grown hg7 hB6.size (fun k e => by cases e; omega)
  first | rw [Exit.noGoto_ret] | rw [jump_ret] | skip
  refine bodyPost_ret (v := .tuple #[.agg (r.putS C2 A5 n5 c5 S2).arr, .int .i64 0]) ?_ rfl ?_
  · exact results_blk_tmp Tryz.results6 _ _ _ (w.heap.size + 1 + 1) 29 _ (0, 0) _ rfl hX7 Tryz.underlying29 rfl HI6.out _ rfl
  · rw [HAG.out]
    exact ⟨_, rfl, hL7, fun a ha => Nat.le_trans (Nat.le_add_right _ 3) (hra5 a ha), fun a ha => Nat.le_trans (Nat.le_add_right _ 3) ((hro6).size a.block (by have ha2 : r.B = some a := ha; rw [ha2]; rfl)).1, hb7⟩
theorem aaddl_any (p : Lp) (g : Lg) (u : En) (urg : Bool) (w : World) (hK : KTab w) (h : LgAt w p g) (hsm : LgSm g) (hu : u.ok) :
    Calls Tryz.prog 6 #[.agg p.arr, enV u, .bool urg] w (GLEl (addG g u urg) w) := by
  cases he : mayE u with
  | false => cases urg with
    | true => exact aadd_no_u p g u w hK h hsm hu he
    | false => exact aadd_no_w p g u w hK h hsm hu he
  | true =>
    cases hm : mayG g with
    | false => cases urg with
      | true => exact aadd_may_u p g u w hK h hsm hu he hm
      | false => exact aadd_may_w p g u w hK h hsm hu he hm
    | true => cases urg with
      | true =>
        by_cases hs : slotsG g - g.l.length ≤ 0
        · exact aadd_full_u p g u w hK h hsm hu he hm hs
        · exact aadd_ok_u p g u w hK h hsm hu he hm (by omega)
      | false =>
        by_cases hs : slotsG g - g.l.length ≤ 4
        · exact aadd_full_w p g u w hK h hsm hu he hm hs
        · exact aadd_ok_w p g u w hK h hsm hu he hm (by omega)
theorem aadd_any (p : Lp) (g : Lg) (u : En) (urg : Bool) (w : World) (hK : KTab w) (h : LgAt w p g) (hsm : LgSm g) (hu : u.ok) :
    Calls Tryz.prog 6 #[.agg p.arr, enV u, .bool urg] w (GLE (addG g u urg) w) :=
  (aaddl_any p g u urg w hK h hsm hu).mono fun e w' ⟨q, he, hq, _, _, hb⟩ => ⟨q, he, hq, hb⟩
end Go.Proofs.YtafmompplcaadaaGreatDoor
