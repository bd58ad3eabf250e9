/- The walk over the law AuditAdds: what is added stands behind all, and is sure; the log is opened just as it is. -/
import Derived.Test.YtafmompplcaadaaDoorAuJJ
import Derived.Test.YtafmompplcaadaaDoorAuJG
namespace Go.Proofs.YtafmompplcaadaaDoor
set_option maxRecDepth 100000
set_option linter.unusedVariables false
set_option linter.unusedSimpArgs false
open Go.RowKit

set_option maxHeartbeats 4000000 in
theorem aaddsw_few (HA : AudOk) (p : Lp) (g : Lg) (u : En) (urg : Bool) (w : World) (hK : KTab w) (h : LgAt w p g) (hu : u.ok) (hf : fewG g = false) :
    Calls Tryd.prog 3 #[.agg p.arr, enV u, .bool urg] w fun e w' => e = .returned (.bool true) ∧ Below w.heap.size w w' := by
  have HK := Lib.hid hK
  have HAW := Lib.hid (fun (X : World) (hk : KTab X) => aawake_any HA X hk)
  have HFW := Lib.hid (fun (X : World) (hX : Below w.heap.size w X) => afew_any p g X (h.below hX))
  have HW := Lib.hid h.whole
  simp only [hf] at HFW
  clear h hu hK HA hf
  unfold enV
  go_enter Tryd.func3, Tryd.ntmps3
  go_wp2_with (first
    | (go_at_call 8
       (with_reducible refine (HAW.out _ (HK.out.from (two_below w _ _))).mono ?_)
       rintro e w1 ⟨rfl, hb1⟩
       obtain ⟨hb0, hz1, y0, y1⟩ := after_two hb1
       have k0 : w1.heap[w.heap.size]? = some (.cells p.arr 29 (0, 0)) := y0
       have ke : w1.heap[w.heap.size + 1]? = some (.cells (enA u) 33 (0, 0)) := y1
       have HB1 := Lib.hid hb0
       clear hb1 hb0 y0 y1 hz1)
    | ((with_reducible refine wpList_load_blk 29 _ rfl w.heap.size ?hx1 29 p.arr (0, 0) _ k0 Tryd.underlying29 ?hd1 HW.out ?_ ?hw1); (case hx1 => rfl); (case hd1 => rfl); (case hw1 => rfl))
    | (go_at_call 9
       (with_reducible refine (HFW.out _ HB1.out).mono ?_)
       rintro e w2 ⟨rfl, hbx⟩
       have k0 := blk_below k0 hbx
       have ke := blk_below ke hbx
       have HB2 := Lib.hid (HB1.out.trans (hbx.mono HB1.out.size))
       clear hbx))
  go_ret
  exact ⟨rfl, HB2.out⟩
set_option maxHeartbeats 4000000 in
theorem aaddsw_may (HA : AudOk) (p : Lp) (g : Lg) (u : En) (urg : Bool) (w : World) (hK : KTab w) (h : LgAt w p g) (hu : u.ok) (hf : fewG g = true) (hm : mayG g = false) :
    Calls Tryd.prog 3 #[.agg p.arr, enV u, .bool urg] w fun e w' => e = .returned (.bool true) ∧ Below w.heap.size w w' := by
  have HK := Lib.hid hK
  have HAW := Lib.hid (fun (X : World) (hk : KTab X) => aawake_any HA X hk)
  have HFW := Lib.hid (fun (X : World) (hX : Below w.heap.size w X) => afew_any p g X (h.below hX))
  have HW := Lib.hid h.whole
  obtain ⟨hsm, hl30, hd25⟩ := few_sm hf
  simp only [hf] at HFW
  have HMY := Lib.hid (fun (X : World) (hk : KTab X) (hX : Below w.heap.size w X) => HA.may p g X hk (h.below hX) hsm)
  simp only [hm] at HMY
  clear h hu hK HA hf hm hsm hl30 hd25
  unfold enV
  go_enter Tryd.func3, Tryd.ntmps3
  go_wp2_with (first
    | (go_at_call 8
       (with_reducible refine (HAW.out _ (HK.out.from (two_below w _ _))).mono ?_)
       rintro e w1 ⟨rfl, hb1⟩
       obtain ⟨hb0, hz1, y0, y1⟩ := after_two hb1
       have k0 : w1.heap[w.heap.size]? = some (.cells p.arr 29 (0, 0)) := y0
       have ke : w1.heap[w.heap.size + 1]? = some (.cells (enA u) 33 (0, 0)) := y1
       have HB1 := Lib.hid hb0
       clear hb1 hb0 y0 y1 hz1)
    | ((with_reducible refine wpList_load_blk 29 _ rfl w.heap.size ?hx1 29 p.arr (0, 0) _ k0 Tryd.underlying29 ?hd1 HW.out ?_ ?hw1); (case hx1 => rfl); (case hd1 => rfl); (case hw1 => rfl))
    | (go_at_call 9
       (with_reducible refine (HFW.out _ HB1.out).mono ?_)
       rintro e w2 ⟨rfl, hbx⟩
       have k0 := blk_below k0 hbx
       have ke := blk_below ke hbx
       have HB2 := Lib.hid (HB1.out.trans (hbx.mono HB1.out.size))
       clear hbx)
    | (go_at_call 10
       (with_reducible refine (HMY.out _ (HK.out.from HB2.out) HB2.out).mono ?_)
       rintro e w3 ⟨rfl, hbx⟩
       have k0 := blk_below k0 hbx
       have ke := blk_below ke hbx
       have HB3 := Lib.hid (HB2.out.trans (hbx.mono HB2.out.size))
       clear hbx))
  go_ret
  exact ⟨rfl, HB3.out⟩
set_option maxHeartbeats 4000000 in
theorem aaddsw_err (HA : AudOk) (p : Lp) (g : Lg) (u : En) (urg : Bool) (w : World) (hK : KTab w) (h : LgAt w p g) (hu : u.ok) (hf : fewG g = true) (hm : mayG g = true) (hd : ¬ (addG g u urg).2 = 0) (hg : (addG g u urg).1 = g) :
    Calls Tryd.prog 3 #[.agg p.arr, enV u, .bool urg] w fun e w' => e = .returned (.bool true) ∧ Below w.heap.size w w' := by
  have HK := Lib.hid hK
  have HAW := Lib.hid (fun (X : World) (hk : KTab X) => aawake_any HA X hk)
  have HFW := Lib.hid (fun (X : World) (hX : Below w.heap.size w X) => afew_any p g X (h.below hX))
  have HW := Lib.hid h.whole
  obtain ⟨hsm, hl30, hd25⟩ := few_sm hf
  simp only [hf] at HFW
  have HMY := Lib.hid (fun (X : World) (hk : KTab X) (hX : Below w.heap.size w X) => HA.may p g X hk (h.below hX) hsm)
  simp only [hm] at HMY
  have hae := add_sm (e := u) (u := urg) hm hsm hl30
  have HAD := Lib.hid (fun (X : World) (hk : KTab X) (hX : Below w.heap.size w X) => HA.add p g u urg X hk (h.below hX) hsm hu)
  have HP := Lib.hid h
  have hop := open_log hm h.ok.each
  obtain ⟨E, hE⟩ : ∃ x, (addG g u urg).2 = x := ⟨_, rfl⟩
  have hpe : addG g u urg = (g, E) := Prod.ext hg hE
  rw [hE] at hd
  rw [hpe] at HAD
  have HOP := Lib.hid (show ∀ (q : Lp) (X : World), KTab X → LgAt X q g → Calls Tryd.prog 12 #[.agg #[.int .i64 q.cap, .slice q.A q.n q.c, .int .i64 q.sure]] X (GLE (g, 0) X) from fun q X hk h1 => by
    have h0 := HA.open_ g.st q.A q.n q.c X hk h1.data (by have := h1.data.len; have := hsm.1; omega)
    rw [hop, ← h1.cap, ← h1.sure] at h0
    exact h0)
  have HSM := Lib.hid (fun (q p : Lp) (X : World) (hk : KTab X) (h1 : LgAt X q g) (h2 : LgAt X p g) => HA.same q p g g X hk h1 h2 hsm hsm)
  rw [sameG_self] at HSM
  clear h hu hK HA hf hm hsm hl30 hd25 hae hop hE hpe hg
  unfold enV
  go_enter Tryd.func3, Tryd.ntmps3
  go_wp2_with (first
    | (go_at_call 8
       (with_reducible refine (HAW.out _ (HK.out.from (two_below w _ _))).mono ?_)
       rintro e w1 ⟨rfl, hb1⟩
       obtain ⟨hb0, hz1, y0, y1⟩ := after_two hb1
       have k0 : w1.heap[w.heap.size]? = some (.cells p.arr 29 (0, 0)) := y0
       have ke : w1.heap[w.heap.size + 1]? = some (.cells (enA u) 33 (0, 0)) := y1
       have HB1 := Lib.hid hb0
       clear hb1 hb0 y0 y1 hz1)
    | ((with_reducible refine wpList_load_blk 29 _ rfl w.heap.size ?hx1 29 p.arr (0, 0) _ k0 Tryd.underlying29 ?hd1 HW.out ?_ ?hw1); (case hx1 => rfl); (case hd1 => rfl); (case hw1 => rfl))
    | ((with_reducible refine wpList_load_blk 33 _ rfl (w.heap.size + 1) ?hx2 33 (enA u) (0, 0) _ ke Tryd.underlying33 ?hd2 (info_en (enA_size _)) ?_ ?hw2); (case hx2 => rfl); (case hd2 => rfl); (case hw2 => rfl))
    | (go_at_call 9
       (with_reducible refine (HFW.out _ HB1.out).mono ?_)
       rintro e w2 ⟨rfl, hbx⟩
       have k0 := blk_below k0 hbx
       have ke := blk_below ke hbx
       have HB2 := Lib.hid (HB1.out.trans (hbx.mono HB1.out.size))
       clear hbx)
    | (go_at_call 10
       (with_reducible refine (HMY.out _ (HK.out.from HB2.out) HB2.out).mono ?_)
       rintro e w3 ⟨rfl, hbx⟩
       have k0 := blk_below k0 hbx
       have ke := blk_below ke hbx
       have HB3 := Lib.hid (HB2.out.trans (hbx.mono HB2.out.size))
       clear hbx)
    | (go_at_call 11
       (with_reducible refine (HAD.out _ (HK.out.from HB3.out) HB3.out).mono ?_)
       rintro e w4 ⟨p1, rfl, hp1, hbx⟩
       have HP1 := Lib.hid hp1
       have k0 := blk_below k0 hbx
       have ke := blk_below ke hbx
       have HB4 := Lib.hid (HB3.out.trans (hbx.mono HB3.out.size))
       clear hp1 hbx)
    | ((with_reducible refine wpList_store_blk rfl 29 _ _ rfl w4.heap.size p1.arr ?hx31 ?hy31 29 _ (heap_alloc_new w4 _) HP1.out.whole ?hs31 (lp_one _) ?_); (case hx31 => rfl); (case hy31 => rfl); (case hs31 => exact (lp_size (p := Lp.zero) rfl).trans (lp_size HP1.out.hlen).symm)
       intro w5 hg k1 hs
       have hbx : Below w4.heap.size w4 w5 := Below.grows (one_alloc w4 _) hg (size_le_alloc _ _) (Nat.le_refl _)
       have k0 := blk_below k0 hbx
       have ke := blk_below ke hbx
       have HP1 := Lib.hid (HP1.out.below hbx)
       have HB5 := Lib.hid (HB4.out.trans (hbx.mono HB4.out.size))
       clear hbx hg hs)
    | ((with_reducible refine wpList_load_on 24 _ rfl w4.heap.size 0 ?hx7 [.int .i64 p1.cap, .slice p1.A p1.n p1.c, .int .i64 p1.sure] _ rfl _ (lg_st k1) Tryd.underlying24 ?hd7 (by kernel_rfl) ?_ ?hw7); (case hx7 => rfl); (case hd7 => rfl); (case hw7 => rfl))
    | (go_at_call 12
       (with_reducible refine (HOP.out p1 _ (HK.out.from HB5.out) HP1.out).mono ?_)
       rintro e w6 ⟨p2, rfl, hp2, hbx⟩
       have HP2 := Lib.hid hp2
       have k0 := blk_below k0 hbx
       have k1 := blk_below k1 hbx
       have ke := blk_below ke hbx
       have HP1 := Lib.hid (HP1.out.below hbx)
       have HB6 := Lib.hid (HB5.out.trans (hbx.mono HB5.out.size))
       clear hp2 hbx)
    | ((with_reducible refine wpList_store_blk rfl 29 _ _ rfl w6.heap.size p2.arr ?hx32 ?hy32 29 _ (heap_alloc_new w6 _) HP2.out.whole ?hs32 (lp_one _) ?_); (case hx32 => rfl); (case hy32 => rfl); (case hs32 => exact (lp_size (p := Lp.zero) rfl).trans (lp_size HP2.out.hlen).symm)
       intro w7 hg k2 hs
       have hbx : Below w6.heap.size w6 w7 := Below.grows (one_alloc w6 _) hg (size_le_alloc _ _) (Nat.le_refl _)
       have k0 := blk_below k0 hbx
       have k1 := blk_below k1 hbx
       have ke := blk_below ke hbx
       have HP1 := Lib.hid (HP1.out.below hbx)
       have HP2 := Lib.hid (HP2.out.below hbx)
       have HB7 := Lib.hid (HB6.out.trans (hbx.mono HB6.out.size))
       have x3 := (lg_cells k0).2.2.2
       clear hbx hg hs)
    | ((with_reducible refine wpList_load_blk 29 _ rfl w4.heap.size ?hx4 29 p1.arr (0, 0) _ k1 Tryd.underlying29 ?hd4 HP1.out.whole ?_ ?hw4); (case hx4 => rfl); (case hd4 => rfl); (case hw4 => rfl))
    | (go_at_call 13
       (with_reducible refine (HSM.out p1 p _ (HK.out.from HB7.out) HP1.out (HP.out.below HB7.out)).mono ?_)
       rintro e w8 ⟨rfl, hbx⟩
       have HB8 := Lib.hid (HB7.out.trans (hbx.mono HB7.out.size))
       clear hbx))
  go_ret
  exact ⟨rfl, HB8.out⟩
set_option maxHeartbeats 4000000 in
theorem aaddsw_ok (HA : AudOk) (p : Lp) (g : Lg) (u : En) (urg : Bool) (w : World) (hK : KTab w) (h : LgAt w p g) (hu : u.ok) (hf : fewG g = true) (hm : mayG g = true) (hpe : addG g u urg = (moreG g u, 0)) (hop2 : mayG (moreG g u) = true) (hop : openG (moreG g u).st = (moreG g u, 0)) :
    Calls Tryd.prog 3 #[.agg p.arr, enV u, .bool urg] w fun e w' => e = .returned (.bool true) ∧ Below w.heap.size w w' := by
  have HK := Lib.hid hK
  have HAW := Lib.hid (fun (X : World) (hk : KTab X) => aawake_any HA X hk)
  have HFW := Lib.hid (fun (X : World) (hX : Below w.heap.size w X) => afew_any p g X (h.below hX))
  have HW := Lib.hid h.whole
  obtain ⟨hsm, hl30, hd25⟩ := few_sm hf
  simp only [hf] at HFW
  have HMY := Lib.hid (fun (X : World) (hk : KTab X) (hX : Below w.heap.size w X) => HA.may p g X hk (h.below hX) hsm)
  simp only [hm] at HMY
  have hae := add_sm (e := u) (u := urg) hm hsm hl30
  have HAD := Lib.hid (fun (X : World) (hk : KTab X) (hX : Below w.heap.size w X) => HA.add p g u urg X hk (h.below hX) hsm hu)
  have HP := Lib.hid h
  have hxm := hop2
  obtain ⟨x, hx⟩ : ∃ x, moreG g u = x := ⟨_, rfl⟩
  obtain ⟨m1, m2, m3, m4, m5, m6⟩ := moreG_parts g u
  rw [hpe] at HAD hae
  rw [hx] at HAD hae hop hxm m1 m2 m3 m4 m5
  have hE : True := trivial
  have HOP := Lib.hid (show ∀ (q : Lp) (X : World), KTab X → LgAt X q x → Calls Tryd.prog 12 #[.agg #[.int .i64 q.cap, .slice q.A q.n q.c, .int .i64 q.sure]] X (GLE (x, 0) X) from fun q X hk h1 => by
    have h0 := HA.open_ x.st q.A q.n q.c X hk h1.data (by have := h1.data.len; have := hae.1; omega)
    rw [hop, ← h1.cap, ← h1.sure] at h0
    exact h0)
  have HSM := Lib.hid (fun (q p : Lp) (X : World) (hk : KTab X) (h1 : LgAt X q x) (h2 : LgAt X p x) => HA.same q p x x X hk h1 h2 hae hae)
  rw [sameG_self] at HSM
  have HMX := Lib.hid (fun (q : Lp) (X : World) (hk : KTab X) (h1 : LgAt X q x) => HA.may q x X hk h1 hae)
  simp only [hxm] at HMX
  have hnl := h.ents.len
  have HML := Lib.hid m1
  have HMI := Lib.hid m2
  have HMT := Lib.hid m3
  have HMS := Lib.hid m4
  have HMD := Lib.hid m5
  have HNL := Lib.hid hnl
  have h30 : p.m ≤ 30 := by omega
  have HES := Lib.hid (fun (B : Option Addr) (m d : Nat) (B2 : Option Addr) (m2 d2 : Nat) (X : World) (h : Ens X B m d g.l) (h2 : Ens X B2 m2 d2 g.l) => esame_any B m d g.l B2 m2 d2 g.l X h h2)
  rw [show sameE g.l g.l = true by simp [sameE]] at HES
  have hw0 : IntKind.i64.wrap ((p.m : Int) + 1) = (p.m : Int) + 1 := by rw [IntKind.wrap_i64]; omega
  have hw1 : IntKind.i64.wrap (62 * ((p.m : Int) + 1)) = 62 * ((p.m : Int) + 1) := by rw [IntKind.wrap_i64]; omega
  clear h hu hK HA hf hm hsm hl30 hd25 hae hop hxm hE hpe hop2 hx m1 m2 m3 m4 m5 m6 hnl
  unfold enV
  go_enter Tryd.func3, Tryd.ntmps3
  go_wp2_with (first
    | (go_at_call 8
       (with_reducible refine (HAW.out _ (HK.out.from (two_below w _ _))).mono ?_)
       rintro e w1 ⟨rfl, hb1⟩
       obtain ⟨hb0, hz1, y0, y1⟩ := after_two hb1
       have k0 : w1.heap[w.heap.size]? = some (.cells p.arr 29 (0, 0)) := y0
       have ke : w1.heap[w.heap.size + 1]? = some (.cells (enA u) 33 (0, 0)) := y1
       have HB1 := Lib.hid hb0
       clear hb1 hb0 y0 y1 hz1)
    | ((with_reducible refine wpList_load_blk 29 _ rfl w.heap.size ?hx1 29 p.arr (0, 0) _ k0 Tryd.underlying29 ?hd1 HW.out ?_ ?hw1); (case hx1 => rfl); (case hd1 => rfl); (case hw1 => rfl))
    | ((with_reducible refine wpList_load_blk 33 _ rfl (w.heap.size + 1) ?hx2 33 (enA u) (0, 0) _ ke Tryd.underlying33 ?hd2 (info_en (enA_size _)) ?_ ?hw2); (case hx2 => rfl); (case hd2 => rfl); (case hw2 => rfl))
    | (go_at_call 9
       (with_reducible refine (HFW.out _ HB1.out).mono ?_)
       rintro e w2 ⟨rfl, hbx⟩
       have k0 := blk_below k0 hbx
       have ke := blk_below ke hbx
       have HB2 := Lib.hid (HB1.out.trans (hbx.mono HB1.out.size))
       clear hbx)
    | (go_at_call 10
       (with_reducible refine (HMY.out _ (HK.out.from HB2.out) HB2.out).mono ?_)
       rintro e w3 ⟨rfl, hbx⟩
       have k0 := blk_below k0 hbx
       have ke := blk_below ke hbx
       have HB3 := Lib.hid (HB2.out.trans (hbx.mono HB2.out.size))
       clear hbx)
    | (go_at_call 11
       (with_reducible refine (HAD.out _ (HK.out.from HB3.out) HB3.out).mono ?_)
       rintro e w4 ⟨p1, rfl, hp1, hbx⟩
       have HP1 := Lib.hid hp1
       have k0 := blk_below k0 hbx
       have ke := blk_below ke hbx
       have HB4 := Lib.hid (HB3.out.trans (hbx.mono HB3.out.size))
       clear hp1 hbx)
    | ((with_reducible refine wpList_store_blk rfl 29 _ _ rfl w4.heap.size p1.arr ?hx31 ?hy31 29 _ (heap_alloc_new w4 _) HP1.out.whole ?hs31 (lp_one _) ?_); (case hx31 => rfl); (case hy31 => rfl); (case hs31 => exact (lp_size (p := Lp.zero) rfl).trans (lp_size HP1.out.hlen).symm)
       intro w5 hg k1 hs
       have hbx : Below w4.heap.size w4 w5 := Below.grows (one_alloc w4 _) hg (size_le_alloc _ _) (Nat.le_refl _)
       have k0 := blk_below k0 hbx
       have ke := blk_below ke hbx
       have HP1 := Lib.hid (HP1.out.below hbx)
       have HB5 := Lib.hid (HB4.out.trans (hbx.mono HB4.out.size))
       clear hbx hg hs)
    | ((with_reducible refine wpList_load_on 24 _ rfl w4.heap.size 0 ?hx7 [.int .i64 p1.cap, .slice p1.A p1.n p1.c, .int .i64 p1.sure] _ rfl _ (lg_st k1) Tryd.underlying24 ?hd7 (by kernel_rfl) ?_ ?hw7); (case hx7 => rfl); (case hd7 => rfl); (case hw7 => rfl))
    | (go_at_call 12
       (with_reducible refine (HOP.out p1 _ (HK.out.from HB5.out) HP1.out).mono ?_)
       rintro e w6 ⟨p2, rfl, hp2, hbx⟩
       have HP2 := Lib.hid hp2
       have k0 := blk_below k0 hbx
       have k1 := blk_below k1 hbx
       have ke := blk_below ke hbx
       have HP1 := Lib.hid (HP1.out.below hbx)
       have HB6 := Lib.hid (HB5.out.trans (hbx.mono HB5.out.size))
       clear hp2 hbx)
    | ((with_reducible refine wpList_store_blk rfl 29 _ _ rfl w6.heap.size p2.arr ?hx32 ?hy32 29 _ (heap_alloc_new w6 _) HP2.out.whole ?hs32 (lp_one _) ?_); (case hx32 => rfl); (case hy32 => rfl); (case hs32 => exact (lp_size (p := Lp.zero) rfl).trans (lp_size HP2.out.hlen).symm)
       intro w7 hg k2 hs
       have hbx : Below w6.heap.size w6 w7 := Below.grows (one_alloc w6 _) hg (size_le_alloc _ _) (Nat.le_refl _)
       have k0 := blk_below k0 hbx
       have k1 := blk_below k1 hbx
       have ke := blk_below ke hbx
       have HP1 := Lib.hid (HP1.out.below hbx)
       have HP2 := Lib.hid (HP2.out.below hbx)
       have HB7 := Lib.hid (HB6.out.trans (hbx.mono HB6.out.size))
       have x3 := (lg_cells k0).2.2.2
       clear hbx hg hs))
  have HEL := Lib.hid (show (p1.m : Int) = (p.m : Int) + 1 by have a1 := HP1.out.ents.len; have a2 := HML.out; have a3 := HNL.out; omega)
  have HSR := Lib.hid (show p1.sure = (p1.n : Int) by rw [HP1.out.sure, HMS.out, HP1.out.data.len])
  have HDL := Lib.hid (show (p1.n : Int) = 62 * ((p.m : Int) + 1) by have a1 := HP1.out.data.len; have a2 := HMD.out; have a3 := HNL.out; omega)
  have hix : (p.m : Int) < p1.m := by have := HEL.out; omega
  obtain ⟨b1, off1, u1, hBe, hl1, hrg⟩ := HP1.out.ents.range p.m (by omega)
  have hu1 : u = u1 := by
    have a2 := HMI.out
    rw [HNL.out] at a2
    rw [a2] at hl1
    exact Option.some.inj hl1
  subst hu1
  obtain ⟨hup, hue⟩ := HP1.out.ents.upto p.m (p.m : Int) rfl (by omega)
  have hue : Ens w7 p1.B p.m p1.d g.l := by
    have a3 := HMT.out
    rw [HNL.out] at a3
    rw [a3] at hue
    exact hue
  have HEQ := Lib.hid (show ∀ w, (Op.equalIn 10000 33 (.agg (enA u)) (.agg (enA u))).run Tryd.prog w = .ok true w from fun w => by rw [eq_ens]; simp)
  have HBE := Lib.hid hBe
  clear x3 hBe
  have hSd : Below w7.heap.size w7 w7.drew := (Below.refl _ w7).drew
  refine wp_region_held_drew (S := fun X => Below w7.heap.size w7 X) (by kernel_rfl) hSd (fun hHeld => ?_)
  refine take_run 0 (.int .i64 0) rfl (by kernel_rfl) (by kernel_rfl) (by kernel_rfl) (fun _ _ _ h => h) rfl hHeld (fun w => ?_) ?_
  · go_simp
  simp only [Act.put, List.setIfInBounds_toArray, List.set_cons_zero, List.set_cons_succ]
  refine take_run 1 (.bool true) rfl (by kernel_rfl) (by kernel_rfl) (by kernel_rfl) (fun _ _ _ h => h) rfl hHeld (fun w => ?_) ?_
  · go_simp
  simp only [Act.put, List.setIfInBounds_toArray, List.set_cons_zero, List.set_cons_succ]
  refine take_run 2 (.bool true) rfl (by kernel_rfl) (by kernel_rfl) (by kernel_rfl) (fun _ _ _ h => h) rfl hHeld (fun w => ?_) ?_
  · go_simp
  simp only [Act.put, List.setIfInBounds_toArray, List.set_cons_zero, List.set_cons_succ]
  refine take_blk 3 29 _ w6.heap.size 29 p2.arr (0, 0) _ rfl rfl rfl (by kernel_rfl) (by kernel_rfl) (by kernel_rfl) (fun _ _ _ h => h) rfl hHeld (fun X hX => blk_below k2 hX) Tryd.underlying29 rfl HP2.out.whole ?_
  simp only [Act.put, List.setIfInBounds_toArray, List.set_cons_zero, List.set_cons_succ]
  refine take_blk 4 29 _ w4.heap.size 29 p1.arr (0, 0) _ rfl rfl rfl (by kernel_rfl) (by kernel_rfl) (by kernel_rfl) (fun _ _ _ h => h) rfl hHeld (fun X hX => blk_below k1 hX) Tryd.underlying29 rfl HP1.out.whole ?_
  simp only [Act.put, List.setIfInBounds_toArray, List.set_cons_zero, List.set_cons_succ]
  refine one_step 5 (by kernel_rfl) rfl (fun Kq hKq => ?_)
  go_simp
  go_at_call 13
  refine (HSM.out p2 p1 _ (HK.out.from (HB7.out.trans (hSd.mono HB7.out.size))) (HP2.out.below hSd) (HP1.out.below hSd)).mono ?_
  rintro e y1 ⟨rfl, hbx⟩
  have hS1 : Below w7.heap.size w7 y1 := hSd.trans (hbx.mono hSd.size)
  clear hbx
  refine hKq.out _ _ hS1 (fun hHeld0 => ?_)
  clear hKq Kq hHeld
  have hHeld := hHeld0
  clear hHeld0
  try simp only [Act.put, List.setIfInBounds_toArray, List.set_cons_zero, List.set_cons_succ]
  refine take_run 6 (.bool true) rfl (by kernel_rfl) (by kernel_rfl) (by kernel_rfl) (fun _ _ _ h => h) rfl hHeld (fun w => ?_) ?_
  · go_simp
  simp only [Act.put, List.setIfInBounds_toArray, List.set_cons_zero, List.set_cons_succ]
  refine take_run 7 (.bool true) rfl (by kernel_rfl) (by kernel_rfl) (by kernel_rfl) (fun _ _ _ h => h) rfl hHeld (fun w => ?_) ?_
  · go_simp
  simp only [Act.put, List.setIfInBounds_toArray, List.set_cons_zero, List.set_cons_succ]
  refine take_blk 8 29 _ w4.heap.size 29 p1.arr (0, 0) _ rfl rfl rfl (by kernel_rfl) (by kernel_rfl) (by kernel_rfl) (fun _ _ _ h => h) rfl hHeld (fun X hX => blk_below k1 hX) Tryd.underlying29 rfl HP1.out.whole ?_
  simp only [Act.put, List.setIfInBounds_toArray, List.set_cons_zero, List.set_cons_succ]
  refine one_step 9 (by kernel_rfl) rfl (fun Kq hKq => ?_)
  go_simp
  go_at_call 10
  refine (HMX.out p1 _ (HK.out.from (HB7.out.trans (hS1.mono HB7.out.size))) (HP1.out.below hS1)).mono ?_
  rintro e y2 ⟨rfl, hbx⟩
  have hS2 : Below w7.heap.size w7 y2 := hS1.trans (hbx.mono hS1.size)
  clear hbx
  refine hKq.out _ _ hS2 (fun hHeld0 => ?_)
  clear hKq Kq hHeld
  have hHeld := hHeld0
  clear hHeld0
  try simp only [Act.put, List.setIfInBounds_toArray, List.set_cons_zero, List.set_cons_succ]
  refine take_run 10 (.bool true) rfl (by kernel_rfl) (by kernel_rfl) (by kernel_rfl) (fun _ _ _ h => h) rfl hHeld (fun w => ?_) ?_
  · go_simp
  simp only [Act.put, List.setIfInBounds_toArray, List.set_cons_zero, List.set_cons_succ]
  refine take_run 11 (.bool true) rfl (by kernel_rfl) (by kernel_rfl) (by kernel_rfl) (fun _ _ _ h => h) rfl hHeld (fun w => ?_) ?_
  · go_simp
  simp only [Act.put, List.setIfInBounds_toArray, List.set_cons_zero, List.set_cons_succ]
  refine take_run 12 (.pointer (some ⟨w4.heap.size, 3, none⟩)) rfl (by kernel_rfl) (by kernel_rfl) (by kernel_rfl) (fun _ _ _ h => h) rfl hHeld (fun w => ?_) ?_
  · go_simp
  simp only [Act.put, List.setIfInBounds_toArray, List.set_cons_zero, List.set_cons_succ]
  refine take_if 13 (.slice p1.B p1.m p1.d) rfl (by kernel_rfl) (by kernel_rfl) (by kernel_rfl) (fun _ _ _ h => h) rfl hHeld (fun w' hw' => ?_) ?_
  · have hq := (lg_cells (blk_below k1 hw')).2.2.2
    go_simp
  simp only [Act.put, List.setIfInBounds_toArray, List.set_cons_zero, List.set_cons_succ]
  refine take_run 14 (.int .i64 (p1.m : Nat)) rfl (by kernel_rfl) (by kernel_rfl) (by kernel_rfl) (fun _ _ _ h => h) rfl hHeld (fun w => ?_) ?_
  · go_simp
  simp only [Act.put, List.setIfInBounds_toArray, List.set_cons_zero, List.set_cons_succ]
  refine take_run 15 (.int .i64 (p.m : Int)) rfl (by kernel_rfl) (by kernel_rfl) (by kernel_rfl) (fun _ _ _ h => h) rfl hHeld (fun w => ?_) ?_
  · go_simp
  simp only [Act.put, List.setIfInBounds_toArray, List.set_cons_zero, List.set_cons_succ]
  refine take_run 16 (.int .i64 ((p.m : Int) + 1)) rfl (by kernel_rfl) (by kernel_rfl) (by kernel_rfl) (fun _ _ _ h => h) rfl hHeld (fun w => ?_) ?_
  · go_simp
  simp only [Act.put, List.setIfInBounds_toArray, List.set_cons_zero, List.set_cons_succ]
  refine take_run 17 (.bool true) rfl (by kernel_rfl) (by kernel_rfl) (by kernel_rfl) (fun _ _ _ h => h) rfl hHeld (fun w => ?_) ?_
  · have hq : ((p1.m : Int) = (p.m : Int) + 1) := HEL.out; go_simp
  simp only [Act.put, List.setIfInBounds_toArray, List.set_cons_zero, List.set_cons_succ]
  refine take_run 18 (.bool true) rfl (by kernel_rfl) (by kernel_rfl) (by kernel_rfl) (fun _ _ _ h => h) rfl hHeld (fun w => ?_) ?_
  · go_simp
  simp only [Act.put, List.setIfInBounds_toArray, List.set_cons_zero, List.set_cons_succ]
  refine take_run 19 (.bool true) rfl (by kernel_rfl) (by kernel_rfl) (by kernel_rfl) (fun _ _ _ h => h) rfl hHeld (fun w => ?_) ?_
  · go_simp
  simp only [Act.put, List.setIfInBounds_toArray, List.set_cons_zero, List.set_cons_succ]
  refine take_run 20 (.pointer (some ⟨w4.heap.size, 3, none⟩)) rfl (by kernel_rfl) (by kernel_rfl) (by kernel_rfl) (fun _ _ _ h => h) rfl hHeld (fun w => ?_) ?_
  · go_simp
  simp only [Act.put, List.setIfInBounds_toArray, List.set_cons_zero, List.set_cons_succ]
  refine take_if 21 (.slice p1.B p1.m p1.d) rfl (by kernel_rfl) (by kernel_rfl) (by kernel_rfl) (fun _ _ _ h => h) rfl hHeld (fun w' hw' => ?_) ?_
  · have hq := (lg_cells (blk_below k1 hw')).2.2.2
    go_simp
  simp only [Act.put, List.setIfInBounds_toArray, List.set_cons_zero, List.set_cons_succ]
  refine take_run 22 (.int .i64 (p.m : Int)) rfl (by kernel_rfl) (by kernel_rfl) (by kernel_rfl) (fun _ _ _ h => h) rfl hHeld (fun w => ?_) ?_
  · go_simp
  simp only [Act.put, List.setIfInBounds_toArray, List.set_cons_zero, List.set_cons_succ]
  refine take_run 23 (.pointer (some ⟨b1, off1 + p.m * 9, none⟩)) rfl (by kernel_rfl) (by kernel_rfl) (by kernel_rfl) (fun _ _ _ h => h) rfl hHeld (fun w => ?_) ?_
  · have hq := HBE.out; have hq1 := hix; go_simp
  simp only [Act.put, List.setIfInBounds_toArray, List.set_cons_zero, List.set_cons_succ]
  refine take_if 24 (.agg (enA u)) rfl (by kernel_rfl) (by kernel_rfl) (by kernel_rfl) (fun _ _ _ h => h) rfl hHeld (fun w' hw' => ?_) ?_
  · exact run_load_en rfl rfl (rangeAt_below hrg hw')
  simp only [Act.put, List.setIfInBounds_toArray, List.set_cons_zero, List.set_cons_succ]
  refine take_blk 25 33 _ (w.heap.size + 1) 33 (enA u) (0, 0) _ rfl rfl rfl (by kernel_rfl) (by kernel_rfl) (by kernel_rfl) (fun _ _ _ h => h) rfl hHeld (fun X hX => blk_below ke hX) Tryd.underlying33 rfl (info_en (enA_size _)) ?_
  simp only [Act.put, List.setIfInBounds_toArray, List.set_cons_zero, List.set_cons_succ]
  refine take_run 26 (.bool true) rfl (by kernel_rfl) (by kernel_rfl) (by kernel_rfl) (fun _ _ _ h => h) rfl hHeld (fun w' => ?_) ?_
  · exact run_eq_en rfl rfl rfl (.inl ⟨rfl, rfl⟩) (HEQ.out w')
  simp only [Act.put, List.setIfInBounds_toArray, List.set_cons_zero, List.set_cons_succ]
  refine take_run 27 (.bool true) rfl (by kernel_rfl) (by kernel_rfl) (by kernel_rfl) (fun _ _ _ h => h) rfl hHeld (fun w => ?_) ?_
  · go_simp
  simp only [Act.put, List.setIfInBounds_toArray, List.set_cons_zero, List.set_cons_succ]
  refine take_run 28 (.bool true) rfl (by kernel_rfl) (by kernel_rfl) (by kernel_rfl) (fun _ _ _ h => h) rfl hHeld (fun w => ?_) ?_
  · go_simp
  simp only [Act.put, List.setIfInBounds_toArray, List.set_cons_zero, List.set_cons_succ]
  refine take_run 29 (.pointer (some ⟨w4.heap.size, 3, none⟩)) rfl (by kernel_rfl) (by kernel_rfl) (by kernel_rfl) (fun _ _ _ h => h) rfl hHeld (fun w => ?_) ?_
  · go_simp
  simp only [Act.put, List.setIfInBounds_toArray, List.set_cons_zero, List.set_cons_succ]
  refine take_if 30 (.slice p1.B p1.m p1.d) rfl (by kernel_rfl) (by kernel_rfl) (by kernel_rfl) (fun _ _ _ h => h) rfl hHeld (fun w' hw' => ?_) ?_
  · have hq := (lg_cells (blk_below k1 hw')).2.2.2
    go_simp
  simp only [Act.put, List.setIfInBounds_toArray, List.set_cons_zero, List.set_cons_succ]
  refine take_run 31 (.int .i64 (p.m : Int)) rfl (by kernel_rfl) (by kernel_rfl) (by kernel_rfl) (fun _ _ _ h => h) rfl hHeld (fun w => ?_) ?_
  · go_simp
  simp only [Act.put, List.setIfInBounds_toArray, List.set_cons_zero, List.set_cons_succ]
  refine take_run 32 (.slice p1.B p.m p1.d) rfl (by kernel_rfl) (by kernel_rfl) (by kernel_rfl) (fun _ _ _ h => h) rfl hHeld (fun w => ?_) ?_
  · have hq := hup w; go_simp
  simp only [Act.put, List.setIfInBounds_toArray, List.set_cons_zero, List.set_cons_succ]
  refine take_run 33 (.pointer (some ⟨w.heap.size, 3, none⟩)) rfl (by kernel_rfl) (by kernel_rfl) (by kernel_rfl) (fun _ _ _ h => h) rfl hHeld (fun w => ?_) ?_
  · go_simp
  simp only [Act.put, List.setIfInBounds_toArray, List.set_cons_zero, List.set_cons_succ]
  refine take_if 34 (.slice p.B p.m p.d) rfl (by kernel_rfl) (by kernel_rfl) (by kernel_rfl) (fun _ _ _ h => h) rfl hHeld (fun w' hw' => ?_) ?_
  · have hq := (lg_cells (blk_below k0 hw')).2.2.2
    go_simp
  simp only [Act.put, List.setIfInBounds_toArray, List.set_cons_zero, List.set_cons_succ]
  refine one_step 35 (by kernel_rfl) rfl (fun Kq hKq => ?_)
  go_simp
  go_at_call 14
  refine (HES.out p1.B p.m p1.d p.B p.m p.d _ (hue.below hS2) (HP.out.ents.below (HB7.out.trans (hS2.mono HB7.out.size)))).mono ?_
  rintro e y3 ⟨rfl, hbx⟩
  have hS3 : Below w7.heap.size w7 y3 := hS2.trans (hbx.mono hS2.size)
  clear hbx
  refine hKq.out _ _ hS3 (fun hHeld0 => ?_)
  clear hKq Kq hHeld
  have hHeld := hHeld0
  clear hHeld0
  try simp only [Act.put, List.setIfInBounds_toArray, List.set_cons_zero, List.set_cons_succ]
  refine take_run 36 (.bool true) rfl (by kernel_rfl) (by kernel_rfl) (by kernel_rfl) (fun _ _ _ h => h) rfl hHeld (fun w => ?_) ?_
  · go_simp
  simp only [Act.put, List.setIfInBounds_toArray, List.set_cons_zero, List.set_cons_succ]
  refine take_run 37 (.bool true) rfl (by kernel_rfl) (by kernel_rfl) (by kernel_rfl) (fun _ _ _ h => h) rfl hHeld (fun w => ?_) ?_
  · go_simp
  simp only [Act.put, List.setIfInBounds_toArray, List.set_cons_zero, List.set_cons_succ]
  refine take_run 38 (.pointer (some ⟨w4.heap.size, 0, none⟩)) rfl (by kernel_rfl) (by kernel_rfl) (by kernel_rfl) (fun _ _ _ h => h) rfl hHeld (fun w => ?_) ?_
  · go_simp
  simp only [Act.put, List.setIfInBounds_toArray, List.set_cons_zero, List.set_cons_succ]
  refine take_run 39 (.pointer (some ⟨w4.heap.size, 2, none⟩)) rfl (by kernel_rfl) (by kernel_rfl) (by kernel_rfl) (fun _ _ _ h => h) rfl hHeld (fun w => ?_) ?_
  · go_simp
  simp only [Act.put, List.setIfInBounds_toArray, List.set_cons_zero, List.set_cons_succ]
  refine take_if 40 (.int .i64 p1.sure) rfl (by kernel_rfl) (by kernel_rfl) (by kernel_rfl) (fun _ _ _ h => h) rfl hHeld (fun w' hw' => ?_) ?_
  · have hq := (lg_cells (blk_below k1 hw')).2.2.1
    go_simp
  simp only [Act.put, List.setIfInBounds_toArray, List.set_cons_zero, List.set_cons_succ]
  refine take_run 41 (.pointer (some ⟨w4.heap.size, 0, none⟩)) rfl (by kernel_rfl) (by kernel_rfl) (by kernel_rfl) (fun _ _ _ h => h) rfl hHeld (fun w => ?_) ?_
  · go_simp
  simp only [Act.put, List.setIfInBounds_toArray, List.set_cons_zero, List.set_cons_succ]
  refine take_run 42 (.pointer (some ⟨w4.heap.size, 1, none⟩)) rfl (by kernel_rfl) (by kernel_rfl) (by kernel_rfl) (fun _ _ _ h => h) rfl hHeld (fun w => ?_) ?_
  · go_simp
  simp only [Act.put, List.setIfInBounds_toArray, List.set_cons_zero, List.set_cons_succ]
  refine take_if 43 (.slice p1.A p1.n p1.c) rfl (by kernel_rfl) (by kernel_rfl) (by kernel_rfl) (fun _ _ _ h => h) rfl hHeld (fun w' hw' => ?_) ?_
  · have hq := (lg_cells (blk_below k1 hw')).2.1
    go_simp
  simp only [Act.put, List.setIfInBounds_toArray, List.set_cons_zero, List.set_cons_succ]
  refine take_run 44 (.int .i64 (p1.n : Nat)) rfl (by kernel_rfl) (by kernel_rfl) (by kernel_rfl) (fun _ _ _ h => h) rfl hHeld (fun w => ?_) ?_
  · go_simp
  simp only [Act.put, List.setIfInBounds_toArray, List.set_cons_zero, List.set_cons_succ]
  refine take_run 45 (.bool true) rfl (by kernel_rfl) (by kernel_rfl) (by kernel_rfl) (fun _ _ _ h => h) rfl hHeld (fun w => ?_) ?_
  · have hq : p1.sure = (p1.n : Int) := HSR.out; go_simp
  simp only [Act.put, List.setIfInBounds_toArray, List.set_cons_zero, List.set_cons_succ]
  refine take_run 46 (.bool true) rfl (by kernel_rfl) (by kernel_rfl) (by kernel_rfl) (fun _ _ _ h => h) rfl hHeld (fun w => ?_) ?_
  · go_simp
  simp only [Act.put, List.setIfInBounds_toArray, List.set_cons_zero, List.set_cons_succ]
  refine take_run 47 (.bool true) rfl (by kernel_rfl) (by kernel_rfl) (by kernel_rfl) (fun _ _ _ h => h) rfl hHeld (fun w => ?_) ?_
  · go_simp
  simp only [Act.put, List.setIfInBounds_toArray, List.set_cons_zero, List.set_cons_succ]
  refine take_run 48 (.pointer (some ⟨w4.heap.size, 0, none⟩)) rfl (by kernel_rfl) (by kernel_rfl) (by kernel_rfl) (fun _ _ _ h => h) rfl hHeld (fun w => ?_) ?_
  · go_simp
  simp only [Act.put, List.setIfInBounds_toArray, List.set_cons_zero, List.set_cons_succ]
  refine take_run 49 (.pointer (some ⟨w4.heap.size, 1, none⟩)) rfl (by kernel_rfl) (by kernel_rfl) (by kernel_rfl) (fun _ _ _ h => h) rfl hHeld (fun w => ?_) ?_
  · go_simp
  simp only [Act.put, List.setIfInBounds_toArray, List.set_cons_zero, List.set_cons_succ]
  refine take_if 50 (.slice p1.A p1.n p1.c) rfl (by kernel_rfl) (by kernel_rfl) (by kernel_rfl) (fun _ _ _ h => h) rfl hHeld (fun w' hw' => ?_) ?_
  · have hq := (lg_cells (blk_below k1 hw')).2.1
    go_simp
  simp only [Act.put, List.setIfInBounds_toArray, List.set_cons_zero, List.set_cons_succ]
  refine take_run 51 (.int .i64 (p1.n : Nat)) rfl (by kernel_rfl) (by kernel_rfl) (by kernel_rfl) (fun _ _ _ h => h) rfl hHeld (fun w => ?_) ?_
  · go_simp
  simp only [Act.put, List.setIfInBounds_toArray, List.set_cons_zero, List.set_cons_succ]
  refine take_run 52 (.int .i64 (p.m : Int)) rfl (by kernel_rfl) (by kernel_rfl) (by kernel_rfl) (fun _ _ _ h => h) rfl hHeld (fun w => ?_) ?_
  · go_simp
  simp only [Act.put, List.setIfInBounds_toArray, List.set_cons_zero, List.set_cons_succ]
  refine take_run 53 (.int .i64 ((p.m : Int) + 1)) rfl (by kernel_rfl) (by kernel_rfl) (by kernel_rfl) (fun _ _ _ h => h) rfl hHeld (fun w => ?_) ?_
  · go_simp
  simp only [Act.put, List.setIfInBounds_toArray, List.set_cons_zero, List.set_cons_succ]
  refine take_run 54 (.int .i64 (62 * ((p.m : Int) + 1))) rfl (by kernel_rfl) (by kernel_rfl) (by kernel_rfl) (fun _ _ _ h => h) rfl hHeld (fun w => ?_) ?_
  · go_simp
  simp only [Act.put, List.setIfInBounds_toArray, List.set_cons_zero, List.set_cons_succ]
  refine take_run 55 (.bool true) rfl (by kernel_rfl) (by kernel_rfl) (by kernel_rfl) (fun _ _ _ h => h) rfl hHeld (fun w => ?_) ?_
  · have hq : ((p1.n : Int) = 62 * ((p.m : Int) + 1)) := HDL.out; go_simp
  simp only [Act.put, List.setIfInBounds_toArray, List.set_cons_zero, List.set_cons_succ]
  refine take_run 56 (.bool true) rfl (by kernel_rfl) (by kernel_rfl) (by kernel_rfl) (fun _ _ _ h => h) rfl hHeld (fun w => ?_) ?_
  · go_simp
  simp only [Act.put, List.setIfInBounds_toArray, List.set_cons_zero, List.set_cons_succ]
  refine take_run 57 (.bool true) rfl (by kernel_rfl) (by kernel_rfl) (by kernel_rfl) (fun _ _ _ h => h) rfl hHeld (fun w => ?_) ?_
  · go_simp
  simp only [Act.put, List.setIfInBounds_toArray, List.set_cons_zero, List.set_cons_succ]
  refine wpAnyH_done (by kernel_rfl) ?_ _
  go_wp2
  go_ret
  exact ⟨rfl, HB7.out.trans (hS3.mono HB7.out.size)⟩
theorem aaddsw_any (HA : AudOk) (p : Lp) (g : Lg) (u : En) (urg : Bool) (w : World) (hK : KTab w) (h : LgAt w p g) (hu : u.ok) :
    Calls Tryd.prog 3 #[.agg p.arr, enV u, .bool urg] w fun e w' => e = .returned (.bool true) ∧ Below w.heap.size w w' := by
  cases hf : fewG g with
  | false => exact aaddsw_few HA p g u urg w hK h hu hf
  | true =>
    cases hm : mayG g with
    | false => exact aaddsw_may HA p g u urg w hK h hu hf hm
    | true =>
      rcases add_cases (e := u) (u := urg) hm with ⟨h1, h2⟩ | ⟨h0, h1, h2⟩ | ⟨he, -, hr, h2⟩
      · exact aaddsw_err HA p g u urg w hK h hu hf hm (by rw [h2]; show ¬ (1 : Int) = 0; decide) (by rw [h2])
      · exact aaddsw_err HA p g u urg w hK h hu hf hm (by rw [h2]; show ¬ (12 : Int) = 0; decide) (by rw [h2])
      · exact aaddsw_ok HA p g u urg w hK h hu hf hm h2 (more_may hm he hr) (open_log (more_may hm he hr) (more_ok h.ok.each hu))
end Go.Proofs.YtafmompplcaadaaDoor
