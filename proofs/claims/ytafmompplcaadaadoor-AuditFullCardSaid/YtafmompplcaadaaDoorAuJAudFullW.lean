/- The walk over the law AuditFull: as long as there is room an entry is taken. -/
import Derived.Test.YtafmompplcaadaaDoorAuJJ
import Derived.Test.YtafmompplcaadaaDoorAuJD
namespace Go.Proofs.YtafmompplcaadaaDoor
set_option maxRecDepth 100000
set_option linter.unusedVariables false
set_option linter.unusedSimpArgs false
open Go.RowKit

set_option maxHeartbeats 4000000 in
theorem afullw_few (HA : AudOk) (p : Lp) (g : Lg) (u : En) (w : World) (hK : KTab w) (h : LgAt w p g) (hu : u.ok) (hf : fewG g = false) :
    Calls Tryd.prog 6 #[.agg p.arr, enV u] w fun e w' => e = .returned (.bool true) ∧ Below w.heap.size w w' := by
  have HK := Lib.hid hK
  have HAW := Lib.hid (fun (X : World) (hk : KTab X) => aawake_any HA X hk)
  have HFW := Lib.hid (fun (X : World) (hX : Below w.heap.size w X) => afew_any p g X (h.below hX))
  have HW := Lib.hid h.whole
  have HEM := Lib.hid (fun (X : World) => emay_any u X)
  simp only [hf] at HFW
  clear h hu hK HA hf
  unfold enV at HEM ⊢
  go_enter Tryd.func6, Tryd.ntmps6
  go_wp2_with (first
    | (go_at_call 8
       (with_reducible refine (HAW.out _ (HK.out.from (two_below w _ _))).mono ?_)
       rintro e w1 ⟨rfl, hb1⟩
       obtain ⟨hb0, hz1, y0, y1⟩ := after_two hb1
       have k0 : w1.heap[w.heap.size]? = some (.cells p.arr 29 (0, 0)) := y0
       have ke : w1.heap[w.heap.size + 1]? = some (.cells (enA u) 33 (0, 0)) := y1
       have HB1 := Lib.hid hb0
       clear hb1 hb0 y0 y1 hz1)
    | ((with_reducible refine wpList_load_blk 29 _ rfl w.heap.size ?hx1 29 p.arr (0, 0) _ k0 Tryd.underlying29 ?hd1 HW.out ?_ ?hw1); (case hx1 => rfl); (case hd1 => rfl); (case hw1 => rfl))
    | (go_at_call 9
       (with_reducible refine (HFW.out _ HB1.out).mono ?_)
       rintro e w2 ⟨rfl, hbx⟩
       have k0 := blk_below k0 hbx
       have ke := blk_below ke hbx
       have HB2 := Lib.hid (HB1.out.trans (hbx.mono HB1.out.size))
       clear hbx))
  go_ret
  exact ⟨rfl, HB2.out⟩
set_option maxHeartbeats 4000000 in
theorem afullw_may (HA : AudOk) (p : Lp) (g : Lg) (u : En) (w : World) (hK : KTab w) (h : LgAt w p g) (hu : u.ok) (hf : fewG g = true) (hm : mayG g = false) :
    Calls Tryd.prog 6 #[.agg p.arr, enV u] w fun e w' => e = .returned (.bool true) ∧ Below w.heap.size w w' := by
  have HK := Lib.hid hK
  have HAW := Lib.hid (fun (X : World) (hk : KTab X) => aawake_any HA X hk)
  have HFW := Lib.hid (fun (X : World) (hX : Below w.heap.size w X) => afew_any p g X (h.below hX))
  have HW := Lib.hid h.whole
  have HEM := Lib.hid (fun (X : World) => emay_any u X)
  obtain ⟨hsm, hl30, hd25⟩ := few_sm hf
  simp only [hf] at HFW
  have HMY := Lib.hid (fun (X : World) (hk : KTab X) (hX : Below w.heap.size w X) => HA.may p g X hk (h.below hX) hsm)
  simp only [hm] at HMY
  clear h hu hK HA hf hm hsm hl30 hd25
  unfold enV at HEM ⊢
  go_enter Tryd.func6, Tryd.ntmps6
  go_wp2_with (first
    | (go_at_call 8
       (with_reducible refine (HAW.out _ (HK.out.from (two_below w _ _))).mono ?_)
       rintro e w1 ⟨rfl, hb1⟩
       obtain ⟨hb0, hz1, y0, y1⟩ := after_two hb1
       have k0 : w1.heap[w.heap.size]? = some (.cells p.arr 29 (0, 0)) := y0
       have ke : w1.heap[w.heap.size + 1]? = some (.cells (enA u) 33 (0, 0)) := y1
       have HB1 := Lib.hid hb0
       clear hb1 hb0 y0 y1 hz1)
    | ((with_reducible refine wpList_load_blk 29 _ rfl w.heap.size ?hx1 29 p.arr (0, 0) _ k0 Tryd.underlying29 ?hd1 HW.out ?_ ?hw1); (case hx1 => rfl); (case hd1 => rfl); (case hw1 => rfl))
    | (go_at_call 9
       (with_reducible refine (HFW.out _ HB1.out).mono ?_)
       rintro e w2 ⟨rfl, hbx⟩
       have k0 := blk_below k0 hbx
       have ke := blk_below ke hbx
       have HB2 := Lib.hid (HB1.out.trans (hbx.mono HB1.out.size))
       clear hbx)
    | (go_at_call 10
       (with_reducible refine (HMY.out _ (HK.out.from HB2.out) HB2.out).mono ?_)
       rintro e w3 ⟨rfl, hbx⟩
       have k0 := blk_below k0 hbx
       have ke := blk_below ke hbx
       have HB3 := Lib.hid (HB2.out.trans (hbx.mono HB2.out.size))
       clear hbx))
  go_ret
  exact ⟨rfl, HB3.out⟩
set_option maxHeartbeats 4000000 in
theorem afullw_ent (HA : AudOk) (p : Lp) (g : Lg) (u : En) (w : World) (hK : KTab w) (h : LgAt w p g) (hu : u.ok) (hf : fewG g = true) (hm : mayG g = true) (he : mayE u = false) :
    Calls Tryd.prog 6 #[.agg p.arr, enV u] w fun e w' => e = .returned (.bool true) ∧ Below w.heap.size w w' := by
  have HK := Lib.hid hK
  have HAW := Lib.hid (fun (X : World) (hk : KTab X) => aawake_any HA X hk)
  have HFW := Lib.hid (fun (X : World) (hX : Below w.heap.size w X) => afew_any p g X (h.below hX))
  have HW := Lib.hid h.whole
  have HEM := Lib.hid (fun (X : World) => emay_any u X)
  obtain ⟨hsm, hl30, hd25⟩ := few_sm hf
  simp only [hf] at HFW
  have HMY := Lib.hid (fun (X : World) (hk : KTab X) (hX : Below w.heap.size w X) => HA.may p g X hk (h.below hX) hsm)
  simp only [hm] at HMY
  rw [he] at HEM
  clear h hu hK HA hf hm hsm hl30 hd25 he
  unfold enV at HEM ⊢
  go_enter Tryd.func6, Tryd.ntmps6
  go_wp2_with (first
    | (go_at_call 8
       (with_reducible refine (HAW.out _ (HK.out.from (two_below w _ _))).mono ?_)
       rintro e w1 ⟨rfl, hb1⟩
       obtain ⟨hb0, hz1, y0, y1⟩ := after_two hb1
       have k0 : w1.heap[w.heap.size]? = some (.cells p.arr 29 (0, 0)) := y0
       have ke : w1.heap[w.heap.size + 1]? = some (.cells (enA u) 33 (0, 0)) := y1
       have HB1 := Lib.hid hb0
       clear hb1 hb0 y0 y1 hz1)
    | ((with_reducible refine wpList_load_blk 29 _ rfl w.heap.size ?hx1 29 p.arr (0, 0) _ k0 Tryd.underlying29 ?hd1 HW.out ?_ ?hw1); (case hx1 => rfl); (case hd1 => rfl); (case hw1 => rfl))
    | ((with_reducible refine wpList_load_blk 33 _ rfl (w.heap.size + 1) ?hx2 33 (enA u) (0, 0) _ ke Tryd.underlying33 ?hd2 (info_en (enA_size _)) ?_ ?hw2); (case hx2 => rfl); (case hd2 => rfl); (case hw2 => rfl))
    | (go_at_call 9
       (with_reducible refine (HFW.out _ HB1.out).mono ?_)
       rintro e w2 ⟨rfl, hbx⟩
       have k0 := blk_below k0 hbx
       have ke := blk_below ke hbx
       have HB2 := Lib.hid (HB1.out.trans (hbx.mono HB1.out.size))
       clear hbx)
    | (go_at_call 10
       (with_reducible refine (HMY.out _ (HK.out.from HB2.out) HB2.out).mono ?_)
       rintro e w3 ⟨rfl, hbx⟩
       have k0 := blk_below k0 hbx
       have ke := blk_below ke hbx
       have HB3 := Lib.hid (HB2.out.trans (hbx.mono HB2.out.size))
       clear hbx)
    | (go_at_call 18
       (with_reducible refine (HEM.out _).mono ?_)
       rintro e w4 ⟨rfl, hbx⟩
       have k0 := blk_below k0 hbx
       have ke := blk_below ke hbx
       have HB4 := Lib.hid (HB3.out.trans (hbx.mono HB3.out.size))
       clear hbx))
  go_ret
  exact ⟨rfl, HB4.out⟩
set_option maxHeartbeats 4000000 in
theorem afullw_none (HA : AudOk) (p : Lp) (g : Lg) (u : En) (w : World) (hK : KTab w) (h : LgAt w p g) (hu : u.ok) (hf : fewG g = true) (hm : mayG g = true) (he : mayE u = true) (hlo : slotsG g ≤ g.l.length) (hp1 : addG g u false = (g, 12)) (hp2 : addG g u true = (g, 12)) :
    Calls Tryd.prog 6 #[.agg p.arr, enV u] w fun e w' => e = .returned (.bool true) ∧ Below w.heap.size w w' := by
  have HK := Lib.hid hK
  have HAW := Lib.hid (fun (X : World) (hk : KTab X) => aawake_any HA X hk)
  have HFW := Lib.hid (fun (X : World) (hX : Below w.heap.size w X) => afew_any p g X (h.below hX))
  have HW := Lib.hid h.whole
  have HEM := Lib.hid (fun (X : World) => emay_any u X)
  obtain ⟨hsm, hl30, hd25⟩ := few_sm hf
  simp only [hf] at HFW
  have HMY := Lib.hid (fun (X : World) (hk : KTab X) (hX : Below w.heap.size w X) => HA.may p g X hk (h.below hX) hsm)
  simp only [hm] at HMY
  rw [he] at HEM
  have h1 := h.ents.len
  have hrm := room_in hm
  have hsq : slotsG g = p.cap.tdiv 62 := by rw [slotsG, h.cap]
  have hs := slots_at h.fits
  have hb := slots_most (mayG_iff.1 hm).1
  have hae1 := add_sm (e := u) (u := false) hm hsm hl30
  have hae2 := add_sm (e := u) (u := true) hm hsm hl30
  have HA1 := Lib.hid (fun (X : World) (hk : KTab X) (hX : Below w.heap.size w X) => HA.add p g u false X hk (h.below hX) hsm hu)
  have HA2 := Lib.hid (fun (X : World) (hk : KTab X) (hX : Below w.heap.size w X) => HA.add p g u true X hk (h.below hX) hsm hu)
  have HRM := Lib.hid (fun (X : World) (hk : KTab X) (hX : Below w.heap.size w X) => HA.room p g X hk (h.below hX) hsm)
  rw [hsq] at hrm hb hlo
  rw [hrm] at HRM
  rw [hp1] at HA1 hae1
  rw [hp2] at HA2 hae2
  have hmx : max (p.cap.tdiv 62 - 4 - (g.l.length : Int)) 0 = 0 := by omega
  rw [hmx] at HRM
  obtain ⟨Q, hQ⟩ : ∃ Q, p.cap.tdiv 62 = Q := ⟨_, rfl⟩
  rw [hQ] at hb hlo hs
  have hw0 : IntKind.i64.wrap (Q - 4) = Q - 4 := by rw [IntKind.wrap_i64]; omega
  have hw1 : IntKind.i64.wrap (Q - 4 - (p.m : Int)) = Q - 4 - (p.m : Int) := by rw [IntKind.wrap_i64]; omega
  have hwq : IntKind.i64.wrap (p.cap.tdiv 62) = Q := by rw [hQ, IntKind.wrap_i64]; omega
  have hl : ¬ (p.m : Int) < Q := by omega
  clear h hu hK HA hf hm hsm hl30 hd25 he h1 hrm hsq hb hlo hae1 hae2 hp1 hp2 hmx
  unfold enV at HEM ⊢
  go_enter Tryd.func6, Tryd.ntmps6
  go_wp2_with (first
    | (go_at_call 8
       (with_reducible refine (HAW.out _ (HK.out.from (two_below w _ _))).mono ?_)
       rintro e w1 ⟨rfl, hb1⟩
       obtain ⟨hb0, hz1, y0, y1⟩ := after_two hb1
       have k0 : w1.heap[w.heap.size]? = some (.cells p.arr 29 (0, 0)) := y0
       have ke : w1.heap[w.heap.size + 1]? = some (.cells (enA u) 33 (0, 0)) := y1
       have HB1 := Lib.hid hb0
       clear hb1 hb0 y0 y1 hz1)
    | ((with_reducible refine wpList_load_blk 29 _ rfl w.heap.size ?hx1 29 p.arr (0, 0) _ k0 Tryd.underlying29 ?hd1 HW.out ?_ ?hw1); (case hx1 => rfl); (case hd1 => rfl); (case hw1 => rfl))
    | ((with_reducible refine wpList_load_blk 33 _ rfl (w.heap.size + 1) ?hx2 33 (enA u) (0, 0) _ ke Tryd.underlying33 ?hd2 (info_en (enA_size _)) ?_ ?hw2); (case hx2 => rfl); (case hd2 => rfl); (case hw2 => rfl))
    | (go_at_call 9
       (with_reducible refine (HFW.out _ HB1.out).mono ?_)
       rintro e w2 ⟨rfl, hbx⟩
       have k0 := blk_below k0 hbx
       have ke := blk_below ke hbx
       have HB2 := Lib.hid (HB1.out.trans (hbx.mono HB1.out.size))
       clear hbx)
    | (go_at_call 10
       (with_reducible refine (HMY.out _ (HK.out.from HB2.out) HB2.out).mono ?_)
       rintro e w3 ⟨rfl, hbx⟩
       have k0 := blk_below k0 hbx
       have ke := blk_below ke hbx
       have HB3 := Lib.hid (HB2.out.trans (hbx.mono HB2.out.size))
       clear hbx)
    | (go_at_call 18
       (with_reducible refine (HEM.out _).mono ?_)
       rintro e w4 ⟨rfl, hbx⟩
       have k0 := blk_below k0 hbx
       have ke := blk_below ke hbx
       have HB4 := Lib.hid (HB3.out.trans (hbx.mono HB3.out.size))
       clear hbx)
    | (go_at_call 11
       (with_reducible refine (HA1.out _ (HK.out.from HB4.out) HB4.out).mono ?_)
       rintro e w5 ⟨p1, rfl, hp1, hbx⟩
       have HP1 := Lib.hid hp1
       have k0 := blk_below k0 hbx
       have ke := blk_below ke hbx
       have HB5 := Lib.hid (HB4.out.trans (hbx.mono HB4.out.size))
       clear hp1 hbx)
    | ((with_reducible refine wpList_store_blk rfl 29 _ _ rfl w5.heap.size p1.arr ?hx31 ?hy31 29 _ (heap_alloc_new w5 _) HP1.out.whole ?hs31 (lp_one _) ?_); (case hx31 => rfl); (case hy31 => rfl); (case hs31 => exact (lp_size (p := Lp.zero) rfl).trans (lp_size HP1.out.hlen).symm)
       intro w6 hg k1 hs
       have hbx : Below w5.heap.size w5 w6 := Below.grows (one_alloc w5 _) hg (size_le_alloc _ _) (Nat.le_refl _)
       have k0 := blk_below k0 hbx
       have ke := blk_below ke hbx
       have HP1 := Lib.hid (HP1.out.below hbx)
       have HB6 := Lib.hid (HB5.out.trans (hbx.mono HB5.out.size))
       clear hbx hg hs)
    | (go_at_call 11
       (with_reducible refine (HA2.out _ (HK.out.from HB6.out) HB6.out).mono ?_)
       rintro e w7 ⟨p2, rfl, hp2, hbx⟩
       have HP2 := Lib.hid hp2
       have k0 := blk_below k0 hbx
       have k1 := blk_below k1 hbx
       have ke := blk_below ke hbx
       have HP1 := Lib.hid (HP1.out.below hbx)
       have HB7 := Lib.hid (HB6.out.trans (hbx.mono HB6.out.size))
       clear hp2 hbx)
    | ((with_reducible refine wpList_store_blk rfl 29 _ _ rfl w7.heap.size p2.arr ?hx32 ?hy32 29 _ (heap_alloc_new w7 _) HP2.out.whole ?hs32 (lp_one _) ?_); (case hx32 => rfl); (case hy32 => rfl); (case hs32 => exact (lp_size (p := Lp.zero) rfl).trans (lp_size HP2.out.hlen).symm)
       intro w8 hg k2 hs
       have hbx : Below w7.heap.size w7 w8 := Below.grows (one_alloc w7 _) hg (size_le_alloc _ _) (Nat.le_refl _)
       have k0 := blk_below k0 hbx
       have k1 := blk_below k1 hbx
       have HP1 := Lib.hid (HP1.out.below hbx)
       have HP2 := Lib.hid (HP2.out.below hbx)
       have HB8 := Lib.hid (HB7.out.trans (hbx.mono HB7.out.size))
       clear hbx hg hs)
    | (go_at_call 19
       (with_reducible refine (HRM.out _ (HK.out.from HB8.out) HB8.out).mono ?_)
       rintro e w9 ⟨rfl, hbx⟩
       have k0 := blk_below k0 hbx
       have k1 := blk_below k1 hbx
       have k2 := blk_below k2 hbx
       have HP1 := Lib.hid (HP1.out.below hbx)
       have HP2 := Lib.hid (HP2.out.below hbx)
       have HB9 := Lib.hid (HB8.out.trans (hbx.mono HB8.out.size))
       have x0 := (lg_cells k0).1
       have x3 := (lg_cells k0).2.2.2
       clear hbx))
  go_ret
  exact ⟨rfl, HB9.out⟩
set_option maxHeartbeats 4000000 in
theorem afullw_some (HA : AudOk) (p : Lp) (g : Lg) (u : En) (w : World) (hK : KTab w) (h : LgAt w p g) (hu : u.ok) (hf : fewG g = true) (hm : mayG g = true) (he : mayE u = true) (hlo : g.l.length < slotsG g ∧ slotsG g ≤ g.l.length + 4) (hp1 : addG g u false = (g, 12)) (hp2 : addG g u true = (moreG g u, 0)) :
    Calls Tryd.prog 6 #[.agg p.arr, enV u] w fun e w' => e = .returned (.bool true) ∧ Below w.heap.size w w' := by
  have HK := Lib.hid hK
  have HAW := Lib.hid (fun (X : World) (hk : KTab X) => aawake_any HA X hk)
  have HFW := Lib.hid (fun (X : World) (hX : Below w.heap.size w X) => afew_any p g X (h.below hX))
  have HW := Lib.hid h.whole
  have HEM := Lib.hid (fun (X : World) => emay_any u X)
  obtain ⟨hsm, hl30, hd25⟩ := few_sm hf
  simp only [hf] at HFW
  have HMY := Lib.hid (fun (X : World) (hk : KTab X) (hX : Below w.heap.size w X) => HA.may p g X hk (h.below hX) hsm)
  simp only [hm] at HMY
  rw [he] at HEM
  have h1 := h.ents.len
  have hrm := room_in hm
  have hsq : slotsG g = p.cap.tdiv 62 := by rw [slotsG, h.cap]
  have hs := slots_at h.fits
  have hb := slots_most (mayG_iff.1 hm).1
  have hae1 := add_sm (e := u) (u := false) hm hsm hl30
  have hae2 := add_sm (e := u) (u := true) hm hsm hl30
  have HA1 := Lib.hid (fun (X : World) (hk : KTab X) (hX : Below w.heap.size w X) => HA.add p g u false X hk (h.below hX) hsm hu)
  have HA2 := Lib.hid (fun (X : World) (hk : KTab X) (hX : Below w.heap.size w X) => HA.add p g u true X hk (h.below hX) hsm hu)
  have HRM := Lib.hid (fun (X : World) (hk : KTab X) (hX : Below w.heap.size w X) => HA.room p g X hk (h.below hX) hsm)
  rw [hsq] at hrm hb hlo
  rw [hrm] at HRM
  rw [hp1] at HA1 hae1
  rw [hp2] at HA2 hae2
  have hmx : max (p.cap.tdiv 62 - 4 - (g.l.length : Int)) 0 = 0 := by omega
  rw [hmx] at HRM
  obtain ⟨x, hx⟩ : ∃ x, moreG g u = x := ⟨_, rfl⟩
  simp only [hx] at HA1 HA2 hae1 hae2
  obtain ⟨Q, hQ⟩ : ∃ Q, p.cap.tdiv 62 = Q := ⟨_, rfl⟩
  rw [hQ] at hb hlo hs
  have hw0 : IntKind.i64.wrap (Q - 4) = Q - 4 := by rw [IntKind.wrap_i64]; omega
  have hw1 : IntKind.i64.wrap (Q - 4 - (p.m : Int)) = Q - 4 - (p.m : Int) := by rw [IntKind.wrap_i64]; omega
  have hwq : IntKind.i64.wrap (p.cap.tdiv 62) = Q := by rw [hQ, IntKind.wrap_i64]; omega
  have hl : (p.m : Int) < Q := by omega
  clear h hu hK HA hf hm hsm hl30 hd25 he h1 hrm hsq hb hlo hae1 hae2 hp1 hp2 hmx hx
  unfold enV at HEM ⊢
  go_enter Tryd.func6, Tryd.ntmps6
  go_wp2_with (first
    | (go_at_call 8
       (with_reducible refine (HAW.out _ (HK.out.from (two_below w _ _))).mono ?_)
       rintro e w1 ⟨rfl, hb1⟩
       obtain ⟨hb0, hz1, y0, y1⟩ := after_two hb1
       have k0 : w1.heap[w.heap.size]? = some (.cells p.arr 29 (0, 0)) := y0
       have ke : w1.heap[w.heap.size + 1]? = some (.cells (enA u) 33 (0, 0)) := y1
       have HB1 := Lib.hid hb0
       clear hb1 hb0 y0 y1 hz1)
    | ((with_reducible refine wpList_load_blk 29 _ rfl w.heap.size ?hx1 29 p.arr (0, 0) _ k0 Tryd.underlying29 ?hd1 HW.out ?_ ?hw1); (case hx1 => rfl); (case hd1 => rfl); (case hw1 => rfl))
    | ((with_reducible refine wpList_load_blk 33 _ rfl (w.heap.size + 1) ?hx2 33 (enA u) (0, 0) _ ke Tryd.underlying33 ?hd2 (info_en (enA_size _)) ?_ ?hw2); (case hx2 => rfl); (case hd2 => rfl); (case hw2 => rfl))
    | (go_at_call 9
       (with_reducible refine (HFW.out _ HB1.out).mono ?_)
       rintro e w2 ⟨rfl, hbx⟩
       have k0 := blk_below k0 hbx
       have ke := blk_below ke hbx
       have HB2 := Lib.hid (HB1.out.trans (hbx.mono HB1.out.size))
       clear hbx)
    | (go_at_call 10
       (with_reducible refine (HMY.out _ (HK.out.from HB2.out) HB2.out).mono ?_)
       rintro e w3 ⟨rfl, hbx⟩
       have k0 := blk_below k0 hbx
       have ke := blk_below ke hbx
       have HB3 := Lib.hid (HB2.out.trans (hbx.mono HB2.out.size))
       clear hbx)
    | (go_at_call 18
       (with_reducible refine (HEM.out _).mono ?_)
       rintro e w4 ⟨rfl, hbx⟩
       have k0 := blk_below k0 hbx
       have ke := blk_below ke hbx
       have HB4 := Lib.hid (HB3.out.trans (hbx.mono HB3.out.size))
       clear hbx)
    | (go_at_call 11
       (with_reducible refine (HA1.out _ (HK.out.from HB4.out) HB4.out).mono ?_)
       rintro e w5 ⟨p1, rfl, hp1, hbx⟩
       have HP1 := Lib.hid hp1
       have k0 := blk_below k0 hbx
       have ke := blk_below ke hbx
       have HB5 := Lib.hid (HB4.out.trans (hbx.mono HB4.out.size))
       clear hp1 hbx)
    | ((with_reducible refine wpList_store_blk rfl 29 _ _ rfl w5.heap.size p1.arr ?hx31 ?hy31 29 _ (heap_alloc_new w5 _) HP1.out.whole ?hs31 (lp_one _) ?_); (case hx31 => rfl); (case hy31 => rfl); (case hs31 => exact (lp_size (p := Lp.zero) rfl).trans (lp_size HP1.out.hlen).symm)
       intro w6 hg k1 hs
       have hbx : Below w5.heap.size w5 w6 := Below.grows (one_alloc w5 _) hg (size_le_alloc _ _) (Nat.le_refl _)
       have k0 := blk_below k0 hbx
       have ke := blk_below ke hbx
       have HP1 := Lib.hid (HP1.out.below hbx)
       have HB6 := Lib.hid (HB5.out.trans (hbx.mono HB5.out.size))
       clear hbx hg hs)
    | (go_at_call 11
       (with_reducible refine (HA2.out _ (HK.out.from HB6.out) HB6.out).mono ?_)
       rintro e w7 ⟨p2, rfl, hp2, hbx⟩
       have HP2 := Lib.hid hp2
       have k0 := blk_below k0 hbx
       have k1 := blk_below k1 hbx
       have ke := blk_below ke hbx
       have HP1 := Lib.hid (HP1.out.below hbx)
       have HB7 := Lib.hid (HB6.out.trans (hbx.mono HB6.out.size))
       clear hp2 hbx)
    | ((with_reducible refine wpList_store_blk rfl 29 _ _ rfl w7.heap.size p2.arr ?hx32 ?hy32 29 _ (heap_alloc_new w7 _) HP2.out.whole ?hs32 (lp_one _) ?_); (case hx32 => rfl); (case hy32 => rfl); (case hs32 => exact (lp_size (p := Lp.zero) rfl).trans (lp_size HP2.out.hlen).symm)
       intro w8 hg k2 hs
       have hbx : Below w7.heap.size w7 w8 := Below.grows (one_alloc w7 _) hg (size_le_alloc _ _) (Nat.le_refl _)
       have k0 := blk_below k0 hbx
       have k1 := blk_below k1 hbx
       have HP1 := Lib.hid (HP1.out.below hbx)
       have HP2 := Lib.hid (HP2.out.below hbx)
       have HB8 := Lib.hid (HB7.out.trans (hbx.mono HB7.out.size))
       clear hbx hg hs)
    | (go_at_call 19
       (with_reducible refine (HRM.out _ (HK.out.from HB8.out) HB8.out).mono ?_)
       rintro e w9 ⟨rfl, hbx⟩
       have k0 := blk_below k0 hbx
       have k1 := blk_below k1 hbx
       have k2 := blk_below k2 hbx
       have HP1 := Lib.hid (HP1.out.below hbx)
       have HP2 := Lib.hid (HP2.out.below hbx)
       have HB9 := Lib.hid (HB8.out.trans (hbx.mono HB8.out.size))
       have x0 := (lg_cells k0).1
       have x3 := (lg_cells k0).2.2.2
       clear hbx))
  go_ret
  exact ⟨rfl, HB9.out⟩
set_option maxHeartbeats 4000000 in
theorem afullw_all (HA : AudOk) (p : Lp) (g : Lg) (u : En) (w : World) (hK : KTab w) (h : LgAt w p g) (hu : u.ok) (hf : fewG g = true) (hm : mayG g = true) (he : mayE u = true) (hlo : g.l.length + 4 < slotsG g) (hp1 : addG g u false = (moreG g u, 0)) (hp2 : addG g u true = (moreG g u, 0)) :
    Calls Tryd.prog 6 #[.agg p.arr, enV u] w fun e w' => e = .returned (.bool true) ∧ Below w.heap.size w w' := by
  have HK := Lib.hid hK
  have HAW := Lib.hid (fun (X : World) (hk : KTab X) => aawake_any HA X hk)
  have HFW := Lib.hid (fun (X : World) (hX : Below w.heap.size w X) => afew_any p g X (h.below hX))
  have HW := Lib.hid h.whole
  have HEM := Lib.hid (fun (X : World) => emay_any u X)
  obtain ⟨hsm, hl30, hd25⟩ := few_sm hf
  simp only [hf] at HFW
  have HMY := Lib.hid (fun (X : World) (hk : KTab X) (hX : Below w.heap.size w X) => HA.may p g X hk (h.below hX) hsm)
  simp only [hm] at HMY
  rw [he] at HEM
  have h1 := h.ents.len
  have hrm := room_in hm
  have hsq : slotsG g = p.cap.tdiv 62 := by rw [slotsG, h.cap]
  have hs := slots_at h.fits
  have hb := slots_most (mayG_iff.1 hm).1
  have hae1 := add_sm (e := u) (u := false) hm hsm hl30
  have hae2 := add_sm (e := u) (u := true) hm hsm hl30
  have HA1 := Lib.hid (fun (X : World) (hk : KTab X) (hX : Below w.heap.size w X) => HA.add p g u false X hk (h.below hX) hsm hu)
  have HA2 := Lib.hid (fun (X : World) (hk : KTab X) (hX : Below w.heap.size w X) => HA.add p g u true X hk (h.below hX) hsm hu)
  have HRM := Lib.hid (fun (X : World) (hk : KTab X) (hX : Below w.heap.size w X) => HA.room p g X hk (h.below hX) hsm)
  rw [hsq] at hrm hb hlo
  rw [hrm] at HRM
  rw [hp1] at HA1 hae1
  rw [hp2] at HA2 hae2
  obtain ⟨N, hN⟩ : ∃ N : Int, p.cap.tdiv 62 - 4 - (p.m : Int) = N := ⟨_, rfl⟩
  have hmx : max (p.cap.tdiv 62 - 4 - (g.l.length : Int)) 0 = N := by omega
  rw [hmx] at HRM
  have hrx : roomG (moreG g u) = N - 1 := by rw [more_room hm he (by rw [hsq]; omega), hsq]; omega
  have hn0 : 0 < N := by omega
  have hn1 : N ≤ 264 := by omega
  obtain ⟨x, hx⟩ : ∃ x, moreG g u = x := ⟨_, rfl⟩
  simp only [hx] at HA1 HA2 hae1 hae2 hrx
  have HSM := Lib.hid (fun (q r : Lp) (X : World) (hk : KTab X) (h1 : LgAt X q x) (h2 : LgAt X r x) => HA.same q r x x X hk h1 h2 hae1 hae1)
  rw [sameG_self] at HSM
  have HR1 := Lib.hid (fun (q : Lp) (X : World) (hk : KTab X) (h1 : LgAt X q x) => HA.room q x X hk h1 hae1)
  rw [hrx] at HR1
  have hw2 : IntKind.i64.wrap (N - 1) = N - 1 := by rw [IntKind.wrap_i64]; omega
  have hn3 : ¬ N = 0 := by omega
  obtain ⟨Q, hQ⟩ : ∃ Q, p.cap.tdiv 62 = Q := ⟨_, rfl⟩
  rw [hQ] at hb hlo hs hN
  have hw0 : IntKind.i64.wrap (Q - 4) = Q - 4 := by rw [IntKind.wrap_i64]; omega
  have hw1 : IntKind.i64.wrap (Q - 4 - (p.m : Int)) = Q - 4 - (p.m : Int) := by rw [IntKind.wrap_i64]; omega
  have hwq : IntKind.i64.wrap (p.cap.tdiv 62) = Q := by rw [hQ, IntKind.wrap_i64]; omega
  have hl : (p.m : Int) < Q := by omega
  clear h hu hK HA hf hm hsm hl30 hd25 he h1 hrm hsq hb hlo hae1 hae2 hp1 hp2 hmx hx hrx
  unfold enV at HEM ⊢
  go_enter Tryd.func6, Tryd.ntmps6
  go_wp2_with (first
    | (go_at_call 8
       (with_reducible refine (HAW.out _ (HK.out.from (two_below w _ _))).mono ?_)
       rintro e w1 ⟨rfl, hb1⟩
       obtain ⟨hb0, hz1, y0, y1⟩ := after_two hb1
       have k0 : w1.heap[w.heap.size]? = some (.cells p.arr 29 (0, 0)) := y0
       have ke : w1.heap[w.heap.size + 1]? = some (.cells (enA u) 33 (0, 0)) := y1
       have HB1 := Lib.hid hb0
       clear hb1 hb0 y0 y1 hz1)
    | ((with_reducible refine wpList_load_blk 29 _ rfl w.heap.size ?hx1 29 p.arr (0, 0) _ k0 Tryd.underlying29 ?hd1 HW.out ?_ ?hw1); (case hx1 => rfl); (case hd1 => rfl); (case hw1 => rfl))
    | ((with_reducible refine wpList_load_blk 33 _ rfl (w.heap.size + 1) ?hx2 33 (enA u) (0, 0) _ ke Tryd.underlying33 ?hd2 (info_en (enA_size _)) ?_ ?hw2); (case hx2 => rfl); (case hd2 => rfl); (case hw2 => rfl))
    | (go_at_call 9
       (with_reducible refine (HFW.out _ HB1.out).mono ?_)
       rintro e w2 ⟨rfl, hbx⟩
       have k0 := blk_below k0 hbx
       have ke := blk_below ke hbx
       have HB2 := Lib.hid (HB1.out.trans (hbx.mono HB1.out.size))
       clear hbx)
    | (go_at_call 10
       (with_reducible refine (HMY.out _ (HK.out.from HB2.out) HB2.out).mono ?_)
       rintro e w3 ⟨rfl, hbx⟩
       have k0 := blk_below k0 hbx
       have ke := blk_below ke hbx
       have HB3 := Lib.hid (HB2.out.trans (hbx.mono HB2.out.size))
       clear hbx)
    | (go_at_call 18
       (with_reducible refine (HEM.out _).mono ?_)
       rintro e w4 ⟨rfl, hbx⟩
       have k0 := blk_below k0 hbx
       have ke := blk_below ke hbx
       have HB4 := Lib.hid (HB3.out.trans (hbx.mono HB3.out.size))
       clear hbx)
    | (go_at_call 11
       (with_reducible refine (HA1.out _ (HK.out.from HB4.out) HB4.out).mono ?_)
       rintro e w5 ⟨p1, rfl, hp1, hbx⟩
       have HP1 := Lib.hid hp1
       have k0 := blk_below k0 hbx
       have ke := blk_below ke hbx
       have HB5 := Lib.hid (HB4.out.trans (hbx.mono HB4.out.size))
       clear hp1 hbx)
    | ((with_reducible refine wpList_store_blk rfl 29 _ _ rfl w5.heap.size p1.arr ?hx31 ?hy31 29 _ (heap_alloc_new w5 _) HP1.out.whole ?hs31 (lp_one _) ?_); (case hx31 => rfl); (case hy31 => rfl); (case hs31 => exact (lp_size (p := Lp.zero) rfl).trans (lp_size HP1.out.hlen).symm)
       intro w6 hg k1 hs
       have hbx : Below w5.heap.size w5 w6 := Below.grows (one_alloc w5 _) hg (size_le_alloc _ _) (Nat.le_refl _)
       have k0 := blk_below k0 hbx
       have ke := blk_below ke hbx
       have HP1 := Lib.hid (HP1.out.below hbx)
       have HB6 := Lib.hid (HB5.out.trans (hbx.mono HB5.out.size))
       clear hbx hg hs)
    | (go_at_call 11
       (with_reducible refine (HA2.out _ (HK.out.from HB6.out) HB6.out).mono ?_)
       rintro e w7 ⟨p2, rfl, hp2, hbx⟩
       have HP2 := Lib.hid hp2
       have k0 := blk_below k0 hbx
       have k1 := blk_below k1 hbx
       have ke := blk_below ke hbx
       have HP1 := Lib.hid (HP1.out.below hbx)
       have HB7 := Lib.hid (HB6.out.trans (hbx.mono HB6.out.size))
       clear hp2 hbx)
    | ((with_reducible refine wpList_store_blk rfl 29 _ _ rfl w7.heap.size p2.arr ?hx32 ?hy32 29 _ (heap_alloc_new w7 _) HP2.out.whole ?hs32 (lp_one _) ?_); (case hx32 => rfl); (case hy32 => rfl); (case hs32 => exact (lp_size (p := Lp.zero) rfl).trans (lp_size HP2.out.hlen).symm)
       intro w8 hg k2 hs
       have hbx : Below w7.heap.size w7 w8 := Below.grows (one_alloc w7 _) hg (size_le_alloc _ _) (Nat.le_refl _)
       have k0 := blk_below k0 hbx
       have k1 := blk_below k1 hbx
       have HP1 := Lib.hid (HP1.out.below hbx)
       have HP2 := Lib.hid (HP2.out.below hbx)
       have HB8 := Lib.hid (HB7.out.trans (hbx.mono HB7.out.size))
       clear hbx hg hs)
    | (go_at_call 19
       (with_reducible refine (HRM.out _ (HK.out.from HB8.out) HB8.out).mono ?_)
       rintro e w9 ⟨rfl, hbx⟩
       have k0 := blk_below k0 hbx
       have k1 := blk_below k1 hbx
       have k2 := blk_below k2 hbx
       have HP1 := Lib.hid (HP1.out.below hbx)
       have HP2 := Lib.hid (HP2.out.below hbx)
       have HB9 := Lib.hid (HB8.out.trans (hbx.mono HB8.out.size))
       have x0 := (lg_cells k0).1
       have x3 := (lg_cells k0).2.2.2
       clear hbx)
    | ((with_reducible refine wpList_load_blk 29 _ rfl w5.heap.size ?hx4 29 p1.arr (0, 0) _ k1 Tryd.underlying29 ?hd4 HP1.out.whole ?_ ?hw4); (case hx4 => rfl); (case hd4 => rfl); (case hw4 => rfl))
    | ((with_reducible refine wpList_load_blk 29 _ rfl w7.heap.size ?hx5 29 p2.arr (0, 0) _ k2 Tryd.underlying29 ?hd5 HP2.out.whole ?_ ?hw5); (case hx5 => rfl); (case hd5 => rfl); (case hw5 => rfl))
    | (go_at_call 13
       (with_reducible refine (HSM.out p1 p2 _ (HK.out.from HB9.out) HP1.out HP2.out).mono ?_)
       rintro e w10 ⟨rfl, hbx⟩
       have x0 := (lg_cells (blk_below k0 hbx)).1
       clear x3
       have x3 := (lg_cells (blk_below k0 hbx)).2.2.2
       have k0 := blk_below k0 hbx
       have k1 := blk_below k1 hbx
       have HP1 := Lib.hid (HP1.out.below hbx)
       have HB10 := Lib.hid (HB9.out.trans (hbx.mono HB9.out.size))
       clear hbx)
    | (go_at_call 19
       (with_reducible refine (HR1.out p1 _ (HK.out.from HB10.out) HP1.out).mono ?_)
       rintro e w11 ⟨rfl, hbx⟩
       clear x0 x3
       have k0 := blk_below k0 hbx
       have HB11 := Lib.hid (HB10.out.trans (hbx.mono HB10.out.size))
       have x3 := (lg_cells k0).2.2.2
       clear hbx))
  go_ret
  exact ⟨rfl, HB11.out⟩
theorem full_u {g : Lg} {b : Bool} (hm : mayG g = true) : fullG g b = decide (slotsG g ≤ g.l.length + (if b then 0 else 4)) := by
  have hrm := room_in hm
  have hs := slots_most (mayG_iff.1 hm).1
  cases b with
  | true =>
    rw [fullG]
    simp only [Bool.not_true, Bool.false_and, Bool.or_false, if_true]
    exact decide_eq_decide.2 (by omega)
  | false =>
    rw [fullG, hrm]
    simp only [Bool.not_false, Bool.true_and, Bool.false_eq_true, if_false]
    rw [← Bool.decide_or]
    exact decide_eq_decide.2 (by omega)
theorem afullw_any (HA : AudOk) (p : Lp) (g : Lg) (u : En) (w : World) (hK : KTab w) (h : LgAt w p g) (hu : u.ok) :
    Calls Tryd.prog 6 #[.agg p.arr, enV u] w fun e w' => e = .returned (.bool true) ∧ Below w.heap.size w w' := by
  cases hf : fewG g with
  | false => exact afullw_few HA p g u w hK h hu hf
  | true =>
    cases hm : mayG g with
    | false => exact afullw_may HA p g u w hK h hu hf hm
    | true =>
      cases he : mayE u with
      | false => exact afullw_ent HA p g u w hK h hu hf hm he
      | true =>
        by_cases h1 : slotsG g ≤ g.l.length
        · exact afullw_none HA p g u w hK h hu hf hm he h1 (add_full hm he (by rw [full_u hm]; simp; omega)) (add_full hm he (by rw [full_u hm]; simp; omega))
        · by_cases h2 : slotsG g ≤ g.l.length + 4
          · exact afullw_some HA p g u w hK h hu hf hm he ⟨by omega, h2⟩ (add_full hm he (by rw [full_u hm]; simp; omega)) (add_ok hm he (by rw [full_u hm]; simp; omega))
          · exact afullw_all HA p g u w hK h hu hf hm he (by omega) (add_ok hm he (by rw [full_u hm]; simp; omega)) (add_ok hm he (by rw [full_u hm]; simp; omega))
end Go.Proofs.YtafmompplcaadaaDoor
