/- The walk over the law AuditWait: with four more than those that can wait a log is full. -/
import Derived.Test.YtafmompplcaadaaDoorAuJJ
import Derived.Test.YtafmompplcaadaaDoorAuJO
import Derived.Test.YtafmompplcaadaaDoorAuJD
namespace Go.Proofs.YtafmompplcaadaaDoor
set_option maxRecDepth 100000
set_option linter.unusedVariables false
set_option linter.unusedSimpArgs false
open Go.RowKit

theorem wait_sm {g : Lg} {e : En} (h : mayG g = true) (he : mayE e = true) (hr : roomG g = 0) (ho : ∀ u ∈ g.l, u.ok) (hoe : e.ok) (hl : g.l.length ≤ 30) (i : Nat) (hi : i ≤ 5) : LgSm (waitG g e i) := by
  obtain ⟨i1, -, i3, -⟩ := wait_at h he hr ho hoe i
  have hm := (mayG_len i1).1
  refine ⟨by omega, by omega⟩
set_option maxHeartbeats 4000000 in
theorem awaitw_few (p : Lp) (g : Lg) (u : En) (w : World) (hK : KTab w) (h : LgAt w p g) (hu : u.ok) (hf : fewG g = false) :
    Calls Tryd.prog 7 #[.agg p.arr, enV u] w fun e w' => e = .returned (.bool true) ∧ Below w.heap.size w w' := by
  have HA := aud_ok
  have HK := Lib.hid hK
  have HAW := Lib.hid (fun (X : World) (hk : KTab X) => aawake_any HA X hk)
  have HFW := Lib.hid (fun (X : World) (hX : Below w.heap.size w X) => afew_any p g X (h.below hX))
  have HW := Lib.hid h.whole
  have HEM := Lib.hid (fun (X : World) => emay_any u X)
  simp only [hf] at HFW
  clear h hu hK HA hf
  unfold enV at HEM ⊢
  go_enter Tryd.func7, Tryd.ntmps7
  go_wp2_with (first
    | (go_at_call 8
       (with_reducible refine (HAW.out _ (HK.out.from (two_below w _ _))).mono ?_)
       rintro e w1 ⟨rfl, hb1⟩
       obtain ⟨hb0, hz1, y0, y1⟩ := after_two hb1
       have k0 : w1.heap[w.heap.size]? = some (.cells p.arr 29 (0, 0)) := y0
       have ke : w1.heap[w.heap.size + 1]? = some (.cells (enA u) 33 (0, 0)) := y1
       have HB1 := Lib.hid hb0
       clear hb1 hb0 y0 y1 hz1)
    | ((with_reducible refine wpList_load_blk 29 _ rfl w.heap.size ?hx1 29 p.arr (0, 0) _ k0 Tryd.underlying29 ?hd1 HW.out ?_ ?hw1); (case hx1 => rfl); (case hd1 => rfl); (case hw1 => rfl))
    | (go_at_call 9
       (with_reducible refine (HFW.out _ HB1.out).mono ?_)
       rintro e w2 ⟨rfl, hbx⟩
       have k0 := blk_below k0 hbx
       have ke := blk_below ke hbx
       have HB2 := Lib.hid (HB1.out.trans (hbx.mono HB1.out.size))
       clear hbx))
  go_ret
  exact ⟨rfl, HB2.out⟩
set_option maxHeartbeats 4000000 in
theorem awaitw_may (p : Lp) (g : Lg) (u : En) (w : World) (hK : KTab w) (h : LgAt w p g) (hu : u.ok) (hf : fewG g = true) (hm : mayG g = false) :
    Calls Tryd.prog 7 #[.agg p.arr, enV u] w fun e w' => e = .returned (.bool true) ∧ Below w.heap.size w w' := by
  have HA := aud_ok
  have HK := Lib.hid hK
  have HAW := Lib.hid (fun (X : World) (hk : KTab X) => aawake_any HA X hk)
  have HFW := Lib.hid (fun (X : World) (hX : Below w.heap.size w X) => afew_any p g X (h.below hX))
  have HW := Lib.hid h.whole
  have HEM := Lib.hid (fun (X : World) => emay_any u X)
  obtain ⟨hsm, hl30, hd25⟩ := few_sm hf
  simp only [hf] at HFW
  have HMY := Lib.hid (fun (X : World) (hk : KTab X) (hX : Below w.heap.size w X) => HA.may p g X hk (h.below hX) hsm)
  simp only [hm] at HMY
  clear h hu hK HA hf hm hsm hl30 hd25
  unfold enV at HEM ⊢
  go_enter Tryd.func7, Tryd.ntmps7
  go_wp2_with (first
    | (go_at_call 8
       (with_reducible refine (HAW.out _ (HK.out.from (two_below w _ _))).mono ?_)
       rintro e w1 ⟨rfl, hb1⟩
       obtain ⟨hb0, hz1, y0, y1⟩ := after_two hb1
       have k0 : w1.heap[w.heap.size]? = some (.cells p.arr 29 (0, 0)) := y0
       have ke : w1.heap[w.heap.size + 1]? = some (.cells (enA u) 33 (0, 0)) := y1
       have HB1 := Lib.hid hb0
       clear hb1 hb0 y0 y1 hz1)
    | ((with_reducible refine wpList_load_blk 29 _ rfl w.heap.size ?hx1 29 p.arr (0, 0) _ k0 Tryd.underlying29 ?hd1 HW.out ?_ ?hw1); (case hx1 => rfl); (case hd1 => rfl); (case hw1 => rfl))
    | (go_at_call 9
       (with_reducible refine (HFW.out _ HB1.out).mono ?_)
       rintro e w2 ⟨rfl, hbx⟩
       have k0 := blk_below k0 hbx
       have ke := blk_below ke hbx
       have HB2 := Lib.hid (HB1.out.trans (hbx.mono HB1.out.size))
       clear hbx)
    | (go_at_call 10
       (with_reducible refine (HMY.out _ (HK.out.from HB2.out) HB2.out).mono ?_)
       rintro e w3 ⟨rfl, hbx⟩
       have k0 := blk_below k0 hbx
       have ke := blk_below ke hbx
       have HB3 := Lib.hid (HB2.out.trans (hbx.mono HB2.out.size))
       clear hbx))
  go_ret
  exact ⟨rfl, HB3.out⟩
set_option maxHeartbeats 4000000 in
theorem awaitw_ent (p : Lp) (g : Lg) (u : En) (w : World) (hK : KTab w) (h : LgAt w p g) (hu : u.ok) (hf : fewG g = true) (hm : mayG g = true) (he : mayE u = false) :
    Calls Tryd.prog 7 #[.agg p.arr, enV u] w fun e w' => e = .returned (.bool true) ∧ Below w.heap.size w w' := by
  have HA := aud_ok
  have HK := Lib.hid hK
  have HAW := Lib.hid (fun (X : World) (hk : KTab X) => aawake_any HA X hk)
  have HFW := Lib.hid (fun (X : World) (hX : Below w.heap.size w X) => afew_any p g X (h.below hX))
  have HW := Lib.hid h.whole
  have HEM := Lib.hid (fun (X : World) => emay_any u X)
  obtain ⟨hsm, hl30, hd25⟩ := few_sm hf
  simp only [hf] at HFW
  have HMY := Lib.hid (fun (X : World) (hk : KTab X) (hX : Below w.heap.size w X) => HA.may p g X hk (h.below hX) hsm)
  simp only [hm] at HMY
  rw [he] at HEM
  clear h hu hK HA hf hm hsm hl30 hd25 he
  unfold enV at HEM ⊢
  go_enter Tryd.func7, Tryd.ntmps7
  go_wp2_with (first
    | (go_at_call 8
       (with_reducible refine (HAW.out _ (HK.out.from (two_below w _ _))).mono ?_)
       rintro e w1 ⟨rfl, hb1⟩
       obtain ⟨hb0, hz1, y0, y1⟩ := after_two hb1
       have k0 : w1.heap[w.heap.size]? = some (.cells p.arr 29 (0, 0)) := y0
       have ke : w1.heap[w.heap.size + 1]? = some (.cells (enA u) 33 (0, 0)) := y1
       have HB1 := Lib.hid hb0
       clear hb1 hb0 y0 y1 hz1)
    | ((with_reducible refine wpList_load_blk 29 _ rfl w.heap.size ?hx1 29 p.arr (0, 0) _ k0 Tryd.underlying29 ?hd1 HW.out ?_ ?hw1); (case hx1 => rfl); (case hd1 => rfl); (case hw1 => rfl))
    | ((with_reducible refine wpList_load_blk 33 _ rfl (w.heap.size + 1) ?hx2 33 (enA u) (0, 0) _ ke Tryd.underlying33 ?hd2 (info_en (enA_size _)) ?_ ?hw2); (case hx2 => rfl); (case hd2 => rfl); (case hw2 => rfl))
    | (go_at_call 9
       (with_reducible refine (HFW.out _ HB1.out).mono ?_)
       rintro e w2 ⟨rfl, hbx⟩
       have k0 := blk_below k0 hbx
       have ke := blk_below ke hbx
       have HB2 := Lib.hid (HB1.out.trans (hbx.mono HB1.out.size))
       clear hbx)
    | (go_at_call 10
       (with_reducible refine (HMY.out _ (HK.out.from HB2.out) HB2.out).mono ?_)
       rintro e w3 ⟨rfl, hbx⟩
       have k0 := blk_below k0 hbx
       have ke := blk_below ke hbx
       have HB3 := Lib.hid (HB2.out.trans (hbx.mono HB2.out.size))
       clear hbx)
    | (go_at_call 18
       (with_reducible refine (HEM.out _).mono ?_)
       rintro e w4 ⟨rfl, hbx⟩
       have k0 := blk_below k0 hbx
       have ke := blk_below ke hbx
       have HB4 := Lib.hid (HB3.out.trans (hbx.mono HB3.out.size))
       clear hbx))
  go_ret
  exact ⟨rfl, HB4.out⟩
set_option maxHeartbeats 4000000 in
theorem awaitw_room (p : Lp) (g : Lg) (u : En) (w : World) (hK : KTab w) (h : LgAt w p g) (hu : u.ok) (hf : fewG g = true) (hm : mayG g = true) (he : mayE u = true) (hr : ¬ roomG g = 0) :
    Calls Tryd.prog 7 #[.agg p.arr, enV u] w fun e w' => e = .returned (.bool true) ∧ Below w.heap.size w w' := by
  have HA := aud_ok
  have HK := Lib.hid hK
  have HAW := Lib.hid (fun (X : World) (hk : KTab X) => aawake_any HA X hk)
  have HFW := Lib.hid (fun (X : World) (hX : Below w.heap.size w X) => afew_any p g X (h.below hX))
  have HW := Lib.hid h.whole
  have HEM := Lib.hid (fun (X : World) => emay_any u X)
  obtain ⟨hsm, hl30, hd25⟩ := few_sm hf
  simp only [hf] at HFW
  have HMY := Lib.hid (fun (X : World) (hk : KTab X) (hX : Below w.heap.size w X) => HA.may p g X hk (h.below hX) hsm)
  simp only [hm] at HMY
  rw [he] at HEM
  have HRM := Lib.hid (fun (X : World) (hk : KTab X) (hX : Below w.heap.size w X) => HA.room p g X hk (h.below hX) hsm)
  obtain ⟨N, hN⟩ : ∃ N, roomG g = N := ⟨_, rfl⟩
  rw [hN] at HRM hr
  have hrb : (N != 0) = true := by simp [hr]
  clear h hu hK HA hf hm hsm hl30 hd25 he hN
  unfold enV at HEM ⊢
  go_enter Tryd.func7, Tryd.ntmps7
  go_wp2_with (first
    | (go_at_call 8
       (with_reducible refine (HAW.out _ (HK.out.from (two_below w _ _))).mono ?_)
       rintro e w1 ⟨rfl, hb1⟩
       obtain ⟨hb0, hz1, y0, y1⟩ := after_two hb1
       have k0 : w1.heap[w.heap.size]? = some (.cells p.arr 29 (0, 0)) := y0
       have ke : w1.heap[w.heap.size + 1]? = some (.cells (enA u) 33 (0, 0)) := y1
       have HB1 := Lib.hid hb0
       clear hb1 hb0 y0 y1 hz1)
    | ((with_reducible refine wpList_load_blk 29 _ rfl w.heap.size ?hx1 29 p.arr (0, 0) _ k0 Tryd.underlying29 ?hd1 HW.out ?_ ?hw1); (case hx1 => rfl); (case hd1 => rfl); (case hw1 => rfl))
    | ((with_reducible refine wpList_load_blk 33 _ rfl (w.heap.size + 1) ?hx2 33 (enA u) (0, 0) _ ke Tryd.underlying33 ?hd2 (info_en (enA_size _)) ?_ ?hw2); (case hx2 => rfl); (case hd2 => rfl); (case hw2 => rfl))
    | (go_at_call 9
       (with_reducible refine (HFW.out _ HB1.out).mono ?_)
       rintro e w2 ⟨rfl, hbx⟩
       have k0 := blk_below k0 hbx
       have ke := blk_below ke hbx
       have HB2 := Lib.hid (HB1.out.trans (hbx.mono HB1.out.size))
       clear hbx)
    | (go_at_call 10
       (with_reducible refine (HMY.out _ (HK.out.from HB2.out) HB2.out).mono ?_)
       rintro e w3 ⟨rfl, hbx⟩
       have k0 := blk_below k0 hbx
       have ke := blk_below ke hbx
       have HB3 := Lib.hid (HB2.out.trans (hbx.mono HB2.out.size))
       clear hbx)
    | (go_at_call 18
       (with_reducible refine (HEM.out _).mono ?_)
       rintro e w4 ⟨rfl, hbx⟩
       have k0 := blk_below k0 hbx
       have ke := blk_below ke hbx
       have HB4 := Lib.hid (HB3.out.trans (hbx.mono HB3.out.size))
       clear hbx)
    | (go_at_call 19
       (with_reducible refine (HRM.out _ (HK.out.from HB4.out) HB4.out).mono ?_)
       rintro e w5 ⟨rfl, hbx⟩
       have k0 := blk_below k0 hbx
       have ke := blk_below ke hbx
       have HB5 := Lib.hid (HB4.out.trans (hbx.mono HB4.out.size))
       clear hbx))
  go_ret
  exact ⟨rfl, HB5.out⟩
theorem LgAt.kept_b {w w' : World} {p : Lp} {g : Lg} {k hi : Nat} (h : LgAt w p g) (hA : ∀ a, p.A = some a → hi ≤ a.block) (hB : ∀ a, p.B = some a → hi ≤ a.block) (hg : w.grownBy w' (some k)) (h2 : k < hi) : LgAt w' p g :=
  ⟨h.cap, h.sure, h.head, h.data.kept (far_at (lo := 0) hA) hg (Nat.zero_le _) h2, ens_kept h.ents (far_at (lo := 0) hB) hg (Nat.zero_le _) h2, h.ok, h.fits⟩
set_option maxHeartbeats 4000000 in
theorem awaitw_main (p : Lp) (g : Lg) (u : En) (w : World) (hK : KTab w) (h : LgAt w p g) (hu : u.ok) (hf : fewG g = true) (hm : mayG g = true) (he : mayE u = true) (hr : roomG g = 0) :
    Calls Tryd.prog 7 #[.agg p.arr, enV u] w fun e w' => e = .returned (.bool true) ∧ Below w.heap.size w w' := by
  have HA := aud_ok
  have HK := Lib.hid hK
  have HAW := Lib.hid (fun (X : World) (hk : KTab X) => aawake_any HA X hk)
  have HFW := Lib.hid (fun (X : World) (hX : Below w.heap.size w X) => afew_any p g X (h.below hX))
  have HW := Lib.hid h.whole
  have HEM := Lib.hid (fun (X : World) => emay_any u X)
  obtain ⟨hsm, hl30, hd25⟩ := few_sm hf
  simp only [hf] at HFW
  have HMY := Lib.hid (fun (X : World) (hk : KTab X) (hX : Below w.heap.size w X) => HA.may p g X hk (h.below hX) hsm)
  simp only [hm] at HMY
  rw [he] at HEM
  have HRM := Lib.hid (fun (X : World) (hk : KTab X) (hX : Below w.heap.size w X) => HA.room p g X hk (h.below hX) hsm)
  rw [hr] at HRM
  have h1 := h.ents.len
  have hsq : slotsG g = p.cap.tdiv 62 := by rw [slotsG, h.cap]
  have hs := slots_at h.fits
  have hb := slots_most (mayG_iff.1 hm).1
  have hle := (wait_all hm he hr h.ok.each hu 0).2.2
  obtain ⟨LF, hLF⟩ : ∃ LF : Int, p.cap.tdiv 62 - (p.m : Int) = LF := ⟨_, rfl⟩
  have hLG : slotsG g - (g.l.length : Int) = LF := by rw [hsq, h1]; exact hLF
  have HST := Lib.hid (show ∀ (j : Nat), j < 5 → ∀ (q : Lp) (X : World), KTab X → LgAt X q (waitG g u j) → Calls Tryd.prog 11 #[.agg q.arr, enV u, .bool true] X (GLEl (waitG g u (j + 1), (addG (waitG g u j) u true).2) X) from fun j hj q X hk hq => aaddl_any q (waitG g u j) u true X hk hq (wait_sm hm he hr h.ok.each hu hl30 j (by omega)) hu)
  have HOK := Lib.hid (show ∀ j : Nat, ((j : Int) < LF → (addG (waitG g u j) u true).2 = 0) ∧ (¬ (j : Int) < LF → (addG (waitG g u j) u true).2 = 12) from fun j => by
    obtain ⟨a1, -, -⟩ := wait_all hm he hr h.ok.each hu j
    rw [hLG] at a1
    refine ⟨a1.2, fun hn => ?_⟩
    have i1 := (wait_at hm he hr h.ok.each hu j).1
    rcases (full_all i1 he).2.2.2.1 with h0 | h0
    · exact absurd (a1.1 h0) hn
    · exact h0)
  have HRJ := Lib.hid (show ∀ (j : Nat), j < 5 → ∀ (q : Lp) (X : World), KTab X → LgAt X q (waitG g u (j + 1)) → Calls Tryd.prog 19 #[.agg q.arr] X (fun e w' => e = .returned (.int .i64 0) ∧ Below X.heap.size X w') from fun j hj q X hk hq => by
    have h0 := HA.room q (waitG g u (j + 1)) X hk hq (wait_sm hm he hr h.ok.each hu hl30 (j + 1) (by omega))
    rw [(wait_all hm he hr h.ok.each hu j).2.1] at h0
    exact h0)
  rw [hLG] at hle
  obtain ⟨Q, hQ⟩ : ∃ Q, p.cap.tdiv 62 = Q := ⟨_, rfl⟩
  rw [hsq] at hb
  rw [hQ] at hb hs hLF
  have hwq : IntKind.i64.wrap (p.cap.tdiv 62) = Q := by rw [hQ, IntKind.wrap_i64]; omega
  have hw0 : IntKind.i64.wrap (Q - (p.m : Int)) = LF := by rw [IntKind.wrap_i64]; omega
  have HP := Lib.hid h
  have HLS := Lib.hid (lp_size h.hlen)
  clear h hu hK HA hf hm hsm hl30 hd25 he h1 hsq hb hr hLG hLF
  unfold enV at HEM HST ⊢
  unfold GLEl at HST
  go_enter Tryd.func7, Tryd.ntmps7
  go_wp2_with (first
    | (go_at_call 8
       (with_reducible refine (HAW.out _ (HK.out.from (two_below w _ _))).mono ?_)
       rintro e w1 ⟨rfl, hb1⟩
       obtain ⟨hb0, hz1, y0, y1⟩ := after_two hb1
       have k0 : w1.heap[w.heap.size]? = some (.cells p.arr 29 (0, 0)) := y0
       have ke : w1.heap[w.heap.size + 1]? = some (.cells (enA u) 33 (0, 0)) := y1
       have HB1 := Lib.hid hb0
       clear hb1 hb0 y0 y1 hz1)
    | ((with_reducible refine wpList_load_blk 29 _ rfl w.heap.size ?hx1 29 p.arr (0, 0) _ k0 Tryd.underlying29 ?hd1 HW.out ?_ ?hw1); (case hx1 => rfl); (case hd1 => rfl); (case hw1 => rfl))
    | ((with_reducible refine wpList_load_blk 33 _ rfl (w.heap.size + 1) ?hx2 33 (enA u) (0, 0) _ ke Tryd.underlying33 ?hd2 (info_en (enA_size _)) ?_ ?hw2); (case hx2 => rfl); (case hd2 => rfl); (case hw2 => rfl))
    | (go_at_call 9
       (with_reducible refine (HFW.out _ HB1.out).mono ?_)
       rintro e w2 ⟨rfl, hbx⟩
       have k0 := blk_below k0 hbx
       have ke := blk_below ke hbx
       have HB2 := Lib.hid (HB1.out.trans (hbx.mono HB1.out.size))
       clear hbx)
    | (go_at_call 10
       (with_reducible refine (HMY.out _ (HK.out.from HB2.out) HB2.out).mono ?_)
       rintro e w3 ⟨rfl, hbx⟩
       have k0 := blk_below k0 hbx
       have ke := blk_below ke hbx
       have HB3 := Lib.hid (HB2.out.trans (hbx.mono HB2.out.size))
       clear hbx)
    | (go_at_call 18
       (with_reducible refine (HEM.out _).mono ?_)
       rintro e w4 ⟨rfl, hbx⟩
       have k0 := blk_below k0 hbx
       have ke := blk_below ke hbx
       have HB4 := Lib.hid (HB3.out.trans (hbx.mono HB3.out.size))
       clear hbx)
    | (go_at_call 19
       (with_reducible refine (HRM.out _ (HK.out.from HB4.out) HB4.out).mono ?_)
       rintro e w5 ⟨rfl, hbx⟩
       have k0 := blk_below k0 hbx
       have ke := blk_below ke hbx
       have HB5 := Lib.hid (HB4.out.trans (hbx.mono HB4.out.size))
       have x0 := (lg_cells k0).1
       have x3 := (lg_cells k0).2.2.2
       clear hbx))
  clear x0 x3 hwq hw0 hQ
  go_loopw [8] (fun v wr => ∃ j : Nat, j ≤ 5 ∧ v = .int .i64 j ∧ (∃ q : Lp, wr.heap[w.heap.size]? = some (.cells q.arr 29 (0, 0)) ∧ LgAt wr q (waitG g u j)) ∧ wr.heap[w.heap.size + 1]? = some (.cells (enA u) 33 (0, 0)) ∧ Below w.heap.size w wr) (fun v _ => 5 - (intOf v).toNat)
  case atStart => exact ⟨0, by omega, rfl, ⟨p, k0, HP.out.below HB5.out⟩, ke, HB5.out⟩
  case round =>
    obtain ⟨j, hj, rfl, ⟨q, kq, hq⟩, ker, hbw⟩ := hrel
    have HB6 := Lib.hid hbw
    have HQ := Lib.hid hq
    have HQW := Lib.hid hq.whole
    have HQZ := Lib.hid (lp_size hq.hlen)
    clear hbw hq k0 ke
    by_cases hlt : j < 5
    · have q0 : (j : Int) < 5 := by omega
      have hwj : IntKind.i64.wrap ((j : Int) + 1) = (j : Int) + 1 := by rw [IntKind.wrap_i64]; omega
      have HSJ := Lib.hid (HST.out j hlt)
      have HRR := Lib.hid (HRJ.out j hlt)
      have HOJ := Lib.hid (HOK.out j)
      obtain ⟨E, hE⟩ : ∃ E, (addG (waitG g u j) u true).2 = E := ⟨_, rfl⟩
      simp only [hE] at HSJ HOJ
      clear hE
      obtain ⟨G1, hG1⟩ : ∃ G1, waitG g u (j + 1) = G1 := ⟨_, rfl⟩
      simp only [hG1] at HSJ HRR
      have HG1 := Lib.hid hG1
      clear hG1
      by_cases hc : (j : Int) < LF
      · have hE0 := HOJ.out.1 hc
        subst hE0
        go_wp2_with (first
          | ((with_reducible refine wpList_load_blk 29 _ rfl w.heap.size ?hx1 29 q.arr (0, 0) _ kq Tryd.underlying29 ?hd1 HQW.out ?_ ?hw1); (case hx1 => rfl); (case hd1 => rfl); (case hw1 => rfl))
          | ((with_reducible refine wpList_load_blk 33 _ rfl (w.heap.size + 1) ?hx2 33 (enA u) (0, 0) _ ker Tryd.underlying33 ?hd2 (info_en (enA_size _)) ?_ ?hw2); (case hx2 => rfl); (case hd2 => rfl); (case hw2 => rfl))
          | (go_at_call 11
             (with_reducible refine (HSJ.out q _ (HK.out.from HB6.out) HQ.out).mono ?_)
             rintro e w7 ⟨p1, rfl, hp1, hl1, hl2, hbx⟩
             have HP1 := Lib.hid hp1
             have kq7 := blk_below kq hbx
             have ke7 := blk_below ker hbx
             have hqt : w.heap.size < wr.heap.size := (Array.getElem?_eq_some_iff.1 kq).1
             have HA1 := Lib.hid (show ∀ a, p1.A = some a → w.heap.size + 1 ≤ a.block from fun a ha => Nat.le_trans hqt (hl1 a ha))
             have HA2 := Lib.hid (show ∀ a, p1.B = some a → w.heap.size + 1 ≤ a.block from fun a ha => Nat.le_trans hqt (hl2 a ha))
             have HB7 := Lib.hid (HB6.out.trans (hbx.mono HB6.out.size))
             clear hp1 hl1 hl2 hbx hqt)
          | ((with_reducible refine wpList_store_blk rfl 29 _ _ rfl w7.heap.size p1.arr ?hx31 ?hy31 29 _ (heap_alloc_new w7 _) HP1.out.whole ?hs31 (lp_one _) ?_); (case hx31 => rfl); (case hy31 => rfl); (case hs31 => exact (lp_size (p := Lp.zero) rfl).trans (lp_size HP1.out.hlen).symm)
             intro w8 hg k1 hs
             have hbx : Below w7.heap.size w7 w8 := Below.grows (one_alloc w7 _) hg (size_le_alloc _ _) (Nat.le_refl _)
             have HP1 := Lib.hid (HP1.out.below hbx)
             have kq8 := blk_below kq7 hbx
             have ke8 := blk_below ke7 hbx
             have HB8 := Lib.hid (HB7.out.trans (hbx.mono HB7.out.size))
             clear hbx hg hs kq7 ke7)
          | ((with_reducible refine wpList_load_blk 29 _ rfl w7.heap.size ?hx4 29 p1.arr (0, 0) _ k1 Tryd.underlying29 ?hd4 HP1.out.whole ?_ ?hw4); (case hx4 => rfl); (case hd4 => rfl); (case hw4 => rfl))
          | (go_at_call 19
             (with_reducible refine (HRR.out p1 _ (HK.out.from HB8.out) HP1.out).mono ?_)
             rintro e w9 ⟨rfl, hbx⟩
             have HP1 := Lib.hid (HP1.out.below hbx)
             have kq9 := blk_below kq8 hbx
             have ke9 := blk_below ke8 hbx
             have k1 := blk_below k1 hbx
             have HB9 := Lib.hid (HB8.out.trans (hbx.mono HB8.out.size))
             clear hbx kq8 ke8)
          | ((with_reducible refine wpList_store_blk rfl 29 _ _ rfl w.heap.size p1.arr ?hx32 ?hy32 29 _ kq9 HP1.out.whole ?hs32 (lp_one _) ?_); (case hx32 => rfl); (case hy32 => rfl); (case hs32 => exact HQZ.out.trans (lp_size HP1.out.hlen).symm)
             intro w10 hg kz hs
             have hL10 := LgAt.kept_b HP1.out HA1.out HA2.out hg (Nat.lt_succ_self _)
             have ke10 := blk_other ke9 hg (Nat.succ_ne_self _)
             have hB10 := HB9.out.grown hg HB9.out.size (fun k e => by cases e; exact Nat.le_refl _)
             clear hg hs kq9 ke9))
        go_roundw
        case rel => exact ⟨j + 1, by omega, by go_num, ⟨p1, kz, by rw [HG1.out]; exact hL10⟩, ke10, hB10⟩
        case measure => simp [intOf]; omega
      · have hE0 := HOJ.out.2 (by omega)
        subst hE0
        have HC2 := Lib.hid (show ¬ (j : Int) < LF by omega)
        have HC3 := Lib.hid (decide_eq_false HC2.out)
        clear hc
        go_wp2_with (first
          | ((with_reducible refine wpList_load_blk 29 _ rfl w.heap.size ?hx1 29 q.arr (0, 0) _ kq Tryd.underlying29 ?hd1 HQW.out ?_ ?hw1); (case hx1 => rfl); (case hd1 => rfl); (case hw1 => rfl))
          | ((with_reducible refine wpList_load_blk 33 _ rfl (w.heap.size + 1) ?hx2 33 (enA u) (0, 0) _ ker Tryd.underlying33 ?hd2 (info_en (enA_size _)) ?_ ?hw2); (case hx2 => rfl); (case hd2 => rfl); (case hw2 => rfl))
          | (go_at_call 11
             (with_reducible refine (HSJ.out q _ (HK.out.from HB6.out) HQ.out).mono ?_)
             rintro e w7 ⟨p1, rfl, hp1, hl1, hl2, hbx⟩
             have HP1 := Lib.hid hp1
             have kq7 := blk_below kq hbx
             have ke7 := blk_below ker hbx
             have hqt : w.heap.size < wr.heap.size := (Array.getElem?_eq_some_iff.1 kq).1
             have HA1 := Lib.hid (show ∀ a, p1.A = some a → w.heap.size + 1 ≤ a.block from fun a ha => Nat.le_trans hqt (hl1 a ha))
             have HA2 := Lib.hid (show ∀ a, p1.B = some a → w.heap.size + 1 ≤ a.block from fun a ha => Nat.le_trans hqt (hl2 a ha))
             have HB7 := Lib.hid (HB6.out.trans (hbx.mono HB6.out.size))
             clear hp1 hl1 hl2 hbx hqt)
          | ((with_reducible refine wpList_store_blk rfl 29 _ _ rfl w7.heap.size p1.arr ?hx31 ?hy31 29 _ (heap_alloc_new w7 _) HP1.out.whole ?hs31 (lp_one _) ?_); (case hx31 => rfl); (case hy31 => rfl); (case hs31 => exact (lp_size (p := Lp.zero) rfl).trans (lp_size HP1.out.hlen).symm)
             intro w8 hg k1 hs
             have hbx : Below w7.heap.size w7 w8 := Below.grows (one_alloc w7 _) hg (size_le_alloc _ _) (Nat.le_refl _)
             have HP1 := Lib.hid (HP1.out.below hbx)
             have kq8 := blk_below kq7 hbx
             have ke8 := blk_below ke7 hbx
             have HB8 := Lib.hid (HB7.out.trans (hbx.mono HB7.out.size))
             have hc := HC2.out
             have hcd := HC3.out
             clear hbx hg hs kq7 ke7)
          | ((with_reducible refine wpList_load_blk 29 _ rfl w7.heap.size ?hx4 29 p1.arr (0, 0) _ k1 Tryd.underlying29 ?hd4 HP1.out.whole ?_ ?hw4); (case hx4 => rfl); (case hd4 => rfl); (case hw4 => rfl))
          | (go_at_call 19
             (with_reducible refine (HRR.out p1 _ (HK.out.from HB8.out) HP1.out).mono ?_)
             rintro e w9 ⟨rfl, hbx⟩
             have HP1 := Lib.hid (HP1.out.below hbx)
             have kq9 := blk_below kq8 hbx
             have ke9 := blk_below ke8 hbx
             have k1 := blk_below k1 hbx
             have HB9 := Lib.hid (HB8.out.trans (hbx.mono HB8.out.size))
             clear hbx kq8 ke8)
          | ((with_reducible refine wpList_store_blk rfl 29 _ _ rfl w.heap.size p1.arr ?hx32 ?hy32 29 _ kq9 HP1.out.whole ?hs32 (lp_one _) ?_); (case hx32 => rfl); (case hy32 => rfl); (case hs32 => exact HQZ.out.trans (lp_size HP1.out.hlen).symm)
             intro w10 hg kz hs
             have hL10 := LgAt.kept_b HP1.out HA1.out HA2.out hg (Nat.lt_succ_self _)
             have ke10 := blk_other ke9 hg (Nat.succ_ne_self _)
             have hB10 := HB9.out.grown hg HB9.out.size (fun k e => by cases e; exact Nat.le_refl _)
             clear hg hs kq9 ke9))
        go_roundw
        case rel => exact ⟨j + 1, by omega, by go_num, ⟨p1, kz, by rw [HG1.out]; exact hL10⟩, ke10, hB10⟩
        case measure => simp [intOf]; omega
    · obtain rfl : j = 5 := by omega
      clear kq ker
      go_wp2
      go_ret
      exact ⟨rfl, HB6.out⟩
theorem awaitw_any (p : Lp) (g : Lg) (u : En) (w : World) (hK : KTab w) (h : LgAt w p g) (hu : u.ok) :
    Calls Tryd.prog 7 #[.agg p.arr, enV u] w fun e w' => e = .returned (.bool true) ∧ Below w.heap.size w w' := by
  cases hf : fewG g with
  | false => exact awaitw_few p g u w hK h hu hf
  | true =>
    cases hm : mayG g with
    | false => exact awaitw_may p g u w hK h hu hf hm
    | true =>
      cases he : mayE u with
      | false => exact awaitw_ent p g u w hK h hu hf hm he
      | true =>
        by_cases hr : roomG g = 0
        · exact awaitw_main p g u w hK h hu hf hm he hr
        · exact awaitw_room p g u w hK h hu hf hm he hr
end Go.Proofs.YtafmompplcaadaaDoor
