/- The walk over the law AuditTells: a log is all that the document says. -/
import Derived.Test.YtafmompplcaadaaGreatDoorAuJI
import Derived.Test.YtafmompplcaadaaGreatDoorAuJM
import Derived.Test.YtafmompplcaadaaGreatDoorAuJN
import Derived.Test.YtafmompplcaadaaGreatDoorAuJL
import Derived.Test.YtafmompplcaadaaGreatDoorAuJK
namespace Go.Proofs.YtafmompplcaadaaGreatDoor
set_option maxRecDepth 100000
set_option linter.unusedVariables false
set_option linter.unusedSimpArgs false
open Go.RowKit

theorem four_bel (w : World) (o1 o2 o3 o4 : Obj) : Below w.heap.size w ((((w.alloc o1).alloc o2).alloc o3).alloc o4) := (three_below w o1 o2 o3).alloc (by simp; omega) _
theorem after_four {w w1 : World} {o1 o2 o3 o4 : Obj} (h : Below ((((w.alloc o1).alloc o2).alloc o3).alloc o4).heap.size ((((w.alloc o1).alloc o2).alloc o3).alloc o4) w1) :
    Below w.heap.size w w1 ∧ w1.heap[w.heap.size]? = some o1 ∧ w1.heap[w.heap.size + 1]? = some o2 ∧ w1.heap[w.heap.size + 2]? = some o3 ∧ w1.heap[w.heap.size + 3]? = some o4 := by
  obtain ⟨h1, h2, h3⟩ := after_one h
  obtain ⟨h4, h5, h6, h7⟩ := after_three_c h1
  have e : (((w.alloc o1).alloc o2).alloc o3).heap.size = w.heap.size + 3 := by simp
  rw [e] at h3
  exact ⟨h4, h5, h6, h7, h3⟩
set_option maxHeartbeats 16000000 in
theorem atells_few1 (HA : AudOk) (p q : Lp) (g c0 : Lg) (u : En) (urg : Bool) (keep : Int) (s : Sp) (A : Option Addr) (n c : Nat) (room : Int) (w : World) (hK : KTab w) (h : LgAt w p g) (h2 : LgAt w q c0) (hu : u.ok) (hb : Bts w A n c s.data) (hf : fewG g = false) :
    Calls Tryz.prog 3 #[.agg p.arr, .agg q.arr, enV u, .bool urg, .int .i64 keep, .agg #[.int .i64 s.cap, .slice A n c, .int .i64 s.sure], .int .i64 room] w fun e w' => e = .returned (.bool true) ∧ Below w.heap.size w w' := by
  have HK := Lib.hid hK
  have HAW := Lib.hid (fun (X : World) (hk : KTab X) => aawake_any HA X hk)
  have HFW := Lib.hid (fun (X : World) (hX : Below w.heap.size w X) => afew_any p g X (h.below hX))
  have HFC := Lib.hid (fun (X : World) (hX : Below w.heap.size w X) => afew_any q c0 X (h2.below hX))
  have HW := Lib.hid h.whole
  have HWC := Lib.hid h2.whole
  have hns := hb.small
  obtain ⟨cap, hcap⟩ : ∃ x, s.cap = x := ⟨_, rfl⟩
  obtain ⟨sure, hsure⟩ : ∃ x, s.sure = x := ⟨_, rfl⟩
  rw [hcap, hsure]
  simp only [hf] at HFW
  obtain ⟨F2, hF2⟩ : ∃ x, fewG c0 = x := ⟨_, rfl⟩
  simp only [hF2] at HFC
  clear hF2 hf
  clear h h2 hu hb hK HA hcap hsure
  unfold enV at *
  go_enter Tryz.func3, Tryz.ntmps3
  go_wp2_with (first
    | (go_at_call 4
       (with_reducible refine (HAW.out _ (HK.out.from (four_bel w _ _ _ _))).mono ?_)
       rintro e w1 ⟨rfl, hb1⟩
       obtain ⟨hb0, y0, y1, y2, y3⟩ := after_four hb1
       have k0 : w1.heap[w.heap.size]? = some (.cells p.arr 29 (0, 0)) := y0
       have kc : w1.heap[w.heap.size + 1]? = some (.cells q.arr 29 (0, 0)) := y1
       have ke : w1.heap[w.heap.size + 2]? = some (.cells (enA u) 33 (0, 0)) := y2
       have ks : w1.heap[w.heap.size + 3]? = some (.cells #[.int .i64 cap, .slice A n c, .int .i64 sure] 24 (0, 0)) := y3
       have HB1 := Lib.hid hb0
       clear hb1 hb0 y0 y1 y2 y3)
    | ((with_reducible refine wpList_load_blk 29 _ rfl w.heap.size ?hx1 29 p.arr (0, 0) _ k0 Tryz.underlying29 ?hd1 HW.out ?_ ?hw1); (case hx1 => rfl); (case hd1 => rfl); (case hw1 => rfl))
    | ((with_reducible refine wpList_load_blk 29 _ rfl (w.heap.size + 1) ?hx2 29 q.arr (0, 0) _ kc Tryz.underlying29 ?hd2 HWC.out ?_ ?hw2); (case hx2 => rfl); (case hd2 => rfl); (case hw2 => rfl))
    | (go_at_call 5
       (with_reducible refine (HFW.out _ HB1.out).mono ?_)
       rintro e w2 ⟨rfl, hbx⟩
       have k0 := blk_below k0 hbx
       have kc := blk_below kc hbx
       have ke := blk_below ke hbx
       have ks := blk_below ks hbx
       have HB2 := Lib.hid (HB1.out.trans (hbx.mono HB1.out.size))
       clear hbx)
    | (go_at_call 5
       (with_reducible refine (HFC.out _ HB2.out).mono ?_)
       rintro e w3 ⟨rfl, hbx⟩
       have k0 := blk_below k0 hbx
       have kc := blk_below kc hbx
       have ke := blk_below ke hbx
       have ks := blk_below ks hbx
       have HB3 := Lib.hid (HB2.out.trans (hbx.mono HB2.out.size))
       clear hbx))
  go_ret
  exact ⟨rfl, HB3.out⟩
set_option maxHeartbeats 16000000 in
theorem atells_few2 (HA : AudOk) (p q : Lp) (g c0 : Lg) (u : En) (urg : Bool) (keep : Int) (s : Sp) (A : Option Addr) (n c : Nat) (room : Int) (w : World) (hK : KTab w) (h : LgAt w p g) (h2 : LgAt w q c0) (hu : u.ok) (hb : Bts w A n c s.data) (hf : fewG g = true) (hf2 : fewG c0 = false) :
    Calls Tryz.prog 3 #[.agg p.arr, .agg q.arr, enV u, .bool urg, .int .i64 keep, .agg #[.int .i64 s.cap, .slice A n c, .int .i64 s.sure], .int .i64 room] w fun e w' => e = .returned (.bool true) ∧ Below w.heap.size w w' := by
  have HK := Lib.hid hK
  have HAW := Lib.hid (fun (X : World) (hk : KTab X) => aawake_any HA X hk)
  have HFW := Lib.hid (fun (X : World) (hX : Below w.heap.size w X) => afew_any p g X (h.below hX))
  have HFC := Lib.hid (fun (X : World) (hX : Below w.heap.size w X) => afew_any q c0 X (h2.below hX))
  have HW := Lib.hid h.whole
  have HWC := Lib.hid h2.whole
  have hns := hb.small
  obtain ⟨cap, hcap⟩ : ∃ x, s.cap = x := ⟨_, rfl⟩
  obtain ⟨sure, hsure⟩ : ∃ x, s.sure = x := ⟨_, rfl⟩
  rw [hcap, hsure]
  simp only [hf] at HFW
  simp only [hf2] at HFC
  clear hf hf2
  clear h h2 hu hb hK HA hcap hsure
  unfold enV at *
  go_enter Tryz.func3, Tryz.ntmps3
  go_wp2_with (first
    | (go_at_call 4
       (with_reducible refine (HAW.out _ (HK.out.from (four_bel w _ _ _ _))).mono ?_)
       rintro e w1 ⟨rfl, hb1⟩
       obtain ⟨hb0, y0, y1, y2, y3⟩ := after_four hb1
       have k0 : w1.heap[w.heap.size]? = some (.cells p.arr 29 (0, 0)) := y0
       have kc : w1.heap[w.heap.size + 1]? = some (.cells q.arr 29 (0, 0)) := y1
       have ke : w1.heap[w.heap.size + 2]? = some (.cells (enA u) 33 (0, 0)) := y2
       have ks : w1.heap[w.heap.size + 3]? = some (.cells #[.int .i64 cap, .slice A n c, .int .i64 sure] 24 (0, 0)) := y3
       have HB1 := Lib.hid hb0
       clear hb1 hb0 y0 y1 y2 y3)
    | ((with_reducible refine wpList_load_blk 29 _ rfl w.heap.size ?hx1 29 p.arr (0, 0) _ k0 Tryz.underlying29 ?hd1 HW.out ?_ ?hw1); (case hx1 => rfl); (case hd1 => rfl); (case hw1 => rfl))
    | ((with_reducible refine wpList_load_blk 29 _ rfl (w.heap.size + 1) ?hx2 29 q.arr (0, 0) _ kc Tryz.underlying29 ?hd2 HWC.out ?_ ?hw2); (case hx2 => rfl); (case hd2 => rfl); (case hw2 => rfl))
    | (go_at_call 5
       (with_reducible refine (HFW.out _ HB1.out).mono ?_)
       rintro e w2 ⟨rfl, hbx⟩
       have k0 := blk_below k0 hbx
       have kc := blk_below kc hbx
       have ke := blk_below ke hbx
       have ks := blk_below ks hbx
       have HB2 := Lib.hid (HB1.out.trans (hbx.mono HB1.out.size))
       clear hbx)
    | (go_at_call 5
       (with_reducible refine (HFC.out _ HB2.out).mono ?_)
       rintro e w3 ⟨rfl, hbx⟩
       have k0 := blk_below k0 hbx
       have kc := blk_below kc hbx
       have ke := blk_below ke hbx
       have ks := blk_below ks hbx
       have HB3 := Lib.hid (HB2.out.trans (hbx.mono HB2.out.size))
       clear hbx))
  go_ret
  exact ⟨rfl, HB3.out⟩
set_option maxHeartbeats 16000000 in
theorem atells_long (HA : AudOk) (p q : Lp) (g c0 : Lg) (u : En) (urg : Bool) (keep : Int) (s : Sp) (A : Option Addr) (n c : Nat) (room : Int) (w : World) (hK : KTab w) (h : LgAt w p g) (h2 : LgAt w q c0) (hu : u.ok) (hb : Bts w A n c s.data) (hf : fewG g = true) (hf2 : fewG c0 = true) (hn : (2500 : Int) < n) :
    Calls Tryz.prog 3 #[.agg p.arr, .agg q.arr, enV u, .bool urg, .int .i64 keep, .agg #[.int .i64 s.cap, .slice A n c, .int .i64 s.sure], .int .i64 room] w fun e w' => e = .returned (.bool true) ∧ Below w.heap.size w w' := by
  have HK := Lib.hid hK
  have HAW := Lib.hid (fun (X : World) (hk : KTab X) => aawake_any HA X hk)
  have HFW := Lib.hid (fun (X : World) (hX : Below w.heap.size w X) => afew_any p g X (h.below hX))
  have HFC := Lib.hid (fun (X : World) (hX : Below w.heap.size w X) => afew_any q c0 X (h2.below hX))
  have HW := Lib.hid h.whole
  have HWC := Lib.hid h2.whole
  have hns := hb.small
  obtain ⟨cap, hcap⟩ : ∃ x, s.cap = x := ⟨_, rfl⟩
  obtain ⟨sure, hsure⟩ : ∃ x, s.sure = x := ⟨_, rfl⟩
  rw [hcap, hsure]
  simp only [hf] at HFW
  simp only [hf2] at HFC
  clear hf hf2
  clear h h2 hu hb hK HA hcap hsure
  unfold enV at *
  go_enter Tryz.func3, Tryz.ntmps3
  go_wp2_with (first
    | (go_at_call 4
       (with_reducible refine (HAW.out _ (HK.out.from (four_bel w _ _ _ _))).mono ?_)
       rintro e w1 ⟨rfl, hb1⟩
       obtain ⟨hb0, y0, y1, y2, y3⟩ := after_four hb1
       have k0 : w1.heap[w.heap.size]? = some (.cells p.arr 29 (0, 0)) := y0
       have kc : w1.heap[w.heap.size + 1]? = some (.cells q.arr 29 (0, 0)) := y1
       have ke : w1.heap[w.heap.size + 2]? = some (.cells (enA u) 33 (0, 0)) := y2
       have ks : w1.heap[w.heap.size + 3]? = some (.cells #[.int .i64 cap, .slice A n c, .int .i64 sure] 24 (0, 0)) := y3
       have HB1 := Lib.hid hb0
       clear hb1 hb0 y0 y1 y2 y3)
    | ((with_reducible refine wpList_load_blk 29 _ rfl w.heap.size ?hx1 29 p.arr (0, 0) _ k0 Tryz.underlying29 ?hd1 HW.out ?_ ?hw1); (case hx1 => rfl); (case hd1 => rfl); (case hw1 => rfl))
    | ((with_reducible refine wpList_load_blk 29 _ rfl (w.heap.size + 1) ?hx2 29 q.arr (0, 0) _ kc Tryz.underlying29 ?hd2 HWC.out ?_ ?hw2); (case hx2 => rfl); (case hd2 => rfl); (case hw2 => rfl))
    | (go_at_call 5
       (with_reducible refine (HFW.out _ HB1.out).mono ?_)
       rintro e w2 ⟨rfl, hbx⟩
       have k0 := blk_below k0 hbx
       have kc := blk_below kc hbx
       have ke := blk_below ke hbx
       have ks := blk_below ks hbx
       have HB2 := Lib.hid (HB1.out.trans (hbx.mono HB1.out.size))
       clear hbx)
    | (go_at_call 5
       (with_reducible refine (HFC.out _ HB2.out).mono ?_)
       rintro e w3 ⟨rfl, hbx⟩
       have k0 := blk_below k0 hbx
       have kc := blk_below kc hbx
       have ke := blk_below ke hbx
       have ks := blk_below ks hbx
       have HB3 := Lib.hid (HB2.out.trans (hbx.mono HB2.out.size))
       have s1 := (BoxT.cells (show BoxT w3 (w.heap.size + 3) 24 cap A n c sure from ks)).2.1
       clear hbx))
  go_ret
  exact ⟨rfl, HB3.out⟩
set_option maxHeartbeats 16000000 in
theorem atells_main (HA : AudOk) (p q : Lp) (g c0 : Lg) (u : En) (urg : Bool) (keep : Int) (s : Sp) (A : Option Addr) (n c : Nat) (room : Int) (w : World) (hK : KTab w) (h : LgAt w p g) (h2 : LgAt w q c0) (hu : u.ok) (hb : Bts w A n c s.data) (hf : fewG g = true) (hf2 : fewG c0 = true) (hn : ¬ (2500 : Int) < n) :
    Calls Tryz.prog 3 #[.agg p.arr, .agg q.arr, enV u, .bool urg, .int .i64 keep, .agg #[.int .i64 s.cap, .slice A n c, .int .i64 s.sure], .int .i64 room] w fun e w' => e = .returned (.bool true) ∧ Below w.heap.size w w' := by
  have HK := Lib.hid hK
  have HAW := Lib.hid (fun (X : World) (hk : KTab X) => aawake_any HA X hk)
  have HFW := Lib.hid (fun (X : World) (hX : Below w.heap.size w X) => afew_any p g X (h.below hX))
  have HFC := Lib.hid (fun (X : World) (hX : Below w.heap.size w X) => afew_any q c0 X (h2.below hX))
  have HW := Lib.hid h.whole
  have HWC := Lib.hid h2.whole
  have hns := hb.small
  obtain ⟨cap, hcap⟩ : ∃ x, s.cap = x := ⟨_, rfl⟩
  obtain ⟨sure, hsure⟩ : ∃ x, s.sure = x := ⟨_, rfl⟩
  rw [hcap, hsure]
  obtain ⟨hsm, hl30, hd25⟩ := few_sm hf
  obtain ⟨hsm2, hl302, hd252⟩ := few_sm hf2
  simp only [hf] at HFW
  simp only [hf2] at HFC
  have hms := h.ents.len
  have hmm : p.m ≤ 1000000 := by omega
  have HP := Lib.hid h
  have HC := Lib.hid h2
  have HAD := Lib.hid (fun (X : World) (hk : KTab X) (hX : Below w.heap.size w X) => HA.add p g u urg X hk (h.below hX) hsm hu)
  have HRD := Lib.hid (fun (X : World) (hX : Below w.heap.size w X) => aradd_any p g u urg X (h.below hX) hu hmm)
  have HTO := Lib.hid (fun (X : World) (hk : KTab X) (hX : Below w.heap.size w X) => HA.torn p g u keep X hk (h.below hX) hsm hu)
  have HRT := Lib.hid (fun (X : World) (hX : Below w.heap.size w X) => artorn_any p g u keep X (h.below hX) hu)
  have HMY := Lib.hid (fun (X : World) (hk : KTab X) (hX : Below w.heap.size w X) => HA.may p g X hk (h.below hX) hsm)
  have HRM := Lib.hid (fun (X : World) (hX : Below w.heap.size w X) => armay_any p g X (h.below hX))
  have HSM := Lib.hid (fun (X : World) (hk : KTab X) (hX : Below w.heap.size w X) => HA.same p q g c0 X hk (h.below hX) (h2.below hX) hsm hsm2)
  have HRS := Lib.hid (fun (X : World) (hX : Below w.heap.size w X) => arsame_any p q g c0 X (h.below hX) (h2.below hX))
  have HRO := Lib.hid (fun (X : World) (hk : KTab X) (hX : Below w.heap.size w X) => HA.room p g X hk (h.below hX) hsm)
  have HRR := Lib.hid (fun (X : World) (hX : Below w.heap.size w X) => arroom_any p g X (h.below hX) hmm)
  have HOP := Lib.hid (fun (X : World) (hk : KTab X) (hX : Below w.heap.size w X) => HA.open_ s A n c X hk (hb.below hX) (by omega))
  have HPR := Lib.hid (fun (X : World) (hX : Below w.heap.size w X) => aropen_any s A n c X (hb.below hX))
  have HNW := Lib.hid (fun (X : World) (hk : KTab X) => HA.new room X hk)
  have HNR := Lib.hid (fun (X : World) => arnew_any room X)
  have HSA := Lib.hid (fun (a b : Lp) (x : Lg) (X : World) (ha : LgAt X a x) (hb : LgAt X b x) => arsame_any a b x x X ha hb)
  simp only [sameG_self] at HSA
  have HSS := Lib.hid (fun (T : Sp) (A1 B1 : Option Addr) (n1 c1 m1 d1 : Nat) (X : World) (ha : Bts X A1 n1 c1 T.data) (hb : Bts X B1 m1 d1 T.data) => rstsame_any T T A1 B1 n1 c1 m1 d1 X ha hb)
  simp only [sameP_self, Sp.val] at HSS
  rw [hcap, hsure] at HOP HPR
  obtain ⟨⟨x, E⟩, hx⟩ : ∃ x, addG g u urg = x := ⟨_, rfl⟩
  obtain ⟨⟨y, I⟩, hy⟩ : ∃ x, openG s = x := ⟨_, rfl⟩
  obtain ⟨⟨z, NB⟩, hz⟩ : ∃ x, newG room = x := ⟨_, rfl⟩
  obtain ⟨T, hT⟩ : ∃ x, tornG g u keep = x := ⟨_, rfl⟩
  obtain ⟨M, hM⟩ : ∃ x, mayG g = x := ⟨_, rfl⟩
  obtain ⟨SM, hSM⟩ : ∃ x, sameG g c0 = x := ⟨_, rfl⟩
  obtain ⟨R, hR⟩ : ∃ x, roomG g = x := ⟨_, rfl⟩
  simp only [hx] at HAD HRD
  simp only [hy] at HOP HPR
  simp only [hz] at HNW HNR
  simp only [hT] at HTO HRT
  simp only [hM] at HMY HRM
  simp only [hSM] at HSM HRS
  simp only [hR] at HRO HRR
  unfold GLE at HAD HRD HOP HPR
  unfold GLB at HNW HNR
  unfold GSt at HTO HRT
  clear h h2 hu hb hK HA hcap hsure hx hy hz hT hM hSM hR hsm hsm2 hl30 hl302 hd25 hd252 hf hf2 hms hmm
  unfold enV at *
  go_enter Tryz.func3, Tryz.ntmps3
  go_wp2_with (first
    | (go_at_call 4
       (with_reducible refine (HAW.out _ (HK.out.from (four_bel w _ _ _ _))).mono ?_)
       rintro e w1 ⟨rfl, hb1⟩
       obtain ⟨hb0, y0, y1, y2, y3⟩ := after_four hb1
       have k0 : w1.heap[w.heap.size]? = some (.cells p.arr 29 (0, 0)) := y0
       have kc : w1.heap[w.heap.size + 1]? = some (.cells q.arr 29 (0, 0)) := y1
       have ke : w1.heap[w.heap.size + 2]? = some (.cells (enA u) 33 (0, 0)) := y2
       have ks : w1.heap[w.heap.size + 3]? = some (.cells #[.int .i64 cap, .slice A n c, .int .i64 sure] 24 (0, 0)) := y3
       have HB1 := Lib.hid hb0
       clear hb1 hb0 y0 y1 y2 y3)
    | ((with_reducible refine wpList_load_blk 29 _ rfl w.heap.size ?hx1 29 p.arr (0, 0) _ k0 Tryz.underlying29 ?hd1 HW.out ?_ ?hw1); (case hx1 => rfl); (case hd1 => rfl); (case hw1 => rfl))
    | ((with_reducible refine wpList_load_blk 29 _ rfl (w.heap.size + 1) ?hx2 29 q.arr (0, 0) _ kc Tryz.underlying29 ?hd2 HWC.out ?_ ?hw2); (case hx2 => rfl); (case hd2 => rfl); (case hw2 => rfl))
    | ((with_reducible refine wpList_load_blk 33 _ rfl (w.heap.size + 2) ?hx3 33 (enA u) (0, 0) _ ke Tryz.underlying33 ?hd3 (info_en (enA_size _)) ?_ ?hw3); (case hx3 => rfl); (case hd3 => rfl); (case hw3 => rfl))
    | ((with_reducible refine wpList_load_blk 24 _ rfl (w.heap.size + 3) ?hx4 24 #[.int .i64 cap, .slice A n c, .int .i64 sure] (0, 0) _ ks Tryz.underlying24 ?hd4 (size_st3 _ _ _) ?_ ?hw4); (case hx4 => rfl); (case hd4 => rfl); (case hw4 => rfl))
    | (go_at_call 5
       (with_reducible refine (HFW.out _ HB1.out).mono ?_)
       rintro e w2 ⟨rfl, hbx⟩
       have k0 := blk_below k0 hbx
       have kc := blk_below kc hbx
       have ke := blk_below ke hbx
       have ks := blk_below ks hbx
       have HB2 := Lib.hid (HB1.out.trans (hbx.mono HB1.out.size))
       clear hbx)
    | (go_at_call 5
       (with_reducible refine (HFC.out _ HB2.out).mono ?_)
       rintro e w3 ⟨rfl, hbx⟩
       have k0 := blk_below k0 hbx
       have kc := blk_below kc hbx
       have ke := blk_below ke hbx
       have ks := blk_below ks hbx
       have HB3 := Lib.hid (HB2.out.trans (hbx.mono HB2.out.size))
       have s1 := (BoxT.cells (show BoxT w3 (w.heap.size + 3) 24 cap A n c sure from ks)).2.1
       clear hbx)
    | (go_at_call 6
       (with_reducible refine (HAD.out _ (HK.out.from HB3.out) HB3.out).mono ?_)
       rintro e w4 ⟨p1, rfl, hp1, hbx⟩
       have HP1 := Lib.hid hp1
       have k0 := blk_below k0 hbx
       have kc := blk_below kc hbx
       have ke := blk_below ke hbx
       have ks := blk_below ks hbx
       have HB4 := Lib.hid (HB3.out.trans (hbx.mono HB3.out.size))
       clear s1
       clear hp1 hbx)
    | ((with_reducible refine wpList_store_blk rfl 29 _ _ rfl w4.heap.size p1.arr ?hx31 ?hy31 29 _ (heap_alloc_new w4 _) HP1.out.whole ?hs31 (lp_one _) ?_); (case hx31 => rfl); (case hy31 => rfl); (case hs31 => exact (lp_size (p := Lp.zero) rfl).trans (lp_size HP1.out.hlen).symm)
       intro w5 hg k1 hs
       have hbx : Below w4.heap.size w4 w5 := Below.grows (one_alloc w4 _) hg (size_le_alloc _ _) (Nat.le_refl _)
       have k0 := blk_below k0 hbx
       have kc := blk_below kc hbx
       have ke := blk_below ke hbx
       have ks := blk_below ks hbx
       have HP1 := Lib.hid (HP1.out.below hbx)
       have HB5 := Lib.hid (HB4.out.trans (hbx.mono HB4.out.size))
       clear hbx hg hs)
    | (go_at_call 7
       (with_reducible refine (HRD.out _ HB5.out).mono ?_)
       rintro e w6 ⟨p2, rfl, hp2, hbx⟩
       have HP2 := Lib.hid hp2
       have k0 := blk_below k0 hbx
       have kc := blk_below kc hbx
       have ke := blk_below ke hbx
       have ks := blk_below ks hbx
       have k1 := blk_below k1 hbx
       have HP1 := Lib.hid (HP1.out.below hbx)
       have HB6 := Lib.hid (HB5.out.trans (hbx.mono HB5.out.size))
       clear hp2 hbx)
    | ((with_reducible refine wpList_store_blk rfl 29 _ _ rfl w6.heap.size p2.arr ?hx32 ?hy32 29 _ (heap_alloc_new w6 _) HP2.out.whole ?hs32 (lp_one _) ?_); (case hx32 => rfl); (case hy32 => rfl); (case hs32 => exact (lp_size (p := Lp.zero) rfl).trans (lp_size HP2.out.hlen).symm)
       intro w7 hg k2 hs
       have hbx : Below w6.heap.size w6 w7 := Below.grows (one_alloc w6 _) hg (size_le_alloc _ _) (Nat.le_refl _)
       have k0 := blk_below k0 hbx
       have kc := blk_below kc hbx
       have ke := blk_below ke hbx
       have ks := blk_below ks hbx
       have k1 := blk_below k1 hbx
       have HP1 := Lib.hid (HP1.out.below hbx)
       have HP2 := Lib.hid (HP2.out.below hbx)
       have HB7 := Lib.hid (HB6.out.trans (hbx.mono HB6.out.size))
       clear hbx hg hs)
    | (go_at_call 8
       (with_reducible refine (HOP.out _ (HK.out.from HB7.out) HB7.out).mono ?_)
       rintro e w8 ⟨p3, rfl, hp3, hbx⟩
       have HP3 := Lib.hid hp3
       have k0 := blk_below k0 hbx
       have kc := blk_below kc hbx
       have ke := blk_below ke hbx
       have ks := blk_below ks hbx
       have k1 := blk_below k1 hbx
       have k2 := blk_below k2 hbx
       have HP1 := Lib.hid (HP1.out.below hbx)
       have HP2 := Lib.hid (HP2.out.below hbx)
       have HB8 := Lib.hid (HB7.out.trans (hbx.mono HB7.out.size))
       clear hp3 hbx)
    | ((with_reducible refine wpList_store_blk rfl 29 _ _ rfl w8.heap.size p3.arr ?hx33 ?hy33 29 _ (heap_alloc_new w8 _) HP3.out.whole ?hs33 (lp_one _) ?_); (case hx33 => rfl); (case hy33 => rfl); (case hs33 => exact (lp_size (p := Lp.zero) rfl).trans (lp_size HP3.out.hlen).symm)
       intro w9 hg k3 hs
       have hbx : Below w8.heap.size w8 w9 := Below.grows (one_alloc w8 _) hg (size_le_alloc _ _) (Nat.le_refl _)
       have k0 := blk_below k0 hbx
       have kc := blk_below kc hbx
       have ke := blk_below ke hbx
       have ks := blk_below ks hbx
       have k1 := blk_below k1 hbx
       have k2 := blk_below k2 hbx
       have HP1 := Lib.hid (HP1.out.below hbx)
       have HP2 := Lib.hid (HP2.out.below hbx)
       have HP3 := Lib.hid (HP3.out.below hbx)
       have HB9 := Lib.hid (HB8.out.trans (hbx.mono HB8.out.size))
       clear hbx hg hs)
    | (go_at_call 9
       (with_reducible refine (HPR.out _ HB9.out).mono ?_)
       rintro e w10 ⟨p4, rfl, hp4, hbx⟩
       have HP4 := Lib.hid hp4
       have k0 := blk_below k0 hbx
       have kc := blk_below kc hbx
       have ke := blk_below ke hbx
       have ks := blk_below ks hbx
       have k1 := blk_below k1 hbx
       have k2 := blk_below k2 hbx
       have k3 := blk_below k3 hbx
       have HP1 := Lib.hid (HP1.out.below hbx)
       have HP2 := Lib.hid (HP2.out.below hbx)
       have HP3 := Lib.hid (HP3.out.below hbx)
       have HB10 := Lib.hid (HB9.out.trans (hbx.mono HB9.out.size))
       clear hp4 hbx)
    | ((with_reducible refine wpList_store_blk rfl 29 _ _ rfl w10.heap.size p4.arr ?hx34 ?hy34 29 _ (heap_alloc_new w10 _) HP4.out.whole ?hs34 (lp_one _) ?_); (case hx34 => rfl); (case hy34 => rfl); (case hs34 => exact (lp_size (p := Lp.zero) rfl).trans (lp_size HP4.out.hlen).symm)
       intro w11 hg k4 hs
       have hbx : Below w10.heap.size w10 w11 := Below.grows (one_alloc w10 _) hg (size_le_alloc _ _) (Nat.le_refl _)
       have k0 := blk_below k0 hbx
       have kc := blk_below kc hbx
       have ke := blk_below ke hbx
       have ks := blk_below ks hbx
       have k1 := blk_below k1 hbx
       have k2 := blk_below k2 hbx
       have k3 := blk_below k3 hbx
       have HP1 := Lib.hid (HP1.out.below hbx)
       have HP2 := Lib.hid (HP2.out.below hbx)
       have HP3 := Lib.hid (HP3.out.below hbx)
       have HP4 := Lib.hid (HP4.out.below hbx)
       have HB11 := Lib.hid (HB10.out.trans (hbx.mono HB10.out.size))
       clear hbx hg hs)
    | (go_at_call 10
       (with_reducible refine (HNW.out _ (HK.out.from HB11.out)).mono ?_)
       rintro e w12 ⟨p5, rfl, hp5, hbx⟩
       have HP5 := Lib.hid hp5
       have k0 := blk_below k0 hbx
       have kc := blk_below kc hbx
       have ke := blk_below ke hbx
       have ks := blk_below ks hbx
       have k1 := blk_below k1 hbx
       have k2 := blk_below k2 hbx
       have k3 := blk_below k3 hbx
       have k4 := blk_below k4 hbx
       have HP1 := Lib.hid (HP1.out.below hbx)
       have HP2 := Lib.hid (HP2.out.below hbx)
       have HP3 := Lib.hid (HP3.out.below hbx)
       have HP4 := Lib.hid (HP4.out.below hbx)
       have HB12 := Lib.hid (HB11.out.trans (hbx.mono HB11.out.size))
       clear hp5 hbx)
    | ((with_reducible refine wpList_store_blk rfl 29 _ _ rfl w12.heap.size p5.arr ?hx35 ?hy35 29 _ (heap_alloc_new w12 _) HP5.out.whole ?hs35 (lp_one _) ?_); (case hx35 => rfl); (case hy35 => rfl); (case hs35 => exact (lp_size (p := Lp.zero) rfl).trans (lp_size HP5.out.hlen).symm)
       intro w13 hg k5 hs
       have hbx : Below w12.heap.size w12 w13 := Below.grows (one_alloc w12 _) hg (size_le_alloc _ _) (Nat.le_refl _)
       have k0 := blk_below k0 hbx
       have kc := blk_below kc hbx
       have ke := blk_below ke hbx
       have ks := blk_below ks hbx
       have k1 := blk_below k1 hbx
       have k2 := blk_below k2 hbx
       have k3 := blk_below k3 hbx
       have k4 := blk_below k4 hbx
       have HP1 := Lib.hid (HP1.out.below hbx)
       have HP2 := Lib.hid (HP2.out.below hbx)
       have HP3 := Lib.hid (HP3.out.below hbx)
       have HP4 := Lib.hid (HP4.out.below hbx)
       have HP5 := Lib.hid (HP5.out.below hbx)
       have HB13 := Lib.hid (HB12.out.trans (hbx.mono HB12.out.size))
       clear hbx hg hs)
    | (go_at_call 11
       (with_reducible refine (HNR.out _).mono ?_)
       rintro e w14 ⟨p6, rfl, hp6, hbx⟩
       have HP6 := Lib.hid hp6
       have k0 := blk_below k0 hbx
       have kc := blk_below kc hbx
       have ke := blk_below ke hbx
       have ks := blk_below ks hbx
       have k1 := blk_below k1 hbx
       have k2 := blk_below k2 hbx
       have k3 := blk_below k3 hbx
       have k4 := blk_below k4 hbx
       have k5 := blk_below k5 hbx
       have HP1 := Lib.hid (HP1.out.below hbx)
       have HP2 := Lib.hid (HP2.out.below hbx)
       have HP3 := Lib.hid (HP3.out.below hbx)
       have HP4 := Lib.hid (HP4.out.below hbx)
       have HP5 := Lib.hid (HP5.out.below hbx)
       have HB14 := Lib.hid (HB13.out.trans (hbx.mono HB13.out.size))
       clear hp6 hbx)
    | ((with_reducible refine wpList_store_blk rfl 29 _ _ rfl w14.heap.size p6.arr ?hx36 ?hy36 29 _ (heap_alloc_new w14 _) HP6.out.whole ?hs36 (lp_one _) ?_); (case hx36 => rfl); (case hy36 => rfl); (case hs36 => exact (lp_size (p := Lp.zero) rfl).trans (lp_size HP6.out.hlen).symm)
       intro w15 hg k6 hs
       have hbx : Below w14.heap.size w14 w15 := Below.grows (one_alloc w14 _) hg (size_le_alloc _ _) (Nat.le_refl _)
       have k0 := blk_below k0 hbx
       have kc := blk_below kc hbx
       have ke := blk_below ke hbx
       have ks := blk_below ks hbx
       have k1 := blk_below k1 hbx
       have k2 := blk_below k2 hbx
       have k3 := blk_below k3 hbx
       have k4 := blk_below k4 hbx
       have k5 := blk_below k5 hbx
       have HP1 := Lib.hid (HP1.out.below hbx)
       have HP2 := Lib.hid (HP2.out.below hbx)
       have HP3 := Lib.hid (HP3.out.below hbx)
       have HP4 := Lib.hid (HP4.out.below hbx)
       have HP5 := Lib.hid (HP5.out.below hbx)
       have HP6 := Lib.hid (HP6.out.below hbx)
       have HB15 := Lib.hid (HB14.out.trans (hbx.mono HB14.out.size))
       clear hbx hg hs)
    | ((with_reducible refine wpList_load_blk 29 _ rfl w4.heap.size ?hx11 29 p1.arr (0, 0) _ k1 Tryz.underlying29 ?hd11 HP1.out.whole ?_ ?hw11); (case hx11 => rfl); (case hd11 => rfl); (case hw11 => rfl))
    | ((with_reducible refine wpList_load_blk 29 _ rfl w6.heap.size ?hx12 29 p2.arr (0, 0) _ k2 Tryz.underlying29 ?hd12 HP2.out.whole ?_ ?hw12); (case hx12 => rfl); (case hd12 => rfl); (case hw12 => rfl))
    | (go_at_call 12
       (with_reducible refine (HSA.out p1 p2 x _ HP1.out HP2.out).mono ?_)
       rintro e w16 ⟨rfl, hbx⟩
       have k0 := blk_below k0 hbx
       have kc := blk_below kc hbx
       have ke := blk_below ke hbx
       have ks := blk_below ks hbx
       have k1 := blk_below k1 hbx
       have k2 := blk_below k2 hbx
       have k3 := blk_below k3 hbx
       have k4 := blk_below k4 hbx
       have k5 := blk_below k5 hbx
       have k6 := blk_below k6 hbx
       have HP1 := Lib.hid (HP1.out.below hbx)
       have HP2 := Lib.hid (HP2.out.below hbx)
       have HP3 := Lib.hid (HP3.out.below hbx)
       have HP4 := Lib.hid (HP4.out.below hbx)
       have HP5 := Lib.hid (HP5.out.below hbx)
       have HP6 := Lib.hid (HP6.out.below hbx)
       have HB16 := Lib.hid (HB15.out.trans (hbx.mono HB15.out.size))
       clear hbx)
    | ((with_reducible refine wpList_load_blk 29 _ rfl w8.heap.size ?hx13 29 p3.arr (0, 0) _ k3 Tryz.underlying29 ?hd13 HP3.out.whole ?_ ?hw13); (case hx13 => rfl); (case hd13 => rfl); (case hw13 => rfl))
    | ((with_reducible refine wpList_load_blk 29 _ rfl w10.heap.size ?hx14 29 p4.arr (0, 0) _ k4 Tryz.underlying29 ?hd14 HP4.out.whole ?_ ?hw14); (case hx14 => rfl); (case hd14 => rfl); (case hw14 => rfl))
    | (go_at_call 12
       (with_reducible refine (HSA.out p3 p4 y _ HP3.out HP4.out).mono ?_)
       rintro e w17 ⟨rfl, hbx⟩
       have k0 := blk_below k0 hbx
       have kc := blk_below kc hbx
       have ke := blk_below ke hbx
       have ks := blk_below ks hbx
       have k1 := blk_below k1 hbx
       have k2 := blk_below k2 hbx
       have k3 := blk_below k3 hbx
       have k4 := blk_below k4 hbx
       have k5 := blk_below k5 hbx
       have k6 := blk_below k6 hbx
       have HP1 := Lib.hid (HP1.out.below hbx)
       have HP2 := Lib.hid (HP2.out.below hbx)
       have HP3 := Lib.hid (HP3.out.below hbx)
       have HP4 := Lib.hid (HP4.out.below hbx)
       have HP5 := Lib.hid (HP5.out.below hbx)
       have HP6 := Lib.hid (HP6.out.below hbx)
       have HB17 := Lib.hid (HB16.out.trans (hbx.mono HB16.out.size))
       clear hbx)
    | ((with_reducible refine wpList_load_blk 29 _ rfl w12.heap.size ?hx15 29 p5.arr (0, 0) _ k5 Tryz.underlying29 ?hd15 HP5.out.whole ?_ ?hw15); (case hx15 => rfl); (case hd15 => rfl); (case hw15 => rfl))
    | ((with_reducible refine wpList_load_blk 29 _ rfl w14.heap.size ?hx16 29 p6.arr (0, 0) _ k6 Tryz.underlying29 ?hd16 HP6.out.whole ?_ ?hw16); (case hx16 => rfl); (case hd16 => rfl); (case hw16 => rfl))
    | (go_at_call 12
       (with_reducible refine (HSA.out p5 p6 z _ HP5.out HP6.out).mono ?_)
       rintro e w18 ⟨rfl, hbx⟩
       have k0 := blk_below k0 hbx
       have kc := blk_below kc hbx
       have ke := blk_below ke hbx
       have ks := blk_below ks hbx
       have k1 := blk_below k1 hbx
       have k2 := blk_below k2 hbx
       have k3 := blk_below k3 hbx
       have k4 := blk_below k4 hbx
       have k5 := blk_below k5 hbx
       have k6 := blk_below k6 hbx
       have HP1 := Lib.hid (HP1.out.below hbx)
       have HP2 := Lib.hid (HP2.out.below hbx)
       have HP3 := Lib.hid (HP3.out.below hbx)
       have HP4 := Lib.hid (HP4.out.below hbx)
       have HP5 := Lib.hid (HP5.out.below hbx)
       have HP6 := Lib.hid (HP6.out.below hbx)
       have HB18 := Lib.hid (HB17.out.trans (hbx.mono HB17.out.size))
       clear hbx))
  have hSd : Below w18.heap.size w18 w18.drew := (Below.refl _ w18).drew
  refine wp_region_held_drew (S := fun X => Below w18.heap.size w18 X) (by kernel_rfl) hSd (fun hHeld => ?_)
  refine take_blk 0 29 _ w.heap.size 29 p.arr (0, 0) _ rfl rfl rfl (by kernel_rfl) (by kernel_rfl) (by kernel_rfl) (fun _ _ _ h => h) rfl hHeld (fun X hX => blk_below k0 hX) Tryz.underlying29 rfl HP.out.whole ?_
  simp only [Act.put, List.setIfInBounds_toArray, List.set_cons_zero, List.set_cons_succ]
  refine take_blk 1 33 _ (w.heap.size + 2) 33 (enA u) (0, 0) _ rfl rfl rfl (by kernel_rfl) (by kernel_rfl) (by kernel_rfl) (fun _ _ _ h => h) rfl hHeld (fun X hX => blk_below ke hX) Tryz.underlying33 rfl (info_en (enA_size _)) ?_
  simp only [Act.put, List.setIfInBounds_toArray, List.set_cons_zero, List.set_cons_succ]
  refine take_run 2 (.int .i64 keep) rfl (by kernel_rfl) (by kernel_rfl) (by kernel_rfl) (fun _ _ _ h => h) rfl hHeld (fun w => ?_) ?_
  · go_simp
  simp only [Act.put, List.setIfInBounds_toArray, List.set_cons_zero, List.set_cons_succ]
  refine take_blk 4 29 _ w.heap.size 29 p.arr (0, 0) _ rfl rfl rfl (by kernel_rfl) (by kernel_rfl) (by kernel_rfl) (fun _ _ _ h => h) rfl hHeld (fun X hX => blk_below k0 hX) Tryz.underlying29 rfl HP.out.whole ?_
  simp only [Act.put, List.setIfInBounds_toArray, List.set_cons_zero, List.set_cons_succ]
  refine take_blk 5 33 _ (w.heap.size + 2) 33 (enA u) (0, 0) _ rfl rfl rfl (by kernel_rfl) (by kernel_rfl) (by kernel_rfl) (fun _ _ _ h => h) rfl hHeld (fun X hX => blk_below ke hX) Tryz.underlying33 rfl (info_en (enA_size _)) ?_
  simp only [Act.put, List.setIfInBounds_toArray, List.set_cons_zero, List.set_cons_succ]
  refine take_run 6 (.int .i64 keep) rfl (by kernel_rfl) (by kernel_rfl) (by kernel_rfl) (fun _ _ _ h => h) rfl hHeld (fun w => ?_) ?_
  · go_simp
  simp only [Act.put, List.setIfInBounds_toArray, List.set_cons_zero, List.set_cons_succ]
  refine one_step 3 (by kernel_rfl) rfl (fun Kq hKq => ?_)
  go_simp
  go_at_call 14
  refine (HTO.out _ (HK.out.from (HB18.out.trans (hSd.mono HB18.out.size))) (HB18.out.trans (hSd.mono HB18.out.size))).mono ?_
  rintro e y1 ⟨A6, n6, c6, rfl, hbt6, hbx⟩
  have hS1 : Below w18.heap.size w18 y1 := hSd.trans (hbx.mono hSd.size)
  clear hbx
  refine hKq.out _ _ hS1 (fun hHeld0 => ?_)
  clear hKq Kq hHeld
  have hHeld := hHeld0
  clear hHeld0
  try simp only [Act.put, List.setIfInBounds_toArray, List.set_cons_zero, List.set_cons_succ]
  refine one_step 7 (by kernel_rfl) rfl (fun Kq hKq => ?_)
  go_simp
  go_at_call 15
  refine (HRT.out _ (HB18.out.trans (hS1.mono HB18.out.size))).mono ?_
  rintro e y2 ⟨A7, n7, c7, rfl, hbt7, hbx⟩
  have hS2 : Below w18.heap.size w18 y2 := hS1.trans (hbx.mono hS1.size)
  have hbt6 := hbt6.below hbx
  clear hbx
  refine hKq.out _ _ hS2 (fun hHeld0 => ?_)
  clear hKq Kq hHeld
  have hHeld := hHeld0
  clear hHeld0
  try simp only [Act.put, List.setIfInBounds_toArray, List.set_cons_zero, List.set_cons_succ]
  refine one_step 8 (by kernel_rfl) rfl (fun Kq hKq => ?_)
  go_simp
  go_at_call 13
  refine (HSS.out T A6 A7 n6 c6 n7 c7 _ hbt6 hbt7).mono ?_
  rintro e y3 ⟨rfl, hbx⟩
  have hS3 : Below w18.heap.size w18 y3 := hS2.trans (hbx.mono hS2.size)
  clear hbx
  refine hKq.out _ _ hS3 (fun hHeld0 => ?_)
  clear hKq Kq hHeld
  have hHeld := hHeld0
  clear hHeld0
  try simp only [Act.put, List.setIfInBounds_toArray, List.set_cons_zero, List.set_cons_succ]
  refine take_run 9 (.bool true) rfl (by kernel_rfl) (by kernel_rfl) (by kernel_rfl) (fun _ _ _ h => h) rfl hHeld (fun w => ?_) ?_
  · go_simp
  simp only [Act.put, List.setIfInBounds_toArray, List.set_cons_zero, List.set_cons_succ]
  refine wpAnyH_done (by kernel_rfl) ?_ _
  obtain ⟨wq, hwq⟩ : ∃ X, y3 = X := ⟨_, rfl⟩
  rw [hwq] at hS3 ⊢
  have HBq := Lib.hid (HB18.out.trans (hS3.mono HB18.out.size))
  have k0 := blk_below k0 hS3
  have kc := blk_below kc hS3
  clear hSd hHeld hwq ke ks hS3 hbt6 hbt7 k1 k2 k3 k4 k5 k6 hS1 hS2
  go_wp2_with (first
    | ((with_reducible refine wpList_load_blk 29 _ rfl w.heap.size ?hx1 29 p.arr (0, 0) _ k0 Tryz.underlying29 ?hd1 HW.out ?_ ?hw1); (case hx1 => rfl); (case hd1 => rfl); (case hw1 => rfl))
    | ((with_reducible refine wpList_load_blk 29 _ rfl (w.heap.size + 1) ?hx2 29 q.arr (0, 0) _ kc Tryz.underlying29 ?hd2 HWC.out ?_ ?hw2); (case hx2 => rfl); (case hd2 => rfl); (case hw2 => rfl))
    | (go_at_call 16
       (with_reducible refine (HRM.out _ HBq.out).mono ?_)
       rintro e wr ⟨rfl, hbx⟩
       have k0 := blk_below k0 hbx
       have kc := blk_below kc hbx
       have HBr := Lib.hid (HBq.out.trans (hbx.mono HBq.out.size))
       clear hbx)
    | (go_at_call 12
       (with_reducible refine (HRS.out _ HBr.out).mono ?_)
       rintro e ws ⟨rfl, hbx⟩
       have k0 := blk_below k0 hbx
       have kc := blk_below kc hbx
       have HBs := Lib.hid (HBr.out.trans (hbx.mono HBr.out.size))
       clear hbx))
  have hSd : Below ws.heap.size ws ws.drew := (Below.refl _ ws).drew
  refine wp_region_held_drew (S := fun X => Below ws.heap.size ws X) (by kernel_rfl) hSd (fun hHeld => ?_)
  refine take_run 0 (.bool true) rfl (by kernel_rfl) (by kernel_rfl) (by kernel_rfl) (fun _ _ _ h => h) rfl hHeld (fun w => ?_) ?_
  · go_simp
  simp only [Act.put, List.setIfInBounds_toArray, List.set_cons_zero, List.set_cons_succ]
  refine take_run 1 (.bool true) rfl (by kernel_rfl) (by kernel_rfl) (by kernel_rfl) (fun _ _ _ h => h) rfl hHeld (fun w => ?_) ?_
  · go_simp
  simp only [Act.put, List.setIfInBounds_toArray, List.set_cons_zero, List.set_cons_succ]
  refine take_run 2 (.int .i64 E) rfl (by kernel_rfl) (by kernel_rfl) (by kernel_rfl) (fun _ _ _ h => h) rfl hHeld (fun w => ?_) ?_
  · go_simp
  simp only [Act.put, List.setIfInBounds_toArray, List.set_cons_zero, List.set_cons_succ]
  refine take_run 3 (.int .i64 E) rfl (by kernel_rfl) (by kernel_rfl) (by kernel_rfl) (fun _ _ _ h => h) rfl hHeld (fun w => ?_) ?_
  · go_simp
  simp only [Act.put, List.setIfInBounds_toArray, List.set_cons_zero, List.set_cons_succ]
  refine take_run 4 (.bool true) rfl (by kernel_rfl) (by kernel_rfl) (by kernel_rfl) (fun _ _ _ h => h) rfl hHeld (fun w => ?_) ?_
  · go_simp
  simp only [Act.put, List.setIfInBounds_toArray, List.set_cons_zero, List.set_cons_succ]
  refine take_run 5 (.bool true) rfl (by kernel_rfl) (by kernel_rfl) (by kernel_rfl) (fun _ _ _ h => h) rfl hHeld (fun w => ?_) ?_
  · go_simp
  simp only [Act.put, List.setIfInBounds_toArray, List.set_cons_zero, List.set_cons_succ]
  refine take_run 6 (.bool true) rfl (by kernel_rfl) (by kernel_rfl) (by kernel_rfl) (fun _ _ _ h => h) rfl hHeld (fun w => ?_) ?_
  · go_simp
  simp only [Act.put, List.setIfInBounds_toArray, List.set_cons_zero, List.set_cons_succ]
  refine take_run 7 (.bool true) rfl (by kernel_rfl) (by kernel_rfl) (by kernel_rfl) (fun _ _ _ h => h) rfl hHeld (fun w => ?_) ?_
  · go_simp
  simp only [Act.put, List.setIfInBounds_toArray, List.set_cons_zero, List.set_cons_succ]
  refine take_run 8 (.bool true) rfl (by kernel_rfl) (by kernel_rfl) (by kernel_rfl) (fun _ _ _ h => h) rfl hHeld (fun w => ?_) ?_
  · go_simp
  simp only [Act.put, List.setIfInBounds_toArray, List.set_cons_zero, List.set_cons_succ]
  refine take_run 9 (.bool true) rfl (by kernel_rfl) (by kernel_rfl) (by kernel_rfl) (fun _ _ _ h => h) rfl hHeld (fun w => ?_) ?_
  · go_simp
  simp only [Act.put, List.setIfInBounds_toArray, List.set_cons_zero, List.set_cons_succ]
  refine take_run 10 (.int .i64 I) rfl (by kernel_rfl) (by kernel_rfl) (by kernel_rfl) (fun _ _ _ h => h) rfl hHeld (fun w => ?_) ?_
  · go_simp
  simp only [Act.put, List.setIfInBounds_toArray, List.set_cons_zero, List.set_cons_succ]
  refine take_run 11 (.int .i64 I) rfl (by kernel_rfl) (by kernel_rfl) (by kernel_rfl) (fun _ _ _ h => h) rfl hHeld (fun w => ?_) ?_
  · go_simp
  simp only [Act.put, List.setIfInBounds_toArray, List.set_cons_zero, List.set_cons_succ]
  refine take_run 12 (.bool true) rfl (by kernel_rfl) (by kernel_rfl) (by kernel_rfl) (fun _ _ _ h => h) rfl hHeld (fun w => ?_) ?_
  · go_simp
  simp only [Act.put, List.setIfInBounds_toArray, List.set_cons_zero, List.set_cons_succ]
  refine take_run 13 (.bool true) rfl (by kernel_rfl) (by kernel_rfl) (by kernel_rfl) (fun _ _ _ h => h) rfl hHeld (fun w => ?_) ?_
  · go_simp
  simp only [Act.put, List.setIfInBounds_toArray, List.set_cons_zero, List.set_cons_succ]
  refine take_run 14 (.bool true) rfl (by kernel_rfl) (by kernel_rfl) (by kernel_rfl) (fun _ _ _ h => h) rfl hHeld (fun w => ?_) ?_
  · go_simp
  simp only [Act.put, List.setIfInBounds_toArray, List.set_cons_zero, List.set_cons_succ]
  refine take_run 15 (.bool true) rfl (by kernel_rfl) (by kernel_rfl) (by kernel_rfl) (fun _ _ _ h => h) rfl hHeld (fun w => ?_) ?_
  · go_simp
  simp only [Act.put, List.setIfInBounds_toArray, List.set_cons_zero, List.set_cons_succ]
  refine take_run 16 (.bool true) rfl (by kernel_rfl) (by kernel_rfl) (by kernel_rfl) (fun _ _ _ h => h) rfl hHeld (fun w => ?_) ?_
  · go_simp
  simp only [Act.put, List.setIfInBounds_toArray, List.set_cons_zero, List.set_cons_succ]
  refine take_run 17 (.bool true) rfl (by kernel_rfl) (by kernel_rfl) (by kernel_rfl) (fun _ _ _ h => h) rfl hHeld (fun w => ?_) ?_
  · go_simp
  simp only [Act.put, List.setIfInBounds_toArray, List.set_cons_zero, List.set_cons_succ]
  refine take_run 18 (.bool NB) rfl (by kernel_rfl) (by kernel_rfl) (by kernel_rfl) (fun _ _ _ h => h) rfl hHeld (fun w => ?_) ?_
  · go_simp
  simp only [Act.put, List.setIfInBounds_toArray, List.set_cons_zero, List.set_cons_succ]
  refine take_run 19 (.bool NB) rfl (by kernel_rfl) (by kernel_rfl) (by kernel_rfl) (fun _ _ _ h => h) rfl hHeld (fun w => ?_) ?_
  · go_simp
  simp only [Act.put, List.setIfInBounds_toArray, List.set_cons_zero, List.set_cons_succ]
  refine take_run 20 (.bool true) rfl (by kernel_rfl) (by kernel_rfl) (by kernel_rfl) (fun _ _ _ h => h) rfl hHeld (fun w => ?_) ?_
  · go_simp
  simp only [Act.put, List.setIfInBounds_toArray, List.set_cons_zero, List.set_cons_succ]
  refine take_run 21 (.bool true) rfl (by kernel_rfl) (by kernel_rfl) (by kernel_rfl) (fun _ _ _ h => h) rfl hHeld (fun w => ?_) ?_
  · go_simp
  simp only [Act.put, List.setIfInBounds_toArray, List.set_cons_zero, List.set_cons_succ]
  refine take_run 22 (.bool true) rfl (by kernel_rfl) (by kernel_rfl) (by kernel_rfl) (fun _ _ _ h => h) rfl hHeld (fun w => ?_) ?_
  · go_simp
  simp only [Act.put, List.setIfInBounds_toArray, List.set_cons_zero, List.set_cons_succ]
  refine take_run 23 (.bool true) rfl (by kernel_rfl) (by kernel_rfl) (by kernel_rfl) (fun _ _ _ h => h) rfl hHeld (fun w => ?_) ?_
  · go_simp
  simp only [Act.put, List.setIfInBounds_toArray, List.set_cons_zero, List.set_cons_succ]
  refine take_run 24 (.bool true) rfl (by kernel_rfl) (by kernel_rfl) (by kernel_rfl) (fun _ _ _ h => h) rfl hHeld (fun w => ?_) ?_
  · go_simp
  simp only [Act.put, List.setIfInBounds_toArray, List.set_cons_zero, List.set_cons_succ]
  refine take_run 25 (.bool true) rfl (by kernel_rfl) (by kernel_rfl) (by kernel_rfl) (fun _ _ _ h => h) rfl hHeld (fun w => ?_) ?_
  · go_simp
  simp only [Act.put, List.setIfInBounds_toArray, List.set_cons_zero, List.set_cons_succ]
  refine take_blk 26 29 _ w.heap.size 29 p.arr (0, 0) _ rfl rfl rfl (by kernel_rfl) (by kernel_rfl) (by kernel_rfl) (fun _ _ _ h => h) rfl hHeld (fun X hX => blk_below k0 hX) Tryz.underlying29 rfl HP.out.whole ?_
  simp only [Act.put, List.setIfInBounds_toArray, List.set_cons_zero, List.set_cons_succ]
  refine take_run 28 (.bool M) rfl (by kernel_rfl) (by kernel_rfl) (by kernel_rfl) (fun _ _ _ h => h) rfl hHeld (fun w => ?_) ?_
  · go_simp
  simp only [Act.put, List.setIfInBounds_toArray, List.set_cons_zero, List.set_cons_succ]
  refine one_step 27 (by kernel_rfl) rfl (fun Kq hKq => ?_)
  go_simp
  go_at_call 17
  refine (HMY.out _ (HK.out.from (HBs.out.trans (hSd.mono HBs.out.size))) (HBs.out.trans (hSd.mono HBs.out.size))).mono ?_
  rintro e y1 ⟨rfl, hbx⟩
  have hS1 : Below ws.heap.size ws y1 := hSd.trans (hbx.mono hSd.size)
  clear hbx
  refine hKq.out _ _ hS1 (fun hHeld0 => ?_)
  clear hKq Kq hHeld
  have hHeld := hHeld0
  clear hHeld0
  try simp only [Act.put, List.setIfInBounds_toArray, List.set_cons_zero, List.set_cons_succ]
  refine take_run 29 (.bool true) rfl (by kernel_rfl) (by kernel_rfl) (by kernel_rfl) (fun _ _ _ h => h) rfl hHeld (fun w => ?_) ?_
  · go_simp
  simp only [Act.put, List.setIfInBounds_toArray, List.set_cons_zero, List.set_cons_succ]
  refine take_run 30 (.bool true) rfl (by kernel_rfl) (by kernel_rfl) (by kernel_rfl) (fun _ _ _ h => h) rfl hHeld (fun w => ?_) ?_
  · go_simp
  simp only [Act.put, List.setIfInBounds_toArray, List.set_cons_zero, List.set_cons_succ]
  refine take_run 31 (.bool true) rfl (by kernel_rfl) (by kernel_rfl) (by kernel_rfl) (fun _ _ _ h => h) rfl hHeld (fun w => ?_) ?_
  · go_simp
  simp only [Act.put, List.setIfInBounds_toArray, List.set_cons_zero, List.set_cons_succ]
  refine take_blk 32 29 _ w.heap.size 29 p.arr (0, 0) _ rfl rfl rfl (by kernel_rfl) (by kernel_rfl) (by kernel_rfl) (fun _ _ _ h => h) rfl hHeld (fun X hX => blk_below k0 hX) Tryz.underlying29 rfl HP.out.whole ?_
  simp only [Act.put, List.setIfInBounds_toArray, List.set_cons_zero, List.set_cons_succ]
  refine take_blk 33 29 _ (w.heap.size + 1) 29 q.arr (0, 0) _ rfl rfl rfl (by kernel_rfl) (by kernel_rfl) (by kernel_rfl) (fun _ _ _ h => h) rfl hHeld (fun X hX => blk_below kc hX) Tryz.underlying29 rfl HC.out.whole ?_
  simp only [Act.put, List.setIfInBounds_toArray, List.set_cons_zero, List.set_cons_succ]
  refine take_run 35 (.bool SM) rfl (by kernel_rfl) (by kernel_rfl) (by kernel_rfl) (fun _ _ _ h => h) rfl hHeld (fun w => ?_) ?_
  · go_simp
  simp only [Act.put, List.setIfInBounds_toArray, List.set_cons_zero, List.set_cons_succ]
  refine one_step 34 (by kernel_rfl) rfl (fun Kq hKq => ?_)
  go_simp
  go_at_call 18
  refine (HSM.out _ (HK.out.from (HBs.out.trans (hS1.mono HBs.out.size))) (HBs.out.trans (hS1.mono HBs.out.size))).mono ?_
  rintro e y2 ⟨rfl, hbx⟩
  have hS2 : Below ws.heap.size ws y2 := hS1.trans (hbx.mono hS1.size)
  clear hbx
  refine hKq.out _ _ hS2 (fun hHeld0 => ?_)
  clear hKq Kq hHeld
  have hHeld := hHeld0
  clear hHeld0
  try simp only [Act.put, List.setIfInBounds_toArray, List.set_cons_zero, List.set_cons_succ]
  refine take_run 36 (.bool true) rfl (by kernel_rfl) (by kernel_rfl) (by kernel_rfl) (fun _ _ _ h => h) rfl hHeld (fun w => ?_) ?_
  · go_simp
  simp only [Act.put, List.setIfInBounds_toArray, List.set_cons_zero, List.set_cons_succ]
  refine take_run 37 (.bool true) rfl (by kernel_rfl) (by kernel_rfl) (by kernel_rfl) (fun _ _ _ h => h) rfl hHeld (fun w => ?_) ?_
  · go_simp
  simp only [Act.put, List.setIfInBounds_toArray, List.set_cons_zero, List.set_cons_succ]
  refine take_run 38 (.bool true) rfl (by kernel_rfl) (by kernel_rfl) (by kernel_rfl) (fun _ _ _ h => h) rfl hHeld (fun w => ?_) ?_
  · go_simp
  simp only [Act.put, List.setIfInBounds_toArray, List.set_cons_zero, List.set_cons_succ]
  refine take_blk 39 29 _ w.heap.size 29 p.arr (0, 0) _ rfl rfl rfl (by kernel_rfl) (by kernel_rfl) (by kernel_rfl) (fun _ _ _ h => h) rfl hHeld (fun X hX => blk_below k0 hX) Tryz.underlying29 rfl HP.out.whole ?_
  simp only [Act.put, List.setIfInBounds_toArray, List.set_cons_zero, List.set_cons_succ]
  refine take_blk 41 29 _ w.heap.size 29 p.arr (0, 0) _ rfl rfl rfl (by kernel_rfl) (by kernel_rfl) (by kernel_rfl) (fun _ _ _ h => h) rfl hHeld (fun X hX => blk_below k0 hX) Tryz.underlying29 rfl HP.out.whole ?_
  simp only [Act.put, List.setIfInBounds_toArray, List.set_cons_zero, List.set_cons_succ]
  refine one_step 40 (by kernel_rfl) rfl (fun Kq hKq => ?_)
  go_simp
  go_at_call 19
  refine (HRO.out _ (HK.out.from (HBs.out.trans (hS2.mono HBs.out.size))) (HBs.out.trans (hS2.mono HBs.out.size))).mono ?_
  rintro e y3 ⟨rfl, hbx⟩
  have hS3 : Below ws.heap.size ws y3 := hS2.trans (hbx.mono hS2.size)
  clear hbx
  refine hKq.out _ _ hS3 (fun hHeld0 => ?_)
  clear hKq Kq hHeld
  have hHeld := hHeld0
  clear hHeld0
  try simp only [Act.put, List.setIfInBounds_toArray, List.set_cons_zero, List.set_cons_succ]
  refine one_step 42 (by kernel_rfl) rfl (fun Kq hKq => ?_)
  go_simp
  go_at_call 20
  refine (HRR.out _ (HBs.out.trans (hS3.mono HBs.out.size))).mono ?_
  rintro e y4 ⟨rfl, hbx⟩
  have hS4 : Below ws.heap.size ws y4 := hS3.trans (hbx.mono hS3.size)
  clear hbx
  refine hKq.out _ _ hS4 (fun hHeld0 => ?_)
  clear hKq Kq hHeld
  have hHeld := hHeld0
  clear hHeld0
  try simp only [Act.put, List.setIfInBounds_toArray, List.set_cons_zero, List.set_cons_succ]
  refine take_run 43 (.bool true) rfl (by kernel_rfl) (by kernel_rfl) (by kernel_rfl) (fun _ _ _ h => h) rfl hHeld (fun w => ?_) ?_
  · go_simp
  simp only [Act.put, List.setIfInBounds_toArray, List.set_cons_zero, List.set_cons_succ]
  refine take_run 44 (.bool true) rfl (by kernel_rfl) (by kernel_rfl) (by kernel_rfl) (fun _ _ _ h => h) rfl hHeld (fun w => ?_) ?_
  · go_simp
  simp only [Act.put, List.setIfInBounds_toArray, List.set_cons_zero, List.set_cons_succ]
  refine take_run 45 (.bool true) rfl (by kernel_rfl) (by kernel_rfl) (by kernel_rfl) (fun _ _ _ h => h) rfl hHeld (fun w => ?_) ?_
  · go_simp
  simp only [Act.put, List.setIfInBounds_toArray, List.set_cons_zero, List.set_cons_succ]
  refine wpAnyH_done (by kernel_rfl) ?_ _
  go_wp2
  go_ret
  exact ⟨rfl, HBs.out.trans (hS4.mono HBs.out.size)⟩
theorem atells_any (HA : AudOk) (p q : Lp) (g c0 : Lg) (u : En) (urg : Bool) (keep : Int) (s : Sp) (A : Option Addr) (n c : Nat) (room : Int) (w : World) (hK : KTab w) (h : LgAt w p g) (h2 : LgAt w q c0) (hu : u.ok) (hb : Bts w A n c s.data) :
    Calls Tryz.prog 3 #[.agg p.arr, .agg q.arr, enV u, .bool urg, .int .i64 keep, .agg #[.int .i64 s.cap, .slice A n c, .int .i64 s.sure], .int .i64 room] w fun e w' => e = .returned (.bool true) ∧ Below w.heap.size w w' := by
  cases hf : fewG g with
  | false => exact atells_few1 HA p q g c0 u urg keep s A n c room w hK h h2 hu hb hf
  | true =>
    cases hf2 : fewG c0 with
    | false => exact atells_few2 HA p q g c0 u urg keep s A n c room w hK h h2 hu hb hf hf2
    | true =>
      by_cases hn : (2500 : Int) < n
      · exact atells_long HA p q g c0 u urg keep s A n c room w hK h h2 hu hb hf hf2 hn
      · exact atells_main HA p q g c0 u urg keep s A n c room w hK h h2 hu hb hf hf2 hn
end Go.Proofs.YtafmompplcaadaaGreatDoor
