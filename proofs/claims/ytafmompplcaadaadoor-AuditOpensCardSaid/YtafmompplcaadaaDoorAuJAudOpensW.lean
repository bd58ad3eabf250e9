/- The walk over the law AuditOpens: what is opened may be; opened again it is the same; its bytes are those in front. -/
import Derived.Test.YtafmompplcaadaaDoorAuJG
import Derived.Test.YtafmompplcaadaaDoorAuJJ
namespace Go.Proofs.YtafmompplcaadaaDoor
set_option maxRecDepth 100000
set_option linter.unusedVariables false
set_option linter.unusedSimpArgs false
open Go.RowKit

set_option maxHeartbeats 8000000 in
theorem aopensw_long (HA : AudOk) (s : Sp) (A : Option Addr) (n c : Nat) (w : World) (hK : KTab w) (hb : Bts w A n c s.data) (h : 2500 < n) :
    Calls Tryd.prog 5 #[.agg #[.int .i64 s.cap, .slice A n c, .int .i64 s.sure]] w fun e w' => e = .returned (.bool true) ∧ Below w.heap.size w w' := by
  have HK := Lib.hid hK
  have HAW := Lib.hid (fun (X : World) (hk : KTab X) => aawake_any HA X hk)
  have hns := hb.small
  have hnl := hb.len
  have h1 : (2500 : Int) < n := by omega
  clear hb hK
  go_enter Tryd.func5, Tryd.ntmps5
  go_wp2_with (first
    | (go_at_call 8
       (with_reducible refine (HAW.out _ (HK.out.from (one_alloc w _))).mono ?_)
       rintro e w1 ⟨rfl, hb1⟩
       obtain ⟨hb0, -, hk0⟩ := after_one hb1
       have k0 : w1.heap[w.heap.size]? = some (.cells #[.int .i64 s.cap, .slice A n c, .int .i64 s.sure] 24 (0, 0)) := hk0
       have x1 : w1.cell? ⟨w.heap.size, 1, none⟩ = some (.slice A n c) := (BoxT.cells (show BoxT w1 w.heap.size 24 s.cap A n c s.sure from k0)).2.1
       have HB1 := Lib.hid hb0
       clear hb1 hb0 hk0))
  go_ret
  exact ⟨rfl, HB1.out⟩
set_option maxHeartbeats 8000000 in
theorem aopensw_no (HA : AudOk) (s : Sp) (A : Option Addr) (n c : Nat) (w : World) (hK : KTab w) (hb : Bts w A n c s.data) (h : n ≤ 2500) (hm : mayP s = false) :
    Calls Tryd.prog 5 #[.agg #[.int .i64 s.cap, .slice A n c, .int .i64 s.sure]] w fun e w' => e = .returned (.bool true) ∧ Below w.heap.size w w' := by
  have HK := Lib.hid hK
  have HAW := Lib.hid (fun (X : World) (hk : KTab X) => aawake_any HA X hk)
  have hns := hb.small
  have hnl := hb.len
  have h1 : ¬ (2500 : Int) < n := by omega
  have ho : openG s = (zeroG, 1) := by rw [openG, hm]; rfl
  have HOP := Lib.hid (show ∀ X, KTab X → Below w.heap.size w X → Calls Tryd.prog 12 #[.agg #[.int .i64 s.cap, .slice A n c, .int .i64 s.sure]] X (GLE (zeroG, 1) X) from fun X hk hX => by
    have h0 := HA.open_ s A n c X hk (hb.below hX) (by omega)
    rw [ho] at h0
    exact h0)
  have HMY := Lib.hid (fun X => stmay_any s.cap A n c s.sure X (by omega))
  rw [show mayT s.cap n s.sure = false by rw [← hm, mayP, hb.len]] at HMY
  clear hb hK ho hm HA
  go_enter Tryd.func5, Tryd.ntmps5
  go_wp2_with (first
    | (go_at_call 8
       (with_reducible refine (HAW.out _ (HK.out.from (one_alloc w _))).mono ?_)
       rintro e w1 ⟨rfl, hb1⟩
       obtain ⟨hb0, -, hk0⟩ := after_one hb1
       have k0 : w1.heap[w.heap.size]? = some (.cells #[.int .i64 s.cap, .slice A n c, .int .i64 s.sure] 24 (0, 0)) := hk0
       have x1 : w1.cell? ⟨w.heap.size, 1, none⟩ = some (.slice A n c) := (BoxT.cells (show BoxT w1 w.heap.size 24 s.cap A n c s.sure from k0)).2.1
       have HB1 := Lib.hid hb0
       clear hb1 hb0 hk0)
    | ((with_reducible refine wpList_load_blk 24 _ rfl w.heap.size ?hx1 24 #[.int .i64 s.cap, .slice A n c, .int .i64 s.sure] (0, 0) _ k0 Tryd.underlying24 ?hd1 (size_st3 _ _ _) ?_ ?hw1); (case hx1 => rfl); (case hd1 => rfl); (case hw1 => rfl))
    | (go_at_call 12
       (with_reducible refine (HOP.out _ (HK.out.from HB1.out) HB1.out).mono ?_)
       rintro e w2 ⟨p1, rfl, hp1, hbx⟩
       have HP1 := Lib.hid hp1
       have k0 := blk_below k0 hbx
       have HB2 := Lib.hid (HB1.out.trans (hbx.mono HB1.out.size))
       clear hp1 hbx x1)
    | ((with_reducible refine wpList_store_blk rfl 29 _ _ rfl w2.heap.size p1.arr ?hx31 ?hy31 29 _ (heap_alloc_new w2 _) HP1.out.whole ?hs31 (lp_one _) ?_); (case hx31 => rfl); (case hy31 => rfl); (case hs31 => exact (lp_size (p := Lp.zero) rfl).trans (lp_size HP1.out.hlen).symm)
       intro w3 hg k1 hs
       have hbx : Below w2.heap.size w2 w3 := Below.grows (one_alloc w2 _) hg (size_le_alloc _ _) (Nat.le_refl _)
       have k0 := blk_below k0 hbx
       have HP1 := Lib.hid (HP1.out.below hbx)
       have HB3 := Lib.hid (HB2.out.trans (hbx.mono HB2.out.size))
       clear hbx hg hs)
    | (go_at_call 16
       (with_reducible refine (HMY.out _).mono ?_)
       rintro e w4 ⟨rfl, hbx⟩
       have k0 := blk_below k0 hbx
       have k1 := blk_below k1 hbx
       have HP1 := Lib.hid (HP1.out.below hbx)
       have HB4 := Lib.hid (HB3.out.trans (hbx.mono HB3.out.size))
       obtain ⟨x0, x1, x2, x3⟩ := lg_cells k1
       have hm3 : (p1.m : Int) = 0 := by have := HP1.out.ents.len; have h2 : zeroG.l.length = 0 := rfl; omega
       have hn3 : (p1.n : Int) = 0 := by have := HP1.out.data.len; have h2 : zeroG.st.data.length = 0 := rfl; omega
       clear hbx))
  go_ret
  exact ⟨rfl, HB4.out⟩
set_option maxHeartbeats 8000000 in
theorem aopensw_yes (HA : AudOk) (s : Sp) (A : Option Addr) (n c : Nat) (w : World) (hK : KTab w) (hb : Bts w A n c s.data) (h : n ≤ 2500) (hm : mayP s = true) :
    Calls Tryd.prog 5 #[.agg #[.int .i64 s.cap, .slice A n c, .int .i64 s.sure]] w fun e w' => e = .returned (.bool true) ∧ Below w.heap.size w w' := by
  have HK := Lib.hid hK
  have HAW := Lib.hid (fun (X : World) (hk : KTab X) => aawake_any HA X hk)
  have hns := hb.small
  have hnl := hb.len
  have h1 : ¬ (2500 : Int) < n := by omega
  obtain ⟨e0, hgm, hok⟩ := open_any hm (bytes_mem hb.ok)
  have hgo : openG (openG s).1.st = ((openG s).1, 0) := open_log hgm hok
  have hrr := readC_room s.data
  have hrl := readC_le s.data
  have HRD := Lib.hid (fun (X : World) (hk : KTab X) (hX : Below w.heap.size w X) => cread_any A n c s.data X hk (hb.below hX))
  rw [e0] at hgo hgm hok
  simp only at hgo hok
  obtain ⟨R, hR⟩ : ∃ R, readC s.data = R := ⟨_, rfl⟩
  rw [hR] at e0 hgm hok hgo hrr hrl HRD
  obtain ⟨Z, hZ⟩ : ∃ Z, headC R = Z := ⟨_, rfl⟩
  have hZL : Z.length = 32 := by rw [← hZ]; exact headC_len _
  rw [hZ] at e0 hgm hgo HRD
  obtain ⟨hcut, hbt⟩ := run_to hb (62 * (R.length : Int)) (hi := 62 * R.length) (by omega) (by omega)
  have ho := e0
  obtain ⟨G, hG⟩ : ∃ G : Lg, (⟨⟨s.cap, s.data.take (62 * R.length), 62 * R.length⟩, R, Z⟩ : Lg) = G := ⟨_, rfl⟩
  have hgd : G.st.data = s.data.take (62 * R.length) := by rw [← hG]
  have hgl : G.l = R := by rw [← hG]
  have hgh : G.head = Z := by rw [← hG]
  have hgc : G.st.cap = s.cap := by rw [← hG]
  rw [hG] at ho hgm
  have hgo : openG G.st = (G, 0) := by
    rw [← hG]
    exact hgo
  have hgdl : G.st.data.length = 62 * R.length := by rw [hgd, List.length_take]; omega
  have hgs : LgSm G := ⟨by omega, by rw [hgl]; omega⟩
  have HOP := Lib.hid (show ∀ X, KTab X → Below w.heap.size w X → Calls Tryd.prog 12 #[.agg #[.int .i64 s.cap, .slice A n c, .int .i64 s.sure]] X (GLE (G, 0) X) from fun X hk hX => by
    have h0 := HA.open_ s A n c X hk (hb.below hX) (by omega)
    rw [ho] at h0
    exact h0)
  have HOQ := Lib.hid (show ∀ (p : Lp) (X : World), KTab X → LgAt X p G → Calls Tryd.prog 12 #[.agg #[.int .i64 p.cap, .slice p.A p.n p.c, .int .i64 p.sure]] X (GLE (G, 0) X) from fun p X hk h => by
    have h0 := HA.open_ G.st p.A p.n p.c X hk h.data (by rw [← h.data.len]; omega)
    rw [hgo, ← h.cap, ← h.sure] at h0
    exact h0)
  have HMY := Lib.hid (fun (p : Lp) (X : World) (hk : KTab X) (h : LgAt X p G) => HA.may p G X hk h hgs)
  rw [hgm] at HMY
  have HSM := Lib.hid (fun (p q : Lp) (X : World) (hk : KTab X) (h : LgAt X p G) (h2 : LgAt X q G) => HA.same p q G G X hk h h2 hgs hgs)
  rw [sameG_self] at HSM
  have HES := Lib.hid (fun (B : Option Addr) (m d : Nat) (B2 : Option Addr) (m2 d2 : Nat) (X : World) (h : Ens X B m d R) (h2 : Ens X B2 m2 d2 R) => esame_any B m d R B2 m2 d2 R X h h2)
  rw [show sameE R R = true by simp [sameE]] at HES
  have HEQ := Lib.hid (show ∀ w, (Op.equalIn 10000 27 (.agg (idv Z)) (.agg (idv Z))).run Tryd.prog w = .ok true w from fun w => by rw [eq_ids _ _ hZL hZL, decide_eq_true rfl])
  obtain ⟨x, hx⟩ : ∃ x, bstr (s.data.take (62 * R.length)) = x := ⟨_, rfl⟩
  have HBT := Lib.hid hbt
  have HXS := Lib.hid hx
  have HGD := Lib.hid hgd
  have HGL := Lib.hid hgl
  have HGH := Lib.hid hgh
  have HGC := Lib.hid hgc
  have HGN := Lib.hid hgdl
  have HZL := Lib.hid hZL
  have HCUT := Lib.hid hcut
  have q0 : 0 ≤ 62 * (R.length : Int) := by omega
  have q1 : 62 * (R.length : Int) ≤ n := by omega
  clear hb hK hm HA e0 ho hgm hok hgo hrr hrl hR hZ hZL hbt hG hgd hgl hgh hgc hgdl hgs hx hcut
  go_enter Tryd.func5, Tryd.ntmps5
  go_wp2_with (first
    | (go_at_call 8
       (with_reducible refine (HAW.out _ (HK.out.from (one_alloc w _))).mono ?_)
       rintro e w1 ⟨rfl, hb1⟩
       obtain ⟨hb0, -, hk0⟩ := after_one hb1
       have k0 : w1.heap[w.heap.size]? = some (.cells #[.int .i64 s.cap, .slice A n c, .int .i64 s.sure] 24 (0, 0)) := hk0
       have x1 : w1.cell? ⟨w.heap.size, 1, none⟩ = some (.slice A n c) := (BoxT.cells (show BoxT w1 w.heap.size 24 s.cap A n c s.sure from k0)).2.1
       have HB1 := Lib.hid hb0
       clear hb1 hb0 hk0)
    | ((with_reducible refine wpList_load_blk 24 _ rfl w.heap.size ?hx1 24 #[.int .i64 s.cap, .slice A n c, .int .i64 s.sure] (0, 0) _ k0 Tryd.underlying24 ?hd1 (size_st3 _ _ _) ?_ ?hw1); (case hx1 => rfl); (case hd1 => rfl); (case hw1 => rfl))
    | (go_at_call 12
       (with_reducible refine (HOP.out _ (HK.out.from HB1.out) HB1.out).mono ?_)
       rintro e w2 ⟨p1, rfl, hp1, hbx⟩
       have HP1 := Lib.hid hp1
       have k0 := blk_below k0 hbx
       have HB2 := Lib.hid (HB1.out.trans (hbx.mono HB1.out.size))
       clear hp1 hbx x1)
    | ((with_reducible refine wpList_store_blk rfl 29 _ _ rfl w2.heap.size p1.arr ?hx31 ?hy31 29 _ (heap_alloc_new w2 _) HP1.out.whole ?hs31 (lp_one _) ?_); (case hx31 => rfl); (case hy31 => rfl); (case hs31 => exact (lp_size (p := Lp.zero) rfl).trans (lp_size HP1.out.hlen).symm)
       intro w3 hg k1 hs
       have hbx : Below w2.heap.size w2 w3 := Below.grows (one_alloc w2 _) hg (size_le_alloc _ _) (Nat.le_refl _)
       have k0 := blk_below k0 hbx
       have HP1 := Lib.hid (HP1.out.below hbx)
       have HB3 := Lib.hid (HB2.out.trans (hbx.mono HB2.out.size))
       clear hbx hg hs)
    | ((with_reducible refine wpList_load_on 24 _ rfl w2.heap.size 0 ?hx7 [.int .i64 p1.cap, .slice p1.A p1.n p1.c, .int .i64 p1.sure] _ rfl _ (lg_st k1) Tryd.underlying24 ?hd7 (by kernel_rfl) ?_ ?hw7); (case hx7 => rfl); (case hd7 => rfl); (case hw7 => rfl))
    | (go_at_call 12
       (with_reducible refine (HOQ.out p1 _ (HK.out.from HB3.out) HP1.out).mono ?_)
       rintro e w4 ⟨p2, rfl, hp2, hbx⟩
       have HP2 := Lib.hid hp2
       have k0 := blk_below k0 hbx
       have k1 := blk_below k1 hbx
       have HP1 := Lib.hid (HP1.out.below hbx)
       have HB4 := Lib.hid (HB3.out.trans (hbx.mono HB3.out.size))
       clear hp2 hbx)
    | ((with_reducible refine wpList_store_blk rfl 29 _ _ rfl w4.heap.size p2.arr ?hx32 ?hy32 29 _ (heap_alloc_new w4 _) HP2.out.whole ?hs32 (lp_one _) ?_); (case hx32 => rfl); (case hy32 => rfl); (case hs32 => exact (lp_size (p := Lp.zero) rfl).trans (lp_size HP2.out.hlen).symm)
       intro w5 hg k2 hs
       have hbx : Below w4.heap.size w4 w5 := Below.grows (one_alloc w4 _) hg (size_le_alloc _ _) (Nat.le_refl _)
       have k0 := blk_below k0 hbx
       have k1 := blk_below k1 hbx
       have HP1 := Lib.hid (HP1.out.below hbx)
       have HP2 := Lib.hid (HP2.out.below hbx)
       have HB5 := Lib.hid (HB4.out.trans (hbx.mono HB4.out.size))
       have x1 : w5.cell? ⟨w.heap.size, 1, none⟩ = some (.slice A n c) := (BoxT.cells (show BoxT w5 w.heap.size 24 s.cap A n c s.sure from k0)).2.1
       clear hbx hg hs)
    | (go_at_call 17
       (with_reducible refine (HRD.out _ (HK.out.from HB5.out) HB5.out).mono ?_)
       rintro e w6 ⟨B, m, d, rfl, hen, hbx⟩
       have HEN := Lib.hid hen
       have k0 := blk_below k0 hbx
       have k1 := blk_below k1 hbx
       have k2 := blk_below k2 hbx
       have HP1 := Lib.hid (HP1.out.below hbx)
       have HP2 := Lib.hid (HP2.out.below hbx)
       have HB6 := Lib.hid (HB5.out.trans (hbx.mono HB5.out.size))
       clear hbx x1 hen)
    | ((with_reducible refine wpList_store_blk rfl 27 _ _ rfl w6.heap.size (idv Z) ?hx8 ?hy8 27 _ (heap_alloc_new w6 _) (info32 HZL.out) ?hs8 (idv_one _) ?_); (case hx8 => rfl); (case hy8 => rfl); (case hs8 => rw [idv_size, HZL.out]; rfl)
       intro w7 hg hX hs
       have hX : RowB w7 w6.heap.size 27 Z := hX
       have hbx : Below w6.heap.size w6 w7 := Below.grows (one_alloc w6 _) hg (size_le_alloc _ _) (Nat.le_refl _)
       have HEN := Lib.hid (HEN.out.below hbx)
       have k0 := blk_below k0 hbx
       have k1 := blk_below k1 hbx
       have k2 := blk_below k2 hbx
       have HP1 := Lib.hid (HP1.out.below hbx)
       have HP2 := Lib.hid (HP2.out.below hbx)
       have HB7 := Lib.hid (HB6.out.trans (hbx.mono HB6.out.size))
       clear hbx hg hs))
  have hSd : Below w7.heap.size w7 w7.drew := (Below.refl _ w7).drew
  refine wp_region_held_drew (S := fun X => Below w7.heap.size w7 X) (by kernel_rfl) hSd (fun hHeld => ?_)
  refine take_blk 0 29 _ w2.heap.size 29 p1.arr (0, 0) _ rfl rfl rfl (by kernel_rfl) (by kernel_rfl) (by kernel_rfl) (fun _ _ _ h => h) rfl hHeld (fun X hX => blk_below k1 hX) Tryd.underlying29 rfl HP1.out.whole ?_
  simp only [Act.put, List.setIfInBounds_toArray, List.set_cons_zero, List.set_cons_succ]
  refine one_step 1 (by kernel_rfl) rfl (fun Kq hKq => ?_)
  go_simp
  go_at_call 10
  refine (HMY.out p1 _ (HK.out.from (HB7.out.trans (hSd.mono HB7.out.size))) (HP1.out.below hSd)).mono ?_
  rintro e y1 ⟨rfl, hbx⟩
  have hS1 : Below w7.heap.size w7 y1 := hSd.trans (hbx.mono hSd.size)
  clear hbx
  refine hKq.out _ _ hS1 (fun hHeld0 => ?_)
  clear hKq Kq hHeld
  have hHeld := hHeld0
  clear hHeld0
  try simp only [Act.put, List.setIfInBounds_toArray, List.set_cons_zero, List.set_cons_succ]
  refine take_run 2 (.bool true) rfl (by kernel_rfl) (by kernel_rfl) (by kernel_rfl) (fun _ _ _ h => h) rfl hHeld (fun w => ?_) ?_
  · go_simp
  simp only [Act.put, List.setIfInBounds_toArray, List.set_cons_zero, List.set_cons_succ]
  refine take_run 3 (.int .i64 0) rfl (by kernel_rfl) (by kernel_rfl) (by kernel_rfl) (fun _ _ _ h => h) rfl hHeld (fun w => ?_) ?_
  · go_simp
  simp only [Act.put, List.setIfInBounds_toArray, List.set_cons_zero, List.set_cons_succ]
  refine take_run 4 (.bool true) rfl (by kernel_rfl) (by kernel_rfl) (by kernel_rfl) (fun _ _ _ h => h) rfl hHeld (fun w => ?_) ?_
  · go_simp
  simp only [Act.put, List.setIfInBounds_toArray, List.set_cons_zero, List.set_cons_succ]
  refine take_run 5 (.bool true) rfl (by kernel_rfl) (by kernel_rfl) (by kernel_rfl) (fun _ _ _ h => h) rfl hHeld (fun w => ?_) ?_
  · go_simp
  simp only [Act.put, List.setIfInBounds_toArray, List.set_cons_zero, List.set_cons_succ]
  refine take_run 6 (.bool true) rfl (by kernel_rfl) (by kernel_rfl) (by kernel_rfl) (fun _ _ _ h => h) rfl hHeld (fun w => ?_) ?_
  · go_simp
  simp only [Act.put, List.setIfInBounds_toArray, List.set_cons_zero, List.set_cons_succ]
  refine take_blk 7 29 _ w4.heap.size 29 p2.arr (0, 0) _ rfl rfl rfl (by kernel_rfl) (by kernel_rfl) (by kernel_rfl) (fun _ _ _ h => h) rfl hHeld (fun X hX => blk_below k2 hX) Tryd.underlying29 rfl HP2.out.whole ?_
  simp only [Act.put, List.setIfInBounds_toArray, List.set_cons_zero, List.set_cons_succ]
  refine take_blk 8 29 _ w2.heap.size 29 p1.arr (0, 0) _ rfl rfl rfl (by kernel_rfl) (by kernel_rfl) (by kernel_rfl) (fun _ _ _ h => h) rfl hHeld (fun X hX => blk_below k1 hX) Tryd.underlying29 rfl HP1.out.whole ?_
  simp only [Act.put, List.setIfInBounds_toArray, List.set_cons_zero, List.set_cons_succ]
  refine one_step 9 (by kernel_rfl) rfl (fun Kq hKq => ?_)
  go_simp
  go_at_call 13
  refine (HSM.out p2 p1 _ (HK.out.from (HB7.out.trans (hS1.mono HB7.out.size))) (HP2.out.below hS1) (HP1.out.below hS1)).mono ?_
  rintro e y2 ⟨rfl, hbx⟩
  have hS2 : Below w7.heap.size w7 y2 := hS1.trans (hbx.mono hS1.size)
  clear hbx
  refine hKq.out _ _ hS2 (fun hHeld0 => ?_)
  clear hKq Kq hHeld
  have hHeld := hHeld0
  clear hHeld0
  try simp only [Act.put, List.setIfInBounds_toArray, List.set_cons_zero, List.set_cons_succ]
  refine take_run 10 (.bool true) rfl (by kernel_rfl) (by kernel_rfl) (by kernel_rfl) (fun _ _ _ h => h) rfl hHeld (fun w => ?_) ?_
  · go_simp
  simp only [Act.put, List.setIfInBounds_toArray, List.set_cons_zero, List.set_cons_succ]
  refine take_run 11 (.bool true) rfl (by kernel_rfl) (by kernel_rfl) (by kernel_rfl) (fun _ _ _ h => h) rfl hHeld (fun w => ?_) ?_
  · go_simp
  simp only [Act.put, List.setIfInBounds_toArray, List.set_cons_zero, List.set_cons_succ]
  refine take_run 12 (.pointer (some ⟨w2.heap.size, 3, none⟩)) rfl (by kernel_rfl) (by kernel_rfl) (by kernel_rfl) (fun _ _ _ h => h) rfl hHeld (fun w => ?_) ?_
  · go_simp
  simp only [Act.put, List.setIfInBounds_toArray, List.set_cons_zero, List.set_cons_succ]
  refine take_if 13 (.slice p1.B p1.m p1.d) rfl (by kernel_rfl) (by kernel_rfl) (by kernel_rfl) (fun _ _ _ h => h) rfl hHeld (fun w' hw' => ?_) ?_
  · have hq := (lg_cells (blk_below k1 hw')).2.2.2
    go_simp
  simp only [Act.put, List.setIfInBounds_toArray, List.set_cons_zero, List.set_cons_succ]
  refine take_run 14 (.slice B m d) rfl (by kernel_rfl) (by kernel_rfl) (by kernel_rfl) (fun _ _ _ h => h) rfl hHeld (fun w => ?_) ?_
  · go_simp
  simp only [Act.put, List.setIfInBounds_toArray, List.set_cons_zero, List.set_cons_succ]
  have hE1 : Ens y2 p1.B p1.m p1.d R := by rw [← HGL.out]; exact HP1.out.ents.below hS2
  refine one_step 15 (by kernel_rfl) rfl (fun Kq hKq => ?_)
  go_simp
  go_at_call 14
  refine (HES.out p1.B p1.m p1.d B m d _ hE1 (HEN.out.below hS2)).mono ?_
  rintro e y3 ⟨rfl, hbx⟩
  have hS3 : Below w7.heap.size w7 y3 := hS2.trans (hbx.mono hS2.size)
  clear hbx
  refine hKq.out _ _ hS3 (fun hHeld0 => ?_)
  clear hKq Kq hHeld
  have hHeld := hHeld0
  clear hHeld0
  try simp only [Act.put, List.setIfInBounds_toArray, List.set_cons_zero, List.set_cons_succ]
  refine take_run 16 (.bool true) rfl (by kernel_rfl) (by kernel_rfl) (by kernel_rfl) (fun _ _ _ h => h) rfl hHeld (fun w => ?_) ?_
  · go_simp
  simp only [Act.put, List.setIfInBounds_toArray, List.set_cons_zero, List.set_cons_succ]
  refine take_run 17 (.bool true) rfl (by kernel_rfl) (by kernel_rfl) (by kernel_rfl) (fun _ _ _ h => h) rfl hHeld (fun w => ?_) ?_
  · go_simp
  simp only [Act.put, List.setIfInBounds_toArray, List.set_cons_zero, List.set_cons_succ]
  refine take_run 18 (.pointer (some ⟨w2.heap.size, 4, none⟩)) rfl (by kernel_rfl) (by kernel_rfl) (by kernel_rfl) (fun _ _ _ h => h) rfl hHeld (fun w => ?_) ?_
  · go_simp
  simp only [Act.put, List.setIfInBounds_toArray, List.set_cons_zero, List.set_cons_succ]
  have hpz : p1.H = Z := by rw [HP1.out.head, HGH.out]
  refine take_mid 19 27 _ w2.heap.size 4 (byv p1.H) (idv Z) (by rw [hpz]; rfl) _ rfl rfl rfl (by kernel_rfl) (by kernel_rfl) (by kernel_rfl) (fun _ _ _ h => h) rfl hHeld (fun X hX => lg_head (blk_below k1 hX)) Tryd.underlying27 rfl HP1.out.info ?_
  simp only [Act.put, List.setIfInBounds_toArray, List.set_cons_zero, List.set_cons_succ]
  refine take_if 20 (.agg (idv Z)) rfl (by kernel_rfl) (by kernel_rfl) (by kernel_rfl) (fun _ _ _ h => h) rfl hHeld (fun w' hw' => ?_) ?_
  · exact id_load (hX.keep hw') HZL.out rfl rfl
  simp only [Act.put, List.setIfInBounds_toArray, List.set_cons_zero, List.set_cons_succ]
  refine take_run 21 (.bool true) rfl (by kernel_rfl) (by kernel_rfl) (by kernel_rfl) (fun _ _ _ h => h) rfl hHeld (fun w' => ?_) ?_
  · exact run_eq_id rfl rfl rfl (.inl ⟨rfl, rfl⟩) (HEQ.out w')
  simp only [Act.put, List.setIfInBounds_toArray, List.set_cons_zero, List.set_cons_succ]
  refine take_run 22 (.bool true) rfl (by kernel_rfl) (by kernel_rfl) (by kernel_rfl) (fun _ _ _ h => h) rfl hHeld (fun w => ?_) ?_
  · go_simp
  simp only [Act.put, List.setIfInBounds_toArray, List.set_cons_zero, List.set_cons_succ]
  refine take_run 23 (.bool true) rfl (by kernel_rfl) (by kernel_rfl) (by kernel_rfl) (fun _ _ _ h => h) rfl hHeld (fun w => ?_) ?_
  · go_simp
  simp only [Act.put, List.setIfInBounds_toArray, List.set_cons_zero, List.set_cons_succ]
  refine take_run 24 (.pointer (some ⟨w2.heap.size, 0, none⟩)) rfl (by kernel_rfl) (by kernel_rfl) (by kernel_rfl) (fun _ _ _ h => h) rfl hHeld (fun w => ?_) ?_
  · go_simp
  simp only [Act.put, List.setIfInBounds_toArray, List.set_cons_zero, List.set_cons_succ]
  refine take_run 25 (.pointer (some ⟨w2.heap.size, 1, none⟩)) rfl (by kernel_rfl) (by kernel_rfl) (by kernel_rfl) (fun _ _ _ h => h) rfl hHeld (fun w => ?_) ?_
  · go_simp
  simp only [Act.put, List.setIfInBounds_toArray, List.set_cons_zero, List.set_cons_succ]
  refine take_if 26 (.slice p1.A p1.n p1.c) rfl (by kernel_rfl) (by kernel_rfl) (by kernel_rfl) (fun _ _ _ h => h) rfl hHeld (fun w' hw' => ?_) ?_
  · have hq := (lg_cells (blk_below k1 hw')).2.1
    go_simp
  simp only [Act.put, List.setIfInBounds_toArray, List.set_cons_zero, List.set_cons_succ]
  refine take_run 27 (.int .i64 p1.n) rfl (by kernel_rfl) (by kernel_rfl) (by kernel_rfl) (fun _ _ _ h => h) rfl hHeld (fun w => ?_) ?_
  · go_simp
  simp only [Act.put, List.setIfInBounds_toArray, List.set_cons_zero, List.set_cons_succ]
  refine take_run 28 (.int .i64 (62 * (R.length : Int))) rfl (by kernel_rfl) (by kernel_rfl) (by kernel_rfl) (fun _ _ _ h => h) rfl hHeld (fun w => ?_) ?_
  · go_simp
  simp only [Act.put, List.setIfInBounds_toArray, List.set_cons_zero, List.set_cons_succ]
  have hpn : (p1.n : Int) = (62 * (R.length : Int)) := by have := HP1.out.data.len; have := HGN.out; omega
  refine take_run 29 (.bool true) rfl (by kernel_rfl) (by kernel_rfl) (by kernel_rfl) (fun _ _ _ h => h) rfl hHeld (fun w => ?_) ?_
  · go_simp
  simp only [Act.put, List.setIfInBounds_toArray, List.set_cons_zero, List.set_cons_succ]
  clear hpn
  refine take_run 30 (.bool true) rfl (by kernel_rfl) (by kernel_rfl) (by kernel_rfl) (fun _ _ _ h => h) rfl hHeld (fun w => ?_) ?_
  · go_simp
  simp only [Act.put, List.setIfInBounds_toArray, List.set_cons_zero, List.set_cons_succ]
  refine take_run 31 (.bool true) rfl (by kernel_rfl) (by kernel_rfl) (by kernel_rfl) (fun _ _ _ h => h) rfl hHeld (fun w => ?_) ?_
  · go_simp
  simp only [Act.put, List.setIfInBounds_toArray, List.set_cons_zero, List.set_cons_succ]
  refine take_run 32 (.int .i64 (62 * (R.length : Int))) rfl (by kernel_rfl) (by kernel_rfl) (by kernel_rfl) (fun _ _ _ h => h) rfl hHeld (fun w => ?_) ?_
  · go_simp
  simp only [Act.put, List.setIfInBounds_toArray, List.set_cons_zero, List.set_cons_succ]
  refine take_run 33 (.bool true) rfl (by kernel_rfl) (by kernel_rfl) (by kernel_rfl) (fun _ _ _ h => h) rfl hHeld (fun w => ?_) ?_
  · go_simp
  simp only [Act.put, List.setIfInBounds_toArray, List.set_cons_zero, List.set_cons_succ]
  refine take_run 34 (.bool true) rfl (by kernel_rfl) (by kernel_rfl) (by kernel_rfl) (fun _ _ _ h => h) rfl hHeld (fun w => ?_) ?_
  · go_simp
  simp only [Act.put, List.setIfInBounds_toArray, List.set_cons_zero, List.set_cons_succ]
  refine take_run 35 (.bool true) rfl (by kernel_rfl) (by kernel_rfl) (by kernel_rfl) (fun _ _ _ h => h) rfl hHeld (fun w => ?_) ?_
  · go_simp
  simp only [Act.put, List.setIfInBounds_toArray, List.set_cons_zero, List.set_cons_succ]
  refine take_run 36 (.int .i64 (62 * (R.length : Int))) rfl (by kernel_rfl) (by kernel_rfl) (by kernel_rfl) (fun _ _ _ h => h) rfl hHeld (fun w => ?_) ?_
  · go_simp
  simp only [Act.put, List.setIfInBounds_toArray, List.set_cons_zero, List.set_cons_succ]
  refine take_run 37 (.pointer (some ⟨w.heap.size, 1, none⟩)) rfl (by kernel_rfl) (by kernel_rfl) (by kernel_rfl) (fun _ _ _ h => h) rfl hHeld (fun w => ?_) ?_
  · go_simp
  simp only [Act.put, List.setIfInBounds_toArray, List.set_cons_zero, List.set_cons_succ]
  refine take_if 38 (.slice A n c) rfl (by kernel_rfl) (by kernel_rfl) (by kernel_rfl) (fun _ _ _ h => h) rfl hHeld (fun w' hw' => ?_) ?_
  · have hq := (BoxT.cells (show BoxT w' w.heap.size 24 s.cap A n c s.sure from blk_below k0 hw')).2.1
    go_simp
  simp only [Act.put, List.setIfInBounds_toArray, List.set_cons_zero, List.set_cons_succ]
  refine take_run 39 (.int .i64 n) rfl (by kernel_rfl) (by kernel_rfl) (by kernel_rfl) (fun _ _ _ h => h) rfl hHeld (fun w => ?_) ?_
  · go_simp
  simp only [Act.put, List.setIfInBounds_toArray, List.set_cons_zero, List.set_cons_succ]
  refine take_run 40 (.bool true) rfl (by kernel_rfl) (by kernel_rfl) (by kernel_rfl) (fun _ _ _ h => h) rfl hHeld (fun w => ?_) ?_
  · go_simp
  simp only [Act.put, List.setIfInBounds_toArray, List.set_cons_zero, List.set_cons_succ]
  refine take_run 41 (.bool true) rfl (by kernel_rfl) (by kernel_rfl) (by kernel_rfl) (fun _ _ _ h => h) rfl hHeld (fun w => ?_) ?_
  · go_simp
  simp only [Act.put, List.setIfInBounds_toArray, List.set_cons_zero, List.set_cons_succ]
  refine take_run 42 (.bool true) rfl (by kernel_rfl) (by kernel_rfl) (by kernel_rfl) (fun _ _ _ h => h) rfl hHeld (fun w => ?_) ?_
  · go_simp
  simp only [Act.put, List.setIfInBounds_toArray, List.set_cons_zero, List.set_cons_succ]
  refine take_run 43 (.pointer (some ⟨w2.heap.size, 0, none⟩)) rfl (by kernel_rfl) (by kernel_rfl) (by kernel_rfl) (fun _ _ _ h => h) rfl hHeld (fun w => ?_) ?_
  · go_simp
  simp only [Act.put, List.setIfInBounds_toArray, List.set_cons_zero, List.set_cons_succ]
  refine take_run 44 (.pointer (some ⟨w2.heap.size, 1, none⟩)) rfl (by kernel_rfl) (by kernel_rfl) (by kernel_rfl) (fun _ _ _ h => h) rfl hHeld (fun w => ?_) ?_
  · go_simp
  simp only [Act.put, List.setIfInBounds_toArray, List.set_cons_zero, List.set_cons_succ]
  refine take_if 45 (.slice p1.A p1.n p1.c) rfl (by kernel_rfl) (by kernel_rfl) (by kernel_rfl) (fun _ _ _ h => h) rfl hHeld (fun w' hw' => ?_) ?_
  · have hq := (lg_cells (blk_below k1 hw')).2.1
    go_simp
  simp only [Act.put, List.setIfInBounds_toArray, List.set_cons_zero, List.set_cons_succ]
  refine take_if 46 (.string x) rfl (by kernel_rfl) (by kernel_rfl) (by kernel_rfl) (fun _ _ _ h => h) rfl hHeld (fun w' hw' => ?_) ?_
  · have hq := conv_bts (HP1.out.data.below hw')
    rw [HGD.out, HXS.out] at hq
    go_simp
  simp only [Act.put, List.setIfInBounds_toArray, List.set_cons_zero, List.set_cons_succ]
  refine take_run 47 (.pointer (some ⟨w.heap.size, 1, none⟩)) rfl (by kernel_rfl) (by kernel_rfl) (by kernel_rfl) (fun _ _ _ h => h) rfl hHeld (fun w => ?_) ?_
  · go_simp
  simp only [Act.put, List.setIfInBounds_toArray, List.set_cons_zero, List.set_cons_succ]
  refine take_if 48 (.slice A n c) rfl (by kernel_rfl) (by kernel_rfl) (by kernel_rfl) (fun _ _ _ h => h) rfl hHeld (fun w' hw' => ?_) ?_
  · have hq := (BoxT.cells (show BoxT w' w.heap.size 24 s.cap A n c s.sure from blk_below k0 hw')).2.1
    go_simp
  simp only [Act.put, List.setIfInBounds_toArray, List.set_cons_zero, List.set_cons_succ]
  refine take_run 49 (.int .i64 (62 * (R.length : Int))) rfl (by kernel_rfl) (by kernel_rfl) (by kernel_rfl) (fun _ _ _ h => h) rfl hHeld (fun w => ?_) ?_
  · go_simp
  simp only [Act.put, List.setIfInBounds_toArray, List.set_cons_zero, List.set_cons_succ]
  refine take_run 50 (.slice A (62 * R.length) c) rfl (by kernel_rfl) (by kernel_rfl) (by kernel_rfl) (fun _ _ _ h => h) rfl hHeld (fun w => ?_) ?_
  · have hq := HCUT.out w; go_simp
  simp only [Act.put, List.setIfInBounds_toArray, List.set_cons_zero, List.set_cons_succ]
  refine take_if 51 (.string x) rfl (by kernel_rfl) (by kernel_rfl) (by kernel_rfl) (fun _ _ _ h => h) rfl hHeld (fun w' hw' => ?_) ?_
  · have hq := conv_bts (HBT.out.below (HB7.out.trans (hw'.mono HB7.out.size)))
    rw [HXS.out] at hq
    go_simp
  simp only [Act.put, List.setIfInBounds_toArray, List.set_cons_zero, List.set_cons_succ]
  refine take_run 52 (.bool true) rfl (by kernel_rfl) (by kernel_rfl) (by kernel_rfl) (fun _ _ _ h => h) rfl hHeld (fun w => ?_) ?_
  · go_simp
  simp only [Act.put, List.setIfInBounds_toArray, List.set_cons_zero, List.set_cons_succ]
  refine take_run 53 (.bool true) rfl (by kernel_rfl) (by kernel_rfl) (by kernel_rfl) (fun _ _ _ h => h) rfl hHeld (fun w => ?_) ?_
  · go_simp
  simp only [Act.put, List.setIfInBounds_toArray, List.set_cons_zero, List.set_cons_succ]
  refine take_run 54 (.bool true) rfl (by kernel_rfl) (by kernel_rfl) (by kernel_rfl) (fun _ _ _ h => h) rfl hHeld (fun w => ?_) ?_
  · go_simp
  simp only [Act.put, List.setIfInBounds_toArray, List.set_cons_zero, List.set_cons_succ]
  refine take_run 55 (.pointer (some ⟨w2.heap.size, 0, none⟩)) rfl (by kernel_rfl) (by kernel_rfl) (by kernel_rfl) (fun _ _ _ h => h) rfl hHeld (fun w => ?_) ?_
  · go_simp
  simp only [Act.put, List.setIfInBounds_toArray, List.set_cons_zero, List.set_cons_succ]
  refine take_run 56 (.pointer (some ⟨w2.heap.size, 0, none⟩)) rfl (by kernel_rfl) (by kernel_rfl) (by kernel_rfl) (fun _ _ _ h => h) rfl hHeld (fun w => ?_) ?_
  · go_simp
  simp only [Act.put, List.setIfInBounds_toArray, List.set_cons_zero, List.set_cons_succ]
  refine take_if 57 (.int .i64 p1.cap) rfl (by kernel_rfl) (by kernel_rfl) (by kernel_rfl) (fun _ _ _ h => h) rfl hHeld (fun w' hw' => ?_) ?_
  · have hq := (lg_cells (blk_below k1 hw')).1
    go_simp
  simp only [Act.put, List.setIfInBounds_toArray, List.set_cons_zero, List.set_cons_succ]
  refine take_run 58 (.pointer (some ⟨w.heap.size, 0, none⟩)) rfl (by kernel_rfl) (by kernel_rfl) (by kernel_rfl) (fun _ _ _ h => h) rfl hHeld (fun w => ?_) ?_
  · go_simp
  simp only [Act.put, List.setIfInBounds_toArray, List.set_cons_zero, List.set_cons_succ]
  refine take_if 59 (.int .i64 s.cap) rfl (by kernel_rfl) (by kernel_rfl) (by kernel_rfl) (fun _ _ _ h => h) rfl hHeld (fun w' hw' => ?_) ?_
  · have hq := (BoxT.cells (show BoxT w' w.heap.size 24 s.cap A n c s.sure from blk_below k0 hw')).1
    go_simp
  simp only [Act.put, List.setIfInBounds_toArray, List.set_cons_zero, List.set_cons_succ]
  have hpc : p1.cap = s.cap := by rw [HP1.out.cap, HGC.out]
  refine take_run 60 (.bool true) rfl (by kernel_rfl) (by kernel_rfl) (by kernel_rfl) (fun _ _ _ h => h) rfl hHeld (fun w => ?_) ?_
  · go_simp
  simp only [Act.put, List.setIfInBounds_toArray, List.set_cons_zero, List.set_cons_succ]
  clear hpc
  refine take_run 61 (.bool true) rfl (by kernel_rfl) (by kernel_rfl) (by kernel_rfl) (fun _ _ _ h => h) rfl hHeld (fun w => ?_) ?_
  · go_simp
  simp only [Act.put, List.setIfInBounds_toArray, List.set_cons_zero, List.set_cons_succ]
  refine take_run 62 (.bool true) rfl (by kernel_rfl) (by kernel_rfl) (by kernel_rfl) (fun _ _ _ h => h) rfl hHeld (fun w => ?_) ?_
  · go_simp
  simp only [Act.put, List.setIfInBounds_toArray, List.set_cons_zero, List.set_cons_succ]
  refine wpAnyH_done (by kernel_rfl) ?_ _
  have HBE := Lib.hid (HB7.out.trans (hS3.mono HB7.out.size))
  go_wp2
  go_ret
  exact ⟨rfl, HBE.out⟩
theorem aopensw_any (HA : AudOk) (s : Sp) (A : Option Addr) (n c : Nat) (w : World) (hK : KTab w) (hb : Bts w A n c s.data) :
    Calls Tryd.prog 5 #[.agg #[.int .i64 s.cap, .slice A n c, .int .i64 s.sure]] w fun e w' => e = .returned (.bool true) ∧ Below w.heap.size w w' := by
  by_cases h : n ≤ 2500
  · cases hm : mayP s with
    | false => exact aopensw_no HA s A n c w hK hb h hm
    | true => exact aopensw_yes HA s A n c w hK hb h hm
  · exact aopensw_long HA s A n c w hK hb (by omega)
end Go.Proofs.YtafmompplcaadaaDoor
