/- The walk over the law ChainReads: what is read is put as the bytes that were read, with the same head; nothing more of them can be read. -/
import Derived.Test.YtplfpaclhapldaaDoorCnJO
import Derived.Test.YtplfpaclhapldaaDoorCnJG
namespace Go.Proofs.YtplfpaclhapldaaDoor
set_option maxRecDepth 100000
set_option linter.unusedVariables false
set_option linter.unusedSimpArgs false
open Go.RowKit

set_option maxHeartbeats 1000000 in
theorem creadsw_long (A : Option Addr) (n c : Nat) (b : List Int) (w : World) (hK : KTab w) (hb : Bts w A n c b) (h : 1500 < n) :
    Calls Tryd.prog 5 #[.slice A n c] w fun e w' => e = .returned (.bool true) ∧ Below w.heap.size w w' := by
  have hn := hb.small
  have h1 : (1500 : Int) < n := by omega
  have HK := Lib.hid hK
  clear hb hK
  go_enter Tryd.func5, Tryd.ntmps5
  go_wp2_with (go_at_call 9; refine (cawake_any _ HK.out).mono ?_; rintro e w1 ⟨rfl, hb1⟩; have HBw1 := Lib.hid hb1; clear hb1)
  go_ret
  exact ⟨rfl, HBw1.out⟩
set_option maxRecDepth 100000 in
set_option maxHeartbeats 4000000 in
theorem creadsw_ok (A : Option Addr) (n c : Nat) (b : List Int) (w : World) (hK : KTab w) (hb : Bts w A n c b) (h : n ≤ 1500) (hE : errC b = 0) :
    Calls Tryd.prog 5 #[.slice A n c] w fun e w' => e = .returned (.bool true) ∧ Below w.heap.size w w' := by
  have hn := hb.small
  have h1 : (n : Int) ≤ 1500 := by omega
  have HK := Lib.hid hK
  have HD := Lib.hid hb
  obtain ⟨p1, p2, p3, p4⟩ := reads_all (bytes_mem hb.ok)
  have hve := reads_ver (b := b)
  have hbl := hb.len
  have HRD := Lib.hid (fun (X : World) (hk : KTab X) (h : Bts X A n c b) => cread_any A n c b X hk h)
  have HVE := Lib.hid (fun (X : World) (hk : KTab X) (h : Bts X A n c b) => cver_any A n c b X hk h)
  obtain ⟨hcut, hbm⟩ := run_to hb (62 * ((readC b).length : Int)) (hi := 62 * (readC b).length) (by omega) (by omega)
  obtain ⟨R, hR⟩ : ∃ R, readC b = R := ⟨_, rfl⟩
  rw [hR] at p1 p2 p3 p4 hve HRD hcut hbm
  obtain ⟨Z, hZ⟩ : ∃ Z, headC R = Z := ⟨_, rfl⟩
  have HZL := Lib.hid (show Z.length = 32 by rw [← hZ]; exact headC_len _)
  have HPU := Lib.hid (fun (A : Option Addr) (d : Nat) (X : World) (hk : KTab X) (h : Ens X A R.length d R) => cput_any A R.length d R X hk h p4)
  rw [p1, if_pos rfl, if_pos rfl, p2] at HPU
  rw [hZ] at HRD HPU hve
  obtain ⟨x, hx⟩ : ∃ x, errC b = x := ⟨_, rfl⟩
  obtain ⟨V, hV⟩ : ∃ V, verC b = V := ⟨_, rfl⟩
  rw [hx, hV] at hve HVE
  have HVL := Lib.hid (show V.length = 32 by rw [← hV]; exact verC_len b)
  rw [hx] at hE
  obtain ⟨T, hT⟩ : ∃ T, b.take (62 * R.length) = T := ⟨_, rfl⟩
  rw [hT] at HPU hbm
  obtain ⟨st, hst⟩ : ∃ s, bstr T = s := ⟨_, rfl⟩
  have HST := Lib.hid hst
  have HBM := Lib.hid hbm
  have q0 : 0 ≤ (R.length : Int) := by omega
  have q1 : 62 * (R.length : Int) ≤ n := by omega
  have q2 : ¬ 62 * (R.length : Int) < 0 := by omega
  have q3 : ¬ (n : Int) < 62 * (R.length : Int) := by omega
  have hw0 : IntKind.i64.wrap (62 * (R.length : Int)) = 62 * (R.length : Int) := by rw [IntKind.wrap_i64]; omega
  subst hE
  have hl := hve.1.1 rfl
  have hVZ := hve.2 rfl
  subst hVZ
  have e1 : (62 * (R.length : Int) == (n : Int)) = true := by rw [beq_iff_eq]; omega
  have HEQ := Lib.hid (show ∀ w, (Op.equalIn 10000 24 (.agg (idv V)) (.agg (idv V))).run Tryd.prog w = .ok true w from fun w => by rw [eq_ids _ _ HVL.out HVL.out, decide_eq_true rfl])
  have HEZ := Lib.hid (show ∀ w, (Op.equalIn 10000 24 (.agg (idv V)) (.agg (idv V))).run Tryd.prog w = .ok true w from fun w => by rw [eq_ids _ _ HVL.out HVL.out, decide_eq_true rfl])
  clear hb hK hR hZ hx hV hT hst p1 p2 p3 p4 hve hbm h hl
  go_enter Tryd.func5, Tryd.ntmps5
  go_wp2_with (first
    | (go_at_call 9; refine (cawake_any _ HK.out).mono ?_; rintro e w1 ⟨rfl, hb1⟩; have HBw1 := Lib.hid hb1; clear hb1)
    | (go_at_call 14
       (with_reducible refine (HRD.out _ (HK.out.from HBw1.out) (HD.out.below HBw1.out)).mono ?_)
       rintro e w2 ⟨A5, n5, c5, rfl, hen, hbx⟩
       have hn5 : R.length = n5 := hen.len
       subst hn5
       have HBw2 := Lib.hid (HBw1.out.trans (hbx.mono HBw1.out.size))
       clear hbx)
    | ((with_reducible refine wpList_store_blk rfl 24 _ _ rfl w2.heap.size (idv V) ?hx1 ?hy1 24 _ (heap_alloc_new w2 _) (info32 HVL.out) ?hs1 (idv_one _) ?_); (case hx1 => rfl); (case hy1 => rfl); (case hs1 => rw [idv_size, HVL.out]; rfl)
       intro w3 hg1 hZ hs1
       have hZ : RowB w3 w2.heap.size 24 V := hZ
       have hbx : Below w2.heap.size w2 w3 := Below.grows (one_alloc w2 _) hg1 (size_le_alloc _ _) (Nat.le_refl _)
       have HBw3 := Lib.hid (HBw2.out.trans (hbx.mono HBw2.out.size))
       have hen := hen.below hbx
       clear hbx hg1 hs1)
    | (go_at_call 10
       (with_reducible refine (HPU.out _ _ _ (HK.out.from HBw3.out) hen).mono ?_)
       rintro e w4 ⟨A6, n6, c6, rfl, hbt, hbx⟩
       have HBw4 := Lib.hid (HBw3.out.trans (hbx.mono HBw3.out.size))
       have hZ := hZ.keep hbx
       clear hbx)
    | ((with_reducible refine wpList_store_blk rfl 24 _ _ rfl w4.heap.size (idv V) ?hx2 ?hy2 24 _ (heap_alloc_new w4 _) (info32 HVL.out) ?hs2 (idv_one _) ?_); (case hx2 => rfl); (case hy2 => rfl); (case hs2 => rw [idv_size, HVL.out]; rfl)
       intro w5 hg2 hY hs2
       have hY : RowB w5 w4.heap.size 24 V := hY
       have hbx : Below w4.heap.size w4 w5 := Below.grows (one_alloc w4 _) hg2 (size_le_alloc _ _) (Nat.le_refl _)
       have HBw5 := Lib.hid (HBw4.out.trans (hbx.mono HBw4.out.size))
       have hbt := hbt.below hbx
       have hZ := hZ.keep hbx
       clear hbx hg2 hs2)
    | (go_at_call 16
       (with_reducible refine (HVE.out _ (HK.out.from HBw5.out) (HD.out.below HBw5.out)).mono ?_)
       rintro e w6 ⟨rfl, hbx⟩
       have hbt := hbt.below hbx
       have HBw6 := Lib.hid (HBw5.out.trans (hbx.mono HBw5.out.size))
       have hZ := hZ.keep hbx
       have hY := hY.keep hbx
       clear hbx)
    | ((with_reducible refine wpList_store_blk rfl 24 _ _ rfl w6.heap.size (idv V) ?hx3 ?hy3 24 _ (heap_alloc_new w6 _) (info32 HVL.out) ?hs3 (idv_one _) ?_); (case hx3 => rfl); (case hy3 => rfl); (case hs3 => rw [idv_size, HVL.out]; rfl)
       intro w7 hg3 hX hs3
       have hX : RowB w7 w6.heap.size 24 V := hX
       have hbx : Below w6.heap.size w6 w7 := Below.grows (one_alloc w6 _) hg3 (size_le_alloc _ _) (Nat.le_refl _)
       have HBw7 := Lib.hid (HBw6.out.trans (hbx.mono HBw6.out.size))
       have hbt := hbt.below hbx
       have hZ := hZ.keep hbx
       have hY := hY.keep hbx
       clear hbx hg3 hs3))
  obtain ⟨Y8, hY8⟩ : ∃ Y, w7.drew = Y := ⟨_, rfl⟩
  have hZ : RowB Y8 w2.heap.size 24 V := by rw [← hY8]; exact hZ.draw1
  have hY : RowB Y8 w4.heap.size 24 V := by rw [← hY8]; exact hY.draw1
  have hX : RowB Y8 w6.heap.size 24 V := by rw [← hY8]; exact hX.draw1
  have HBw8 := Lib.hid (show Below w.heap.size w Y8 by rw [← hY8]; exact HBw7.out.drew)
  have KT := Lib.hid (show (convert 29 9 (.slice A6 n6 c6)).run Tryd.prog Y8 = .ok (.string st) Y8 by rw [← HST.out, ← hY8]; exact conv_bts hbt.draw1)
  have KB := Lib.hid (show (convert 29 9 (.slice A (62 * R.length) c)).run Tryd.prog Y8 = .ok (.string st) Y8 by rw [← HST.out]; exact conv_bts (HBM.out.below HBw8.out))
  have hbl6 := hbt.len
  clear hbt hen
  refine wp_region_held_drew (S := (fun w' => w' = Y8)) (by kernel_rfl) (by rw [hY8]) (fun hHeld => ?_)
  rw [hY8] at hHeld ⊢
  clear hY8
  refine take_move 0 (.tmp 9) (.bool true) rfl rfl rfl (by kernel_rfl) (by kernel_rfl) (by kernel_rfl) (fun _ _ _ h => h) rfl hHeld ?_
  simp only [Act.put, List.setIfInBounds_toArray, List.set_cons_zero, List.set_cons_succ]
  refine take_run 1 (.bool false) rfl (by kernel_rfl) (by kernel_rfl) (by kernel_rfl) (fun _ _ _ h => h) rfl hHeld (fun w => ?_) ?_
  · go_simp
  simp only [Act.put, List.setIfInBounds_toArray, List.set_cons_zero, List.set_cons_succ]
  refine take_run 2 (.bool false) rfl (by kernel_rfl) (by kernel_rfl) (by kernel_rfl) (fun _ _ _ h => h) rfl hHeld (fun w => ?_) ?_
  · go_simp
  simp only [Act.put, List.setIfInBounds_toArray, List.set_cons_zero, List.set_cons_succ]
  refine take_move 3 (.tmp 6) (.int .i64 (62 * (R.length : Int))) rfl rfl rfl (by kernel_rfl) (by kernel_rfl) (by kernel_rfl) (fun _ _ _ h => h) rfl hHeld ?_
  simp only [Act.put, List.setIfInBounds_toArray, List.set_cons_zero, List.set_cons_succ]
  refine take_move 4 (.tmp 4) (.slice A5 R.length c5) rfl rfl rfl (by kernel_rfl) (by kernel_rfl) (by kernel_rfl) (fun _ _ _ h => h) rfl hHeld ?_
  simp only [Act.put, List.setIfInBounds_toArray, List.set_cons_zero, List.set_cons_succ]
  refine take_run 5 (.int .i64 R.length) rfl (by kernel_rfl) (by kernel_rfl) (by kernel_rfl) (fun _ _ _ h => h) rfl hHeld (fun w => ?_) ?_
  · go_simp
  simp only [Act.put, List.setIfInBounds_toArray, List.set_cons_zero, List.set_cons_succ]
  refine take_run 6 (.int .i64 (62 * (R.length : Int))) rfl (by kernel_rfl) (by kernel_rfl) (by kernel_rfl) (fun _ _ _ h => h) rfl hHeld (fun w => ?_) ?_
  · go_simp
  simp only [Act.put, List.setIfInBounds_toArray, List.set_cons_zero, List.set_cons_succ]
  refine take_run 7 (.bool false) rfl (by kernel_rfl) (by kernel_rfl) (by kernel_rfl) (fun _ _ _ h => h) rfl hHeld (fun w => ?_) ?_
  · go_simp
  simp only [Act.put, List.setIfInBounds_toArray, List.set_cons_zero, List.set_cons_succ]
  refine take_run 8 (.bool false) rfl (by kernel_rfl) (by kernel_rfl) (by kernel_rfl) (fun _ _ _ h => h) rfl hHeld (fun w => ?_) ?_
  · go_simp
  simp only [Act.put, List.setIfInBounds_toArray, List.set_cons_zero, List.set_cons_succ]
  refine take_run 9 (.bool false) rfl (by kernel_rfl) (by kernel_rfl) (by kernel_rfl) (fun _ _ _ h => h) rfl hHeld (fun w => ?_) ?_
  · go_simp
  simp only [Act.put, List.setIfInBounds_toArray, List.set_cons_zero, List.set_cons_succ]
  refine take_move 10 (.tmp 6) (.int .i64 (62 * (R.length : Int))) rfl rfl rfl (by kernel_rfl) (by kernel_rfl) (by kernel_rfl) (fun _ _ _ h => h) rfl hHeld ?_
  simp only [Act.put, List.setIfInBounds_toArray, List.set_cons_zero, List.set_cons_succ]
  refine take_run 11 (.bool false) rfl (by kernel_rfl) (by kernel_rfl) (by kernel_rfl) (fun _ _ _ h => h) rfl hHeld (fun w => ?_) ?_
  · go_simp
  simp only [Act.put, List.setIfInBounds_toArray, List.set_cons_zero, List.set_cons_succ]
  refine take_run 12 (.bool false) rfl (by kernel_rfl) (by kernel_rfl) (by kernel_rfl) (fun _ _ _ h => h) rfl hHeld (fun w => ?_) ?_
  · go_simp
  simp only [Act.put, List.setIfInBounds_toArray, List.set_cons_zero, List.set_cons_succ]
  refine take_run 13 (.bool false) rfl (by kernel_rfl) (by kernel_rfl) (by kernel_rfl) (fun _ _ _ h => h) rfl hHeld (fun w => ?_) ?_
  · go_simp
  simp only [Act.put, List.setIfInBounds_toArray, List.set_cons_zero, List.set_cons_succ]
  refine take_move 14 (.tmp 6) (.int .i64 (62 * (R.length : Int))) rfl rfl rfl (by kernel_rfl) (by kernel_rfl) (by kernel_rfl) (fun _ _ _ h => h) rfl hHeld ?_
  simp only [Act.put, List.setIfInBounds_toArray, List.set_cons_zero, List.set_cons_succ]
  refine take_move 15 (.tmp 0) (.slice A n c) rfl rfl rfl (by kernel_rfl) (by kernel_rfl) (by kernel_rfl) (fun _ _ _ h => h) rfl hHeld ?_
  simp only [Act.put, List.setIfInBounds_toArray, List.set_cons_zero, List.set_cons_succ]
  refine take_run 16 (.int .i64 n) rfl (by kernel_rfl) (by kernel_rfl) (by kernel_rfl) (fun _ _ _ h => h) rfl hHeld (fun w => ?_) ?_
  · go_simp
  simp only [Act.put, List.setIfInBounds_toArray, List.set_cons_zero, List.set_cons_succ]
  refine take_run 17 (.bool false) rfl (by kernel_rfl) (by kernel_rfl) (by kernel_rfl) (fun _ _ _ h => h) rfl hHeld (fun w => ?_) ?_
  · go_simp
  simp only [Act.put, List.setIfInBounds_toArray, List.set_cons_zero, List.set_cons_succ]
  refine take_run 18 (.bool false) rfl (by kernel_rfl) (by kernel_rfl) (by kernel_rfl) (fun _ _ _ h => h) rfl hHeld (fun w => ?_) ?_
  · go_simp
  simp only [Act.put, List.setIfInBounds_toArray, List.set_cons_zero, List.set_cons_succ]
  refine take_run 19 (.bool false) rfl (by kernel_rfl) (by kernel_rfl) (by kernel_rfl) (fun _ _ _ h => h) rfl hHeld (fun w => ?_) ?_
  · go_simp
  simp only [Act.put, List.setIfInBounds_toArray, List.set_cons_zero, List.set_cons_succ]
  refine take_move 20 (.tmp 7) (.slice A6 n6 c6) rfl rfl rfl (by kernel_rfl) (by kernel_rfl) (by kernel_rfl) (fun _ _ _ h => h) rfl hHeld ?_
  simp only [Act.put, List.setIfInBounds_toArray, List.set_cons_zero, List.set_cons_succ]
  refine take_if 21 (.string st) rfl (by kernel_rfl) (by kernel_rfl) (by kernel_rfl) (fun _ _ _ h => h) rfl hHeld (fun w' hw' => ?_) ?_
  · cases hw'
    have hq := KT.out
    go_simp
  simp only [Act.put, List.setIfInBounds_toArray, List.set_cons_zero, List.set_cons_succ]
  refine take_move 22 (.tmp 0) (.slice A n c) rfl rfl rfl (by kernel_rfl) (by kernel_rfl) (by kernel_rfl) (fun _ _ _ h => h) rfl hHeld ?_
  simp only [Act.put, List.setIfInBounds_toArray, List.set_cons_zero, List.set_cons_succ]
  refine take_move 23 (.tmp 6) (.int .i64 (62 * (R.length : Int))) rfl rfl rfl (by kernel_rfl) (by kernel_rfl) (by kernel_rfl) (fun _ _ _ h => h) rfl hHeld ?_
  simp only [Act.put, List.setIfInBounds_toArray, List.set_cons_zero, List.set_cons_succ]
  refine take_run 24 (.slice A (62 * R.length) c) rfl (by kernel_rfl) (by kernel_rfl) (by kernel_rfl) (fun _ _ _ h => h) rfl hHeld (fun w => ?_) ?_
  · go_simp
  simp only [Act.put, List.setIfInBounds_toArray, List.set_cons_zero, List.set_cons_succ]
  refine take_if 25 (.string st) rfl (by kernel_rfl) (by kernel_rfl) (by kernel_rfl) (fun _ _ _ h => h) rfl hHeld (fun w' hw' => ?_) ?_
  · cases hw'
    have hq := KB.out
    go_simp
  simp only [Act.put, List.setIfInBounds_toArray, List.set_cons_zero, List.set_cons_succ]
  refine take_run 26 (.bool false) rfl (by kernel_rfl) (by kernel_rfl) (by kernel_rfl) (fun _ _ _ h => h) rfl hHeld (fun w => ?_) ?_
  · go_simp
  simp only [Act.put, List.setIfInBounds_toArray, List.set_cons_zero, List.set_cons_succ]
  refine take_run 27 (.bool false) rfl (by kernel_rfl) (by kernel_rfl) (by kernel_rfl) (fun _ _ _ h => h) rfl hHeld (fun w => ?_) ?_
  · go_simp
  simp only [Act.put, List.setIfInBounds_toArray, List.set_cons_zero, List.set_cons_succ]
  refine take_run 28 (.bool false) rfl (by kernel_rfl) (by kernel_rfl) (by kernel_rfl) (fun _ _ _ h => h) rfl hHeld (fun w => ?_) ?_
  · go_simp
  simp only [Act.put, List.setIfInBounds_toArray, List.set_cons_zero, List.set_cons_succ]
  refine take_if 29 (.agg (idv V)) rfl (by kernel_rfl) (by kernel_rfl) (by kernel_rfl) (fun _ _ _ h => h) rfl hHeld (fun w' hw' => ?_) ?_
  · cases hw'
    exact id_load hY HVL.out rfl rfl
  simp only [Act.put, List.setIfInBounds_toArray, List.set_cons_zero, List.set_cons_succ]
  refine take_if 30 (.agg (idv V)) rfl (by kernel_rfl) (by kernel_rfl) (by kernel_rfl) (fun _ _ _ h => h) rfl hHeld (fun w' hw' => ?_) ?_
  · cases hw'
    exact id_load hZ HVL.out rfl rfl
  simp only [Act.put, List.setIfInBounds_toArray, List.set_cons_zero, List.set_cons_succ]
  refine take_run 31 (.bool false) rfl (by kernel_rfl) (by kernel_rfl) (by kernel_rfl) (fun _ _ _ h => h) rfl hHeld (fun w => ?_) ?_
  · exact run_eq_id rfl rfl rfl (.inr ⟨rfl, rfl⟩) (HEZ.out w)
  simp only [Act.put, List.setIfInBounds_toArray, List.set_cons_zero, List.set_cons_succ]
  refine take_run 32 (.bool false) rfl (by kernel_rfl) (by kernel_rfl) (by kernel_rfl) (fun _ _ _ h => h) rfl hHeld (fun w => ?_) ?_
  · go_simp
  simp only [Act.put, List.setIfInBounds_toArray, List.set_cons_zero, List.set_cons_succ]
  refine wpAnyH_done (by kernel_rfl) ?_ _
  clear hHeld
  go_wp2_with (first
    | ((with_reducible refine wpList_load_blk 24 _ rfl w6.heap.size ?hx11 24 (idv V) (0, 0) _ hX.is Tryd.underlying24 ?hd11 (info32 HVL.out) ?_ ?hw11); (case hx11 => rfl); (case hd11 => rfl); (case hw11 => rfl))
    | ((with_reducible refine wpList_load_blk 24 _ rfl w2.heap.size ?hx12 24 (idv V) (0, 0) _ hZ.is Tryd.underlying24 ?hd12 (info32 HVL.out) ?_ ?hw12); (case hx12 => rfl); (case hd12 => rfl); (case hw12 => rfl))
    | ((with_reducible refine wpList_eq_id .eql _ _ rfl (idv V) (idv V) ?hx13 ?hy13 true true (.inl ⟨rfl, rfl⟩) (fun w => HEQ.out w) ?_ ?hw13); (case hx13 => rfl); (case hy13 => rfl); (case hw13 => rfl)))
  go_ret
  exact ⟨rfl, HBw8.out⟩
set_option maxRecDepth 100000 in
set_option maxHeartbeats 4000000 in
theorem creadsw_bad (A : Option Addr) (n c : Nat) (b : List Int) (w : World) (hK : KTab w) (hb : Bts w A n c b) (h : n ≤ 1500) (hE : errC b ≠ 0) :
    Calls Tryd.prog 5 #[.slice A n c] w fun e w' => e = .returned (.bool true) ∧ Below w.heap.size w w' := by
  have hn := hb.small
  have h1 : (n : Int) ≤ 1500 := by omega
  have HK := Lib.hid hK
  have HD := Lib.hid hb
  obtain ⟨p1, p2, p3, p4⟩ := reads_all (bytes_mem hb.ok)
  have hve := reads_ver (b := b)
  have hbl := hb.len
  have HRD := Lib.hid (fun (X : World) (hk : KTab X) (h : Bts X A n c b) => cread_any A n c b X hk h)
  have HVE := Lib.hid (fun (X : World) (hk : KTab X) (h : Bts X A n c b) => cver_any A n c b X hk h)
  obtain ⟨hcut, hbm⟩ := run_to hb (62 * ((readC b).length : Int)) (hi := 62 * (readC b).length) (by omega) (by omega)
  obtain ⟨R, hR⟩ : ∃ R, readC b = R := ⟨_, rfl⟩
  rw [hR] at p1 p2 p3 p4 hve HRD hcut hbm
  obtain ⟨Z, hZ⟩ : ∃ Z, headC R = Z := ⟨_, rfl⟩
  have HZL := Lib.hid (show Z.length = 32 by rw [← hZ]; exact headC_len _)
  have HPU := Lib.hid (fun (A : Option Addr) (d : Nat) (X : World) (hk : KTab X) (h : Ens X A R.length d R) => cput_any A R.length d R X hk h p4)
  rw [p1, if_pos rfl, if_pos rfl, p2] at HPU
  rw [hZ] at HRD HPU hve
  obtain ⟨x, hx⟩ : ∃ x, errC b = x := ⟨_, rfl⟩
  obtain ⟨V, hV⟩ : ∃ V, verC b = V := ⟨_, rfl⟩
  rw [hx, hV] at hve HVE
  have HVL := Lib.hid (show V.length = 32 by rw [← hV]; exact verC_len b)
  rw [hx] at hE
  obtain ⟨T, hT⟩ : ∃ T, b.take (62 * R.length) = T := ⟨_, rfl⟩
  rw [hT] at HPU hbm
  obtain ⟨st, hst⟩ : ∃ s, bstr T = s := ⟨_, rfl⟩
  have HST := Lib.hid hst
  have HBM := Lib.hid hbm
  have q0 : 0 ≤ (R.length : Int) := by omega
  have q1 : 62 * (R.length : Int) ≤ n := by omega
  have q2 : ¬ 62 * (R.length : Int) < 0 := by omega
  have q3 : ¬ (n : Int) < 62 * (R.length : Int) := by omega
  have hw0 : IntKind.i64.wrap (62 * (R.length : Int)) = 62 * (R.length : Int) := by rw [IntKind.wrap_i64]; omega
  have e0 : (x == 0) = false := by rw [beq_eq_false_iff_ne]; exact hE
  have e1 : (62 * (R.length : Int) == (n : Int)) = false := by
    rw [beq_eq_false_iff_ne]
    exact fun e => hE (hve.1.2 (by omega))
  have HEZ := Lib.hid (show ∀ w, (Op.equalIn 10000 24 (.agg (idv Z)) (.agg (idv Z))).run Tryd.prog w = .ok true w from fun w => by rw [eq_ids _ _ HZL.out HZL.out, decide_eq_true rfl])
  clear hb hK hR hZ hx hV hT hst p1 p2 p3 p4 hve hbm h 
  go_enter Tryd.func5, Tryd.ntmps5
  go_wp2_with (first
    | (go_at_call 9; refine (cawake_any _ HK.out).mono ?_; rintro e w1 ⟨rfl, hb1⟩; have HBw1 := Lib.hid hb1; clear hb1)
    | (go_at_call 14
       (with_reducible refine (HRD.out _ (HK.out.from HBw1.out) (HD.out.below HBw1.out)).mono ?_)
       rintro e w2 ⟨A5, n5, c5, rfl, hen, hbx⟩
       have hn5 : R.length = n5 := hen.len
       subst hn5
       have HBw2 := Lib.hid (HBw1.out.trans (hbx.mono HBw1.out.size))
       clear hbx)
    | ((with_reducible refine wpList_store_blk rfl 24 _ _ rfl w2.heap.size (idv Z) ?hx1 ?hy1 24 _ (heap_alloc_new w2 _) (info32 HZL.out) ?hs1 (idv_one _) ?_); (case hx1 => rfl); (case hy1 => rfl); (case hs1 => rw [idv_size, HZL.out]; rfl)
       intro w3 hg1 hZ hs1
       have hZ : RowB w3 w2.heap.size 24 Z := hZ
       have hbx : Below w2.heap.size w2 w3 := Below.grows (one_alloc w2 _) hg1 (size_le_alloc _ _) (Nat.le_refl _)
       have HBw3 := Lib.hid (HBw2.out.trans (hbx.mono HBw2.out.size))
       have hen := hen.below hbx
       clear hbx hg1 hs1)
    | (go_at_call 10
       (with_reducible refine (HPU.out _ _ _ (HK.out.from HBw3.out) hen).mono ?_)
       rintro e w4 ⟨A6, n6, c6, rfl, hbt, hbx⟩
       have HBw4 := Lib.hid (HBw3.out.trans (hbx.mono HBw3.out.size))
       have hZ := hZ.keep hbx
       clear hbx)
    | ((with_reducible refine wpList_store_blk rfl 24 _ _ rfl w4.heap.size (idv Z) ?hx2 ?hy2 24 _ (heap_alloc_new w4 _) (info32 HZL.out) ?hs2 (idv_one _) ?_); (case hx2 => rfl); (case hy2 => rfl); (case hs2 => rw [idv_size, HZL.out]; rfl)
       intro w5 hg2 hY hs2
       have hY : RowB w5 w4.heap.size 24 Z := hY
       have hbx : Below w4.heap.size w4 w5 := Below.grows (one_alloc w4 _) hg2 (size_le_alloc _ _) (Nat.le_refl _)
       have HBw5 := Lib.hid (HBw4.out.trans (hbx.mono HBw4.out.size))
       have hbt := hbt.below hbx
       have hZ := hZ.keep hbx
       clear hbx hg2 hs2)
    | (go_at_call 16
       (with_reducible refine (HVE.out _ (HK.out.from HBw5.out) (HD.out.below HBw5.out)).mono ?_)
       rintro e w6 ⟨rfl, hbx⟩
       have hbt := hbt.below hbx
       have HBw6 := Lib.hid (HBw5.out.trans (hbx.mono HBw5.out.size))
       have hZ := hZ.keep hbx
       have hY := hY.keep hbx
       clear hbx)
    | ((with_reducible refine wpList_store_blk rfl 24 _ _ rfl w6.heap.size (idv V) ?hx3 ?hy3 24 _ (heap_alloc_new w6 _) (info32 HVL.out) ?hs3 (idv_one _) ?_); (case hx3 => rfl); (case hy3 => rfl); (case hs3 => rw [idv_size, HVL.out]; rfl)
       intro w7 hg3 hX hs3
       have hX : RowB w7 w6.heap.size 24 V := hX
       have hbx : Below w6.heap.size w6 w7 := Below.grows (one_alloc w6 _) hg3 (size_le_alloc _ _) (Nat.le_refl _)
       have HBw7 := Lib.hid (HBw6.out.trans (hbx.mono HBw6.out.size))
       have hbt := hbt.below hbx
       have hZ := hZ.keep hbx
       have hY := hY.keep hbx
       clear hbx hg3 hs3))
  obtain ⟨Y8, hY8⟩ : ∃ Y, w7.drew = Y := ⟨_, rfl⟩
  have hZ : RowB Y8 w2.heap.size 24 Z := by rw [← hY8]; exact hZ.draw1
  have hY : RowB Y8 w4.heap.size 24 Z := by rw [← hY8]; exact hY.draw1
  have hX : RowB Y8 w6.heap.size 24 V := by rw [← hY8]; exact hX.draw1
  have HBw8 := Lib.hid (show Below w.heap.size w Y8 by rw [← hY8]; exact HBw7.out.drew)
  have KT := Lib.hid (show (convert 29 9 (.slice A6 n6 c6)).run Tryd.prog Y8 = .ok (.string st) Y8 by rw [← HST.out, ← hY8]; exact conv_bts hbt.draw1)
  have KB := Lib.hid (show (convert 29 9 (.slice A (62 * R.length) c)).run Tryd.prog Y8 = .ok (.string st) Y8 by rw [← HST.out]; exact conv_bts (HBM.out.below HBw8.out))
  have hbl6 := hbt.len
  clear hbt hen
  refine wp_region_held_drew (S := (fun w' => w' = Y8)) (by kernel_rfl) (by rw [hY8]) (fun hHeld => ?_)
  rw [hY8] at hHeld ⊢
  clear hY8
  refine take_move 0 (.tmp 9) (.bool true) rfl rfl rfl (by kernel_rfl) (by kernel_rfl) (by kernel_rfl) (fun _ _ _ h => h) rfl hHeld ?_
  simp only [Act.put, List.setIfInBounds_toArray, List.set_cons_zero, List.set_cons_succ]
  refine take_run 1 (.bool false) rfl (by kernel_rfl) (by kernel_rfl) (by kernel_rfl) (fun _ _ _ h => h) rfl hHeld (fun w => ?_) ?_
  · go_simp
  simp only [Act.put, List.setIfInBounds_toArray, List.set_cons_zero, List.set_cons_succ]
  refine take_run 2 (.bool false) rfl (by kernel_rfl) (by kernel_rfl) (by kernel_rfl) (fun _ _ _ h => h) rfl hHeld (fun w => ?_) ?_
  · go_simp
  simp only [Act.put, List.setIfInBounds_toArray, List.set_cons_zero, List.set_cons_succ]
  refine take_move 3 (.tmp 6) (.int .i64 (62 * (R.length : Int))) rfl rfl rfl (by kernel_rfl) (by kernel_rfl) (by kernel_rfl) (fun _ _ _ h => h) rfl hHeld ?_
  simp only [Act.put, List.setIfInBounds_toArray, List.set_cons_zero, List.set_cons_succ]
  refine take_move 4 (.tmp 4) (.slice A5 R.length c5) rfl rfl rfl (by kernel_rfl) (by kernel_rfl) (by kernel_rfl) (fun _ _ _ h => h) rfl hHeld ?_
  simp only [Act.put, List.setIfInBounds_toArray, List.set_cons_zero, List.set_cons_succ]
  refine take_run 5 (.int .i64 R.length) rfl (by kernel_rfl) (by kernel_rfl) (by kernel_rfl) (fun _ _ _ h => h) rfl hHeld (fun w => ?_) ?_
  · go_simp
  simp only [Act.put, List.setIfInBounds_toArray, List.set_cons_zero, List.set_cons_succ]
  refine take_run 6 (.int .i64 (62 * (R.length : Int))) rfl (by kernel_rfl) (by kernel_rfl) (by kernel_rfl) (fun _ _ _ h => h) rfl hHeld (fun w => ?_) ?_
  · go_simp
  simp only [Act.put, List.setIfInBounds_toArray, List.set_cons_zero, List.set_cons_succ]
  refine take_run 7 (.bool false) rfl (by kernel_rfl) (by kernel_rfl) (by kernel_rfl) (fun _ _ _ h => h) rfl hHeld (fun w => ?_) ?_
  · go_simp
  simp only [Act.put, List.setIfInBounds_toArray, List.set_cons_zero, List.set_cons_succ]
  refine take_run 8 (.bool false) rfl (by kernel_rfl) (by kernel_rfl) (by kernel_rfl) (fun _ _ _ h => h) rfl hHeld (fun w => ?_) ?_
  · go_simp
  simp only [Act.put, List.setIfInBounds_toArray, List.set_cons_zero, List.set_cons_succ]
  refine take_run 9 (.bool false) rfl (by kernel_rfl) (by kernel_rfl) (by kernel_rfl) (fun _ _ _ h => h) rfl hHeld (fun w => ?_) ?_
  · go_simp
  simp only [Act.put, List.setIfInBounds_toArray, List.set_cons_zero, List.set_cons_succ]
  refine take_move 10 (.tmp 6) (.int .i64 (62 * (R.length : Int))) rfl rfl rfl (by kernel_rfl) (by kernel_rfl) (by kernel_rfl) (fun _ _ _ h => h) rfl hHeld ?_
  simp only [Act.put, List.setIfInBounds_toArray, List.set_cons_zero, List.set_cons_succ]
  refine take_run 11 (.bool false) rfl (by kernel_rfl) (by kernel_rfl) (by kernel_rfl) (fun _ _ _ h => h) rfl hHeld (fun w => ?_) ?_
  · go_simp
  simp only [Act.put, List.setIfInBounds_toArray, List.set_cons_zero, List.set_cons_succ]
  refine take_run 12 (.bool false) rfl (by kernel_rfl) (by kernel_rfl) (by kernel_rfl) (fun _ _ _ h => h) rfl hHeld (fun w => ?_) ?_
  · go_simp
  simp only [Act.put, List.setIfInBounds_toArray, List.set_cons_zero, List.set_cons_succ]
  refine take_run 13 (.bool false) rfl (by kernel_rfl) (by kernel_rfl) (by kernel_rfl) (fun _ _ _ h => h) rfl hHeld (fun w => ?_) ?_
  · go_simp
  simp only [Act.put, List.setIfInBounds_toArray, List.set_cons_zero, List.set_cons_succ]
  refine take_move 14 (.tmp 6) (.int .i64 (62 * (R.length : Int))) rfl rfl rfl (by kernel_rfl) (by kernel_rfl) (by kernel_rfl) (fun _ _ _ h => h) rfl hHeld ?_
  simp only [Act.put, List.setIfInBounds_toArray, List.set_cons_zero, List.set_cons_succ]
  refine take_move 15 (.tmp 0) (.slice A n c) rfl rfl rfl (by kernel_rfl) (by kernel_rfl) (by kernel_rfl) (fun _ _ _ h => h) rfl hHeld ?_
  simp only [Act.put, List.setIfInBounds_toArray, List.set_cons_zero, List.set_cons_succ]
  refine take_run 16 (.int .i64 n) rfl (by kernel_rfl) (by kernel_rfl) (by kernel_rfl) (fun _ _ _ h => h) rfl hHeld (fun w => ?_) ?_
  · go_simp
  simp only [Act.put, List.setIfInBounds_toArray, List.set_cons_zero, List.set_cons_succ]
  refine take_run 17 (.bool false) rfl (by kernel_rfl) (by kernel_rfl) (by kernel_rfl) (fun _ _ _ h => h) rfl hHeld (fun w => ?_) ?_
  · go_simp
  simp only [Act.put, List.setIfInBounds_toArray, List.set_cons_zero, List.set_cons_succ]
  refine take_run 18 (.bool false) rfl (by kernel_rfl) (by kernel_rfl) (by kernel_rfl) (fun _ _ _ h => h) rfl hHeld (fun w => ?_) ?_
  · go_simp
  simp only [Act.put, List.setIfInBounds_toArray, List.set_cons_zero, List.set_cons_succ]
  refine take_run 19 (.bool false) rfl (by kernel_rfl) (by kernel_rfl) (by kernel_rfl) (fun _ _ _ h => h) rfl hHeld (fun w => ?_) ?_
  · go_simp
  simp only [Act.put, List.setIfInBounds_toArray, List.set_cons_zero, List.set_cons_succ]
  refine take_move 20 (.tmp 7) (.slice A6 n6 c6) rfl rfl rfl (by kernel_rfl) (by kernel_rfl) (by kernel_rfl) (fun _ _ _ h => h) rfl hHeld ?_
  simp only [Act.put, List.setIfInBounds_toArray, List.set_cons_zero, List.set_cons_succ]
  refine take_if 21 (.string st) rfl (by kernel_rfl) (by kernel_rfl) (by kernel_rfl) (fun _ _ _ h => h) rfl hHeld (fun w' hw' => ?_) ?_
  · cases hw'
    have hq := KT.out
    go_simp
  simp only [Act.put, List.setIfInBounds_toArray, List.set_cons_zero, List.set_cons_succ]
  refine take_move 22 (.tmp 0) (.slice A n c) rfl rfl rfl (by kernel_rfl) (by kernel_rfl) (by kernel_rfl) (fun _ _ _ h => h) rfl hHeld ?_
  simp only [Act.put, List.setIfInBounds_toArray, List.set_cons_zero, List.set_cons_succ]
  refine take_move 23 (.tmp 6) (.int .i64 (62 * (R.length : Int))) rfl rfl rfl (by kernel_rfl) (by kernel_rfl) (by kernel_rfl) (fun _ _ _ h => h) rfl hHeld ?_
  simp only [Act.put, List.setIfInBounds_toArray, List.set_cons_zero, List.set_cons_succ]
  refine take_run 24 (.slice A (62 * R.length) c) rfl (by kernel_rfl) (by kernel_rfl) (by kernel_rfl) (fun _ _ _ h => h) rfl hHeld (fun w => ?_) ?_
  · go_simp
  simp only [Act.put, List.setIfInBounds_toArray, List.set_cons_zero, List.set_cons_succ]
  refine take_if 25 (.string st) rfl (by kernel_rfl) (by kernel_rfl) (by kernel_rfl) (fun _ _ _ h => h) rfl hHeld (fun w' hw' => ?_) ?_
  · cases hw'
    have hq := KB.out
    go_simp
  simp only [Act.put, List.setIfInBounds_toArray, List.set_cons_zero, List.set_cons_succ]
  refine take_run 26 (.bool false) rfl (by kernel_rfl) (by kernel_rfl) (by kernel_rfl) (fun _ _ _ h => h) rfl hHeld (fun w => ?_) ?_
  · go_simp
  simp only [Act.put, List.setIfInBounds_toArray, List.set_cons_zero, List.set_cons_succ]
  refine take_run 27 (.bool false) rfl (by kernel_rfl) (by kernel_rfl) (by kernel_rfl) (fun _ _ _ h => h) rfl hHeld (fun w => ?_) ?_
  · go_simp
  simp only [Act.put, List.setIfInBounds_toArray, List.set_cons_zero, List.set_cons_succ]
  refine take_run 28 (.bool false) rfl (by kernel_rfl) (by kernel_rfl) (by kernel_rfl) (fun _ _ _ h => h) rfl hHeld (fun w => ?_) ?_
  · go_simp
  simp only [Act.put, List.setIfInBounds_toArray, List.set_cons_zero, List.set_cons_succ]
  refine take_if 29 (.agg (idv Z)) rfl (by kernel_rfl) (by kernel_rfl) (by kernel_rfl) (fun _ _ _ h => h) rfl hHeld (fun w' hw' => ?_) ?_
  · cases hw'
    exact id_load hY HZL.out rfl rfl
  simp only [Act.put, List.setIfInBounds_toArray, List.set_cons_zero, List.set_cons_succ]
  refine take_if 30 (.agg (idv Z)) rfl (by kernel_rfl) (by kernel_rfl) (by kernel_rfl) (fun _ _ _ h => h) rfl hHeld (fun w' hw' => ?_) ?_
  · cases hw'
    exact id_load hZ HZL.out rfl rfl
  simp only [Act.put, List.setIfInBounds_toArray, List.set_cons_zero, List.set_cons_succ]
  refine take_run 31 (.bool false) rfl (by kernel_rfl) (by kernel_rfl) (by kernel_rfl) (fun _ _ _ h => h) rfl hHeld (fun w => ?_) ?_
  · exact run_eq_id rfl rfl rfl (.inr ⟨rfl, rfl⟩) (HEZ.out w)
  simp only [Act.put, List.setIfInBounds_toArray, List.set_cons_zero, List.set_cons_succ]
  refine take_run 32 (.bool false) rfl (by kernel_rfl) (by kernel_rfl) (by kernel_rfl) (fun _ _ _ h => h) rfl hHeld (fun w => ?_) ?_
  · go_simp
  simp only [Act.put, List.setIfInBounds_toArray, List.set_cons_zero, List.set_cons_succ]
  refine wpAnyH_done (by kernel_rfl) ?_ _
  clear hHeld
  go_wp2
  go_ret
  exact ⟨rfl, HBw8.out⟩
theorem creadsw_any (A : Option Addr) (n c : Nat) (b : List Int) (w : World) (hK : KTab w) (hb : Bts w A n c b) : Calls Tryd.prog 5 #[.slice A n c] w fun e w' => e = .returned (.bool true) ∧ Below w.heap.size w w' := by
  by_cases h : n ≤ 1500
  · by_cases hE : errC b = 0
    · exact creadsw_ok A n c b w hK hb h hE
    · exact creadsw_bad A n c b w hK hb h hE
  · exact creadsw_long A n c b w hK hb (by omega)
end Go.Proofs.YtplfpaclhapldaaDoor
