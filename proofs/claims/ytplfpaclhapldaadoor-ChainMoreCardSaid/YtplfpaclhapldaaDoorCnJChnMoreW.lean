/- The walk over the law ChainMore: with one entry more records are as they were, and that one's, whose head goes on from theirs. -/
import Derived.Test.YtplfpaclhapldaaDoorCnJO
import Derived.Test.YtplfpaclhapldaaDoorCnJD
namespace Go.Proofs.YtplfpaclhapldaaDoor
set_option maxRecDepth 100000
set_option linter.unusedVariables false
set_option linter.unusedSimpArgs false
open Go.RowKit

set_option maxHeartbeats 1000000 in
theorem cmorew_long (A : Option Addr) (n c : Nat) (l : List En) (u : En) (w : World) (hK : KTab w) (hl : Ens w A n c l) (ho : ∀ u ∈ l, u.ok) (hu : u.ok) (h : 20 < n) :
    Calls Tryd.prog 8 #[.slice A n c, enV u] w fun e w' => e = .returned (.bool true) ∧ Below w.heap.size w w' := by
  have hn := hl.small
  have h1 : (20 : Int) < n := by omega
  have HK := Lib.hid hK
  clear hl hK ho hu
  rcases u with ⟨kind, tick, epoch, user, sess, count, cmd, arg, code⟩
  simp only [enV, enA, En.row]
  go_enter Tryd.func8, Tryd.ntmps8
  go_wp2_with (go_at_call 9; refine (cawake_any _ (HK.out.from (one_alloc w _))).mono ?_; rintro e w1 ⟨rfl, hb1⟩; have HB1 := Lib.hid (after_one hb1).1; clear hb1)
  go_ret
  exact ⟨rfl, HB1.out⟩
set_option maxRecDepth 100000 in
set_option maxHeartbeats 4000000 in
theorem cmorew_ff (A : Option Addr) (n c : Nat) (l : List En) (u : En) (w : World) (hK : KTab w) (hl : Ens w A n c l) (ho : ∀ u ∈ l, u.ok) (hu : u.ok) (h : n ≤ 20) (hp : putC l = false) (hm : mayE u = false) :
    Calls Tryd.prog 8 #[.slice A n c, enV u] w fun e w' => e = .returned (.bool true) ∧ Below w.heap.size w w' := by
  have hn := hl.small
  have h1 : (n : Int) ≤ 20 := by omega
  have HK := Lib.hid hK
  have HL := Lib.hid hl
  have HLL := Lib.hid hl.len
  have hll := hl.len
  obtain ⟨m1, m2, m3⟩ := more_all (l := l) (e := u) (by omega)
  have HPU := Lib.hid (fun (X : World) (hk : KTab X) (h : Ens X A n c l) => cput_any A n c l X hk h ho)
  have hoa : ∀ v ∈ l ++ [u], v.ok := fun v hv => by
    rcases List.mem_append.1 hv with hv | hv
    · exact ho v hv
    · rw [List.mem_singleton] at hv; rw [hv]; exact hu
  have HPA := Lib.hid (fun (A : Option Addr) (n c : Nat) (X : World) (hk : KTab X) (h : Ens X A n c (l ++ [u])) => cput_any A n c _ X hk h hoa)
  have HPE := Lib.hid (fun X : World => eput_any u X hu)
  rw [hp] at HPU
  rw [m1, hp, hm] at HPA
  rw [hm] at HPE
  obtain ⟨RC, hRC⟩ : ∃ R, (if false = true then recsC l else []) = R := ⟨_, rfl⟩
  obtain ⟨H, hH⟩ : ∃ R, (if false = true then headC l else noughtsC) = R := ⟨_, rfl⟩
  have hHL : H.length = 32 := by rw [← hH]; split; exact headC_len _; rfl
  have hHB : ∀ j, 0 ≤ H.getD j 0 ∧ H.getD j 0 < 256 := by rw [← hH]; split; exact headC_byte _; exact noughts_ok
  have HLK := Lib.hid (fun (X : World) (hk : KTab X) => clink_any H u X hk hHL hHB hu)
  rw [hm] at HLK
  rw [hRC, hH] at HPU
  obtain ⟨K, hKe⟩ : ∃ K, linkP H u = K := ⟨_, rfl⟩
  have hKL : K.length = 32 := by rw [← hKe]; exact linkP_len _ _
  have hKB : ∀ j, 0 ≤ K.getD j 0 ∧ K.getD j 0 < 256 := by rw [← hKe]; exact linkP_byte _ _
  rw [hKe] at HLK
  obtain ⟨P, hP⟩ : ∃ P, (if false = true then putE u else []) = P := ⟨_, rfl⟩
  rw [hP] at HPE
  obtain ⟨RA, hRA⟩ : ∃ R, (if (false && false) = true then recsC (l ++ [u]) else []) = R := ⟨_, rfl⟩
  obtain ⟨KA, hKA⟩ : ∃ R, (if (false && false) = true then headC (l ++ [u]) else noughtsC) = R := ⟨_, rfl⟩
  have HKA := Lib.hid (show KA.length = 32 by rw [← hKA]; rfl)
  rw [hRA, hKA] at HPA
  rw [show (false && false) = false from rfl] at HPA
  clear hRA hKA
  have HHL := Lib.hid hHL
  have HKL := Lib.hid hKL
  have HKB := Lib.hid hKB
  clear hl hK ho hu hp hm m1 m2 m3 hoa hRC hH hHL hHB hKe hKL hKB hP
  have hal := run_all32
  rcases u with ⟨kind, tick, epoch, user, sess, count, cmd, arg, code⟩
  simp only [enV, enA, En.row] at HPE HLK ⊢
  go_enter Tryd.func8, Tryd.ntmps8
  go_wp2_with (first
    | (go_at_call 9
       refine (cawake_any _ (HK.out.from (one_alloc w _))).mono ?_
       rintro e w1 ⟨rfl, hb1⟩
       have hx1 := after_alloc hb1
       have RX1 := Lib.hid (show ∀ X, Below w1.heap.size w1 X → X.rangeAt w.heap.size 0 (En.row ⟨kind, tick, epoch, user, sess, count, cmd, arg, code⟩) from fun X hX => cent_range ((hX.block _ (Array.getElem?_eq_some_iff.1 hx1).1).trans hx1))
       have HBw1 := Lib.hid (after_one hb1).1
       clear hb1 hx1)
    | (go_at_call 10
       (with_reducible refine (HPU.out _ (HK.out.from HBw1.out) (HL.out.below HBw1.out)).mono ?_)
       rintro e w2 ⟨A6, n6, c6, rfl, hbt, hbx⟩
       have HDR := Lib.hid hbt
       have HC2 := Lib.hid hbx
       clear hbt
       have HBw2 := Lib.hid (HBw1.out.trans (hbx.mono HBw1.out.size))
       clear hbx)
    | ((with_reducible refine wpList_store_blk rfl 24 _ _ rfl w2.heap.size (idv H) ?hx2 ?hy2 24 _ (heap_alloc_new w2 _) (info32 HHL.out) ?hs2 (idv_one _) ?_); (case hx2 => rfl); (case hy2 => rfl); (case hs2 => rw [idv_size, HHL.out]; rfl)
       intro w3 hg2 hH hs2
       have hH : RowB w3 w2.heap.size 24 H := hH
       have hbx : Below w2.heap.size w2 w3 := Below.grows (one_alloc w2 _) hg2 (size_le_alloc _ _) (Nat.le_refl _)
       have HBw3 := Lib.hid (HBw2.out.trans (hbx.mono HBw2.out.size))
       have HDR := Lib.hid (HDR.out.below hbx)
       have RX := Lib.hid (show ∀ X, Below w3.heap.size w3 X → X.rangeAt w.heap.size 0 (En.row ⟨kind, tick, epoch, user, sess, count, cmd, arg, code⟩) from fun X hX => RX1.out X ((HC2.out.trans (hbx.mono HC2.out.size)).trans (hX.mono (HC2.out.trans (hbx.mono HC2.out.size)).size)))
       clear hbx hg2 hs2))
  obtain ⟨Y0, hY0⟩ : ∃ Y, w3.drew = Y := ⟨_, rfl⟩
  have hB3 := HBw3.out
  have hb0 : Below w3.heap.size w3 Y0 := by rw [← hY0]; exact (Below.refl _ w3).drew
  have hBd : Below w.heap.size w Y0 := hB3.trans (hb0.mono hB3.size)
  have SC := Lib.hid (show ∀ X, Below w3.heap.size w3 X → (fun w' => w'.rangeAt w.heap.size 0 (En.row ⟨kind, tick, epoch, user, sess, count, cmd, arg, code⟩)) X from fun X hX => RX.out _ hX)
  have Sd := SC.out _ hb0
  refine wp_region_held_drew (S := (fun w' => w'.rangeAt w.heap.size 0 (En.row ⟨kind, tick, epoch, user, sess, count, cmd, arg, code⟩))) (by kernel_rfl) (by rw [hY0]; exact Sd) (fun hHeld => ?_)
  rw [hY0] at hHeld ⊢
  clear hY0 Sd
  refine take_move 0 (.tmp 0) (.slice A n c) rfl rfl rfl (by kernel_rfl) (by kernel_rfl) (by kernel_rfl) (fun _ _ _ h => h) rfl hHeld ?_
  simp only [Act.put, List.setIfInBounds_toArray, List.set_cons_zero, List.set_cons_succ]
  refine take_if 2 (.agg #[.int .i64 kind, .int .i64 tick, .int .i64 epoch, .int .i64 user, .int .u64 sess, .int .u64 count, .int .i64 cmd, .int .i64 arg, .int .i64 code]) rfl (by kernel_rfl) (by kernel_rfl) (by kernel_rfl) (fun _ _ _ h => h) rfl hHeld (fun w' hw' => ?_) ?_
  · exact run_load_en (u := ⟨kind, tick, epoch, user, sess, count, cmd, arg, code⟩) rfl rfl hw'
  simp only [Act.put, List.setIfInBounds_toArray, List.set_cons_zero, List.set_cons_succ]
  refine two_steps 1 3 (by kernel_rfl) rfl rfl (fun Kq hKq => ?_) (fun Kq hKq => ?_)
  refine step_append_r 22 28 9 72 _ _ rfl Tryd.underlying22 info_entry (by omega) w3.heap.size (.slice none 0 0) [] rfl (OwnR.nil _ _ _ _) A n c (l.map En.row) rfl (HL.out.below hBd).rws (by simp; omega) (by simp; omega) hb0.size rfl ?_
  intro v1 y1 hown1 hg1
  have hBy1 : Below w.heap.size w y1 := hBd.grown hg1 hBd.size (fun g hg => by simp [Value.ownBlock] at hg)
  have hby1 : Below w3.heap.size w3 y1 := hb0.grown hg1 hb0.size (fun g hg => by simp [Value.ownBlock] at hg)
  have Sy1 := SC.out _ hby1
  refine hKq.out _ _ Sy1 (fun hHeld0 => ?_)
  clear hKq Kq hHeld Sy1 hg1
  have hHeld := hHeld0
  clear hHeld0
  try simp only [Act.put, List.setIfInBounds_toArray, List.set_cons_zero, List.set_cons_succ]
  refine one_step 3 (by kernel_rfl) rfl (fun Kq hKq => ?_)
  have hBz := hBy1.trans ((one_alloc y1 (.cells #[.int .i64 kind, .int .i64 tick, .int .i64 epoch, .int .i64 user, .int .u64 sess, .int .u64 count, .int .i64 cmd, .int .i64 arg, .int .i64 code] 28)).mono hBy1.size)
  have hbz := hby1.trans ((one_alloc y1 (.cells #[.int .i64 kind, .int .i64 tick, .int .i64 epoch, .int .i64 user, .int .u64 sess, .int .u64 count, .int .i64 cmd, .int .i64 arg, .int .i64 code] 28)).mono hby1.size)
  have Sz := SC.out _ hbz
  have hz := one_rws 9 28 y1 [.int .i64 kind, .int .i64 tick, .int .i64 epoch, .int .i64 user, .int .u64 sess, .int .u64 count, .int .i64 cmd, .int .i64 arg, .int .i64 code] rfl (row_one9 ⟨kind, tick, epoch, user, sess, count, cmd, arg, code⟩)
  have hown1 := hown1.more (.cells #[.int .i64 kind, .int .i64 tick, .int .i64 epoch, .int .i64 user, .int .u64 sess, .int .u64 count, .int .i64 cmd, .int .i64 arg, .int .i64 code] 28)
  go_simp
  refine hKq.out _ _ Sz (fun hHeld0 => ?_)
  clear hKq Kq hHeld Sz 
  have hHeld := hHeld0
  clear hHeld0
  try simp only [Act.put, List.setIfInBounds_toArray, List.set_cons_zero, List.set_cons_succ]
  refine one_step 4 (by kernel_rfl) rfl (fun Kq hKq => ?_)
  refine step_append_r 22 28 9 72 _ _ rfl Tryd.underlying22 info_entry (by omega) w3.heap.size v1 ([] ++ l.map En.row) rfl hown1 _ 1 1 [[.int .i64 kind, .int .i64 tick, .int .i64 epoch, .int .i64 user, .int .u64 sess, .int .u64 count, .int .i64 cmd, .int .i64 arg, .int .i64 code]] rfl hz (by have := HLL.out; simp; omega) (by have := HLL.out; simp; omega) hbz.size rfl ?_
  intro v2 wM hown2 hg2
  have hBM : Below w.heap.size w wM := hBz.grown hg2 hBz.size (fun g hg => Nat.le_trans hB3.size (hown1.size g hg).1)
  have hbM : Below w3.heap.size w3 wM := hbz.grown hg2 hbz.size (fun g hg => (hown1.size g hg).1)
  have SM := SC.out _ hbM
  have hown2 : OwnR 28 9 wM w3.heap.size v2 ((l ++ [(⟨kind, tick, epoch, user, sess, count, cmd, arg, code⟩ : En)]).map En.row) := by rw [map_row]; exact hown2
  obtain ⟨A5, n5, c5, rfl, hus⟩ := own_ens hown2
  have HUS := Lib.hid hus
  refine hKq.out _ _ SM (fun hHeld0 => ?_)
  clear hKq Kq hHeld SM hown1 hown2 hg2 hz hus
  have hHeld := hHeld0
  clear hHeld0
  try simp only [Act.put, List.setIfInBounds_toArray, List.set_cons_zero, List.set_cons_succ]
  refine take_run 5 (.slice A5 n5 c5) rfl (by kernel_rfl) (by kernel_rfl) (by kernel_rfl) (fun _ _ _ h => h) rfl hHeld (fun w => ?_) ?_
  · go_simp
  simp only [Act.put, List.setIfInBounds_toArray, List.set_cons_zero, List.set_cons_succ]
  refine wpAnyH_done (by kernel_rfl) ?_ _
  clear hHeld
  rotate_left
  have hBz := hBd.trans ((one_alloc Y0 (.cells #[.int .i64 kind, .int .i64 tick, .int .i64 epoch, .int .i64 user, .int .u64 sess, .int .u64 count, .int .i64 cmd, .int .i64 arg, .int .i64 code] 28)).mono hBd.size)
  have hbz := hb0.trans ((one_alloc Y0 (.cells #[.int .i64 kind, .int .i64 tick, .int .i64 epoch, .int .i64 user, .int .u64 sess, .int .u64 count, .int .i64 cmd, .int .i64 arg, .int .i64 code] 28)).mono hb0.size)
  have Sz := SC.out _ hbz
  have hz := one_rws 9 28 Y0 [.int .i64 kind, .int .i64 tick, .int .i64 epoch, .int .i64 user, .int .u64 sess, .int .u64 count, .int .i64 cmd, .int .i64 arg, .int .i64 code] rfl (row_one9 ⟨kind, tick, epoch, user, sess, count, cmd, arg, code⟩)
  go_simp
  refine hKq.out _ _ Sz (fun hHeld0 => ?_)
  clear hKq Kq hHeld Sz 
  have hHeld := hHeld0
  clear hHeld0
  try simp only [Act.put, List.setIfInBounds_toArray, List.set_cons_zero, List.set_cons_succ]
  refine one_step 1 (by kernel_rfl) rfl (fun Kq hKq => ?_)
  refine step_append_r 22 28 9 72 _ _ rfl Tryd.underlying22 info_entry (by omega) w3.heap.size (.slice none 0 0) [] rfl (OwnR.nil _ _ _ _) A n c (l.map En.row) rfl (HL.out.below hBz).rws (by simp; omega) (by simp; omega) hbz.size rfl ?_
  intro v1 y1 hown1 hg1
  have hBy1 : Below w.heap.size w y1 := hBz.grown hg1 hBz.size (fun g hg => by simp [Value.ownBlock] at hg)
  have hby1 : Below w3.heap.size w3 y1 := hbz.grown hg1 hbz.size (fun g hg => by simp [Value.ownBlock] at hg)
  have Sy1 := SC.out _ hby1
  have hz := hz.grown hg1 (fun b off e => by intro e2; simp [Value.ownBlock] at e2)
  refine hKq.out _ _ Sy1 (fun hHeld0 => ?_)
  clear hKq Kq hHeld Sy1 hg1
  have hHeld := hHeld0
  clear hHeld0
  try simp only [Act.put, List.setIfInBounds_toArray, List.set_cons_zero, List.set_cons_succ]
  refine one_step 4 (by kernel_rfl) rfl (fun Kq hKq => ?_)
  refine step_append_r 22 28 9 72 _ _ rfl Tryd.underlying22 info_entry (by omega) w3.heap.size v1 ([] ++ l.map En.row) rfl hown1 _ 1 1 [[.int .i64 kind, .int .i64 tick, .int .i64 epoch, .int .i64 user, .int .u64 sess, .int .u64 count, .int .i64 cmd, .int .i64 arg, .int .i64 code]] rfl hz (by have := HLL.out; simp; omega) (by have := HLL.out; simp; omega) hby1.size rfl ?_
  intro v2 wM hown2 hg2
  have hBM : Below w.heap.size w wM := hBy1.grown hg2 hBy1.size (fun g hg => Nat.le_trans hB3.size (hown1.size g hg).1)
  have hbM : Below w3.heap.size w3 wM := hby1.grown hg2 hby1.size (fun g hg => (hown1.size g hg).1)
  have SM := SC.out _ hbM
  have hown2 : OwnR 28 9 wM w3.heap.size v2 ((l ++ [(⟨kind, tick, epoch, user, sess, count, cmd, arg, code⟩ : En)]).map En.row) := by rw [map_row]; exact hown2
  obtain ⟨A5, n5, c5, rfl, hus⟩ := own_ens hown2
  have HUS := Lib.hid hus
  refine hKq.out _ _ SM (fun hHeld0 => ?_)
  clear hKq Kq hHeld SM hown1 hown2 hg2 hz hus
  have hHeld := hHeld0
  clear hHeld0
  try simp only [Act.put, List.setIfInBounds_toArray, List.set_cons_zero, List.set_cons_succ]
  refine take_run 5 (.slice A5 n5 c5) rfl (by kernel_rfl) (by kernel_rfl) (by kernel_rfl) (fun _ _ _ h => h) rfl hHeld (fun w => ?_) ?_
  · go_simp
  simp only [Act.put, List.setIfInBounds_toArray, List.set_cons_zero, List.set_cons_succ]
  refine wpAnyH_done (by kernel_rfl) ?_ _
  clear hHeld
  all_goals
    have HCC := Lib.hid hbM
    have HBwM := Lib.hid hBM
    have hH := hH.keep hbM
    have HDR := Lib.hid (HDR.out.below hbM)
    clear hbM hBM
    go_wp2_with (first
      | (go_at_call 10
         (with_reducible refine (HPA.out _ _ _ _ (HK.out.from HBwM.out) HUS.out).mono ?_)
         rintro e w6 ⟨A7, n7, c7, rfl, hbt, hbx⟩
         have HDR := Lib.hid (HDR.out.below hbx)
         have HDA := Lib.hid hbt
         clear hbt
         have HCC := Lib.hid (HCC.out.trans (hbx.mono HCC.out.size))
         have HBw6 := Lib.hid (HBwM.out.trans (hbx.mono HBwM.out.size))
         have hH := hH.keep hbx
         clear hbx)
      | ((with_reducible refine wpList_store_blk rfl 24 _ _ rfl w6.heap.size (idv KA) ?hx6 ?hy6 24 _ (heap_alloc_new w6 _) (info32 HKA.out) ?hs6 (idv_one _) ?_); (case hx6 => rfl); (case hy6 => rfl); (case hs6 => rw [idv_size, HKA.out]; rfl)
         intro w7 hg6 hKA hs6
         have hKA : RowB w7 w6.heap.size 24 KA := hKA
         have hbx : Below w6.heap.size w6 w7 := Below.grows (one_alloc w6 _) hg6 (size_le_alloc _ _) (Nat.le_refl _)
         have HBw7 := Lib.hid (HBw6.out.trans (hbx.mono HBw6.out.size))
         have HDR := Lib.hid (HDR.out.below hbx)
         have HDA := Lib.hid (HDA.out.below hbx)
         have HCC := Lib.hid (HCC.out.trans (hbx.mono HCC.out.size))
         have hH := hH.keep hbx
         clear hbx hg6 hs6)
      | ((with_reducible refine wpList_load_blk 24 _ rfl w2.heap.size ?hx7 24 (idv H) (0, 0) _ hH.is Tryd.underlying24 ?hd7 (info32 HHL.out) ?_ ?hw7); (case hx7 => rfl); (case hd7 => rfl); (case hw7 => rfl))
      | ((with_reducible refine wpList_load_on 28 _ rfl w.heap.size 0 ?hx20 (En.row ⟨kind, tick, epoch, user, sess, count, cmd, arg, code⟩) #[.int .i64 kind, .int .i64 tick, .int .i64 epoch, .int .i64 user, .int .u64 sess, .int .u64 count, .int .i64 cmd, .int .i64 arg, .int .i64 code] ?ht20 _ (RX.out _ HCC.out) Tryd.underlying28 ?hd20 ?hi20 ?_ ?hw20); (case hx20 => rfl); (case ht20 => rfl); (case hd20 => rfl); (case hi20 => exact info_en rfl); (case hw20 => rfl))
      | (go_at_call 12
         (with_reducible refine (HLK.out _ (HK.out.from HBw7.out)).mono ?_)
         rintro e w8 ⟨rfl, hbx⟩
         have HDR := Lib.hid (HDR.out.below hbx)
         have HDA := Lib.hid (HDA.out.below hbx)
         have HCC := Lib.hid (HCC.out.trans (hbx.mono HCC.out.size))
         have HBw8 := Lib.hid (HBw7.out.trans (hbx.mono HBw7.out.size))
         have hH := hH.keep hbx
         have hKA := hKA.keep hbx
         clear hbx)
      | ((with_reducible refine wpList_store_blk rfl 24 _ _ rfl w8.heap.size (idv K) ?hx8 ?hy8 24 _ (heap_alloc_new w8 _) (info32 HKL.out) ?hs8 (idv_one _) ?_); (case hx8 => rfl); (case hy8 => rfl); (case hs8 => rw [idv_size, HKL.out]; rfl)
         intro w9 hg8 hKL hs8
         have hKL : RowB w9 w8.heap.size 24 K := hKL
         have hbx : Below w8.heap.size w8 w9 := Below.grows (one_alloc w8 _) hg8 (size_le_alloc _ _) (Nat.le_refl _)
         have HBw9 := Lib.hid (HBw8.out.trans (hbx.mono HBw8.out.size))
         have HDR := Lib.hid (HDR.out.below hbx)
         have HDA := Lib.hid (HDA.out.below hbx)
         have HCC := Lib.hid (HCC.out.trans (hbx.mono HCC.out.size))
         have hH := hH.keep hbx
         have hKA := hKA.keep hbx
         clear hbx hg8 hs8)
      | (go_at_call 25
         (with_reducible refine (HPE.out _).mono ?_)
         rintro e w10 ⟨A9, n9, c9, rfl, hbt, hbx⟩
         have HDR := Lib.hid (HDR.out.below hbx)
         have HDA := Lib.hid (HDA.out.below hbx)
         have HDP := Lib.hid hbt
         clear hbt
         have HBw10 := Lib.hid (HBw9.out.trans (hbx.mono HBw9.out.size))
         have hH := hH.keep hbx
         have hKA := hKA.keep hbx
         have hKL := hKL.keep hbx
         clear hbx))
    obtain ⟨Y8, hY8⟩ : ∃ Y, w10.drew = Y := ⟨_, rfl⟩
    have HBw8 := Lib.hid (show Below w.heap.size w Y8 by rw [← hY8]; exact HBw10.out.drew)
    refine wp_region_held_drew (S := (fun w' => w' = Y8)) (by kernel_rfl) (by rw [hY8]) (fun hHeld => ?_)
    rw [hY8] at hHeld ⊢
    clear hY8
    refine take_move 0 (.tmp 12) (.bool false) rfl rfl rfl (by kernel_rfl) (by kernel_rfl) (by kernel_rfl) (fun _ _ _ h => h) rfl hHeld ?_
    simp only [Act.put, List.setIfInBounds_toArray, List.set_cons_zero, List.set_cons_succ]
    refine take_run 1 (.bool true) rfl (by kernel_rfl) (by kernel_rfl) (by kernel_rfl) (fun _ _ _ h => h) rfl hHeld (fun w => ?_) ?_
    · go_simp
    simp only [Act.put, List.setIfInBounds_toArray, List.set_cons_zero, List.set_cons_succ]
    refine take_run 2 (.bool true) rfl (by kernel_rfl) (by kernel_rfl) (by kernel_rfl) (fun _ _ _ h => h) rfl hHeld (fun w => ?_) ?_
    · go_simp
    simp only [Act.put, List.setIfInBounds_toArray, List.set_cons_zero, List.set_cons_succ]
    refine take_off 3 rfl (by kernel_rfl) (by kernel_rfl) (by kernel_rfl) (fun _ _ _ h => h) rfl hHeld ?_
    simp only [Act.put, List.setIfInBounds_toArray, List.set_cons_zero, List.set_cons_succ]
    refine take_off 4 rfl (by kernel_rfl) (by kernel_rfl) (by kernel_rfl) (fun _ _ _ h => h) rfl hHeld ?_
    simp only [Act.put, List.setIfInBounds_toArray, List.set_cons_zero, List.set_cons_succ]
    refine take_off 5 rfl (by kernel_rfl) (by kernel_rfl) (by kernel_rfl) (fun _ _ _ h => h) rfl hHeld ?_
    simp only [Act.put, List.setIfInBounds_toArray, List.set_cons_zero, List.set_cons_succ]
    refine take_off 6 rfl (by kernel_rfl) (by kernel_rfl) (by kernel_rfl) (fun _ _ _ h => h) rfl hHeld ?_
    simp only [Act.put, List.setIfInBounds_toArray, List.set_cons_zero, List.set_cons_succ]
    refine take_off 7 rfl (by kernel_rfl) (by kernel_rfl) (by kernel_rfl) (fun _ _ _ h => h) rfl hHeld ?_
    simp only [Act.put, List.setIfInBounds_toArray, List.set_cons_zero, List.set_cons_succ]
    refine take_off 8 rfl (by kernel_rfl) (by kernel_rfl) (by kernel_rfl) (fun _ _ _ h => h) rfl hHeld ?_
    simp only [Act.put, List.setIfInBounds_toArray, List.set_cons_zero, List.set_cons_succ]
    refine take_off 9 rfl (by kernel_rfl) (by kernel_rfl) (by kernel_rfl) (fun _ _ _ h => h) rfl hHeld ?_
    simp only [Act.put, List.setIfInBounds_toArray, List.set_cons_zero, List.set_cons_succ]
    refine take_off 10 rfl (by kernel_rfl) (by kernel_rfl) (by kernel_rfl) (fun _ _ _ h => h) rfl hHeld ?_
    simp only [Act.put, List.setIfInBounds_toArray, List.set_cons_zero, List.set_cons_succ]
    refine take_off 11 rfl (by kernel_rfl) (by kernel_rfl) (by kernel_rfl) (fun _ _ _ h => h) rfl hHeld ?_
    simp only [Act.put, List.setIfInBounds_toArray, List.set_cons_zero, List.set_cons_succ]
    refine take_off 12 rfl (by kernel_rfl) (by kernel_rfl) (by kernel_rfl) (fun _ _ _ h => h) rfl hHeld ?_
    simp only [Act.put, List.setIfInBounds_toArray, List.set_cons_zero, List.set_cons_succ]
    refine take_off 13 rfl (by kernel_rfl) (by kernel_rfl) (by kernel_rfl) (fun _ _ _ h => h) rfl hHeld ?_
    simp only [Act.put, List.setIfInBounds_toArray, List.set_cons_zero, List.set_cons_succ]
    refine take_off 14 rfl (by kernel_rfl) (by kernel_rfl) (by kernel_rfl) (fun _ _ _ h => h) rfl hHeld ?_
    simp only [Act.put, List.setIfInBounds_toArray, List.set_cons_zero, List.set_cons_succ]
    refine take_off 15 rfl (by kernel_rfl) (by kernel_rfl) (by kernel_rfl) (fun _ _ _ h => h) rfl hHeld ?_
    simp only [Act.put, List.setIfInBounds_toArray, List.set_cons_zero, List.set_cons_succ]
    refine take_off 16 rfl (by kernel_rfl) (by kernel_rfl) (by kernel_rfl) (fun _ _ _ h => h) rfl hHeld ?_
    simp only [Act.put, List.setIfInBounds_toArray, List.set_cons_zero, List.set_cons_succ]
    refine take_off 17 rfl (by kernel_rfl) (by kernel_rfl) (by kernel_rfl) (fun _ _ _ h => h) rfl hHeld ?_
    simp only [Act.put, List.setIfInBounds_toArray, List.set_cons_zero, List.set_cons_succ]
    refine take_off 18 rfl (by kernel_rfl) (by kernel_rfl) (by kernel_rfl) (fun _ _ _ h => h) rfl hHeld ?_
    simp only [Act.put, List.setIfInBounds_toArray, List.set_cons_zero, List.set_cons_succ]
    refine take_run 19 (.bool true) rfl (by kernel_rfl) (by kernel_rfl) (by kernel_rfl) (fun _ _ _ h => h) rfl hHeld (fun w => ?_) ?_
    · go_simp
    simp only [Act.put, List.setIfInBounds_toArray, List.set_cons_zero, List.set_cons_succ]
    refine take_run 20 (.bool true) rfl (by kernel_rfl) (by kernel_rfl) (by kernel_rfl) (fun _ _ _ h => h) rfl hHeld (fun w => ?_) ?_
    · go_simp
    simp only [Act.put, List.setIfInBounds_toArray, List.set_cons_zero, List.set_cons_succ]
    refine wpAnyH_done (by kernel_rfl) ?_ _
    clear hHeld
    go_wp2
    go_ret
    exact ⟨rfl, HBw8.out⟩
set_option maxRecDepth 100000 in
set_option maxHeartbeats 4000000 in
theorem cmorew_ft (A : Option Addr) (n c : Nat) (l : List En) (u : En) (w : World) (hK : KTab w) (hl : Ens w A n c l) (ho : ∀ u ∈ l, u.ok) (hu : u.ok) (h : n ≤ 20) (hp : putC l = false) (hm : mayE u = true) :
    Calls Tryd.prog 8 #[.slice A n c, enV u] w fun e w' => e = .returned (.bool true) ∧ Below w.heap.size w w' := by
  have hn := hl.small
  have h1 : (n : Int) ≤ 20 := by omega
  have HK := Lib.hid hK
  have HL := Lib.hid hl
  have HLL := Lib.hid hl.len
  have hll := hl.len
  obtain ⟨m1, m2, m3⟩ := more_all (l := l) (e := u) (by omega)
  have HPU := Lib.hid (fun (X : World) (hk : KTab X) (h : Ens X A n c l) => cput_any A n c l X hk h ho)
  have hoa : ∀ v ∈ l ++ [u], v.ok := fun v hv => by
    rcases List.mem_append.1 hv with hv | hv
    · exact ho v hv
    · rw [List.mem_singleton] at hv; rw [hv]; exact hu
  have HPA := Lib.hid (fun (A : Option Addr) (n c : Nat) (X : World) (hk : KTab X) (h : Ens X A n c (l ++ [u])) => cput_any A n c _ X hk h hoa)
  have HPE := Lib.hid (fun X : World => eput_any u X hu)
  rw [hp] at HPU
  rw [m1, hp, hm] at HPA
  rw [hm] at HPE
  obtain ⟨RC, hRC⟩ : ∃ R, (if false = true then recsC l else []) = R := ⟨_, rfl⟩
  obtain ⟨H, hH⟩ : ∃ R, (if false = true then headC l else noughtsC) = R := ⟨_, rfl⟩
  have hHL : H.length = 32 := by rw [← hH]; split; exact headC_len _; rfl
  have hHB : ∀ j, 0 ≤ H.getD j 0 ∧ H.getD j 0 < 256 := by rw [← hH]; split; exact headC_byte _; exact noughts_ok
  have HLK := Lib.hid (fun (X : World) (hk : KTab X) => clink_any H u X hk hHL hHB hu)
  rw [hm] at HLK
  rw [hRC, hH] at HPU
  obtain ⟨K, hKe⟩ : ∃ K, linkP H u = K := ⟨_, rfl⟩
  have hKL : K.length = 32 := by rw [← hKe]; exact linkP_len _ _
  have hKB : ∀ j, 0 ≤ K.getD j 0 ∧ K.getD j 0 < 256 := by rw [← hKe]; exact linkP_byte _ _
  rw [hKe] at HLK
  obtain ⟨P, hP⟩ : ∃ P, (if true = true then putE u else []) = P := ⟨_, rfl⟩
  rw [hP] at HPE
  obtain ⟨RA, hRA⟩ : ∃ R, (if (false && true) = true then recsC (l ++ [u]) else []) = R := ⟨_, rfl⟩
  obtain ⟨KA, hKA⟩ : ∃ R, (if (false && true) = true then headC (l ++ [u]) else noughtsC) = R := ⟨_, rfl⟩
  have HKA := Lib.hid (show KA.length = 32 by rw [← hKA]; rfl)
  rw [hRA, hKA] at HPA
  rw [show (false && true) = false from rfl] at HPA
  clear hRA hKA
  have HHL := Lib.hid hHL
  have HKL := Lib.hid hKL
  have HKB := Lib.hid hKB
  clear hl hK ho hu hp hm m1 m2 m3 hoa hRC hH hHL hHB hKe hKL hKB hP
  have hal := run_all32
  rcases u with ⟨kind, tick, epoch, user, sess, count, cmd, arg, code⟩
  simp only [enV, enA, En.row] at HPE HLK ⊢
  go_enter Tryd.func8, Tryd.ntmps8
  go_wp2_with (first
    | (go_at_call 9
       refine (cawake_any _ (HK.out.from (one_alloc w _))).mono ?_
       rintro e w1 ⟨rfl, hb1⟩
       have hx1 := after_alloc hb1
       have RX1 := Lib.hid (show ∀ X, Below w1.heap.size w1 X → X.rangeAt w.heap.size 0 (En.row ⟨kind, tick, epoch, user, sess, count, cmd, arg, code⟩) from fun X hX => cent_range ((hX.block _ (Array.getElem?_eq_some_iff.1 hx1).1).trans hx1))
       have HBw1 := Lib.hid (after_one hb1).1
       clear hb1 hx1)
    | (go_at_call 10
       (with_reducible refine (HPU.out _ (HK.out.from HBw1.out) (HL.out.below HBw1.out)).mono ?_)
       rintro e w2 ⟨A6, n6, c6, rfl, hbt, hbx⟩
       have HDR := Lib.hid hbt
       have HC2 := Lib.hid hbx
       clear hbt
       have HBw2 := Lib.hid (HBw1.out.trans (hbx.mono HBw1.out.size))
       clear hbx)
    | ((with_reducible refine wpList_store_blk rfl 24 _ _ rfl w2.heap.size (idv H) ?hx2 ?hy2 24 _ (heap_alloc_new w2 _) (info32 HHL.out) ?hs2 (idv_one _) ?_); (case hx2 => rfl); (case hy2 => rfl); (case hs2 => rw [idv_size, HHL.out]; rfl)
       intro w3 hg2 hH hs2
       have hH : RowB w3 w2.heap.size 24 H := hH
       have hbx : Below w2.heap.size w2 w3 := Below.grows (one_alloc w2 _) hg2 (size_le_alloc _ _) (Nat.le_refl _)
       have HBw3 := Lib.hid (HBw2.out.trans (hbx.mono HBw2.out.size))
       have HDR := Lib.hid (HDR.out.below hbx)
       have RX := Lib.hid (show ∀ X, Below w3.heap.size w3 X → X.rangeAt w.heap.size 0 (En.row ⟨kind, tick, epoch, user, sess, count, cmd, arg, code⟩) from fun X hX => RX1.out X ((HC2.out.trans (hbx.mono HC2.out.size)).trans (hX.mono (HC2.out.trans (hbx.mono HC2.out.size)).size)))
       clear hbx hg2 hs2))
  obtain ⟨Y0, hY0⟩ : ∃ Y, w3.drew = Y := ⟨_, rfl⟩
  have hB3 := HBw3.out
  have hb0 : Below w3.heap.size w3 Y0 := by rw [← hY0]; exact (Below.refl _ w3).drew
  have hBd : Below w.heap.size w Y0 := hB3.trans (hb0.mono hB3.size)
  have SC := Lib.hid (show ∀ X, Below w3.heap.size w3 X → (fun w' => w'.rangeAt w.heap.size 0 (En.row ⟨kind, tick, epoch, user, sess, count, cmd, arg, code⟩)) X from fun X hX => RX.out _ hX)
  have Sd := SC.out _ hb0
  refine wp_region_held_drew (S := (fun w' => w'.rangeAt w.heap.size 0 (En.row ⟨kind, tick, epoch, user, sess, count, cmd, arg, code⟩))) (by kernel_rfl) (by rw [hY0]; exact Sd) (fun hHeld => ?_)
  rw [hY0] at hHeld ⊢
  clear hY0 Sd
  refine take_move 0 (.tmp 0) (.slice A n c) rfl rfl rfl (by kernel_rfl) (by kernel_rfl) (by kernel_rfl) (fun _ _ _ h => h) rfl hHeld ?_
  simp only [Act.put, List.setIfInBounds_toArray, List.set_cons_zero, List.set_cons_succ]
  refine take_if 2 (.agg #[.int .i64 kind, .int .i64 tick, .int .i64 epoch, .int .i64 user, .int .u64 sess, .int .u64 count, .int .i64 cmd, .int .i64 arg, .int .i64 code]) rfl (by kernel_rfl) (by kernel_rfl) (by kernel_rfl) (fun _ _ _ h => h) rfl hHeld (fun w' hw' => ?_) ?_
  · exact run_load_en (u := ⟨kind, tick, epoch, user, sess, count, cmd, arg, code⟩) rfl rfl hw'
  simp only [Act.put, List.setIfInBounds_toArray, List.set_cons_zero, List.set_cons_succ]
  refine two_steps 1 3 (by kernel_rfl) rfl rfl (fun Kq hKq => ?_) (fun Kq hKq => ?_)
  refine step_append_r 22 28 9 72 _ _ rfl Tryd.underlying22 info_entry (by omega) w3.heap.size (.slice none 0 0) [] rfl (OwnR.nil _ _ _ _) A n c (l.map En.row) rfl (HL.out.below hBd).rws (by simp; omega) (by simp; omega) hb0.size rfl ?_
  intro v1 y1 hown1 hg1
  have hBy1 : Below w.heap.size w y1 := hBd.grown hg1 hBd.size (fun g hg => by simp [Value.ownBlock] at hg)
  have hby1 : Below w3.heap.size w3 y1 := hb0.grown hg1 hb0.size (fun g hg => by simp [Value.ownBlock] at hg)
  have Sy1 := SC.out _ hby1
  refine hKq.out _ _ Sy1 (fun hHeld0 => ?_)
  clear hKq Kq hHeld Sy1 hg1
  have hHeld := hHeld0
  clear hHeld0
  try simp only [Act.put, List.setIfInBounds_toArray, List.set_cons_zero, List.set_cons_succ]
  refine one_step 3 (by kernel_rfl) rfl (fun Kq hKq => ?_)
  have hBz := hBy1.trans ((one_alloc y1 (.cells #[.int .i64 kind, .int .i64 tick, .int .i64 epoch, .int .i64 user, .int .u64 sess, .int .u64 count, .int .i64 cmd, .int .i64 arg, .int .i64 code] 28)).mono hBy1.size)
  have hbz := hby1.trans ((one_alloc y1 (.cells #[.int .i64 kind, .int .i64 tick, .int .i64 epoch, .int .i64 user, .int .u64 sess, .int .u64 count, .int .i64 cmd, .int .i64 arg, .int .i64 code] 28)).mono hby1.size)
  have Sz := SC.out _ hbz
  have hz := one_rws 9 28 y1 [.int .i64 kind, .int .i64 tick, .int .i64 epoch, .int .i64 user, .int .u64 sess, .int .u64 count, .int .i64 cmd, .int .i64 arg, .int .i64 code] rfl (row_one9 ⟨kind, tick, epoch, user, sess, count, cmd, arg, code⟩)
  have hown1 := hown1.more (.cells #[.int .i64 kind, .int .i64 tick, .int .i64 epoch, .int .i64 user, .int .u64 sess, .int .u64 count, .int .i64 cmd, .int .i64 arg, .int .i64 code] 28)
  go_simp
  refine hKq.out _ _ Sz (fun hHeld0 => ?_)
  clear hKq Kq hHeld Sz 
  have hHeld := hHeld0
  clear hHeld0
  try simp only [Act.put, List.setIfInBounds_toArray, List.set_cons_zero, List.set_cons_succ]
  refine one_step 4 (by kernel_rfl) rfl (fun Kq hKq => ?_)
  refine step_append_r 22 28 9 72 _ _ rfl Tryd.underlying22 info_entry (by omega) w3.heap.size v1 ([] ++ l.map En.row) rfl hown1 _ 1 1 [[.int .i64 kind, .int .i64 tick, .int .i64 epoch, .int .i64 user, .int .u64 sess, .int .u64 count, .int .i64 cmd, .int .i64 arg, .int .i64 code]] rfl hz (by have := HLL.out; simp; omega) (by have := HLL.out; simp; omega) hbz.size rfl ?_
  intro v2 wM hown2 hg2
  have hBM : Below w.heap.size w wM := hBz.grown hg2 hBz.size (fun g hg => Nat.le_trans hB3.size (hown1.size g hg).1)
  have hbM : Below w3.heap.size w3 wM := hbz.grown hg2 hbz.size (fun g hg => (hown1.size g hg).1)
  have SM := SC.out _ hbM
  have hown2 : OwnR 28 9 wM w3.heap.size v2 ((l ++ [(⟨kind, tick, epoch, user, sess, count, cmd, arg, code⟩ : En)]).map En.row) := by rw [map_row]; exact hown2
  obtain ⟨A5, n5, c5, rfl, hus⟩ := own_ens hown2
  have HUS := Lib.hid hus
  refine hKq.out _ _ SM (fun hHeld0 => ?_)
  clear hKq Kq hHeld SM hown1 hown2 hg2 hz hus
  have hHeld := hHeld0
  clear hHeld0
  try simp only [Act.put, List.setIfInBounds_toArray, List.set_cons_zero, List.set_cons_succ]
  refine take_run 5 (.slice A5 n5 c5) rfl (by kernel_rfl) (by kernel_rfl) (by kernel_rfl) (fun _ _ _ h => h) rfl hHeld (fun w => ?_) ?_
  · go_simp
  simp only [Act.put, List.setIfInBounds_toArray, List.set_cons_zero, List.set_cons_succ]
  refine wpAnyH_done (by kernel_rfl) ?_ _
  clear hHeld
  rotate_left
  have hBz := hBd.trans ((one_alloc Y0 (.cells #[.int .i64 kind, .int .i64 tick, .int .i64 epoch, .int .i64 user, .int .u64 sess, .int .u64 count, .int .i64 cmd, .int .i64 arg, .int .i64 code] 28)).mono hBd.size)
  have hbz := hb0.trans ((one_alloc Y0 (.cells #[.int .i64 kind, .int .i64 tick, .int .i64 epoch, .int .i64 user, .int .u64 sess, .int .u64 count, .int .i64 cmd, .int .i64 arg, .int .i64 code] 28)).mono hb0.size)
  have Sz := SC.out _ hbz
  have hz := one_rws 9 28 Y0 [.int .i64 kind, .int .i64 tick, .int .i64 epoch, .int .i64 user, .int .u64 sess, .int .u64 count, .int .i64 cmd, .int .i64 arg, .int .i64 code] rfl (row_one9 ⟨kind, tick, epoch, user, sess, count, cmd, arg, code⟩)
  go_simp
  refine hKq.out _ _ Sz (fun hHeld0 => ?_)
  clear hKq Kq hHeld Sz 
  have hHeld := hHeld0
  clear hHeld0
  try simp only [Act.put, List.setIfInBounds_toArray, List.set_cons_zero, List.set_cons_succ]
  refine one_step 1 (by kernel_rfl) rfl (fun Kq hKq => ?_)
  refine step_append_r 22 28 9 72 _ _ rfl Tryd.underlying22 info_entry (by omega) w3.heap.size (.slice none 0 0) [] rfl (OwnR.nil _ _ _ _) A n c (l.map En.row) rfl (HL.out.below hBz).rws (by simp; omega) (by simp; omega) hbz.size rfl ?_
  intro v1 y1 hown1 hg1
  have hBy1 : Below w.heap.size w y1 := hBz.grown hg1 hBz.size (fun g hg => by simp [Value.ownBlock] at hg)
  have hby1 : Below w3.heap.size w3 y1 := hbz.grown hg1 hbz.size (fun g hg => by simp [Value.ownBlock] at hg)
  have Sy1 := SC.out _ hby1
  have hz := hz.grown hg1 (fun b off e => by intro e2; simp [Value.ownBlock] at e2)
  refine hKq.out _ _ Sy1 (fun hHeld0 => ?_)
  clear hKq Kq hHeld Sy1 hg1
  have hHeld := hHeld0
  clear hHeld0
  try simp only [Act.put, List.setIfInBounds_toArray, List.set_cons_zero, List.set_cons_succ]
  refine one_step 4 (by kernel_rfl) rfl (fun Kq hKq => ?_)
  refine step_append_r 22 28 9 72 _ _ rfl Tryd.underlying22 info_entry (by omega) w3.heap.size v1 ([] ++ l.map En.row) rfl hown1 _ 1 1 [[.int .i64 kind, .int .i64 tick, .int .i64 epoch, .int .i64 user, .int .u64 sess, .int .u64 count, .int .i64 cmd, .int .i64 arg, .int .i64 code]] rfl hz (by have := HLL.out; simp; omega) (by have := HLL.out; simp; omega) hby1.size rfl ?_
  intro v2 wM hown2 hg2
  have hBM : Below w.heap.size w wM := hBy1.grown hg2 hBy1.size (fun g hg => Nat.le_trans hB3.size (hown1.size g hg).1)
  have hbM : Below w3.heap.size w3 wM := hby1.grown hg2 hby1.size (fun g hg => (hown1.size g hg).1)
  have SM := SC.out _ hbM
  have hown2 : OwnR 28 9 wM w3.heap.size v2 ((l ++ [(⟨kind, tick, epoch, user, sess, count, cmd, arg, code⟩ : En)]).map En.row) := by rw [map_row]; exact hown2
  obtain ⟨A5, n5, c5, rfl, hus⟩ := own_ens hown2
  have HUS := Lib.hid hus
  refine hKq.out _ _ SM (fun hHeld0 => ?_)
  clear hKq Kq hHeld SM hown1 hown2 hg2 hz hus
  have hHeld := hHeld0
  clear hHeld0
  try simp only [Act.put, List.setIfInBounds_toArray, List.set_cons_zero, List.set_cons_succ]
  refine take_run 5 (.slice A5 n5 c5) rfl (by kernel_rfl) (by kernel_rfl) (by kernel_rfl) (fun _ _ _ h => h) rfl hHeld (fun w => ?_) ?_
  · go_simp
  simp only [Act.put, List.setIfInBounds_toArray, List.set_cons_zero, List.set_cons_succ]
  refine wpAnyH_done (by kernel_rfl) ?_ _
  clear hHeld
  all_goals
    have HCC := Lib.hid hbM
    have HBwM := Lib.hid hBM
    have hH := hH.keep hbM
    have HDR := Lib.hid (HDR.out.below hbM)
    clear hbM hBM
    go_wp2_with (first
      | (go_at_call 10
         (with_reducible refine (HPA.out _ _ _ _ (HK.out.from HBwM.out) HUS.out).mono ?_)
         rintro e w6 ⟨A7, n7, c7, rfl, hbt, hbx⟩
         have HDR := Lib.hid (HDR.out.below hbx)
         have HDA := Lib.hid hbt
         clear hbt
         have HCC := Lib.hid (HCC.out.trans (hbx.mono HCC.out.size))
         have HBw6 := Lib.hid (HBwM.out.trans (hbx.mono HBwM.out.size))
         have hH := hH.keep hbx
         clear hbx)
      | ((with_reducible refine wpList_store_blk rfl 24 _ _ rfl w6.heap.size (idv KA) ?hx6 ?hy6 24 _ (heap_alloc_new w6 _) (info32 HKA.out) ?hs6 (idv_one _) ?_); (case hx6 => rfl); (case hy6 => rfl); (case hs6 => rw [idv_size, HKA.out]; rfl)
         intro w7 hg6 hKA hs6
         have hKA : RowB w7 w6.heap.size 24 KA := hKA
         have hbx : Below w6.heap.size w6 w7 := Below.grows (one_alloc w6 _) hg6 (size_le_alloc _ _) (Nat.le_refl _)
         have HBw7 := Lib.hid (HBw6.out.trans (hbx.mono HBw6.out.size))
         have HDR := Lib.hid (HDR.out.below hbx)
         have HDA := Lib.hid (HDA.out.below hbx)
         have HCC := Lib.hid (HCC.out.trans (hbx.mono HCC.out.size))
         have hH := hH.keep hbx
         clear hbx hg6 hs6)
      | ((with_reducible refine wpList_load_blk 24 _ rfl w2.heap.size ?hx7 24 (idv H) (0, 0) _ hH.is Tryd.underlying24 ?hd7 (info32 HHL.out) ?_ ?hw7); (case hx7 => rfl); (case hd7 => rfl); (case hw7 => rfl))
      | ((with_reducible refine wpList_load_on 28 _ rfl w.heap.size 0 ?hx20 (En.row ⟨kind, tick, epoch, user, sess, count, cmd, arg, code⟩) #[.int .i64 kind, .int .i64 tick, .int .i64 epoch, .int .i64 user, .int .u64 sess, .int .u64 count, .int .i64 cmd, .int .i64 arg, .int .i64 code] ?ht20 _ (RX.out _ HCC.out) Tryd.underlying28 ?hd20 ?hi20 ?_ ?hw20); (case hx20 => rfl); (case ht20 => rfl); (case hd20 => rfl); (case hi20 => exact info_en rfl); (case hw20 => rfl))
      | (go_at_call 12
         (with_reducible refine (HLK.out _ (HK.out.from HBw7.out)).mono ?_)
         rintro e w8 ⟨rfl, hbx⟩
         have HDR := Lib.hid (HDR.out.below hbx)
         have HDA := Lib.hid (HDA.out.below hbx)
         have HCC := Lib.hid (HCC.out.trans (hbx.mono HCC.out.size))
         have HBw8 := Lib.hid (HBw7.out.trans (hbx.mono HBw7.out.size))
         have hH := hH.keep hbx
         have hKA := hKA.keep hbx
         clear hbx)
      | ((with_reducible refine wpList_store_blk rfl 24 _ _ rfl w8.heap.size (idv K) ?hx8 ?hy8 24 _ (heap_alloc_new w8 _) (info32 HKL.out) ?hs8 (idv_one _) ?_); (case hx8 => rfl); (case hy8 => rfl); (case hs8 => rw [idv_size, HKL.out]; rfl)
         intro w9 hg8 hKL hs8
         have hKL : RowB w9 w8.heap.size 24 K := hKL
         have hbx : Below w8.heap.size w8 w9 := Below.grows (one_alloc w8 _) hg8 (size_le_alloc _ _) (Nat.le_refl _)
         have HBw9 := Lib.hid (HBw8.out.trans (hbx.mono HBw8.out.size))
         have HDR := Lib.hid (HDR.out.below hbx)
         have HDA := Lib.hid (HDA.out.below hbx)
         have HCC := Lib.hid (HCC.out.trans (hbx.mono HCC.out.size))
         have hH := hH.keep hbx
         have hKA := hKA.keep hbx
         clear hbx hg8 hs8)
      | (go_at_call 25
         (with_reducible refine (HPE.out _).mono ?_)
         rintro e w10 ⟨A9, n9, c9, rfl, hbt, hbx⟩
         have HDR := Lib.hid (HDR.out.below hbx)
         have HDA := Lib.hid (HDA.out.below hbx)
         have HDP := Lib.hid hbt
         clear hbt
         have HBw10 := Lib.hid (HBw9.out.trans (hbx.mono HBw9.out.size))
         have hH := hH.keep hbx
         have hKA := hKA.keep hbx
         have hKL := hKL.keep hbx
         clear hbx))
    obtain ⟨Y8, hY8⟩ : ∃ Y, w10.drew = Y := ⟨_, rfl⟩
    have HBw8 := Lib.hid (show Below w.heap.size w Y8 by rw [← hY8]; exact HBw10.out.drew)
    refine wp_region_held_drew (S := (fun w' => w' = Y8)) (by kernel_rfl) (by rw [hY8]) (fun hHeld => ?_)
    rw [hY8] at hHeld ⊢
    clear hY8
    refine take_move 0 (.tmp 12) (.bool false) rfl rfl rfl (by kernel_rfl) (by kernel_rfl) (by kernel_rfl) (fun _ _ _ h => h) rfl hHeld ?_
    simp only [Act.put, List.setIfInBounds_toArray, List.set_cons_zero, List.set_cons_succ]
    refine take_run 1 (.bool true) rfl (by kernel_rfl) (by kernel_rfl) (by kernel_rfl) (fun _ _ _ h => h) rfl hHeld (fun w => ?_) ?_
    · go_simp
    simp only [Act.put, List.setIfInBounds_toArray, List.set_cons_zero, List.set_cons_succ]
    refine take_run 2 (.bool true) rfl (by kernel_rfl) (by kernel_rfl) (by kernel_rfl) (fun _ _ _ h => h) rfl hHeld (fun w => ?_) ?_
    · go_simp
    simp only [Act.put, List.setIfInBounds_toArray, List.set_cons_zero, List.set_cons_succ]
    refine take_off 3 rfl (by kernel_rfl) (by kernel_rfl) (by kernel_rfl) (fun _ _ _ h => h) rfl hHeld ?_
    simp only [Act.put, List.setIfInBounds_toArray, List.set_cons_zero, List.set_cons_succ]
    refine take_off 4 rfl (by kernel_rfl) (by kernel_rfl) (by kernel_rfl) (fun _ _ _ h => h) rfl hHeld ?_
    simp only [Act.put, List.setIfInBounds_toArray, List.set_cons_zero, List.set_cons_succ]
    refine take_off 5 rfl (by kernel_rfl) (by kernel_rfl) (by kernel_rfl) (fun _ _ _ h => h) rfl hHeld ?_
    simp only [Act.put, List.setIfInBounds_toArray, List.set_cons_zero, List.set_cons_succ]
    refine take_off 6 rfl (by kernel_rfl) (by kernel_rfl) (by kernel_rfl) (fun _ _ _ h => h) rfl hHeld ?_
    simp only [Act.put, List.setIfInBounds_toArray, List.set_cons_zero, List.set_cons_succ]
    refine take_off 7 rfl (by kernel_rfl) (by kernel_rfl) (by kernel_rfl) (fun _ _ _ h => h) rfl hHeld ?_
    simp only [Act.put, List.setIfInBounds_toArray, List.set_cons_zero, List.set_cons_succ]
    refine take_off 8 rfl (by kernel_rfl) (by kernel_rfl) (by kernel_rfl) (fun _ _ _ h => h) rfl hHeld ?_
    simp only [Act.put, List.setIfInBounds_toArray, List.set_cons_zero, List.set_cons_succ]
    refine take_off 9 rfl (by kernel_rfl) (by kernel_rfl) (by kernel_rfl) (fun _ _ _ h => h) rfl hHeld ?_
    simp only [Act.put, List.setIfInBounds_toArray, List.set_cons_zero, List.set_cons_succ]
    refine take_off 10 rfl (by kernel_rfl) (by kernel_rfl) (by kernel_rfl) (fun _ _ _ h => h) rfl hHeld ?_
    simp only [Act.put, List.setIfInBounds_toArray, List.set_cons_zero, List.set_cons_succ]
    refine take_off 11 rfl (by kernel_rfl) (by kernel_rfl) (by kernel_rfl) (fun _ _ _ h => h) rfl hHeld ?_
    simp only [Act.put, List.setIfInBounds_toArray, List.set_cons_zero, List.set_cons_succ]
    refine take_off 12 rfl (by kernel_rfl) (by kernel_rfl) (by kernel_rfl) (fun _ _ _ h => h) rfl hHeld ?_
    simp only [Act.put, List.setIfInBounds_toArray, List.set_cons_zero, List.set_cons_succ]
    refine take_off 13 rfl (by kernel_rfl) (by kernel_rfl) (by kernel_rfl) (fun _ _ _ h => h) rfl hHeld ?_
    simp only [Act.put, List.setIfInBounds_toArray, List.set_cons_zero, List.set_cons_succ]
    refine take_off 14 rfl (by kernel_rfl) (by kernel_rfl) (by kernel_rfl) (fun _ _ _ h => h) rfl hHeld ?_
    simp only [Act.put, List.setIfInBounds_toArray, List.set_cons_zero, List.set_cons_succ]
    refine take_off 15 rfl (by kernel_rfl) (by kernel_rfl) (by kernel_rfl) (fun _ _ _ h => h) rfl hHeld ?_
    simp only [Act.put, List.setIfInBounds_toArray, List.set_cons_zero, List.set_cons_succ]
    refine take_off 16 rfl (by kernel_rfl) (by kernel_rfl) (by kernel_rfl) (fun _ _ _ h => h) rfl hHeld ?_
    simp only [Act.put, List.setIfInBounds_toArray, List.set_cons_zero, List.set_cons_succ]
    refine take_off 17 rfl (by kernel_rfl) (by kernel_rfl) (by kernel_rfl) (fun _ _ _ h => h) rfl hHeld ?_
    simp only [Act.put, List.setIfInBounds_toArray, List.set_cons_zero, List.set_cons_succ]
    refine take_off 18 rfl (by kernel_rfl) (by kernel_rfl) (by kernel_rfl) (fun _ _ _ h => h) rfl hHeld ?_
    simp only [Act.put, List.setIfInBounds_toArray, List.set_cons_zero, List.set_cons_succ]
    refine take_run 19 (.bool true) rfl (by kernel_rfl) (by kernel_rfl) (by kernel_rfl) (fun _ _ _ h => h) rfl hHeld (fun w => ?_) ?_
    · go_simp
    simp only [Act.put, List.setIfInBounds_toArray, List.set_cons_zero, List.set_cons_succ]
    refine take_run 20 (.bool true) rfl (by kernel_rfl) (by kernel_rfl) (by kernel_rfl) (fun _ _ _ h => h) rfl hHeld (fun w => ?_) ?_
    · go_simp
    simp only [Act.put, List.setIfInBounds_toArray, List.set_cons_zero, List.set_cons_succ]
    refine wpAnyH_done (by kernel_rfl) ?_ _
    clear hHeld
    go_wp2
    go_ret
    exact ⟨rfl, HBw8.out⟩
set_option maxRecDepth 100000 in
set_option maxHeartbeats 4000000 in
theorem cmorew_tf (A : Option Addr) (n c : Nat) (l : List En) (u : En) (w : World) (hK : KTab w) (hl : Ens w A n c l) (ho : ∀ u ∈ l, u.ok) (hu : u.ok) (h : n ≤ 20) (hp : putC l = true) (hm : mayE u = false) :
    Calls Tryd.prog 8 #[.slice A n c, enV u] w fun e w' => e = .returned (.bool true) ∧ Below w.heap.size w w' := by
  have hn := hl.small
  have h1 : (n : Int) ≤ 20 := by omega
  have HK := Lib.hid hK
  have HL := Lib.hid hl
  have HLL := Lib.hid hl.len
  have hll := hl.len
  obtain ⟨m1, m2, m3⟩ := more_all (l := l) (e := u) (by omega)
  have HPU := Lib.hid (fun (X : World) (hk : KTab X) (h : Ens X A n c l) => cput_any A n c l X hk h ho)
  have hoa : ∀ v ∈ l ++ [u], v.ok := fun v hv => by
    rcases List.mem_append.1 hv with hv | hv
    · exact ho v hv
    · rw [List.mem_singleton] at hv; rw [hv]; exact hu
  have HPA := Lib.hid (fun (A : Option Addr) (n c : Nat) (X : World) (hk : KTab X) (h : Ens X A n c (l ++ [u])) => cput_any A n c _ X hk h hoa)
  have HPE := Lib.hid (fun X : World => eput_any u X hu)
  rw [hp] at HPU
  rw [m1, hp, hm] at HPA
  rw [hm] at HPE
  obtain ⟨RC, hRC⟩ : ∃ R, (if true = true then recsC l else []) = R := ⟨_, rfl⟩
  obtain ⟨H, hH⟩ : ∃ R, (if true = true then headC l else noughtsC) = R := ⟨_, rfl⟩
  have hHL : H.length = 32 := by rw [← hH]; split; exact headC_len _; rfl
  have hHB : ∀ j, 0 ≤ H.getD j 0 ∧ H.getD j 0 < 256 := by rw [← hH]; split; exact headC_byte _; exact noughts_ok
  have HLK := Lib.hid (fun (X : World) (hk : KTab X) => clink_any H u X hk hHL hHB hu)
  rw [hm] at HLK
  rw [hRC, hH] at HPU
  obtain ⟨K, hKe⟩ : ∃ K, linkP H u = K := ⟨_, rfl⟩
  have hKL : K.length = 32 := by rw [← hKe]; exact linkP_len _ _
  have hKB : ∀ j, 0 ≤ K.getD j 0 ∧ K.getD j 0 < 256 := by rw [← hKe]; exact linkP_byte _ _
  rw [hKe] at HLK
  obtain ⟨P, hP⟩ : ∃ P, (if false = true then putE u else []) = P := ⟨_, rfl⟩
  rw [hP] at HPE
  obtain ⟨RA, hRA⟩ : ∃ R, (if (true && false) = true then recsC (l ++ [u]) else []) = R := ⟨_, rfl⟩
  obtain ⟨KA, hKA⟩ : ∃ R, (if (true && false) = true then headC (l ++ [u]) else noughtsC) = R := ⟨_, rfl⟩
  have HKA := Lib.hid (show KA.length = 32 by rw [← hKA]; rfl)
  rw [hRA, hKA] at HPA
  rw [show (true && false) = false from rfl] at HPA
  clear hRA hKA
  have HHL := Lib.hid hHL
  have HKL := Lib.hid hKL
  have HKB := Lib.hid hKB
  clear hl hK ho hu hp hm m1 m2 m3 hoa hRC hH hHL hHB hKe hKL hKB hP
  have hal := run_all32
  rcases u with ⟨kind, tick, epoch, user, sess, count, cmd, arg, code⟩
  simp only [enV, enA, En.row] at HPE HLK ⊢
  go_enter Tryd.func8, Tryd.ntmps8
  go_wp2_with (first
    | (go_at_call 9
       refine (cawake_any _ (HK.out.from (one_alloc w _))).mono ?_
       rintro e w1 ⟨rfl, hb1⟩
       have hx1 := after_alloc hb1
       have RX1 := Lib.hid (show ∀ X, Below w1.heap.size w1 X → X.rangeAt w.heap.size 0 (En.row ⟨kind, tick, epoch, user, sess, count, cmd, arg, code⟩) from fun X hX => cent_range ((hX.block _ (Array.getElem?_eq_some_iff.1 hx1).1).trans hx1))
       have HBw1 := Lib.hid (after_one hb1).1
       clear hb1 hx1)
    | (go_at_call 10
       (with_reducible refine (HPU.out _ (HK.out.from HBw1.out) (HL.out.below HBw1.out)).mono ?_)
       rintro e w2 ⟨A6, n6, c6, rfl, hbt, hbx⟩
       have HDR := Lib.hid hbt
       have HC2 := Lib.hid hbx
       clear hbt
       have HBw2 := Lib.hid (HBw1.out.trans (hbx.mono HBw1.out.size))
       clear hbx)
    | ((with_reducible refine wpList_store_blk rfl 24 _ _ rfl w2.heap.size (idv H) ?hx2 ?hy2 24 _ (heap_alloc_new w2 _) (info32 HHL.out) ?hs2 (idv_one _) ?_); (case hx2 => rfl); (case hy2 => rfl); (case hs2 => rw [idv_size, HHL.out]; rfl)
       intro w3 hg2 hH hs2
       have hH : RowB w3 w2.heap.size 24 H := hH
       have hbx : Below w2.heap.size w2 w3 := Below.grows (one_alloc w2 _) hg2 (size_le_alloc _ _) (Nat.le_refl _)
       have HBw3 := Lib.hid (HBw2.out.trans (hbx.mono HBw2.out.size))
       have HDR := Lib.hid (HDR.out.below hbx)
       have RX := Lib.hid (show ∀ X, Below w3.heap.size w3 X → X.rangeAt w.heap.size 0 (En.row ⟨kind, tick, epoch, user, sess, count, cmd, arg, code⟩) from fun X hX => RX1.out X ((HC2.out.trans (hbx.mono HC2.out.size)).trans (hX.mono (HC2.out.trans (hbx.mono HC2.out.size)).size)))
       clear hbx hg2 hs2))
  obtain ⟨Y0, hY0⟩ : ∃ Y, w3.drew = Y := ⟨_, rfl⟩
  have hB3 := HBw3.out
  have hb0 : Below w3.heap.size w3 Y0 := by rw [← hY0]; exact (Below.refl _ w3).drew
  have hBd : Below w.heap.size w Y0 := hB3.trans (hb0.mono hB3.size)
  have SC := Lib.hid (show ∀ X, Below w3.heap.size w3 X → (fun w' => w'.rangeAt w.heap.size 0 (En.row ⟨kind, tick, epoch, user, sess, count, cmd, arg, code⟩)) X from fun X hX => RX.out _ hX)
  have Sd := SC.out _ hb0
  refine wp_region_held_drew (S := (fun w' => w'.rangeAt w.heap.size 0 (En.row ⟨kind, tick, epoch, user, sess, count, cmd, arg, code⟩))) (by kernel_rfl) (by rw [hY0]; exact Sd) (fun hHeld => ?_)
  rw [hY0] at hHeld ⊢
  clear hY0 Sd
  refine take_move 0 (.tmp 0) (.slice A n c) rfl rfl rfl (by kernel_rfl) (by kernel_rfl) (by kernel_rfl) (fun _ _ _ h => h) rfl hHeld ?_
  simp only [Act.put, List.setIfInBounds_toArray, List.set_cons_zero, List.set_cons_succ]
  refine take_if 2 (.agg #[.int .i64 kind, .int .i64 tick, .int .i64 epoch, .int .i64 user, .int .u64 sess, .int .u64 count, .int .i64 cmd, .int .i64 arg, .int .i64 code]) rfl (by kernel_rfl) (by kernel_rfl) (by kernel_rfl) (fun _ _ _ h => h) rfl hHeld (fun w' hw' => ?_) ?_
  · exact run_load_en (u := ⟨kind, tick, epoch, user, sess, count, cmd, arg, code⟩) rfl rfl hw'
  simp only [Act.put, List.setIfInBounds_toArray, List.set_cons_zero, List.set_cons_succ]
  refine two_steps 1 3 (by kernel_rfl) rfl rfl (fun Kq hKq => ?_) (fun Kq hKq => ?_)
  refine step_append_r 22 28 9 72 _ _ rfl Tryd.underlying22 info_entry (by omega) w3.heap.size (.slice none 0 0) [] rfl (OwnR.nil _ _ _ _) A n c (l.map En.row) rfl (HL.out.below hBd).rws (by simp; omega) (by simp; omega) hb0.size rfl ?_
  intro v1 y1 hown1 hg1
  have hBy1 : Below w.heap.size w y1 := hBd.grown hg1 hBd.size (fun g hg => by simp [Value.ownBlock] at hg)
  have hby1 : Below w3.heap.size w3 y1 := hb0.grown hg1 hb0.size (fun g hg => by simp [Value.ownBlock] at hg)
  have Sy1 := SC.out _ hby1
  refine hKq.out _ _ Sy1 (fun hHeld0 => ?_)
  clear hKq Kq hHeld Sy1 hg1
  have hHeld := hHeld0
  clear hHeld0
  try simp only [Act.put, List.setIfInBounds_toArray, List.set_cons_zero, List.set_cons_succ]
  refine one_step 3 (by kernel_rfl) rfl (fun Kq hKq => ?_)
  have hBz := hBy1.trans ((one_alloc y1 (.cells #[.int .i64 kind, .int .i64 tick, .int .i64 epoch, .int .i64 user, .int .u64 sess, .int .u64 count, .int .i64 cmd, .int .i64 arg, .int .i64 code] 28)).mono hBy1.size)
  have hbz := hby1.trans ((one_alloc y1 (.cells #[.int .i64 kind, .int .i64 tick, .int .i64 epoch, .int .i64 user, .int .u64 sess, .int .u64 count, .int .i64 cmd, .int .i64 arg, .int .i64 code] 28)).mono hby1.size)
  have Sz := SC.out _ hbz
  have hz := one_rws 9 28 y1 [.int .i64 kind, .int .i64 tick, .int .i64 epoch, .int .i64 user, .int .u64 sess, .int .u64 count, .int .i64 cmd, .int .i64 arg, .int .i64 code] rfl (row_one9 ⟨kind, tick, epoch, user, sess, count, cmd, arg, code⟩)
  have hown1 := hown1.more (.cells #[.int .i64 kind, .int .i64 tick, .int .i64 epoch, .int .i64 user, .int .u64 sess, .int .u64 count, .int .i64 cmd, .int .i64 arg, .int .i64 code] 28)
  go_simp
  refine hKq.out _ _ Sz (fun hHeld0 => ?_)
  clear hKq Kq hHeld Sz 
  have hHeld := hHeld0
  clear hHeld0
  try simp only [Act.put, List.setIfInBounds_toArray, List.set_cons_zero, List.set_cons_succ]
  refine one_step 4 (by kernel_rfl) rfl (fun Kq hKq => ?_)
  refine step_append_r 22 28 9 72 _ _ rfl Tryd.underlying22 info_entry (by omega) w3.heap.size v1 ([] ++ l.map En.row) rfl hown1 _ 1 1 [[.int .i64 kind, .int .i64 tick, .int .i64 epoch, .int .i64 user, .int .u64 sess, .int .u64 count, .int .i64 cmd, .int .i64 arg, .int .i64 code]] rfl hz (by have := HLL.out; simp; omega) (by have := HLL.out; simp; omega) hbz.size rfl ?_
  intro v2 wM hown2 hg2
  have hBM : Below w.heap.size w wM := hBz.grown hg2 hBz.size (fun g hg => Nat.le_trans hB3.size (hown1.size g hg).1)
  have hbM : Below w3.heap.size w3 wM := hbz.grown hg2 hbz.size (fun g hg => (hown1.size g hg).1)
  have SM := SC.out _ hbM
  have hown2 : OwnR 28 9 wM w3.heap.size v2 ((l ++ [(⟨kind, tick, epoch, user, sess, count, cmd, arg, code⟩ : En)]).map En.row) := by rw [map_row]; exact hown2
  obtain ⟨A5, n5, c5, rfl, hus⟩ := own_ens hown2
  have HUS := Lib.hid hus
  refine hKq.out _ _ SM (fun hHeld0 => ?_)
  clear hKq Kq hHeld SM hown1 hown2 hg2 hz hus
  have hHeld := hHeld0
  clear hHeld0
  try simp only [Act.put, List.setIfInBounds_toArray, List.set_cons_zero, List.set_cons_succ]
  refine take_run 5 (.slice A5 n5 c5) rfl (by kernel_rfl) (by kernel_rfl) (by kernel_rfl) (fun _ _ _ h => h) rfl hHeld (fun w => ?_) ?_
  · go_simp
  simp only [Act.put, List.setIfInBounds_toArray, List.set_cons_zero, List.set_cons_succ]
  refine wpAnyH_done (by kernel_rfl) ?_ _
  clear hHeld
  rotate_left
  have hBz := hBd.trans ((one_alloc Y0 (.cells #[.int .i64 kind, .int .i64 tick, .int .i64 epoch, .int .i64 user, .int .u64 sess, .int .u64 count, .int .i64 cmd, .int .i64 arg, .int .i64 code] 28)).mono hBd.size)
  have hbz := hb0.trans ((one_alloc Y0 (.cells #[.int .i64 kind, .int .i64 tick, .int .i64 epoch, .int .i64 user, .int .u64 sess, .int .u64 count, .int .i64 cmd, .int .i64 arg, .int .i64 code] 28)).mono hb0.size)
  have Sz := SC.out _ hbz
  have hz := one_rws 9 28 Y0 [.int .i64 kind, .int .i64 tick, .int .i64 epoch, .int .i64 user, .int .u64 sess, .int .u64 count, .int .i64 cmd, .int .i64 arg, .int .i64 code] rfl (row_one9 ⟨kind, tick, epoch, user, sess, count, cmd, arg, code⟩)
  go_simp
  refine hKq.out _ _ Sz (fun hHeld0 => ?_)
  clear hKq Kq hHeld Sz 
  have hHeld := hHeld0
  clear hHeld0
  try simp only [Act.put, List.setIfInBounds_toArray, List.set_cons_zero, List.set_cons_succ]
  refine one_step 1 (by kernel_rfl) rfl (fun Kq hKq => ?_)
  refine step_append_r 22 28 9 72 _ _ rfl Tryd.underlying22 info_entry (by omega) w3.heap.size (.slice none 0 0) [] rfl (OwnR.nil _ _ _ _) A n c (l.map En.row) rfl (HL.out.below hBz).rws (by simp; omega) (by simp; omega) hbz.size rfl ?_
  intro v1 y1 hown1 hg1
  have hBy1 : Below w.heap.size w y1 := hBz.grown hg1 hBz.size (fun g hg => by simp [Value.ownBlock] at hg)
  have hby1 : Below w3.heap.size w3 y1 := hbz.grown hg1 hbz.size (fun g hg => by simp [Value.ownBlock] at hg)
  have Sy1 := SC.out _ hby1
  have hz := hz.grown hg1 (fun b off e => by intro e2; simp [Value.ownBlock] at e2)
  refine hKq.out _ _ Sy1 (fun hHeld0 => ?_)
  clear hKq Kq hHeld Sy1 hg1
  have hHeld := hHeld0
  clear hHeld0
  try simp only [Act.put, List.setIfInBounds_toArray, List.set_cons_zero, List.set_cons_succ]
  refine one_step 4 (by kernel_rfl) rfl (fun Kq hKq => ?_)
  refine step_append_r 22 28 9 72 _ _ rfl Tryd.underlying22 info_entry (by omega) w3.heap.size v1 ([] ++ l.map En.row) rfl hown1 _ 1 1 [[.int .i64 kind, .int .i64 tick, .int .i64 epoch, .int .i64 user, .int .u64 sess, .int .u64 count, .int .i64 cmd, .int .i64 arg, .int .i64 code]] rfl hz (by have := HLL.out; simp; omega) (by have := HLL.out; simp; omega) hby1.size rfl ?_
  intro v2 wM hown2 hg2
  have hBM : Below w.heap.size w wM := hBy1.grown hg2 hBy1.size (fun g hg => Nat.le_trans hB3.size (hown1.size g hg).1)
  have hbM : Below w3.heap.size w3 wM := hby1.grown hg2 hby1.size (fun g hg => (hown1.size g hg).1)
  have SM := SC.out _ hbM
  have hown2 : OwnR 28 9 wM w3.heap.size v2 ((l ++ [(⟨kind, tick, epoch, user, sess, count, cmd, arg, code⟩ : En)]).map En.row) := by rw [map_row]; exact hown2
  obtain ⟨A5, n5, c5, rfl, hus⟩ := own_ens hown2
  have HUS := Lib.hid hus
  refine hKq.out _ _ SM (fun hHeld0 => ?_)
  clear hKq Kq hHeld SM hown1 hown2 hg2 hz hus
  have hHeld := hHeld0
  clear hHeld0
  try simp only [Act.put, List.setIfInBounds_toArray, List.set_cons_zero, List.set_cons_succ]
  refine take_run 5 (.slice A5 n5 c5) rfl (by kernel_rfl) (by kernel_rfl) (by kernel_rfl) (fun _ _ _ h => h) rfl hHeld (fun w => ?_) ?_
  · go_simp
  simp only [Act.put, List.setIfInBounds_toArray, List.set_cons_zero, List.set_cons_succ]
  refine wpAnyH_done (by kernel_rfl) ?_ _
  clear hHeld
  all_goals
    have HCC := Lib.hid hbM
    have HBwM := Lib.hid hBM
    have hH := hH.keep hbM
    have HDR := Lib.hid (HDR.out.below hbM)
    clear hbM hBM
    go_wp2_with (first
      | (go_at_call 10
         (with_reducible refine (HPA.out _ _ _ _ (HK.out.from HBwM.out) HUS.out).mono ?_)
         rintro e w6 ⟨A7, n7, c7, rfl, hbt, hbx⟩
         have HDR := Lib.hid (HDR.out.below hbx)
         have HDA := Lib.hid hbt
         clear hbt
         have HCC := Lib.hid (HCC.out.trans (hbx.mono HCC.out.size))
         have HBw6 := Lib.hid (HBwM.out.trans (hbx.mono HBwM.out.size))
         have hH := hH.keep hbx
         clear hbx)
      | ((with_reducible refine wpList_store_blk rfl 24 _ _ rfl w6.heap.size (idv KA) ?hx6 ?hy6 24 _ (heap_alloc_new w6 _) (info32 HKA.out) ?hs6 (idv_one _) ?_); (case hx6 => rfl); (case hy6 => rfl); (case hs6 => rw [idv_size, HKA.out]; rfl)
         intro w7 hg6 hKA hs6
         have hKA : RowB w7 w6.heap.size 24 KA := hKA
         have hbx : Below w6.heap.size w6 w7 := Below.grows (one_alloc w6 _) hg6 (size_le_alloc _ _) (Nat.le_refl _)
         have HBw7 := Lib.hid (HBw6.out.trans (hbx.mono HBw6.out.size))
         have HDR := Lib.hid (HDR.out.below hbx)
         have HDA := Lib.hid (HDA.out.below hbx)
         have HCC := Lib.hid (HCC.out.trans (hbx.mono HCC.out.size))
         have hH := hH.keep hbx
         clear hbx hg6 hs6)
      | ((with_reducible refine wpList_load_blk 24 _ rfl w2.heap.size ?hx7 24 (idv H) (0, 0) _ hH.is Tryd.underlying24 ?hd7 (info32 HHL.out) ?_ ?hw7); (case hx7 => rfl); (case hd7 => rfl); (case hw7 => rfl))
      | ((with_reducible refine wpList_load_on 28 _ rfl w.heap.size 0 ?hx20 (En.row ⟨kind, tick, epoch, user, sess, count, cmd, arg, code⟩) #[.int .i64 kind, .int .i64 tick, .int .i64 epoch, .int .i64 user, .int .u64 sess, .int .u64 count, .int .i64 cmd, .int .i64 arg, .int .i64 code] ?ht20 _ (RX.out _ HCC.out) Tryd.underlying28 ?hd20 ?hi20 ?_ ?hw20); (case hx20 => rfl); (case ht20 => rfl); (case hd20 => rfl); (case hi20 => exact info_en rfl); (case hw20 => rfl))
      | (go_at_call 12
         (with_reducible refine (HLK.out _ (HK.out.from HBw7.out)).mono ?_)
         rintro e w8 ⟨rfl, hbx⟩
         have HDR := Lib.hid (HDR.out.below hbx)
         have HDA := Lib.hid (HDA.out.below hbx)
         have HCC := Lib.hid (HCC.out.trans (hbx.mono HCC.out.size))
         have HBw8 := Lib.hid (HBw7.out.trans (hbx.mono HBw7.out.size))
         have hH := hH.keep hbx
         have hKA := hKA.keep hbx
         clear hbx)
      | ((with_reducible refine wpList_store_blk rfl 24 _ _ rfl w8.heap.size (idv K) ?hx8 ?hy8 24 _ (heap_alloc_new w8 _) (info32 HKL.out) ?hs8 (idv_one _) ?_); (case hx8 => rfl); (case hy8 => rfl); (case hs8 => rw [idv_size, HKL.out]; rfl)
         intro w9 hg8 hKL hs8
         have hKL : RowB w9 w8.heap.size 24 K := hKL
         have hbx : Below w8.heap.size w8 w9 := Below.grows (one_alloc w8 _) hg8 (size_le_alloc _ _) (Nat.le_refl _)
         have HBw9 := Lib.hid (HBw8.out.trans (hbx.mono HBw8.out.size))
         have HDR := Lib.hid (HDR.out.below hbx)
         have HDA := Lib.hid (HDA.out.below hbx)
         have HCC := Lib.hid (HCC.out.trans (hbx.mono HCC.out.size))
         have hH := hH.keep hbx
         have hKA := hKA.keep hbx
         clear hbx hg8 hs8)
      | (go_at_call 25
         (with_reducible refine (HPE.out _).mono ?_)
         rintro e w10 ⟨A9, n9, c9, rfl, hbt, hbx⟩
         have HDR := Lib.hid (HDR.out.below hbx)
         have HDA := Lib.hid (HDA.out.below hbx)
         have HDP := Lib.hid hbt
         clear hbt
         have HBw10 := Lib.hid (HBw9.out.trans (hbx.mono HBw9.out.size))
         have hH := hH.keep hbx
         have hKA := hKA.keep hbx
         have hKL := hKL.keep hbx
         clear hbx))
    obtain ⟨Y8, hY8⟩ : ∃ Y, w10.drew = Y := ⟨_, rfl⟩
    have HBw8 := Lib.hid (show Below w.heap.size w Y8 by rw [← hY8]; exact HBw10.out.drew)
    refine wp_region_held_drew (S := (fun w' => w' = Y8)) (by kernel_rfl) (by rw [hY8]) (fun hHeld => ?_)
    rw [hY8] at hHeld ⊢
    clear hY8
    refine take_move 0 (.tmp 12) (.bool false) rfl rfl rfl (by kernel_rfl) (by kernel_rfl) (by kernel_rfl) (fun _ _ _ h => h) rfl hHeld ?_
    simp only [Act.put, List.setIfInBounds_toArray, List.set_cons_zero, List.set_cons_succ]
    refine take_run 1 (.bool true) rfl (by kernel_rfl) (by kernel_rfl) (by kernel_rfl) (fun _ _ _ h => h) rfl hHeld (fun w => ?_) ?_
    · go_simp
    simp only [Act.put, List.setIfInBounds_toArray, List.set_cons_zero, List.set_cons_succ]
    refine take_run 2 (.bool true) rfl (by kernel_rfl) (by kernel_rfl) (by kernel_rfl) (fun _ _ _ h => h) rfl hHeld (fun w => ?_) ?_
    · go_simp
    simp only [Act.put, List.setIfInBounds_toArray, List.set_cons_zero, List.set_cons_succ]
    refine take_off 3 rfl (by kernel_rfl) (by kernel_rfl) (by kernel_rfl) (fun _ _ _ h => h) rfl hHeld ?_
    simp only [Act.put, List.setIfInBounds_toArray, List.set_cons_zero, List.set_cons_succ]
    refine take_off 4 rfl (by kernel_rfl) (by kernel_rfl) (by kernel_rfl) (fun _ _ _ h => h) rfl hHeld ?_
    simp only [Act.put, List.setIfInBounds_toArray, List.set_cons_zero, List.set_cons_succ]
    refine take_off 5 rfl (by kernel_rfl) (by kernel_rfl) (by kernel_rfl) (fun _ _ _ h => h) rfl hHeld ?_
    simp only [Act.put, List.setIfInBounds_toArray, List.set_cons_zero, List.set_cons_succ]
    refine take_off 6 rfl (by kernel_rfl) (by kernel_rfl) (by kernel_rfl) (fun _ _ _ h => h) rfl hHeld ?_
    simp only [Act.put, List.setIfInBounds_toArray, List.set_cons_zero, List.set_cons_succ]
    refine take_off 7 rfl (by kernel_rfl) (by kernel_rfl) (by kernel_rfl) (fun _ _ _ h => h) rfl hHeld ?_
    simp only [Act.put, List.setIfInBounds_toArray, List.set_cons_zero, List.set_cons_succ]
    refine take_off 8 rfl (by kernel_rfl) (by kernel_rfl) (by kernel_rfl) (fun _ _ _ h => h) rfl hHeld ?_
    simp only [Act.put, List.setIfInBounds_toArray, List.set_cons_zero, List.set_cons_succ]
    refine take_off 9 rfl (by kernel_rfl) (by kernel_rfl) (by kernel_rfl) (fun _ _ _ h => h) rfl hHeld ?_
    simp only [Act.put, List.setIfInBounds_toArray, List.set_cons_zero, List.set_cons_succ]
    refine take_off 10 rfl (by kernel_rfl) (by kernel_rfl) (by kernel_rfl) (fun _ _ _ h => h) rfl hHeld ?_
    simp only [Act.put, List.setIfInBounds_toArray, List.set_cons_zero, List.set_cons_succ]
    refine take_off 11 rfl (by kernel_rfl) (by kernel_rfl) (by kernel_rfl) (fun _ _ _ h => h) rfl hHeld ?_
    simp only [Act.put, List.setIfInBounds_toArray, List.set_cons_zero, List.set_cons_succ]
    refine take_off 12 rfl (by kernel_rfl) (by kernel_rfl) (by kernel_rfl) (fun _ _ _ h => h) rfl hHeld ?_
    simp only [Act.put, List.setIfInBounds_toArray, List.set_cons_zero, List.set_cons_succ]
    refine take_off 13 rfl (by kernel_rfl) (by kernel_rfl) (by kernel_rfl) (fun _ _ _ h => h) rfl hHeld ?_
    simp only [Act.put, List.setIfInBounds_toArray, List.set_cons_zero, List.set_cons_succ]
    refine take_off 14 rfl (by kernel_rfl) (by kernel_rfl) (by kernel_rfl) (fun _ _ _ h => h) rfl hHeld ?_
    simp only [Act.put, List.setIfInBounds_toArray, List.set_cons_zero, List.set_cons_succ]
    refine take_off 15 rfl (by kernel_rfl) (by kernel_rfl) (by kernel_rfl) (fun _ _ _ h => h) rfl hHeld ?_
    simp only [Act.put, List.setIfInBounds_toArray, List.set_cons_zero, List.set_cons_succ]
    refine take_off 16 rfl (by kernel_rfl) (by kernel_rfl) (by kernel_rfl) (fun _ _ _ h => h) rfl hHeld ?_
    simp only [Act.put, List.setIfInBounds_toArray, List.set_cons_zero, List.set_cons_succ]
    refine take_off 17 rfl (by kernel_rfl) (by kernel_rfl) (by kernel_rfl) (fun _ _ _ h => h) rfl hHeld ?_
    simp only [Act.put, List.setIfInBounds_toArray, List.set_cons_zero, List.set_cons_succ]
    refine take_off 18 rfl (by kernel_rfl) (by kernel_rfl) (by kernel_rfl) (fun _ _ _ h => h) rfl hHeld ?_
    simp only [Act.put, List.setIfInBounds_toArray, List.set_cons_zero, List.set_cons_succ]
    refine take_run 19 (.bool true) rfl (by kernel_rfl) (by kernel_rfl) (by kernel_rfl) (fun _ _ _ h => h) rfl hHeld (fun w => ?_) ?_
    · go_simp
    simp only [Act.put, List.setIfInBounds_toArray, List.set_cons_zero, List.set_cons_succ]
    refine take_run 20 (.bool true) rfl (by kernel_rfl) (by kernel_rfl) (by kernel_rfl) (fun _ _ _ h => h) rfl hHeld (fun w => ?_) ?_
    · go_simp
    simp only [Act.put, List.setIfInBounds_toArray, List.set_cons_zero, List.set_cons_succ]
    refine wpAnyH_done (by kernel_rfl) ?_ _
    clear hHeld
    go_wp2
    go_ret
    exact ⟨rfl, HBw8.out⟩
set_option maxRecDepth 100000 in
set_option maxHeartbeats 4000000 in
theorem cmorew_tt (A : Option Addr) (n c : Nat) (l : List En) (u : En) (w : World) (hK : KTab w) (hl : Ens w A n c l) (ho : ∀ u ∈ l, u.ok) (hu : u.ok) (h : n ≤ 20) (hp : putC l = true) (hm : mayE u = true) :
    Calls Tryd.prog 8 #[.slice A n c, enV u] w fun e w' => e = .returned (.bool true) ∧ Below w.heap.size w w' := by
  have hn := hl.small
  have h1 : (n : Int) ≤ 20 := by omega
  have HK := Lib.hid hK
  have HL := Lib.hid hl
  have HLL := Lib.hid hl.len
  have hll := hl.len
  obtain ⟨m1, m2, m3⟩ := more_all (l := l) (e := u) (by omega)
  have HPU := Lib.hid (fun (X : World) (hk : KTab X) (h : Ens X A n c l) => cput_any A n c l X hk h ho)
  have hoa : ∀ v ∈ l ++ [u], v.ok := fun v hv => by
    rcases List.mem_append.1 hv with hv | hv
    · exact ho v hv
    · rw [List.mem_singleton] at hv; rw [hv]; exact hu
  have HPA := Lib.hid (fun (A : Option Addr) (n c : Nat) (X : World) (hk : KTab X) (h : Ens X A n c (l ++ [u])) => cput_any A n c _ X hk h hoa)
  have HPE := Lib.hid (fun X : World => eput_any u X hu)
  rw [hp] at HPU
  rw [m1, hp, hm] at HPA
  rw [hm] at HPE
  obtain ⟨RC, hRC⟩ : ∃ R, (if true = true then recsC l else []) = R := ⟨_, rfl⟩
  obtain ⟨H, hH⟩ : ∃ R, (if true = true then headC l else noughtsC) = R := ⟨_, rfl⟩
  have hHL : H.length = 32 := by rw [← hH]; split; exact headC_len _; rfl
  have hHB : ∀ j, 0 ≤ H.getD j 0 ∧ H.getD j 0 < 256 := by rw [← hH]; split; exact headC_byte _; exact noughts_ok
  have HLK := Lib.hid (fun (X : World) (hk : KTab X) => clink_any H u X hk hHL hHB hu)
  rw [hm] at HLK
  rw [hRC, hH] at HPU
  obtain ⟨K, hKe⟩ : ∃ K, linkP H u = K := ⟨_, rfl⟩
  have hKL : K.length = 32 := by rw [← hKe]; exact linkP_len _ _
  have hKB : ∀ j, 0 ≤ K.getD j 0 ∧ K.getD j 0 < 256 := by rw [← hKe]; exact linkP_byte _ _
  rw [hKe] at HLK
  obtain ⟨P, hP⟩ : ∃ P, (if true = true then putE u else []) = P := ⟨_, rfl⟩
  rw [hP] at HPE
  have hRC' : recsC l = RC := by rw [← hRC, if_pos rfl]
  have hH' : headC l = H := by rw [← hH, if_pos rfl]
  have hP' : putE u = P := by rw [← hP, if_pos rfl]
  have hK' : linkC H u = K := by rw [← hKe, linkP, hm, if_pos rfl]
  rw [show (if (true && true) = true then recsC (l ++ [u]) else []) = RC ++ P ++ K by rw [Bool.and_true, if_pos rfl, m2, hRC', hP', hH', hK'], show (if (true && true) = true then headC (l ++ [u]) else noughtsC) = K by rw [Bool.and_true, if_pos rfl, m3, hH', hK'], Bool.and_true] at HPA
  have hRl : RC.length ≤ 1240 := by rw [← hRC', recsC, recsF_len]; omega
  have hPl : P.length = 30 := by rw [← hP', put_len]
  obtain ⟨sb, hsb⟩ : ∃ s, bstr RC = s := ⟨_, rfl⟩
  obtain ⟨sp, hsp⟩ : ∃ s, bstr P = s := ⟨_, rfl⟩
  obtain ⟨sq, hsq⟩ : ∃ s, bstr (RC ++ P) = s := ⟨_, rfl⟩
  obtain ⟨sk, hsk⟩ : ∃ s, bstr K = s := ⟨_, rfl⟩
  obtain ⟨sc, hsc⟩ : ∃ s, bstr (RC ++ P ++ K) = s := ⟨_, rfl⟩
  have HA1 := Lib.hid (show ∀ w, (Op.stringOp .add sb sp).run Tryd.prog w = .ok (.string sq) w from fun w => by rw [← hsb, ← hsp, ← hsq]; exact add_bstr _ _ (by omega) (by omega) w)
  have HA2 := Lib.hid (show ∀ w, (Op.stringOp .add sq sk).run Tryd.prog w = .ok (.string sc) w from fun w => by rw [← hsq, ← hsk, ← hsc]; exact add_bstr _ _ (by rw [List.length_append]; omega) (by omega) w)
  have HSB := Lib.hid hsb
  have HSP := Lib.hid hsp
  have HSK := Lib.hid hsk
  have HSC := Lib.hid hsc
  obtain ⟨RA, hRA⟩ : ∃ R, RC ++ P ++ K = R := ⟨_, rfl⟩
  rw [hRA] at HPA HSC
  have HEQ := Lib.hid (show ∀ w, (Op.equalIn 10000 24 (.agg (idv K)) (.agg (idv K))).run Tryd.prog w = .ok true w from fun w => by rw [eq_ids _ _ hKL hKL, decide_eq_true rfl])
  have HKA := Lib.hid hKL
  clear hRC' hH' hP' hK' hRl hPl hsb hsp hsq hsk hsc hRA
  have HHL := Lib.hid hHL
  have HKL := Lib.hid hKL
  have HKB := Lib.hid hKB
  clear hl hK ho hu hp hm m1 m2 m3 hoa hRC hH hHL hHB hKe hKL hKB hP
  have hal := run_all32
  rcases u with ⟨kind, tick, epoch, user, sess, count, cmd, arg, code⟩
  simp only [enV, enA, En.row] at HPE HLK ⊢
  go_enter Tryd.func8, Tryd.ntmps8
  go_wp2_with (first
    | (go_at_call 9
       refine (cawake_any _ (HK.out.from (one_alloc w _))).mono ?_
       rintro e w1 ⟨rfl, hb1⟩
       have hx1 := after_alloc hb1
       have RX1 := Lib.hid (show ∀ X, Below w1.heap.size w1 X → X.rangeAt w.heap.size 0 (En.row ⟨kind, tick, epoch, user, sess, count, cmd, arg, code⟩) from fun X hX => cent_range ((hX.block _ (Array.getElem?_eq_some_iff.1 hx1).1).trans hx1))
       have HBw1 := Lib.hid (after_one hb1).1
       clear hb1 hx1)
    | (go_at_call 10
       (with_reducible refine (HPU.out _ (HK.out.from HBw1.out) (HL.out.below HBw1.out)).mono ?_)
       rintro e w2 ⟨A6, n6, c6, rfl, hbt, hbx⟩
       have HDR := Lib.hid hbt
       have HC2 := Lib.hid hbx
       clear hbt
       have HBw2 := Lib.hid (HBw1.out.trans (hbx.mono HBw1.out.size))
       clear hbx)
    | ((with_reducible refine wpList_store_blk rfl 24 _ _ rfl w2.heap.size (idv H) ?hx2 ?hy2 24 _ (heap_alloc_new w2 _) (info32 HHL.out) ?hs2 (idv_one _) ?_); (case hx2 => rfl); (case hy2 => rfl); (case hs2 => rw [idv_size, HHL.out]; rfl)
       intro w3 hg2 hH hs2
       have hH : RowB w3 w2.heap.size 24 H := hH
       have hbx : Below w2.heap.size w2 w3 := Below.grows (one_alloc w2 _) hg2 (size_le_alloc _ _) (Nat.le_refl _)
       have HBw3 := Lib.hid (HBw2.out.trans (hbx.mono HBw2.out.size))
       have HDR := Lib.hid (HDR.out.below hbx)
       have RX := Lib.hid (show ∀ X, Below w3.heap.size w3 X → X.rangeAt w.heap.size 0 (En.row ⟨kind, tick, epoch, user, sess, count, cmd, arg, code⟩) from fun X hX => RX1.out X ((HC2.out.trans (hbx.mono HC2.out.size)).trans (hX.mono (HC2.out.trans (hbx.mono HC2.out.size)).size)))
       clear hbx hg2 hs2))
  obtain ⟨Y0, hY0⟩ : ∃ Y, w3.drew = Y := ⟨_, rfl⟩
  have hB3 := HBw3.out
  have hb0 : Below w3.heap.size w3 Y0 := by rw [← hY0]; exact (Below.refl _ w3).drew
  have hBd : Below w.heap.size w Y0 := hB3.trans (hb0.mono hB3.size)
  have SC := Lib.hid (show ∀ X, Below w3.heap.size w3 X → (fun w' => w'.rangeAt w.heap.size 0 (En.row ⟨kind, tick, epoch, user, sess, count, cmd, arg, code⟩)) X from fun X hX => RX.out _ hX)
  have Sd := SC.out _ hb0
  refine wp_region_held_drew (S := (fun w' => w'.rangeAt w.heap.size 0 (En.row ⟨kind, tick, epoch, user, sess, count, cmd, arg, code⟩))) (by kernel_rfl) (by rw [hY0]; exact Sd) (fun hHeld => ?_)
  rw [hY0] at hHeld ⊢
  clear hY0 Sd
  refine take_move 0 (.tmp 0) (.slice A n c) rfl rfl rfl (by kernel_rfl) (by kernel_rfl) (by kernel_rfl) (fun _ _ _ h => h) rfl hHeld ?_
  simp only [Act.put, List.setIfInBounds_toArray, List.set_cons_zero, List.set_cons_succ]
  refine take_if 2 (.agg #[.int .i64 kind, .int .i64 tick, .int .i64 epoch, .int .i64 user, .int .u64 sess, .int .u64 count, .int .i64 cmd, .int .i64 arg, .int .i64 code]) rfl (by kernel_rfl) (by kernel_rfl) (by kernel_rfl) (fun _ _ _ h => h) rfl hHeld (fun w' hw' => ?_) ?_
  · exact run_load_en (u := ⟨kind, tick, epoch, user, sess, count, cmd, arg, code⟩) rfl rfl hw'
  simp only [Act.put, List.setIfInBounds_toArray, List.set_cons_zero, List.set_cons_succ]
  refine two_steps 1 3 (by kernel_rfl) rfl rfl (fun Kq hKq => ?_) (fun Kq hKq => ?_)
  refine step_append_r 22 28 9 72 _ _ rfl Tryd.underlying22 info_entry (by omega) w3.heap.size (.slice none 0 0) [] rfl (OwnR.nil _ _ _ _) A n c (l.map En.row) rfl (HL.out.below hBd).rws (by simp; omega) (by simp; omega) hb0.size rfl ?_
  intro v1 y1 hown1 hg1
  have hBy1 : Below w.heap.size w y1 := hBd.grown hg1 hBd.size (fun g hg => by simp [Value.ownBlock] at hg)
  have hby1 : Below w3.heap.size w3 y1 := hb0.grown hg1 hb0.size (fun g hg => by simp [Value.ownBlock] at hg)
  have Sy1 := SC.out _ hby1
  refine hKq.out _ _ Sy1 (fun hHeld0 => ?_)
  clear hKq Kq hHeld Sy1 hg1
  have hHeld := hHeld0
  clear hHeld0
  try simp only [Act.put, List.setIfInBounds_toArray, List.set_cons_zero, List.set_cons_succ]
  refine one_step 3 (by kernel_rfl) rfl (fun Kq hKq => ?_)
  have hBz := hBy1.trans ((one_alloc y1 (.cells #[.int .i64 kind, .int .i64 tick, .int .i64 epoch, .int .i64 user, .int .u64 sess, .int .u64 count, .int .i64 cmd, .int .i64 arg, .int .i64 code] 28)).mono hBy1.size)
  have hbz := hby1.trans ((one_alloc y1 (.cells #[.int .i64 kind, .int .i64 tick, .int .i64 epoch, .int .i64 user, .int .u64 sess, .int .u64 count, .int .i64 cmd, .int .i64 arg, .int .i64 code] 28)).mono hby1.size)
  have Sz := SC.out _ hbz
  have hz := one_rws 9 28 y1 [.int .i64 kind, .int .i64 tick, .int .i64 epoch, .int .i64 user, .int .u64 sess, .int .u64 count, .int .i64 cmd, .int .i64 arg, .int .i64 code] rfl (row_one9 ⟨kind, tick, epoch, user, sess, count, cmd, arg, code⟩)
  have hown1 := hown1.more (.cells #[.int .i64 kind, .int .i64 tick, .int .i64 epoch, .int .i64 user, .int .u64 sess, .int .u64 count, .int .i64 cmd, .int .i64 arg, .int .i64 code] 28)
  go_simp
  refine hKq.out _ _ Sz (fun hHeld0 => ?_)
  clear hKq Kq hHeld Sz 
  have hHeld := hHeld0
  clear hHeld0
  try simp only [Act.put, List.setIfInBounds_toArray, List.set_cons_zero, List.set_cons_succ]
  refine one_step 4 (by kernel_rfl) rfl (fun Kq hKq => ?_)
  refine step_append_r 22 28 9 72 _ _ rfl Tryd.underlying22 info_entry (by omega) w3.heap.size v1 ([] ++ l.map En.row) rfl hown1 _ 1 1 [[.int .i64 kind, .int .i64 tick, .int .i64 epoch, .int .i64 user, .int .u64 sess, .int .u64 count, .int .i64 cmd, .int .i64 arg, .int .i64 code]] rfl hz (by have := HLL.out; simp; omega) (by have := HLL.out; simp; omega) hbz.size rfl ?_
  intro v2 wM hown2 hg2
  have hBM : Below w.heap.size w wM := hBz.grown hg2 hBz.size (fun g hg => Nat.le_trans hB3.size (hown1.size g hg).1)
  have hbM : Below w3.heap.size w3 wM := hbz.grown hg2 hbz.size (fun g hg => (hown1.size g hg).1)
  have SM := SC.out _ hbM
  have hown2 : OwnR 28 9 wM w3.heap.size v2 ((l ++ [(⟨kind, tick, epoch, user, sess, count, cmd, arg, code⟩ : En)]).map En.row) := by rw [map_row]; exact hown2
  obtain ⟨A5, n5, c5, rfl, hus⟩ := own_ens hown2
  have HUS := Lib.hid hus
  refine hKq.out _ _ SM (fun hHeld0 => ?_)
  clear hKq Kq hHeld SM hown1 hown2 hg2 hz hus
  have hHeld := hHeld0
  clear hHeld0
  try simp only [Act.put, List.setIfInBounds_toArray, List.set_cons_zero, List.set_cons_succ]
  refine take_run 5 (.slice A5 n5 c5) rfl (by kernel_rfl) (by kernel_rfl) (by kernel_rfl) (fun _ _ _ h => h) rfl hHeld (fun w => ?_) ?_
  · go_simp
  simp only [Act.put, List.setIfInBounds_toArray, List.set_cons_zero, List.set_cons_succ]
  refine wpAnyH_done (by kernel_rfl) ?_ _
  clear hHeld
  rotate_left
  have hBz := hBd.trans ((one_alloc Y0 (.cells #[.int .i64 kind, .int .i64 tick, .int .i64 epoch, .int .i64 user, .int .u64 sess, .int .u64 count, .int .i64 cmd, .int .i64 arg, .int .i64 code] 28)).mono hBd.size)
  have hbz := hb0.trans ((one_alloc Y0 (.cells #[.int .i64 kind, .int .i64 tick, .int .i64 epoch, .int .i64 user, .int .u64 sess, .int .u64 count, .int .i64 cmd, .int .i64 arg, .int .i64 code] 28)).mono hb0.size)
  have Sz := SC.out _ hbz
  have hz := one_rws 9 28 Y0 [.int .i64 kind, .int .i64 tick, .int .i64 epoch, .int .i64 user, .int .u64 sess, .int .u64 count, .int .i64 cmd, .int .i64 arg, .int .i64 code] rfl (row_one9 ⟨kind, tick, epoch, user, sess, count, cmd, arg, code⟩)
  go_simp
  refine hKq.out _ _ Sz (fun hHeld0 => ?_)
  clear hKq Kq hHeld Sz 
  have hHeld := hHeld0
  clear hHeld0
  try simp only [Act.put, List.setIfInBounds_toArray, List.set_cons_zero, List.set_cons_succ]
  refine one_step 1 (by kernel_rfl) rfl (fun Kq hKq => ?_)
  refine step_append_r 22 28 9 72 _ _ rfl Tryd.underlying22 info_entry (by omega) w3.heap.size (.slice none 0 0) [] rfl (OwnR.nil _ _ _ _) A n c (l.map En.row) rfl (HL.out.below hBz).rws (by simp; omega) (by simp; omega) hbz.size rfl ?_
  intro v1 y1 hown1 hg1
  have hBy1 : Below w.heap.size w y1 := hBz.grown hg1 hBz.size (fun g hg => by simp [Value.ownBlock] at hg)
  have hby1 : Below w3.heap.size w3 y1 := hbz.grown hg1 hbz.size (fun g hg => by simp [Value.ownBlock] at hg)
  have Sy1 := SC.out _ hby1
  have hz := hz.grown hg1 (fun b off e => by intro e2; simp [Value.ownBlock] at e2)
  refine hKq.out _ _ Sy1 (fun hHeld0 => ?_)
  clear hKq Kq hHeld Sy1 hg1
  have hHeld := hHeld0
  clear hHeld0
  try simp only [Act.put, List.setIfInBounds_toArray, List.set_cons_zero, List.set_cons_succ]
  refine one_step 4 (by kernel_rfl) rfl (fun Kq hKq => ?_)
  refine step_append_r 22 28 9 72 _ _ rfl Tryd.underlying22 info_entry (by omega) w3.heap.size v1 ([] ++ l.map En.row) rfl hown1 _ 1 1 [[.int .i64 kind, .int .i64 tick, .int .i64 epoch, .int .i64 user, .int .u64 sess, .int .u64 count, .int .i64 cmd, .int .i64 arg, .int .i64 code]] rfl hz (by have := HLL.out; simp; omega) (by have := HLL.out; simp; omega) hby1.size rfl ?_
  intro v2 wM hown2 hg2
  have hBM : Below w.heap.size w wM := hBy1.grown hg2 hBy1.size (fun g hg => Nat.le_trans hB3.size (hown1.size g hg).1)
  have hbM : Below w3.heap.size w3 wM := hby1.grown hg2 hby1.size (fun g hg => (hown1.size g hg).1)
  have SM := SC.out _ hbM
  have hown2 : OwnR 28 9 wM w3.heap.size v2 ((l ++ [(⟨kind, tick, epoch, user, sess, count, cmd, arg, code⟩ : En)]).map En.row) := by rw [map_row]; exact hown2
  obtain ⟨A5, n5, c5, rfl, hus⟩ := own_ens hown2
  have HUS := Lib.hid hus
  refine hKq.out _ _ SM (fun hHeld0 => ?_)
  clear hKq Kq hHeld SM hown1 hown2 hg2 hz hus
  have hHeld := hHeld0
  clear hHeld0
  try simp only [Act.put, List.setIfInBounds_toArray, List.set_cons_zero, List.set_cons_succ]
  refine take_run 5 (.slice A5 n5 c5) rfl (by kernel_rfl) (by kernel_rfl) (by kernel_rfl) (fun _ _ _ h => h) rfl hHeld (fun w => ?_) ?_
  · go_simp
  simp only [Act.put, List.setIfInBounds_toArray, List.set_cons_zero, List.set_cons_succ]
  refine wpAnyH_done (by kernel_rfl) ?_ _
  clear hHeld
  all_goals
    have HCC := Lib.hid hbM
    have HBwM := Lib.hid hBM
    have hH := hH.keep hbM
    have HDR := Lib.hid (HDR.out.below hbM)
    clear hbM hBM
    go_wp2_with (first
      | (go_at_call 10
         (with_reducible refine (HPA.out _ _ _ _ (HK.out.from HBwM.out) HUS.out).mono ?_)
         rintro e w6 ⟨A7, n7, c7, rfl, hbt, hbx⟩
         have HDR := Lib.hid (HDR.out.below hbx)
         have HDA := Lib.hid hbt
         clear hbt
         have HCC := Lib.hid (HCC.out.trans (hbx.mono HCC.out.size))
         have HBw6 := Lib.hid (HBwM.out.trans (hbx.mono HBwM.out.size))
         have hH := hH.keep hbx
         clear hbx)
      | ((with_reducible refine wpList_store_blk rfl 24 _ _ rfl w6.heap.size (idv K) ?hx6 ?hy6 24 _ (heap_alloc_new w6 _) (info32 HKA.out) ?hs6 (idv_one _) ?_); (case hx6 => rfl); (case hy6 => rfl); (case hs6 => rw [idv_size, HKA.out]; rfl)
         intro w7 hg6 hKA hs6
         have hKA : RowB w7 w6.heap.size 24 K := hKA
         have hbx : Below w6.heap.size w6 w7 := Below.grows (one_alloc w6 _) hg6 (size_le_alloc _ _) (Nat.le_refl _)
         have HBw7 := Lib.hid (HBw6.out.trans (hbx.mono HBw6.out.size))
         have HDR := Lib.hid (HDR.out.below hbx)
         have HDA := Lib.hid (HDA.out.below hbx)
         have HCC := Lib.hid (HCC.out.trans (hbx.mono HCC.out.size))
         have hH := hH.keep hbx
         clear hbx hg6 hs6)
      | ((with_reducible refine wpList_load_blk 24 _ rfl w2.heap.size ?hx7 24 (idv H) (0, 0) _ hH.is Tryd.underlying24 ?hd7 (info32 HHL.out) ?_ ?hw7); (case hx7 => rfl); (case hd7 => rfl); (case hw7 => rfl))
      | ((with_reducible refine wpList_load_on 28 _ rfl w.heap.size 0 ?hx20 (En.row ⟨kind, tick, epoch, user, sess, count, cmd, arg, code⟩) #[.int .i64 kind, .int .i64 tick, .int .i64 epoch, .int .i64 user, .int .u64 sess, .int .u64 count, .int .i64 cmd, .int .i64 arg, .int .i64 code] ?ht20 _ (RX.out _ HCC.out) Tryd.underlying28 ?hd20 ?hi20 ?_ ?hw20); (case hx20 => rfl); (case ht20 => rfl); (case hd20 => rfl); (case hi20 => exact info_en rfl); (case hw20 => rfl))
      | (go_at_call 12
         (with_reducible refine (HLK.out _ (HK.out.from HBw7.out)).mono ?_)
         rintro e w8 ⟨rfl, hbx⟩
         have HDR := Lib.hid (HDR.out.below hbx)
         have HDA := Lib.hid (HDA.out.below hbx)
         have HCC := Lib.hid (HCC.out.trans (hbx.mono HCC.out.size))
         have HBw8 := Lib.hid (HBw7.out.trans (hbx.mono HBw7.out.size))
         have hH := hH.keep hbx
         have hKA := hKA.keep hbx
         clear hbx)
      | ((with_reducible refine wpList_store_blk rfl 24 _ _ rfl w8.heap.size (idv K) ?hx8 ?hy8 24 _ (heap_alloc_new w8 _) (info32 HKL.out) ?hs8 (idv_one _) ?_); (case hx8 => rfl); (case hy8 => rfl); (case hs8 => rw [idv_size, HKL.out]; rfl)
         intro w9 hg8 hKL hs8
         have hKL : RowB w9 w8.heap.size 24 K := hKL
         have hbx : Below w8.heap.size w8 w9 := Below.grows (one_alloc w8 _) hg8 (size_le_alloc _ _) (Nat.le_refl _)
         have HBw9 := Lib.hid (HBw8.out.trans (hbx.mono HBw8.out.size))
         have HDR := Lib.hid (HDR.out.below hbx)
         have HDA := Lib.hid (HDA.out.below hbx)
         have HCC := Lib.hid (HCC.out.trans (hbx.mono HCC.out.size))
         have hH := hH.keep hbx
         have hKA := hKA.keep hbx
         clear hbx hg8 hs8)
      | (go_at_call 25
         (with_reducible refine (HPE.out _).mono ?_)
         rintro e w10 ⟨A9, n9, c9, rfl, hbt, hbx⟩
         have HDR := Lib.hid (HDR.out.below hbx)
         have HDA := Lib.hid (HDA.out.below hbx)
         have HDP := Lib.hid hbt
         clear hbt
         have HBw10 := Lib.hid (HBw9.out.trans (hbx.mono HBw9.out.size))
         have hH := hH.keep hbx
         have hKA := hKA.keep hbx
         have hKL := hKL.keep hbx
         clear hbx))
    obtain ⟨Y8, hY8⟩ : ∃ Y, w10.drew = Y := ⟨_, rfl⟩
    have HBw8 := Lib.hid (show Below w.heap.size w Y8 by rw [← hY8]; exact HBw10.out.drew)
    have hKA : RowB Y8 w6.heap.size 24 K := by rw [← hY8]; exact hKA.draw1
    have hKL : RowB Y8 w8.heap.size 24 K := by rw [← hY8]; exact hKL.draw1
    have KA1 := Lib.hid (show (convert 29 9 (.slice A7 n7 c7)).run Tryd.prog Y8 = .ok (.string sc) Y8 by rw [← HSC.out, ← hY8]; exact conv_bts HDA.out.draw1)
    have KR1 := Lib.hid (show (convert 29 9 (.slice A6 n6 c6)).run Tryd.prog Y8 = .ok (.string sb) Y8 by rw [← HSB.out, ← hY8]; exact conv_bts HDR.out.draw1)
    have KP1 := Lib.hid (show (convert 29 9 (.slice A9 n9 c9)).run Tryd.prog Y8 = .ok (.string sp) Y8 by rw [← HSP.out, ← hY8]; exact conv_bts HDP.out.draw1)
    have KK1 := Lib.hid (show (convert 29 9 (.slice (some ⟨w8.heap.size, 0, none⟩) 32 32)).run Tryd.prog Y8 = .ok (.string sk) Y8 by rw [← HSK.out]; exact conv_bts (hKL.btsAt HKL.out (by unfold maxLen; omega) HKB.out))
    refine wp_region_held_drew (S := (fun w' => w' = Y8)) (by kernel_rfl) (by rw [hY8]) (fun hHeld => ?_)
    rw [hY8] at hHeld ⊢
    clear hY8
    refine take_move 0 (.tmp 12) (.bool true) rfl rfl rfl (by kernel_rfl) (by kernel_rfl) (by kernel_rfl) (fun _ _ _ h => h) rfl hHeld ?_
    simp only [Act.put, List.setIfInBounds_toArray, List.set_cons_zero, List.set_cons_succ]
    refine take_run 1 (.bool false) rfl (by kernel_rfl) (by kernel_rfl) (by kernel_rfl) (fun _ _ _ h => h) rfl hHeld (fun w => ?_) ?_
    · go_simp
    simp only [Act.put, List.setIfInBounds_toArray, List.set_cons_zero, List.set_cons_succ]
    refine take_run 2 (.bool false) rfl (by kernel_rfl) (by kernel_rfl) (by kernel_rfl) (fun _ _ _ h => h) rfl hHeld (fun w => ?_) ?_
    · go_simp
    simp only [Act.put, List.setIfInBounds_toArray, List.set_cons_zero, List.set_cons_succ]
    refine take_move 3 (.tmp 10) (.slice A7 n7 c7) rfl rfl rfl (by kernel_rfl) (by kernel_rfl) (by kernel_rfl) (fun _ _ _ h => h) rfl hHeld ?_
    simp only [Act.put, List.setIfInBounds_toArray, List.set_cons_zero, List.set_cons_succ]
    refine take_if 4 (.string sc) rfl (by kernel_rfl) (by kernel_rfl) (by kernel_rfl) (fun _ _ _ h => h) rfl hHeld (fun w' hw' => ?_) ?_
    · cases hw'
      have hq := KA1.out
      go_simp
    simp only [Act.put, List.setIfInBounds_toArray, List.set_cons_zero, List.set_cons_succ]
    refine take_move 5 (.tmp 6) (.slice A6 n6 c6) rfl rfl rfl (by kernel_rfl) (by kernel_rfl) (by kernel_rfl) (fun _ _ _ h => h) rfl hHeld ?_
    simp only [Act.put, List.setIfInBounds_toArray, List.set_cons_zero, List.set_cons_succ]
    refine take_if 6 (.string sb) rfl (by kernel_rfl) (by kernel_rfl) (by kernel_rfl) (fun _ _ _ h => h) rfl hHeld (fun w' hw' => ?_) ?_
    · cases hw'
      have hq := KR1.out
      go_simp
    simp only [Act.put, List.setIfInBounds_toArray, List.set_cons_zero, List.set_cons_succ]
    refine take_move 7 (.tmp 15) (.slice A9 n9 c9) rfl rfl rfl (by kernel_rfl) (by kernel_rfl) (by kernel_rfl) (fun _ _ _ h => h) rfl hHeld ?_
    simp only [Act.put, List.setIfInBounds_toArray, List.set_cons_zero, List.set_cons_succ]
    refine take_if 8 (.string sp) rfl (by kernel_rfl) (by kernel_rfl) (by kernel_rfl) (fun _ _ _ h => h) rfl hHeld (fun w' hw' => ?_) ?_
    · cases hw'
      have hq := KP1.out
      go_simp
    simp only [Act.put, List.setIfInBounds_toArray, List.set_cons_zero, List.set_cons_succ]
    refine take_run 9 (.string sq) rfl (by kernel_rfl) (by kernel_rfl) (by kernel_rfl) (fun _ _ _ h => h) rfl hHeld (fun w => ?_) ?_
    · have hq := HA1.out; go_simp
    simp only [Act.put, List.setIfInBounds_toArray, List.set_cons_zero, List.set_cons_succ]
    refine take_run 10 (.slice (some ⟨w8.heap.size, 0, none⟩) 32 32) rfl (by kernel_rfl) (by kernel_rfl) (by kernel_rfl) (fun _ _ _ h => h) rfl hHeld (fun w => ?_) ?_
    · go_simp
    simp only [Act.put, List.setIfInBounds_toArray, List.set_cons_zero, List.set_cons_succ]
    refine take_if 11 (.string sk) rfl (by kernel_rfl) (by kernel_rfl) (by kernel_rfl) (fun _ _ _ h => h) rfl hHeld (fun w' hw' => ?_) ?_
    · cases hw'
      have hq := KK1.out
      go_simp
    simp only [Act.put, List.setIfInBounds_toArray, List.set_cons_zero, List.set_cons_succ]
    refine take_run 12 (.string sc) rfl (by kernel_rfl) (by kernel_rfl) (by kernel_rfl) (fun _ _ _ h => h) rfl hHeld (fun w => ?_) ?_
    · have hq := HA2.out; go_simp
    simp only [Act.put, List.setIfInBounds_toArray, List.set_cons_zero, List.set_cons_succ]
    refine take_run 13 (.bool true) rfl (by kernel_rfl) (by kernel_rfl) (by kernel_rfl) (fun _ _ _ h => h) rfl hHeld (fun w => ?_) ?_
    · go_simp
    simp only [Act.put, List.setIfInBounds_toArray, List.set_cons_zero, List.set_cons_succ]
    refine take_run 14 (.bool true) rfl (by kernel_rfl) (by kernel_rfl) (by kernel_rfl) (fun _ _ _ h => h) rfl hHeld (fun w => ?_) ?_
    · go_simp
    simp only [Act.put, List.setIfInBounds_toArray, List.set_cons_zero, List.set_cons_succ]
    refine take_if 15 (.agg (idv K)) rfl (by kernel_rfl) (by kernel_rfl) (by kernel_rfl) (fun _ _ _ h => h) rfl hHeld (fun w' hw' => ?_) ?_
    · cases hw'
      exact id_load hKA HKL.out rfl rfl
    simp only [Act.put, List.setIfInBounds_toArray, List.set_cons_zero, List.set_cons_succ]
    refine take_if 16 (.agg (idv K)) rfl (by kernel_rfl) (by kernel_rfl) (by kernel_rfl) (fun _ _ _ h => h) rfl hHeld (fun w' hw' => ?_) ?_
    · cases hw'
      exact id_load hKL HKL.out rfl rfl
    simp only [Act.put, List.setIfInBounds_toArray, List.set_cons_zero, List.set_cons_succ]
    refine take_run 17 (.bool true) rfl (by kernel_rfl) (by kernel_rfl) (by kernel_rfl) (fun _ _ _ h => h) rfl hHeld (fun w => ?_) ?_
    · exact run_eq_id rfl rfl rfl (.inl ⟨rfl, rfl⟩) (HEQ.out w)
    simp only [Act.put, List.setIfInBounds_toArray, List.set_cons_zero, List.set_cons_succ]
    refine take_run 18 (.bool true) rfl (by kernel_rfl) (by kernel_rfl) (by kernel_rfl) (fun _ _ _ h => h) rfl hHeld (fun w => ?_) ?_
    · go_simp
    simp only [Act.put, List.setIfInBounds_toArray, List.set_cons_zero, List.set_cons_succ]
    refine take_run 19 (.bool true) rfl (by kernel_rfl) (by kernel_rfl) (by kernel_rfl) (fun _ _ _ h => h) rfl hHeld (fun w => ?_) ?_
    · go_simp
    simp only [Act.put, List.setIfInBounds_toArray, List.set_cons_zero, List.set_cons_succ]
    refine take_run 20 (.bool true) rfl (by kernel_rfl) (by kernel_rfl) (by kernel_rfl) (fun _ _ _ h => h) rfl hHeld (fun w => ?_) ?_
    · go_simp
    simp only [Act.put, List.setIfInBounds_toArray, List.set_cons_zero, List.set_cons_succ]
    refine wpAnyH_done (by kernel_rfl) ?_ _
    clear hHeld
    go_wp2
    go_ret
    exact ⟨rfl, HBw8.out⟩
theorem cmorew_any (A : Option Addr) (n c : Nat) (l : List En) (u : En) (w : World) (hK : KTab w) (hl : Ens w A n c l) (ho : ∀ u ∈ l, u.ok) (hu : u.ok) : Calls Tryd.prog 8 #[.slice A n c, enV u] w fun e w' => e = .returned (.bool true) ∧ Below w.heap.size w w' := by
  by_cases h : n ≤ 20
  · cases hp : putC l with
    | false =>
      cases hm : mayE u with
      | false => exact cmorew_ff A n c l u w hK hl ho hu h hp hm
      | true => exact cmorew_ft A n c l u w hK hl ho hu h hp hm
    | true =>
      cases hm : mayE u with
      | false => exact cmorew_tf A n c l u w hK hl ho hu h hp hm
      | true => exact cmorew_tt A n c l u w hK hl ho hu h hp hm
  · exact cmorew_long A n c l u w hK hl ho hu (by omega)
end Go.Proofs.YtplfpaclhapldaaDoor
