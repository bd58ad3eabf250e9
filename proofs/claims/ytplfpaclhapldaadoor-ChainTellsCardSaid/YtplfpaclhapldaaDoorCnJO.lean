/- Joined texts: The walk over the chapter's example. The walks over package entry's Same. copy into the midst of a slice of bytes of the call's own. The laws' arguments, opened: an entry by value; a slice of entries. The laws' arguments, opened: a head; the table of the constants, as the rows list it. -/
import Derived.Test.YtplfpaclhapldaaDoorCnJN
import Derived.Test.YtplfpaclhapldaaDoorCnJG
import Derived.Test.YtplfpaclhapldaaDoorCnJA
import Derived.Test.YtplfpaclhapldaaDoorCnJC
import Derived.Deep.Slices
import Derived.Deep.SlicePairs
import Derived.Test.YtplfpaclhapldaaDoorCnJB
import Derived.Test.YtplfpaclhapldaaDoorCnJF
import Derived.Test.YtplfpaclhapldaaDoorCards
import Derived.Test.YtplfpaclhapldaaDoorTie
import Derived.Lib.LaidTab
/- The walk over the chapter's example. -/
namespace Go.Proofs.YtplfpaclhapldaaDoor
set_option maxRecDepth 100000
set_option linter.unusedVariables false
set_option linter.unusedSimpArgs false
open Go.RowKit

/-- the chapter's entry -/
def exC : En := ⟨0, 0, 1, 0, 0, 0, 0, 0, 0⟩
theorem exC_may : mayE exC = true := by decide
theorem exC_ok : ∀ u ∈ [exC], u.ok := by
  intro u hu
  rw [List.mem_singleton] at hu
  subst hu
  exact ⟨⟨by decide, by decide⟩, ⟨by decide, by decide⟩⟩
theorem exC_put : putC [exC] = true := by decide
theorem exC_recs : (recsC [exC]).length = 62 := by rw [recsC, recsF_len]; rfl
theorem exC_read : readC (recsC [exC] ++ List.replicate 38 0) = [exC] := by
  rw [readC, recsC, read_recs [exC] 264 startC _ (by decide) exC_ok (by decide), readF_short (by simp)]
  rfl
theorem exC_back : readC (recsC [exC]) = [exC] := put_read (by decide) exC_ok (by decide)
theorem exC_err : errC (recsC [exC]) = 0 := by rw [err_ok, exC_back, exC_recs]; rfl
theorem exC_ver : verC (recsC [exC]) = headC [exC] := by rw [verC, if_pos exC_err, exC_back]
theorem exC_link : linkP startC exC = headC [exC] := by rw [linkP, if_pos exC_may]; rfl
set_option maxRecDepth 100000 in
set_option maxHeartbeats 4000000 in
theorem cawake_any (w : World) (hK : KTab w) : Calls Tryd.prog 9 #[] w fun e w' => e = .returned (.bool true) ∧ Below w.heap.size w w' := by
  have HK := Lib.hid hK
  have HPU := Lib.hid (show ∀ W : World, KTab W → Calls Tryd.prog 10 #[.slice (some ⟨W.heap.size, 0, none⟩) 1 1] (W.alloc (.cells #[.int .i64 0, .int .i64 0, .int .i64 1, .int .i64 0, .int .u64 0, .int .u64 0, .int .i64 0, .int .i64 0, .int .i64 0] 28)) (fun e w' => (∃ A m c, e = .returned (.tuple #[.slice A m c, .agg (idv (headC [exC])), .bool true]) ∧ Bts w' A m c (recsC [exC])) ∧ Below (W.alloc (.cells #[.int .i64 0, .int .i64 0, .int .i64 1, .int .i64 0, .int .u64 0, .int .u64 0, .int .i64 0, .int .i64 0, .int .i64 0] 28)).heap.size (W.alloc (.cells #[.int .i64 0, .int .i64 0, .int .i64 1, .int .i64 0, .int .u64 0, .int .u64 0, .int .i64 0, .int .i64 0, .int .i64 0] 28)) w') from fun W hk => by
    have h := cput_any (some ⟨W.heap.size, 0, none⟩) 1 1 [exC] _ (hk.from (one_alloc W (.cells #[.int .i64 0, .int .i64 0, .int .i64 1, .int .i64 0, .int .u64 0, .int .u64 0, .int .i64 0, .int .i64 0, .int .i64 0] 28))) (one_ens W exC) exC_ok
    rw [exC_put, if_pos rfl, if_pos rfl] at h
    exact h.mono fun e w' ⟨A, m, c, he, hb, hl⟩ => ⟨⟨A, m, c, he, hb⟩, hl⟩)
  have HRD := Lib.hid (fun (A : Option Addr) (n c : Nat) (X : World) (hk : KTab X) (h : Bts X A n c (recsC [exC] ++ List.replicate 38 0)) => cread_any A n c _ X hk h)
  have HVE := Lib.hid (fun (A : Option Addr) (n c : Nat) (X : World) (hk : KTab X) (h : Bts X A n c (recsC [exC])) => cver_any A n c _ X hk h)
  have HLK := Lib.hid (fun (X : World) (hk : KTab X) => clink_any startC exC X hk (csum_len _) (csum_byte _) (exC_ok exC (by simp)))
  rw [exC_read] at HRD
  rw [exC_err, exC_ver] at HVE
  rw [exC_link, exC_may] at HLK
  have hre := exC_recs
  have hrb : ∀ j, 0 ≤ (recsC [exC] ++ List.replicate 38 0).getD j 0 ∧ (recsC [exC] ++ List.replicate 38 0).getD j 0 < 256 := ok_zeros (recs_byte _) 38
  obtain ⟨P, hP⟩ : ∃ P, recsC [exC] = P := ⟨_, rfl⟩
  obtain ⟨Z, hZ⟩ : ∃ Z, headC [exC] = Z := ⟨_, rfl⟩
  have HZL := Lib.hid (show Z.length = 32 by rw [← hZ]; exact headC_len _)
  rw [hP, hZ] at HPU HVE
  rw [hP, hZ] at HRD
  rw [hZ] at HLK
  rw [hP] at hre hrb
  have HRE := Lib.hid hre
  have HRB := Lib.hid hrb
  have hal := run_all32
  have HEQ := Lib.hid (show ∀ w, (Op.equalIn 10000 24 (.agg (idv Z)) (.agg (idv Z))).run Tryd.prog w = .ok true w from fun w => by rw [eq_ids _ _ HZL.out HZL.out, decide_eq_true rfl])
  obtain ⟨SC, hSC⟩ : ∃ s, startC = s := ⟨_, rfl⟩
  have HST := Lib.hid (fun (X : World) (hk : KTab X) => cstart_any X hk)
  rw [hSC] at HST HLK
  unfold enV at HLK
  clear hK hP hZ hre hrb hSC
  go_enter Tryd.func9, Tryd.ntmps9
  go_wp2_with (first
    | (go_at_call 10
       refine (HPU.out _ HK.out).mono ?_
       rintro e w1 ⟨⟨A2, n2, c2, rfl, hbt⟩, hb1⟩
       have hE := after_alloc hb1
       have HSZ := Lib.hid (show w.heap.size + 1 ≤ w1.heap.size from by have := hb1.size; rw [size_next] at this; exact this)
       have hE : w1.heap[w.heap.size]? = some (.cells (enA exC) 28 (0, 0)) := hE
       have HBw1 := Lib.hid (after_one hb1).1
       have HDp := Lib.hid hbt
       clear hb1 hbt)
    | ((with_reducible refine wpList_store_blk rfl 24 _ _ rfl w1.heap.size (idv Z) ?hx1 ?hy1 24 _ (heap_alloc_new w1 _) (info32 HZL.out) ?hs1 (idv_one _) ?_); (case hx1 => rfl); (case hy1 => rfl); (case hs1 => rw [idv_size, HZL.out]; rfl)
       intro w2 hg1 hH hs1
       have hH : RowB w2 w1.heap.size 24 Z := hH
       have hbx : Below w1.heap.size w1 w2 := Below.grows (one_alloc w1 _) hg1 (size_le_alloc _ _) (Nat.le_refl _)
       have HBw2 := Lib.hid (HBw1.out.trans (hbx.mono HBw1.out.size))
       have HDp := Lib.hid (HDp.out.below hbx)
       have hE := (hbx.block _ (Array.getElem?_eq_some_iff.1 hE).1).trans hE
       clear hbx hg1 hs1)
    | (at_builtin
       refine wpList_append_b rfl _ _ rfl w2.heap.size (.slice none 0 0) [] rfl (Own.nil _ _) A2 n2 c2 P rfl HDp.out (by have := HDp.out.len; have := HRE.out; simp; omega) (Nat.le_refl _) ?_
       have HDq := HDp
       have HLE := Lib.hid (show w.heap.size < w1.heap.size from Nat.lt_of_lt_of_le (Nat.lt_succ_self _) HSZ.out)
       have HLT := Lib.hid hH.lt
       intro v3 w3 ho3 hg3
       have hbx : Below w2.heap.size w2 w3 := (Below.refl _ w2).grown hg3 (Nat.le_refl _) (fun g e => by cases e)
       have ho3 : Own w3 w2.heap.size v3 P := ho3
       have hH := hH.keep hbx
       have HDp := Lib.hid (HDp.out.below hbx)
       have hE := (hbx.block _ (Array.getElem?_eq_some_iff.1 hE).1).trans hE
       have HBw3 := Lib.hid (HBw2.out.trans (hbx.mono HBw2.out.size))
       have HS3 := Lib.hid hbx.size
       have HX := Lib.hid hbx
       clear hbx hg3)
    | (at_builtin
       refine wpList_append_zeros rfl _ _ rfl w2.heap.size v3 P rfl ho3 38 rfl (by omega) (by have := HRE.out; omega) HS3.out ?_
       intro v4 w4 ho4 hg4
       have hbx : Below w2.heap.size w3 w4 := (Below.refl w2.heap.size w3).grown hg4 HS3.out (fun g e => (ho3.size g e).1)
       have hH := hH.below hbx HLT.out
       have HDp := Lib.hid (HDq.out.below (HX.out.trans hbx))
       have hE := (hbx.block _ (Nat.lt_trans HLE.out HLT.out)).trans hE
       have HBw4 := Lib.hid (HBw3.out.trans (hbx.mono HBw2.out.size))
       obtain ⟨A4, n4, c4, rfl, hbt⟩ := ho4.slice HRB.out
       have HDr := Lib.hid hbt
       clear hbx hg4 ho3 ho4 hbt)
    | (go_at_call 14
       (with_reducible refine (HRD.out _ _ _ _ (HK.out.from HBw4.out) HDr.out).mono ?_)
       rintro e w5 ⟨A5, n5, c5, rfl, hen, hbx⟩
       have hn5 : 1 = n5 := hen.len
       subst hn5
       have hH := hH.keep hbx
       have HDp := Lib.hid (HDp.out.below hbx)
       have hE := (hbx.block _ (Array.getElem?_eq_some_iff.1 hE).1).trans hE
       have HBw5 := Lib.hid (HBw4.out.trans (hbx.mono HBw4.out.size))
       clear hbx)
    | ((with_reducible refine wpList_store_blk rfl 24 _ _ rfl w5.heap.size (idv Z) ?hx5 ?hy5 24 _ (heap_alloc_new w5 _) (info32 HZL.out) ?hs5 (idv_one _) ?_); (case hx5 => rfl); (case hy5 => rfl); (case hs5 => rw [idv_size, HZL.out]; rfl)
       intro w6 hg5 hG hs5
       have hG : RowB w6 w5.heap.size 24 Z := hG
       have hbx : Below w5.heap.size w5 w6 := Below.grows (one_alloc w5 _) hg5 (size_le_alloc _ _) (Nat.le_refl _)
       have HBw6 := Lib.hid (HBw5.out.trans (hbx.mono HBw5.out.size))
       have hen := hen.below hbx
       have hH := hH.keep hbx
       have HDp := Lib.hid (HDp.out.below hbx)
       have hE := (hbx.block _ (Array.getElem?_eq_some_iff.1 hE).1).trans hE
       clear hbx hg5 hs5)
    | (go_at_call 16
       (with_reducible refine (HVE.out _ _ _ _ (HK.out.from HBw6.out) HDp.out).mono ?_)
       rintro e w7 ⟨rfl, hbx⟩
       have hH := hH.keep hbx
       have hG := hG.keep hbx
       have hen := hen.below hbx
       have hE := (hbx.block _ (Array.getElem?_eq_some_iff.1 hE).1).trans hE
       have HBw7 := Lib.hid (HBw6.out.trans (hbx.mono HBw6.out.size))
       clear hbx)
    | ((with_reducible refine wpList_store_blk rfl 24 _ _ rfl w7.heap.size (idv Z) ?hx7 ?hy7 24 _ (heap_alloc_new w7 _) (info32 HZL.out) ?hs7 (idv_one _) ?_); (case hx7 => rfl); (case hy7 => rfl); (case hs7 => rw [idv_size, HZL.out]; rfl)
       intro w8 hg7 hV hs7
       have hV : RowB w8 w7.heap.size 24 Z := hV
       have hbx : Below w7.heap.size w7 w8 := Below.grows (one_alloc w7 _) hg7 (size_le_alloc _ _) (Nat.le_refl _)
       have HBw8 := Lib.hid (HBw7.out.trans (hbx.mono HBw7.out.size))
       have hen := hen.below hbx
       have hH := hH.keep hbx
       have hG := hG.keep hbx
       have hE := (hbx.block _ (Array.getElem?_eq_some_iff.1 hE).1).trans hE
       clear hbx hg7 hs7))
  have KE := Lib.hid (show ∀ w', Below w8.heap.size w8 w' → w'.rangeAt w.heap.size 0 exC.row from fun w' h => cent_range ((h.block _ (Array.getElem?_eq_some_iff.1 hE).1).trans hE))
  have KH := Lib.hid (show ∀ w', Below w8.heap.size w8 w' → RowB w' w1.heap.size 24 Z from fun w' h => hH.keep h)
  have KG := Lib.hid (show ∀ w', Below w8.heap.size w8 w' → RowB w' w5.heap.size 24 Z from fun w' h => hG.keep h)
  have KV := Lib.hid (show ∀ w', Below w8.heap.size w8 w' → RowB w' w7.heap.size 24 Z from fun w' h => hV.keep h)
  have KN := Lib.hid (show ∀ w', Below w8.heap.size w8 w' → Ens w' A5 1 c5 [exC] from fun w' h => hen.below h)
  have hn2 : n2 = 62 := by have := HDp.out.len; have := HRE.out; omega
  subst hn2
  clear hE hH hG hV hen
  obtain ⟨Y0, hY0⟩ : ∃ Y, w8.drew = Y := ⟨_, rfl⟩
  have hSd : (fun w' => Below w8.heap.size w8 w') Y0 := by rw [← hY0]; exact (Below.refl _ w8).drew
  refine wp_region_held_drew (S := (fun w' => Below w8.heap.size w8 w')) (by kernel_rfl) (by rw [hY0]; exact hSd) (fun hHeld => ?_)
  rw [hY0] at hHeld ⊢
  clear hY0
  refine take_move 1 (.tmp 1) (.slice (some ⟨w.heap.size, 0, none⟩) 1 1) rfl rfl rfl (by kernel_rfl) (by kernel_rfl) (by kernel_rfl) (fun _ _ _ h => h) rfl hHeld ?_
  simp only [Act.put, List.setIfInBounds_toArray, List.set_cons_zero, List.set_cons_succ]
  refine take_run 2 (.pointer (some ⟨w.heap.size, 0, none⟩)) rfl (by kernel_rfl) (by kernel_rfl) (by kernel_rfl) (fun _ _ _ h => h) rfl hHeld (fun w => ?_) ?_
  · go_simp
  simp only [Act.put, List.setIfInBounds_toArray, List.set_cons_zero, List.set_cons_succ]
  refine take_if 3 (.agg (enA exC)) rfl (by kernel_rfl) (by kernel_rfl) (by kernel_rfl) (fun _ _ _ h => h) rfl hHeld (fun w' hw' => ?_) ?_
  · exact run_load_en rfl rfl (KE.out _ hw')
  simp only [Act.put, List.setIfInBounds_toArray, List.set_cons_zero, List.set_cons_succ]
  refine two_steps 0 8 (by kernel_rfl) rfl rfl (fun Kq hKq => ?_) (fun Kq hKq => ?_)
  rotate_left
  have hz : RowB (Y0.alloc (.cells (idv noughtsC) 24)) Y0.heap.size 24 noughtsC := rowb_lit _ _ _ _ rfl
  have hS1 : Below w8.heap.size w8 (Y0.alloc (.cells (idv noughtsC) 24)) := hSd.alloc hSd.size _
  have hgx : w8.heap.size ≤ Y0.heap.size := hSd.size
  go_simp
  refine hKq.out _ _ hS1 (fun hHeld0 => ?_)
  clear hKq Kq hHeld
  have hHeld := hHeld0
  clear hHeld0
  try simp only [Act.put, List.setIfInBounds_toArray, List.set_cons_zero, List.set_cons_succ]
  refine one_step 0 (by kernel_rfl) rfl (fun Kq hKq => ?_)
  go_simp
  go_at_call 21
  refine (HST.out _ (HK.out.from (HBw8.out.trans (hS1.mono HBw8.out.size)))).mono ?_
  rintro e y2 ⟨rfl, hbx⟩
  have hS2 : Below w8.heap.size w8 y2 := hS1.trans (hbx.mono hS1.size)
  have hz := hz.keep hbx
  clear hbx
  refine hKq.out _ _ hS2 (fun hHeld0 => ?_)
  clear hKq Kq hHeld
  have hHeld := hHeld0
  clear hHeld0
  try simp only [Act.put, List.setIfInBounds_toArray, List.set_cons_zero, List.set_cons_succ]
  refine one_step 4 (by kernel_rfl) rfl (fun Kq hKq => ?_)
  go_simp
  go_at_call 12
  refine (HLK.out _ (HK.out.from (HBw8.out.trans (hS2.mono HBw8.out.size)))).mono ?_
  rintro e y3 ⟨rfl, hbx⟩
  have hS3 : Below w8.heap.size w8 y3 := hS2.trans (hbx.mono hS2.size)
  have hz := hz.keep hbx
  clear hbx
  refine hKq.out _ _ hS3 (fun hHeld0 => ?_)
  clear hKq Kq hHeld
  have hHeld := hHeld0
  clear hHeld0
  try simp only [Act.put, List.setIfInBounds_toArray, List.set_cons_zero, List.set_cons_succ]
  refine take_run 5 (.tuple #[.agg (idv Z), .bool true]) rfl (by kernel_rfl) (by kernel_rfl) (by kernel_rfl) (fun _ _ _ h => h) rfl hHeld (fun w => ?_) ?_
  · go_simp
  simp only [Act.put, List.setIfInBounds_toArray, List.set_cons_zero, List.set_cons_succ]
  refine take_run 6 (.agg (idv Z)) rfl (by kernel_rfl) (by kernel_rfl) (by kernel_rfl) (fun _ _ _ h => h) rfl hHeld (fun w => ?_) ?_
  · go_simp
  simp only [Act.put, List.setIfInBounds_toArray, List.set_cons_zero, List.set_cons_succ]
  refine take_run 7 (.bool true) rfl (by kernel_rfl) (by kernel_rfl) (by kernel_rfl) (fun _ _ _ h => h) rfl hHeld (fun w => ?_) ?_
  · go_simp
  simp only [Act.put, List.setIfInBounds_toArray, List.set_cons_zero, List.set_cons_succ]
  refine one_step 9 (by kernel_rfl) rfl (fun Kq hKq => ?_)
  refine step_store_b 24 _ _ rfl Y0.heap.size Z noughtsC rfl rfl 24 hz (info32 HZL.out) (by rw [HZL.out]; rfl) rfl ?_
  intro wM hgM hXM hsM
  have hSM : Below w8.heap.size w8 wM := hS3.grown hgM hS3.size (fun q e => by cases e; exact hgx)
  refine hKq.out _ _ hSM (fun hHeld0 => ?_)
  clear hKq Kq hHeld
  have hHeld := hHeld0
  clear hHeld0
  try simp only [Act.put, List.setIfInBounds_toArray, List.set_cons_zero, List.set_cons_succ]
  refine take_run 10 (.bool true) rfl (by kernel_rfl) (by kernel_rfl) (by kernel_rfl) (fun _ _ _ h => h) rfl hHeld (fun w => ?_) ?_
  · go_simp
  simp only [Act.put, List.setIfInBounds_toArray, List.set_cons_zero, List.set_cons_succ]
  refine wpAnyH_done (by kernel_rfl) ?_ _
  obtain ⟨gx, hgxe⟩ : ∃ q, Y0.heap.size = q := ⟨_, rfl⟩
  rw [hgxe] at hXM ⊢
  clear hgxe hHeld hgM hsM
  rotate_right
  go_simp
  go_at_call 21
  refine (HST.out _ (HK.out.from (HBw8.out.trans (hSd.mono HBw8.out.size)))).mono ?_
  rintro e y1 ⟨rfl, hbx⟩
  have hS1 : Below w8.heap.size w8 y1 := hSd.trans (hbx.mono hSd.size)
  clear hbx
  refine hKq.out _ _ hS1 (fun hHeld0 => ?_)
  clear hKq Kq hHeld
  have hHeld := hHeld0
  clear hHeld0
  try simp only [Act.put, List.setIfInBounds_toArray, List.set_cons_zero, List.set_cons_succ]
  refine two_steps 4 8 (by kernel_rfl) rfl rfl (fun Kq hKq => ?_) (fun Kq hKq => ?_)
  rotate_left
  have hz : RowB (y1.alloc (.cells (idv noughtsC) 24)) y1.heap.size 24 noughtsC := rowb_lit _ _ _ _ rfl
  have hS2 : Below w8.heap.size w8 (y1.alloc (.cells (idv noughtsC) 24)) := hS1.alloc hS1.size _
  have hgx : w8.heap.size ≤ y1.heap.size := hS1.size
  go_simp
  refine hKq.out _ _ hS2 (fun hHeld0 => ?_)
  clear hKq Kq hHeld
  have hHeld := hHeld0
  clear hHeld0
  try simp only [Act.put, List.setIfInBounds_toArray, List.set_cons_zero, List.set_cons_succ]
  refine one_step 4 (by kernel_rfl) rfl (fun Kq hKq => ?_)
  go_simp
  go_at_call 12
  refine (HLK.out _ (HK.out.from (HBw8.out.trans (hS2.mono HBw8.out.size)))).mono ?_
  rintro e y3 ⟨rfl, hbx⟩
  have hS3 : Below w8.heap.size w8 y3 := hS2.trans (hbx.mono hS2.size)
  have hz := hz.keep hbx
  clear hbx
  refine hKq.out _ _ hS3 (fun hHeld0 => ?_)
  clear hKq Kq hHeld
  have hHeld := hHeld0
  clear hHeld0
  try simp only [Act.put, List.setIfInBounds_toArray, List.set_cons_zero, List.set_cons_succ]
  refine take_run 5 (.tuple #[.agg (idv Z), .bool true]) rfl (by kernel_rfl) (by kernel_rfl) (by kernel_rfl) (fun _ _ _ h => h) rfl hHeld (fun w => ?_) ?_
  · go_simp
  simp only [Act.put, List.setIfInBounds_toArray, List.set_cons_zero, List.set_cons_succ]
  refine take_run 6 (.agg (idv Z)) rfl (by kernel_rfl) (by kernel_rfl) (by kernel_rfl) (fun _ _ _ h => h) rfl hHeld (fun w => ?_) ?_
  · go_simp
  simp only [Act.put, List.setIfInBounds_toArray, List.set_cons_zero, List.set_cons_succ]
  refine take_run 7 (.bool true) rfl (by kernel_rfl) (by kernel_rfl) (by kernel_rfl) (fun _ _ _ h => h) rfl hHeld (fun w => ?_) ?_
  · go_simp
  simp only [Act.put, List.setIfInBounds_toArray, List.set_cons_zero, List.set_cons_succ]
  refine one_step 9 (by kernel_rfl) rfl (fun Kq hKq => ?_)
  refine step_store_b 24 _ _ rfl y1.heap.size Z noughtsC rfl rfl 24 hz (info32 HZL.out) (by rw [HZL.out]; rfl) rfl ?_
  intro wM hgM hXM hsM
  have hSM : Below w8.heap.size w8 wM := hS3.grown hgM hS3.size (fun q e => by cases e; exact hgx)
  refine hKq.out _ _ hSM (fun hHeld0 => ?_)
  clear hKq Kq hHeld
  have hHeld := hHeld0
  clear hHeld0
  try simp only [Act.put, List.setIfInBounds_toArray, List.set_cons_zero, List.set_cons_succ]
  refine take_run 10 (.bool true) rfl (by kernel_rfl) (by kernel_rfl) (by kernel_rfl) (fun _ _ _ h => h) rfl hHeld (fun w => ?_) ?_
  · go_simp
  simp only [Act.put, List.setIfInBounds_toArray, List.set_cons_zero, List.set_cons_succ]
  refine wpAnyH_done (by kernel_rfl) ?_ _
  obtain ⟨gx, hgxe⟩ : ∃ q, y1.heap.size = q := ⟨_, rfl⟩
  rw [hgxe] at hXM ⊢
  clear hgxe hHeld hgM hsM
  rotate_right
  go_simp
  go_at_call 12
  refine (HLK.out _ (HK.out.from (HBw8.out.trans (hS1.mono HBw8.out.size)))).mono ?_
  rintro e y2 ⟨rfl, hbx⟩
  have hS2 : Below w8.heap.size w8 y2 := hS1.trans (hbx.mono hS1.size)
  clear hbx
  refine hKq.out _ _ hS2 (fun hHeld0 => ?_)
  clear hKq Kq hHeld
  have hHeld := hHeld0
  clear hHeld0
  try simp only [Act.put, List.setIfInBounds_toArray, List.set_cons_zero, List.set_cons_succ]
  refine take_run 5 (.tuple #[.agg (idv Z), .bool true]) rfl (by kernel_rfl) (by kernel_rfl) (by kernel_rfl) (fun _ _ _ h => h) rfl hHeld (fun w => ?_) ?_
  · go_simp
  simp only [Act.put, List.setIfInBounds_toArray, List.set_cons_zero, List.set_cons_succ]
  refine take_run 6 (.agg (idv Z)) rfl (by kernel_rfl) (by kernel_rfl) (by kernel_rfl) (fun _ _ _ h => h) rfl hHeld (fun w => ?_) ?_
  · go_simp
  simp only [Act.put, List.setIfInBounds_toArray, List.set_cons_zero, List.set_cons_succ]
  refine take_run 7 (.bool true) rfl (by kernel_rfl) (by kernel_rfl) (by kernel_rfl) (fun _ _ _ h => h) rfl hHeld (fun w => ?_) ?_
  · go_simp
  simp only [Act.put, List.setIfInBounds_toArray, List.set_cons_zero, List.set_cons_succ]
  refine one_step 8 (by kernel_rfl) rfl (fun Kq hKq => ?_)
  have hz : RowB (y2.alloc (.cells (idv noughtsC) 24)) y2.heap.size 24 noughtsC := rowb_lit _ _ _ _ rfl
  have hS3 : Below w8.heap.size w8 (y2.alloc (.cells (idv noughtsC) 24)) := hS2.alloc hS2.size _
  have hgx : w8.heap.size ≤ y2.heap.size := hS2.size
  go_simp
  refine hKq.out _ _ hS3 (fun hHeld0 => ?_)
  clear hKq Kq hHeld
  have hHeld := hHeld0
  clear hHeld0
  try simp only [Act.put, List.setIfInBounds_toArray, List.set_cons_zero, List.set_cons_succ]
  refine one_step 9 (by kernel_rfl) rfl (fun Kq hKq => ?_)
  refine step_store_b 24 _ _ rfl y2.heap.size Z noughtsC rfl rfl 24 hz (info32 HZL.out) (by rw [HZL.out]; rfl) rfl ?_
  intro wM hgM hXM hsM
  have hSM : Below w8.heap.size w8 wM := hS3.grown hgM hS3.size (fun q e => by cases e; exact hgx)
  refine hKq.out _ _ hSM (fun hHeld0 => ?_)
  clear hKq Kq hHeld
  have hHeld := hHeld0
  clear hHeld0
  try simp only [Act.put, List.setIfInBounds_toArray, List.set_cons_zero, List.set_cons_succ]
  refine take_run 10 (.bool true) rfl (by kernel_rfl) (by kernel_rfl) (by kernel_rfl) (fun _ _ _ h => h) rfl hHeld (fun w => ?_) ?_
  · go_simp
  simp only [Act.put, List.setIfInBounds_toArray, List.set_cons_zero, List.set_cons_succ]
  refine wpAnyH_done (by kernel_rfl) ?_ _
  obtain ⟨gx, hgxe⟩ : ∃ q, y2.heap.size = q := ⟨_, rfl⟩
  rw [hgxe] at hXM ⊢
  clear hgxe hHeld hgM hsM
  all_goals
    have hH := KH.out _ hSM
    have hG := KG.out _ hSM
    have hV := KV.out _ hSM
    obtain ⟨b5, o5, u5, rfl, hu, -, -, -, z2, -⟩ := (KN.out _ hSM).at_ 0 (by decide)
    rw [List.getElem?_cons_zero] at hu
    cases hu
    have z2 : wM.cell? ⟨b5, o5 + 2, none⟩ = some (.int .i64 1) := by rw [Nat.zero_mul, Nat.add_zero] at z2; exact z2
    go_wp2_with (first
      | ((with_reducible refine wpList_load_blk 24 _ rfl w5.heap.size ?hx21 24 (idv Z) (0, 0) _ hG.is Tryd.underlying24 ?hd21 (info32 HZL.out) ?_ ?hw21); (case hx21 => rfl); (case hd21 => rfl); (case hw21 => rfl))
      | ((with_reducible refine wpList_load_blk 24 _ rfl w1.heap.size ?hx22 24 (idv Z) (0, 0) _ hH.is Tryd.underlying24 ?hd22 (info32 HZL.out) ?_ ?hw22); (case hx22 => rfl); (case hd22 => rfl); (case hw22 => rfl))
      | ((with_reducible refine wpList_load_blk 24 _ rfl w7.heap.size ?hx23 24 (idv Z) (0, 0) _ hV.is Tryd.underlying24 ?hd23 (info32 HZL.out) ?_ ?hw23); (case hx23 => rfl); (case hd23 => rfl); (case hw23 => rfl))
      | ((with_reducible refine wpList_load_blk 24 _ rfl gx ?hx24 24 (idv Z) (0, 0) _ hXM.is Tryd.underlying24 ?hd24 (info32 HZL.out) ?_ ?hw24); (case hx24 => rfl); (case hd24 => rfl); (case hw24 => rfl))
      | ((with_reducible refine wpList_eq_id .eql _ _ rfl (idv Z) (idv Z) ?hx25 ?hy25 true true (.inl ⟨rfl, rfl⟩) (fun w => HEQ.out w) ?_ ?hw25); (case hx25 => rfl); (case hy25 => rfl); (case hw25 => rfl)))
    go_ret
    exact ⟨rfl, HBw8.out.trans (hSM.mono HBw8.out.size)⟩
end Go.Proofs.YtplfpaclhapldaaDoor

/- The walks over package entry's Same. -/
namespace Go.Proofs.YtplfpaclhapldaaDoor
set_option linter.unusedVariables false
set_option linter.unusedSimpArgs false
open Go.RowKit

set_option maxHeartbeats 2000000 in
theorem eequal_any (A : Option Addr) (n c : Nat) (l : List En) (B : Option Addr) (m d : Nat) (l2 : List En) (w : World) (hl : Ens w A n c l) (hm : Ens w B m d l2) :
    Calls Tryd.prog 35 #[.slice A n c, .slice B m d] w (GBe (sameE l l2) w) := by
  have hn := hl.small
  have hn2 := hm.small
  have HL := Lib.hid hl.len
  have HL2 := Lib.hid hm.len
  by_cases hmm : n = m
  · subst hmm
    have hne : ((n : Int) != (n : Int)) = false := by simp
    go_enter Tryd.func35, Tryd.ntmps35
    go_wp2
    go_loopw [5, 13] (fun x v wr => ∃ j : Nat, j ≤ n ∧ v = .int .i64 j ∧ l.take j = l2.take j ∧ Below w.heap.size w wr) (fun x v _ => n - (intOf v).toNat)
    case atStart => exact ⟨0, Nat.zero_le _, rfl, by simp, Below.refl _ _⟩
    case round =>
      obtain ⟨j, hj, rfl, hsm, hbw⟩ := hrel
      have HBW := Lib.hid hbw
      by_cases hlt : j < n
      · obtain ⟨b, off, u, rfl, hu, hr1⟩ := (hl.below hbw).range j hlt
        obtain ⟨b2, off2, v, rfl, hv, hr2⟩ := (hm.below hbw).range j hlt
        have HNX := Lib.hid (same_take hu hv hsm)
        have HST := Lib.hid (same_stop hu hv)
        have R1 := Lib.hid hr1
        have R2 := Lib.hid hr2
        have q0 : 0 ≤ (j : Int) := by omega
        have q1 : (j : Int) < n := by omega
        clear hbw hsm hu hv hr1 hr2
        go_wp2
        obtain ⟨Y0, hY0⟩ : ∃ Y, wr.drew = Y := ⟨_, rfl⟩
        have HB0 := Lib.hid (show Below w.heap.size w Y0 by rw [← hY0]; exact HBW.out.drew)
        refine wp_region_held_drew (S := (fun w' => w'.rangeAt b (off + j * 9) u.row ∧ w'.rangeAt b2 (off2 + j * 9) v.row)) (by kernel_rfl) ⟨R1.out, R2.out⟩ (fun hHeld => ?_)
        rw [hY0] at hHeld ⊢
        clear hY0
        refine take_move 0 (.tmp 0) (.slice (some ⟨b, off, none⟩) n c) rfl rfl rfl (by kernel_rfl) (by kernel_rfl) (by kernel_rfl) (fun _ _ _ h => h) rfl hHeld ?_
        simp only [Act.put, List.setIfInBounds_toArray, List.set_cons_zero, List.set_cons_succ]
        refine take_move 1 (.tmp 5) (.int .i64 j) rfl rfl rfl (by kernel_rfl) (by kernel_rfl) (by kernel_rfl) (fun _ _ _ h => h) rfl hHeld ?_
        simp only [Act.put, List.setIfInBounds_toArray, List.set_cons_zero, List.set_cons_succ]
        refine take_run 2 (.pointer (some ⟨b, off + j * 9, none⟩)) rfl (by kernel_rfl) (by kernel_rfl) (by kernel_rfl) (fun _ _ _ h => h) rfl hHeld (fun w => ?_) ?_
        · go_simp
        simp only [Act.put, List.setIfInBounds_toArray, List.set_cons_zero, List.set_cons_succ]
        refine take_if 3 (.agg (enA u)) rfl (by kernel_rfl) (by kernel_rfl) (by kernel_rfl) (fun _ _ _ h => h) rfl hHeld (fun w' hw' => ?_) ?_
        · exact run_load_en rfl rfl hw'.1
        simp only [Act.put, List.setIfInBounds_toArray, List.set_cons_zero, List.set_cons_succ]
        refine take_move 4 (.tmp 1) (.slice (some ⟨b2, off2, none⟩) n d) rfl rfl rfl (by kernel_rfl) (by kernel_rfl) (by kernel_rfl) (fun _ _ _ h => h) rfl hHeld ?_
        simp only [Act.put, List.setIfInBounds_toArray, List.set_cons_zero, List.set_cons_succ]
        refine take_move 5 (.tmp 5) (.int .i64 j) rfl rfl rfl (by kernel_rfl) (by kernel_rfl) (by kernel_rfl) (fun _ _ _ h => h) rfl hHeld ?_
        simp only [Act.put, List.setIfInBounds_toArray, List.set_cons_zero, List.set_cons_succ]
        refine take_run 6 (.pointer (some ⟨b2, off2 + j * 9, none⟩)) rfl (by kernel_rfl) (by kernel_rfl) (by kernel_rfl) (fun _ _ _ h => h) rfl hHeld (fun w => ?_) ?_
        · go_simp
        simp only [Act.put, List.setIfInBounds_toArray, List.set_cons_zero, List.set_cons_succ]
        refine take_if 7 (.agg (enA v)) rfl (by kernel_rfl) (by kernel_rfl) (by kernel_rfl) (fun _ _ _ h => h) rfl hHeld (fun w' hw' => ?_) ?_
        · exact run_load_en rfl rfl hw'.2
        simp only [Act.put, List.setIfInBounds_toArray, List.set_cons_zero, List.set_cons_succ]
        refine take_run 8 (.bool (!decide (u = v))) rfl (by kernel_rfl) (by kernel_rfl) (by kernel_rfl) (fun _ _ _ h => h) rfl hHeld (fun w => ?_) ?_
        · exact run_eq_en rfl rfl rfl (.inr ⟨rfl, rfl⟩) (eq_ens u v w)
        simp only [Act.put, List.setIfInBounds_toArray, List.set_cons_zero, List.set_cons_succ]
        refine wpAnyH_done (by kernel_rfl) ?_ _
        by_cases he : u = v
        · have hd : decide (u = v) = true := decide_eq_true he
          rw [hd]
          have HN2 := Lib.hid (HNX.out he)
          clear hd he HNX HST
          go_wp2
          go_roundw
          case rel => exact ⟨j + 1, by omega, by go_num, HN2.out, HB0.out⟩
          case measure => simp [intOf]; omega
        · have hd : decide (u = v) = false := decide_eq_false he
          rw [hd]
          have HS2 := Lib.hid (HST.out he)
          clear hd he HNX HST
          go_wp2
          go_ret
          exact ⟨by rw [HS2.out]; rfl, HB0.out⟩
      · obtain rfl : j = n := by omega
        rw [List.take_of_length_le (by rw [HL.out]; exact Nat.le_refl _), List.take_of_length_le (by rw [HL2.out]; exact Nat.le_refl _)] at hsm
        have HS := Lib.hid (show sameE l l2 = true by rw [sameE, decide_eq_true_eq]; exact hsm)
        clear hbw hsm
        go_wp2
        go_ret
        exact ⟨by rw [HS.out]; rfl, HBW.out⟩
  · have hne : ((n : Int) != (m : Int)) = true := by rw [bne_iff_ne]; omega
    have hr : false = sameE l l2 := (same_len (by rw [HL.out, HL2.out]; exact hmm)).symm
    have HR := Lib.hid hr
    clear hr
    go_enter Tryd.func35, Tryd.ntmps35
    go_wp2
    go_ret
    exact ⟨congrArg (fun b => Ending.returned (Value.bool b)) HR.out, Below.refl _ _⟩
theorem esame_any (A : Option Addr) (n c : Nat) (l : List En) (B : Option Addr) (m d : Nat) (l2 : List En) (w : World) (hl : Ens w A n c l) (hm : Ens w B m d l2) :
    Calls Tryd.prog 23 #[.slice A n c, .slice B m d] w (GBe (sameE l l2) w) := by
  have HC := Lib.hid (eequal_any A n c l B m d l2 w hl hm)
  obtain ⟨E, hE⟩ : ∃ E, sameE l l2 = E := ⟨_, rfl⟩
  rw [hE] at HC ⊢
  clear hl hm hE
  go_enter Tryd.func23, Tryd.ntmps23
  go_wp2_with (go_at_call 35; refine HC.out.mono ?_; rintro e w1 ⟨rfl, hb4⟩; have HB4 := Lib.hid hb4; clear hb4)
  go_ret
  exact ⟨rfl, HB4.out⟩
end Go.Proofs.YtplfpaclhapldaaDoor

/- copy into the midst of a slice of bytes of the call's own. -/
namespace Go.Proofs.YtplfpaclhapldaaDoor
set_option linter.unusedVariables false
set_option linter.unusedSimpArgs false
open Go.RowKit

theorem take_splice {α : Type} {C L K : List α} {n lo m : Nat} (h : C.take n = L) (hk : K.length = m) (hlo : lo + m ≤ n) (hn : n ≤ C.length) : (splice C lo K).take n = L.take lo ++ K ++ L.drop (lo + m) := by
  subst h
  unfold splice
  rw [List.take_take, Nat.min_eq_left (by omega), List.drop_take, hk]
  have h1 : (C.take lo).length = lo := by rw [List.length_take]; omega
  rw [List.take_append, h1, List.take_append, hk, List.take_of_length_le (l := C.take lo) (by omega), List.take_of_length_le (l := K) (by omega), List.append_assoc]
  congr 3
  omega
theorem wpList_copy_into {w : World} {ops : Array Oper} {rest : List Oper} {o : Oper} {a : Act} {Q : Exit → Act → World → Prop} (hgd : o.guard = none) (d s : Operand)
    (ho : o.op = .call { callee := .builtin .copy, args := #[d, s], argTypes := #[29, 29] })
    (base g n cap : Nat) (l : List Int) (hown : Own w base (.slice (some ⟨g, 0, none⟩) n cap) l) (hln : l.length = n) (lo m c2 : Nat) (hd : a.eval d = .slice (some ⟨g, lo, none⟩) m c2)
    (A : Option Addr) (c : Nat) (k : List Int) (hs : a.eval s = .slice A m c) (hr : Bts w A m c k) (hlo : lo + m ≤ n) (B : Nat) (w0 : World) (hb : Below B w0 w) (hBg : B ≤ g)
    (h : ∀ w', Own w' base (.slice (some ⟨g, 0, none⟩) n cap) (l.take lo ++ k ++ l.drop (lo + m)) → Below B w0 w' → wpList Tryd.prog ops Q rest (a.put o.dst (goInt m)) w') : wpList Tryd.prog ops Q (o :: rest) a w := by
  have hkl := hr.len
  have hcl : (byv k).length = m := by rw [byv_length, hkl]
  rcases hown.2 with ⟨hv, h0⟩ | ⟨g', cap', cur, hv, hbg, hg, hnc, hcm, hcs, htk⟩
  · cases hv
  · injection hv with e1 e2 e3
    injection e1 with e1
    injection e1 with e1 e4 _
    subst e1 e3
    rw [Nat.mul_one] at hcs htk
    rw [hln] at htk hnc
    have hcur : n ≤ cur.toList.length := by rw [Array.length_toList, hcs]; exact hnc
    refine wpList_copy_splice hgd d s 29 29 ho 5 Tryd.underlying29 (by kernel_rfl) (some ⟨g, lo, none⟩) A m c2 m c hd hs g lo cur.toList 5 hg (byv k) (by rw [hcl]; exact (show Nat.min m m = m from Nat.min_self m).symm) ?_ (by rw [hcl]; omega) (byv_one k) B w0 hb hBg ?_
    · intro h0
      rw [hcl] at h0
      obtain ⟨b, off, hA, hc⟩ := hr.at_ h0
      refine ⟨rfl, ⟨b, off, none⟩, hA, fun j v hv => ?_⟩
      have hj : j < k.length := by
        have := (List.getElem?_eq_some_iff.1 hv).1
        rwa [byv_length] at this
      rw [byv_get k j hj] at hv
      have hadd : (⟨b, off, none⟩ : Addr).add j = ⟨b, off + j, none⟩ := by
        unfold Addr.add
        split
        · rename_i h0; subst h0; rfl
        · rfl
      rw [hadd, hc j (by omega), hv]
    · intro w' hw hB
      rw [hcl]
      refine h w' ?_ hB
      have h2 := hw.out
      have hL : (l.take lo ++ k ++ l.drop (lo + m)).length = n := by simp only [List.length_append, List.length_take, List.length_drop]; omega
      refine ⟨by rw [byv_length, Nat.mul_one], .inr ⟨g, cap, (splice cur.toList lo (byv k)).toArray, by rw [hL], hbg, h2, by rw [hL]; exact hnc, hcm, ?_, ?_⟩⟩
      · rw [Nat.mul_one, List.size_toArray, length_splice _ _ _ (by rw [hcl]; omega), Array.length_toList, hcs]
      · rw [Nat.mul_one, hL, List.toList_toArray, take_splice htk hcl hlo hcur, byv_append, byv_append]
        simp [byv, List.map_take, List.map_drop]
end Go.Proofs.YtplfpaclhapldaaDoor

/- The laws' arguments, opened: an entry by value; a slice of entries. -/
namespace Go.Proofs.YtplfpaclhapldaaDoor
set_option maxRecDepth 100000
set_option linter.unusedVariables false
set_option linter.unusedSimpArgs false
open Go.ChangeShapes Go.WideShapes Go.ChangeAt Go.RowKit

theorem cellsEntry : Tryd.prog.cellsOf 28 = 9 := by kernel_rfl
theorem cellsU64e : Tryd.prog.cellsOf 25 = 1 := by kernel_rfl
theorem cellsErrno : Tryd.prog.cellsOf 26 = 1 := by kernel_rfl
theorem at_take_e {l : List Value} {i : Nat} {v : Value} (h : (l.drop i).take 1 = [v]) : l[i]? = some v := by
  have h1 : ((l.drop i).take 1)[0]? = some v := by rw [h]; rfl
  rw [List.getElem?_take, if_pos (by omega), List.getElem?_drop, Nat.add_zero] at h1
  exact h1
theorem add_two9 (b o m i : Nat) : (((⟨b, o, none⟩ : Addr).add m).add i) = ⟨b, o + m + i, none⟩ := by rw [Addr.add_mid, Addr.add_mid]
section
variable {H : Type} {enc : TypeId × Value → H} {W : World} {base : Nat} {spare : Nat → Bool} {held : Bool}
theorem entry_cells (fuel : Nat) (cs : List Value) (x : DataW H × List MemPlace) (hl : cs.length = 9) (h : DataW.trod enc Tryd.prog W base spare held fuel 28 cs = some x) : ∃ u : En, cs = u.row ∧ u.ok := by
  obtain ⟨xs, n, rfl, hx, _, hlen, hg⟩ := DataW.trod_struct Tryd.underlying28 h
  match xs, hlen with
  | [y0, y1, y2, y3, y4, y5, y6, y7, y8], _ =>
    have g0 : DataW.trod enc Tryd.prog W base spare held n 3 ((cs.drop 0).take (Tryd.prog.cellsOf 3)) = some y0 := hg 0 _ rfl
    have g1 : DataW.trod enc Tryd.prog W base spare held n 3 ((cs.drop 1).take (Tryd.prog.cellsOf 3)) = some y1 := hg 1 _ rfl
    have g2 : DataW.trod enc Tryd.prog W base spare held n 3 ((cs.drop 2).take (Tryd.prog.cellsOf 3)) = some y2 := hg 2 _ rfl
    have g3 : DataW.trod enc Tryd.prog W base spare held n 3 ((cs.drop 3).take (Tryd.prog.cellsOf 3)) = some y3 := hg 3 _ rfl
    have g4 : DataW.trod enc Tryd.prog W base spare held n 25 ((cs.drop 4).take (Tryd.prog.cellsOf 25)) = some y4 := hg 4 _ rfl
    have g5 : DataW.trod enc Tryd.prog W base spare held n 25 ((cs.drop 5).take (Tryd.prog.cellsOf 25)) = some y5 := hg 5 _ rfl
    have g6 : DataW.trod enc Tryd.prog W base spare held n 3 ((cs.drop 6).take (Tryd.prog.cellsOf 3)) = some y6 := hg 6 _ rfl
    have g7 : DataW.trod enc Tryd.prog W base spare held n 3 ((cs.drop 7).take (Tryd.prog.cellsOf 3)) = some y7 := hg 7 _ rfl
    have g8 : DataW.trod enc Tryd.prog W base spare held n 26 ((cs.drop 8).take (Tryd.prog.cellsOf 26)) = some y8 := hg 8 _ rfl
    rw [cellsInt] at g0 g1 g2 g3 g6 g7
    rw [cellsU64e] at g4 g5
    rw [cellsErrno] at g8
    obtain ⟨x0, e0, _, w0⟩ := DataW.trod_int Tryd.underlying3 (x := y0) g0
    obtain ⟨x1, e1, _, w1⟩ := DataW.trod_int Tryd.underlying3 (x := y1) g1
    obtain ⟨x2, e2, _, w2⟩ := DataW.trod_int Tryd.underlying3 (x := y2) g2
    obtain ⟨x3, e3, _, w3⟩ := DataW.trod_int Tryd.underlying3 (x := y3) g3
    obtain ⟨x4, e4, _, w4⟩ := DataW.trod_int Tryd.underlying25 (x := y4) g4
    obtain ⟨x5, e5, _, w5⟩ := DataW.trod_int Tryd.underlying25 (x := y5) g5
    obtain ⟨x6, e6, _, w6⟩ := DataW.trod_int Tryd.underlying3 (x := y6) g6
    obtain ⟨x7, e7, _, w7⟩ := DataW.trod_int Tryd.underlying3 (x := y7) g7
    obtain ⟨x8, e8, _, w8⟩ := DataW.trod_int Tryd.underlying26 (x := y8) g8
    have b4 := bounds_u64 w4
    have b5 := bounds_u64 w5
    have q0 := at_take_e e0
    have q1 := at_take_e e1
    have q2 := at_take_e e2
    have q3 := at_take_e e3
    have q4 := at_take_e e4
    have q5 := at_take_e e5
    have q6 := at_take_e e6
    have q7 := at_take_e e7
    have q8 := at_take_e e8
    refine ⟨⟨x0, x1, x2, x3, x4, x5, x6, x7, x8⟩, ?_, ⟨⟨b4.1, Int.lt_of_le_of_lt b4.2 (by decide)⟩, ⟨b5.1, Int.lt_of_le_of_lt b5.2 (by decide)⟩⟩⟩
    match cs, hl with
    | [u0, u1, u2, u3, u4, u5, u6, u7, u8], _ =>
      simp only [List.getElem?_cons_zero, List.getElem?_cons_succ, Option.some.injEq] at q0 q1 q2 q3 q4 q5 q6 q7 q8
      rw [q0, q1, q2, q3, q4, q5, q6, q7, q8]
      rfl
/-- an argument that is an entry -/
theorem open_entry {v : Value} {r : Reach} {b0 : Nat} {d : DataW H} {p : List MemPlace} (hv : Value.okWide Tryd.prog W r b0 28 v) (h : DataW.Trod enc Tryd.prog W base spare held 28 v d p) :
    ∃ u : En, v = enV u ∧ u.ok := by
  obtain ⟨cs, rfl, hsz⟩ := okWide_struct Tryd.underlying28 hv
  obtain ⟨l⟩ := cs
  obtain ⟨fuel, hf⟩ := h
  obtain ⟨u, rfl, hb⟩ := entry_cells fuel l _ (hsz.trans cellsEntry) hf
  exact ⟨u, rfl, hb⟩
/-- an argument that is a slice of entries, each of numbers that fit -/
theorem open_entries_ok {v : Value} {r : Reach} {b0 : Nat} {d : DataW H} {p : List MemPlace} (hv : Value.okWide Tryd.prog W r b0 22 v) (h : DataW.Trod enc Tryd.prog W base spare held 22 v d p) :
    ∃ (A : Option Addr) (n c : Nat) (l : List En), v = .slice A n c ∧ Ens W A n c l ∧ ∀ u ∈ l, u.ok := by
  obtain ⟨A, n, c, rfl⟩ := okWide_slice Tryd.underlying22 hv
  obtain ⟨fuel, hf⟩ := h
  rcases Go.Deep.open_slice Tryd.underlying22 hf with ⟨hcs, _⟩ | ⟨a, len, cap, m, n', D, Pl, hcs, _, hl, hm, hz, _, hx⟩
  · simp only [Value.cells, List.cons.injEq, Value.slice.injEq, and_true] at hcs
    obtain ⟨rfl, rfl, rfl⟩ := hcs
    exact ⟨none, 0, 0, [], rfl, Ens.nil W, fun u hu => by cases hu⟩
  · simp only [Value.cells, List.cons.injEq, Value.slice.injEq, and_true] at hcs
    obtain ⟨rfl, rfl, rfl⟩ := hcs
    have hlm : n ≤ m := by rw [hz]; split <;> omega
    have each : ∀ i, i < n → ∃ u : En, (∀ j, j < 9 → W.cell? ((a.add (i * 9)).add j) = u.row[j]?) ∧ u.ok := by
      intro i hi
      obtain ⟨cs', h1, h2⟩ := hx i (by omega)
      rw [cellsEntry] at h1
      obtain ⟨_, h3, h4⟩ := World.cells?_some h1
      obtain ⟨u, rfl, hb⟩ := entry_cells n' cs' _ h3 h2
      exact ⟨u, h4, hb⟩
    haveI : Inhabited En := ⟨En.zero⟩
    obtain ⟨q, hq⟩ := Go.Deep.choose_lt each
    refine ⟨some a, n, c, (List.range n).map q, rfl, ⟨by simp, ?_, ?_, hl, hm, (fun e => by cases e), ?_⟩, fun u hu => ?_⟩
    · intro r hr
      obtain ⟨u, _, rfl⟩ := List.mem_map.1 hr
      rfl
    · intro r hr v hv
      obtain ⟨u, _, rfl⟩ := List.mem_map.1 hr
      exact row_one9 u v hv
    · intro hn
      obtain ⟨ab, ao, am⟩ := a
      have h0 := (hq 0 hn).1 0 (by omega)
      have ham : am = none := by
        have h1 : (q 0).row[0]? = some (.int .i64 (q 0).kind) := rfl
        rw [h1] at h0
        simpa [Addr.add] using World.cell?_spot h0
      subst ham
      refine ⟨ab, ao, rfl, fun j hj i hi => ?_⟩
      have h1 := (hq j hj).1 i hi
      rw [add_two9] at h1
      rw [h1]
      have hl9 : i < (q j).row.length := hi
      simp [List.getD_eq_getElem?_getD, List.getElem?_range hj, hl9]
    · obtain ⟨i, hi, rfl⟩ := List.mem_map.1 hu
      exact (hq i (List.mem_range.1 hi)).2
/-- an argument that is a slice of entries -/
theorem open_entries {v : Value} {r : Reach} {b0 : Nat} {d : DataW H} {p : List MemPlace} (hv : Value.okWide Tryd.prog W r b0 22 v) (h : DataW.Trod enc Tryd.prog W base spare held 22 v d p) :
    ∃ (A : Option Addr) (n c : Nat) (l : List En), v = .slice A n c ∧ Ens W A n c l := by
  obtain ⟨A, n, c, l, h1, h2, _⟩ := open_entries_ok hv h
  exact ⟨A, n, c, l, h1, h2⟩
end
end Go.Proofs.YtplfpaclhapldaaDoor

/- The laws' arguments, opened: a head; the table of the constants, as the rows list it. -/
namespace Go.Proofs.YtplfpaclhapldaaDoor
set_option maxRecDepth 100000
set_option linter.unusedVariables false
set_option linter.unusedSimpArgs false
open Go.ChangeShapes Go.WideShapes Go.ChangeAt Go.RowKit

theorem gK : Tryd.prog.globalNamed "pelican/sha.constants" = some 0 := by kernel_rfl
theorem gKType : (Tryd.prog.globals[0]?).map (·.type) = some 102 := by kernel_rfl
theorem cells64 : Tryd.prog.cellsOf 102 = 64 := by kernel_rfl
theorem cellsU32 : Tryd.prog.cellsOf 61 = 1 := by kernel_rfl
/-- what the row's list gives -/
theorem table {W : World} (h : laidMetH Tryd.prog Rows.chainTellsRow.laid W) : Lib.TabIs Tryd.prog W "pelican/sha.constants" .u32 kList :=
  Lib.tabIs_of_head (rest := []) gK gKType Tryd.underlying102 Tryd.underlying61 cellsU32 cells64 h
theorem ktab {W : World} (h : laidMetH Tryd.prog Rows.chainTellsRow.laid W) : KTab W := by
  have hc : ∀ j, j < 64 → W.cell? ⟨0, j, none⟩ = some (.int .u32 (kList.getD j 0)) := fun j hj => (table h).cell gK j (by simpa [kList] using hj)
  exact ⟨block_lt_of_cell (hc 0 (by omega)), hc⟩
theorem cellsIdC : Tryd.prog.cellsOf 24 = 32 := by kernel_rfl
theorem at_take_c {l : List Value} {i : Nat} {v : Value} (h : (l.drop i).take 1 = [v]) : l[i]? = some v := by
  have h1 : ((l.drop i).take 1)[0]? = some v := by rw [h]; rfl
  rw [List.getElem?_take, if_pos (by omega), List.getElem?_drop, Nat.add_zero] at h1
  exact h1
section
variable {H : Type} {enc : TypeId × Value → H} {W : World} {base : Nat} {spare : Nat → Bool} {held : Bool}
/-- the cells of a head -/
theorem id_cells {fuel : Nat} {cs : List Value} {x : DataW H × List MemPlace} (hl : cs.length = 32) (h : DataW.trod enc Tryd.prog W base spare held fuel 24 cs = some x) :
    ∃ z : List Int, cs = byv z ∧ z.length = 32 ∧ ∀ j, 0 ≤ z.getD j 0 ∧ z.getD j 0 < 256 := by
  obtain ⟨zs, m, _, _, _, hzl, hz⟩ := DataW.trod_array Tryd.underlying24 h
  have each : ∀ i, i < 32 → ∃ z : Int, cs[i]? = some (.int .u8 z) ∧ (0 ≤ z ∧ z < 256) := by
    intro i hi
    have e := hz i (by omega)
    rw [cellsU8] at e
    obtain ⟨y, hy⟩ : ∃ y, zs[i]? = some y := ⟨_, List.getElem?_eq_getElem (by omega)⟩
    rw [hy] at e
    obtain ⟨z, ez, _, wz⟩ := DataW.trod_int Tryd.underlying5 e
    have bz := bounds_u8 wz
    have qz := at_take_c ez
    rw [Nat.mul_one] at qz
    exact ⟨z, qz, bz.1, by omega⟩
  obtain ⟨q, hq⟩ := Go.Deep.choose_lt each
  refine ⟨(List.range 32).map q, ?_, by simp, ?_⟩
  · apply List.ext_getElem?
    intro i
    by_cases h32 : i < 32
    · rw [(hq i h32).1]
      simp [byv, List.getElem?_range h32]
    · rw [List.getElem?_eq_none (by omega), List.getElem?_eq_none (by simp [byv]; omega)]
  · intro j
    by_cases h32 : j < 32
    · simp only [List.getD_eq_getElem?_getD, List.getElem?_map, List.getElem?_range h32, Option.map_some, Option.getD_some]
      exact (hq j h32).2
    · rw [List.getD_eq_getElem?_getD, List.getElem?_eq_none (by simp; omega)]
      simp
theorem okWide_arr {P : Program} {w : World} {r : Reach} {b0 : Nat} {t e : TypeId} {n : Nat} {v : Value} (ht : P.underlying t = some (.array n e)) (h : Value.okWide P w r b0 t v) : ∃ cs, v = .agg cs ∧ cs.size = P.cellsOf t := by
  simp only [Value.okWide, ht] at h
  obtain ⟨cs, h1, h2, _⟩ := h
  exact ⟨cs, h1, h2⟩
/-- an argument that is a head -/
theorem open_id {v : Value} {r : Reach} {b0 : Nat} {d : DataW H} {p : List MemPlace} (hv : Value.okWide Tryd.prog W r b0 24 v) (h : DataW.Trod enc Tryd.prog W base spare held 24 v d p) :
    ∃ z : List Int, v = .agg (idv z) ∧ z.length = 32 ∧ ∀ j, 0 ≤ z.getD j 0 ∧ z.getD j 0 < 256 := by
  obtain ⟨cs, rfl, hsz⟩ := okWide_arr Tryd.underlying24 hv
  obtain ⟨l⟩ := cs
  obtain ⟨fuel, hf⟩ := h
  obtain ⟨z, rfl, hz⟩ := id_cells (hsz.trans cellsIdC) hf
  exact ⟨z, rfl, hz⟩
end
end Go.Proofs.YtplfpaclhapldaaDoor
