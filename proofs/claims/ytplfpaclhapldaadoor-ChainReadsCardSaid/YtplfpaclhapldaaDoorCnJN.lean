/- Joined texts: The walk over package chain's textOf: the text that stands at the end of records. The walks over the library's bytes.Equal and bytes.Clone. The walks over package chain's Read, Verify and Clash. The walk over package chain's Clash: two texts of one sum. append(v, make([]byte, k)...), v the call's own: k noughts behind. -/
import Derived.Test.YtplfpaclhapldaaDoorCnJH
import Derived.Test.YtplfpaclhapldaaDoorCnJG
import Derived.Test.YtplfpaclhapldaaDoorCnJA
import Derived.Lib.SliceRun
import Derived.Test.YtplfpaclhapldaaDoorCnJM
import Derived.Test.YtplfpaclhapldaaDoorCnJK
import Derived.Test.YtplfpaclhapldaaDoorCnJL
import Derived.Lib.AppendZeros
import Derived.Lib.AppendZerosOnto
/- The walk over package chain's textOf: the text that stands at the end of records. -/
namespace Go.Proofs.YtplfpaclhapldaaDoor
set_option maxRecDepth 100000
set_option linter.unusedVariables false
set_option linter.unusedSimpArgs false
open Go.RowKit

set_option maxRecDepth 100000 in
set_option maxHeartbeats 2000000 in
theorem ctextof_none (A : Option Addr) (c : Nat) (w : World) : Calls Tryd.prog 32 #[.slice A 0 c] w (GT [0] w) := by
  go_enter Tryd.func32, Tryd.ntmps32
  go_wp2
  go_ret
  exact ⟨_, 1, 1, rfl, lit_bts w _ [0] 1 rfl rfl (by unfold maxLen; omega) (text_byte []), one_alloc w _⟩
set_option maxRecDepth 100000 in
set_option maxHeartbeats 2000000 in
theorem ctextof_some (A : Option Addr) (n c : Nat) (b : List Int) (w : World) (hK : KTab w) (hb : Bts w A n c b) (m : Nat) (hm : n = m + 62) (h : m = 0 ∨ 32 ≤ m) :
    Calls Tryd.prog 32 #[.slice A n c] w (GT (textB b) w) := by
  have hn := hb.small
  have hbl := hb.len
  have hne : ¬ b = [] := fun e => by rw [e] at hbl; simp at hbl; omega
  obtain ⟨hc1, hbt1⟩ := run_to hb ((n : Int) - 62) (hi := m) (by omega) (by omega)
  obtain ⟨bb, oo, rfl, hbt2, hcut2⟩ := cut_any hb m 30 (by omega) (by omega)
  have hc2 : ∀ W : World, (Instr.slice 29 (.slice (some ⟨bb, oo, none⟩) n c) (some (.int .i64 ((n : Int) - 62))) (some (.int .i64 ((n : Int) - 62 + 30))) none).run Tryd.prog W = .ok (.slice (some ⟨bb, oo + m, none⟩) 30 (c - m)) W := fun W => hcut2 _ _ W (by omega) (by omega)
  rw [show textB b = 1 :: (headB (b.take m) ++ (b.drop m).take 30) by rw [textB, if_neg hne, hbl, hm, Nat.add_sub_cancel]]
  have HHL := Lib.hid (headB_len (b := b.take m) (by rw [List.length_take]; omega))
  have HHB := Lib.hid (headB_byte (b := b.take m) hbt1.ok)
  have HHD := Lib.hid (fun (W : World) (hk : KTab W) (hb : Bts W (some ⟨bb, oo, none⟩) m c (b.take m)) => cheadof_any (some ⟨bb, oo, none⟩) m c (b.take m) W hk hb h)
  obtain ⟨H, hH⟩ : ∃ H, headB (b.take m) = H := ⟨_, rfl⟩
  obtain ⟨P, hP⟩ : ∃ P, (b.drop m).take 30 = P := ⟨_, rfl⟩
  rw [hH] at HHL HHB HHD
  rw [hP] at hbt2
  rw [hH, hP]
  have HBT1 := Lib.hid hbt1
  have HBT2 := Lib.hid hbt2
  have HK := Lib.hid hK
  have hw0 : IntKind.i64.wrap ((n : Int) - 62) = (n : Int) - 62 := by rw [IntKind.wrap_i64]; omega
  have hw1 : IntKind.i64.wrap ((n : Int) - 62 + 30) = (n : Int) - 62 + 30 := by rw [IntKind.wrap_i64]; omega
  have e0 : ((n : Int) == 0) = false := by rw [beq_eq_false_iff_ne]; omega
  clear hH hP hb hbt1 hbt2 hcut2 hne hK hbl hm h
  go_enter Tryd.func32, Tryd.ntmps32
  go_wp2
  obtain ⟨Y0, hY0⟩ : ∃ Y, w.drew = Y := ⟨_, rfl⟩
  have hSd : Below w.heap.size w Y0 := by rw [← hY0]; exact (Below.refl _ w).drew
  refine wp_region_held_drew (S := (fun w' => Below w.heap.size w w')) (by kernel_rfl) (by rw [hY0]; exact hSd) (fun hHeld => ?_)
  rw [hY0] at hHeld ⊢
  clear hY0
  refine take_move 0 (.tmp 0) (.slice (some ⟨bb, oo, none⟩) n c) rfl rfl rfl (by kernel_rfl) (by kernel_rfl) (by kernel_rfl) (fun _ _ _ h => h) rfl hHeld ?_
  simp only [Act.put, List.setIfInBounds_toArray, List.set_cons_zero, List.set_cons_succ]
  refine take_move 1 (.tmp 3) (.int .i64 ((n : Int) - 62)) rfl rfl rfl (by kernel_rfl) (by kernel_rfl) (by kernel_rfl) (fun _ _ _ h => h) rfl hHeld ?_
  simp only [Act.put, List.setIfInBounds_toArray, List.set_cons_zero, List.set_cons_succ]
  refine take_run 2 (.slice (some ⟨bb, oo, none⟩) m c) rfl (by kernel_rfl) (by kernel_rfl) (by kernel_rfl) (fun _ _ _ h => h) rfl hHeld (fun w => ?_) ?_
  · go_simp
  simp only [Act.put, List.setIfInBounds_toArray, List.set_cons_zero, List.set_cons_succ]
  refine take_move 4 (.tmp 0) (.slice (some ⟨bb, oo, none⟩) n c) rfl rfl rfl (by kernel_rfl) (by kernel_rfl) (by kernel_rfl) (fun _ _ _ h => h) rfl hHeld ?_
  simp only [Act.put, List.setIfInBounds_toArray, List.set_cons_zero, List.set_cons_succ]
  refine take_move 5 (.tmp 3) (.int .i64 ((n : Int) - 62)) rfl rfl rfl (by kernel_rfl) (by kernel_rfl) (by kernel_rfl) (fun _ _ _ h => h) rfl hHeld ?_
  simp only [Act.put, List.setIfInBounds_toArray, List.set_cons_zero, List.set_cons_succ]
  refine take_move 6 (.tmp 3) (.int .i64 ((n : Int) - 62)) rfl rfl rfl (by kernel_rfl) (by kernel_rfl) (by kernel_rfl) (fun _ _ _ h => h) rfl hHeld ?_
  simp only [Act.put, List.setIfInBounds_toArray, List.set_cons_zero, List.set_cons_succ]
  refine take_run 7 (.int .i64 ((n : Int) - 62 + 30)) rfl (by kernel_rfl) (by kernel_rfl) (by kernel_rfl) (fun _ _ _ h => h) rfl hHeld (fun w => ?_) ?_
  · go_simp
  simp only [Act.put, List.setIfInBounds_toArray, List.set_cons_zero, List.set_cons_succ]
  refine take_run 8 (.slice (some ⟨bb, oo + m, none⟩) 30 (c - m)) rfl (by kernel_rfl) (by kernel_rfl) (by kernel_rfl) (fun _ _ _ h => h) rfl hHeld (fun w => ?_) ?_
  · go_simp
  simp only [Act.put, List.setIfInBounds_toArray, List.set_cons_zero, List.set_cons_succ]
  refine one_step 3 (by kernel_rfl) rfl (fun Kq hKq => ?_)
  go_simp
  go_at_call 26
  refine (HHD.out _ (HK.out.from hSd) (HBT1.out.below hSd)).mono ?_
  rintro e w4 ⟨rfl, hb4⟩
  have hS4 : Below w.heap.size w w4 := hSd.trans (hb4.mono hSd.size)
  clear hb4
  refine hKq.out _ _ hS4 (fun hHeld0 => ?_)
  clear hKq Kq hHeld
  have hHeld := hHeld0
  clear hHeld0
  try simp only [Act.put, List.setIfInBounds_toArray, List.set_cons_zero, List.set_cons_succ]
  refine one_step 9 (by kernel_rfl) rfl (fun Kq hKq => ?_)
  go_simp
  go_at_call 28
  refine (ctext_any H _ 30 _ P _ HHL.out HHB.out (HBT2.out.below hS4) (by omega)).mono ?_
  rintro e w5 ⟨A5, m5, c5, rfl, hbt5, hb5⟩
  have hS5 : Below w.heap.size w w5 := hS4.trans (hb5.mono hS4.size)
  clear hb5
  refine hKq.out _ _ hS5 (fun hHeld0 => ?_)
  clear hKq Kq hHeld
  have hHeld := hHeld0
  clear hHeld0
  try simp only [Act.put, List.setIfInBounds_toArray, List.set_cons_zero, List.set_cons_succ]
  refine take_run 10 (.slice A5 m5 c5) rfl (by kernel_rfl) (by kernel_rfl) (by kernel_rfl) (fun _ _ _ h => h) rfl hHeld (fun w => ?_) ?_
  · go_simp
  simp only [Act.put, List.setIfInBounds_toArray, List.set_cons_zero, List.set_cons_succ]
  refine wpAnyH_done (by kernel_rfl) ?_ _
  clear hHeld
  go_wp2
  go_ret
  exact ⟨A5, m5, c5, rfl, hbt5, hS5⟩
theorem ctextof_any (A : Option Addr) (n c : Nat) (b : List Int) (w : World) (hK : KTab w) (hb : Bts w A n c b) (k : Nat) (hk : n = 62 * k) :
    Calls Tryd.prog 32 #[.slice A n c] w (GT (textB b) w) := by
  by_cases h : k = 0
  · subst h
    have hb0 : b = [] := List.eq_nil_of_length_eq_zero (by rw [hb.len]; omega)
    rw [show textB b = [0] by rw [textB, if_pos hb0]]
    subst hk
    exact ctextof_none A c w
  · exact ctextof_some A n c b w hK hb (62 * (k - 1)) (by omega) (by omega)
end Go.Proofs.YtplfpaclhapldaaDoor

/- The walks over the library's bytes.Equal and bytes.Clone. -/
namespace Go.Proofs.YtplfpaclhapldaaDoor
set_option linter.unusedVariables false
set_option linter.unusedSimpArgs false
open Go.RowKit

theorem equal_any (A B : Option Addr) (n c m d : Nat) (a b : List Int) (w : World) (ha : Bts w A n c a) (hb : Bts w B m d b) :
    Calls Tryd.prog 33 #[.slice A n c, .slice B m d] w fun e w' => e = .returned (.bool (a == b)) ∧ w = w' := by
  have k1 := conv_bts ha
  have k2 := conv_bts hb
  have k3 := run_eq_bstr a b ha.ok hb.ok
  obtain ⟨x, hx⟩ : ∃ x, bstr a = x := ⟨_, rfl⟩
  obtain ⟨y, hy⟩ : ∃ x, bstr b = x := ⟨_, rfl⟩
  rw [hx] at k1 k3
  rw [hy] at k2 k3
  have K3 := Lib.hid k3
  clear k3 hx hy ha hb
  go_enter Tryd.func33, Tryd.ntmps33
  go_wp2
  go_ret
  exact ⟨ret_bool K3.out, rfl⟩
theorem none_own (w : World) : Own (w.alloc (.cells #[] 5)) w.heap.size (.slice (some ⟨w.heap.size, 0, none⟩) 0 0) [] :=
  ⟨rfl, .inr ⟨w.heap.size, 0, #[], rfl, Nat.le_refl _, heap_alloc_new w _, Nat.le_refl _, by unfold maxLen; omega, rfl, rfl⟩⟩
end Go.Proofs.YtplfpaclhapldaaDoor

/- The walks over package chain's Read, Verify and Clash. -/
namespace Go.Proofs.YtplfpaclhapldaaDoor
set_option maxRecDepth 100000
set_option linter.unusedVariables false
set_option linter.unusedSimpArgs false
open Go.RowKit

theorem reads_len {b : List Int} (hb : ∀ x ∈ b, 0 ≤ x ∧ x < 256) : headB (b.take (62 * (readC b).length)) = headC (readC b) := by
  rw [← (reads_all hb).2.1, headB_recs]
set_option maxHeartbeats 2000000 in
theorem cread_any (A : Option Addr) (n c : Nat) (b : List Int) (w : World) (hK : KTab w) (hb : Bts w A n c b) :
    Calls Tryd.prog 14 #[.slice A n c] w (GRd (readC b) (headC (readC b)) (readC b).length w) := by
  have hn := hb.small
  have hro := readC_room b
  have hrl := readC_le b
  have hbl := hb.len
  have HRD := Lib.hid (fun (W : World) (hk : KTab W) (h : Bts W A n c b) => cread0_any A n c b W hk h)
  have hrh := reads_len (bytes_mem hb.ok)
  obtain ⟨hcut, hbt⟩ := run_to hb (((readC b).length : Int) * 62) (hi := 62 * (readC b).length) (by omega) (by omega)
  obtain ⟨R, hR⟩ : ∃ R, readC b = R := ⟨_, rfl⟩
  rw [hR] at HRD hro hrl hrh hcut hbt ⊢
  obtain ⟨E, hE⟩ : ∃ E, errC b = E := ⟨_, rfl⟩
  rw [hE] at HRD
  obtain ⟨Z, hZ⟩ : ∃ Z, headC R = Z := ⟨_, rfl⟩
  have HZL := Lib.hid (show Z.length = 32 by rw [← hZ]; exact headC_len _)
  rw [hZ] at hrh ⊢
  have HBT := Lib.hid hbt
  have HHD := Lib.hid (fun (W : World) (hk : KTab W) (hW : Below w.heap.size w W) => cheadof_any A (62 * R.length) c _ W hk (hbt.below hW) (by omega))
  rw [hrh] at HHD
  have HD := Lib.hid hb
  have HK := Lib.hid hK
  have hw0 : IntKind.i64.wrap ((R.length : Int) * 62) = (R.length : Int) * 62 := by rw [IntKind.wrap_i64]; omega
  clear hb hR hE hZ hbt hrh hK hbl
  go_enter Tryd.func14, Tryd.ntmps14
  go_wp2_with (first
    | (go_at_call 30; (with_reducible refine (HRD.out _ (HK.out.from (one_alloc w _)) (HD.out.more _)).mono ?_); rintro e w1 ⟨A5, n5, c5, rfl, hen, hown, hb1⟩
       obtain ⟨hb0, -, hz1⟩ := after_one hb1
       have hz1 : RowB w1 w.heap.size 24 noughtsC := hz1
       have hn5 : R.length = n5 := hen.len
       subst hn5
       have HB1 := Lib.hid hb0
       have hown1 := Lib.hid hown
       rw [size_next] at hown1
       clear hb1 hb0 hen hown)
    | (go_at_call 26; (with_reducible refine (HHD.out _ (HK.out.from HB1.out) HB1.out).mono ?_); rintro e w2 ⟨rfl, hb2⟩
       have hz2 := hz1.keep hb2
       have hown2 := Lib.hid (hown1.out.below hb2)
       have HB2 := Lib.hid (HB1.out.trans (hb2.mono HB1.out.size))
       clear hb2 hz1 hown1)
    | ((with_reducible refine wpList_store_blk rfl 24 _ _ rfl w.heap.size (idv Z) ?hx7 ?hy7 24 _ hz2.is (info32 HZL.out) ?hs7 (idv_one _) ?_); (case hx7 => rfl); (case hy7 => rfl); (case hs7 => rw [idv_size, idv_size, HZL.out]; rfl)
       intro w7 hg7 hX7 hs7))
  have hown7 := hown2.out.far hg7 (ownr_far hown2.out (Nat.lt_succ_self _))
  obtain ⟨A6, n6, c6, he6, hen6⟩ := own_ens hown7
  cases he6
  refine bodyPost_ret (v := .tuple #[.slice A5 R.length c5, .agg (idv Z), .int .i64 ((R.length : Int) * 62)]) ?_ rfl ⟨A5, R.length, c5, by rw [Int.mul_comm], hen6, ?_⟩
  · exact results_tct Tryd.results14 _ _ _ w.heap.size 24 _ (0, 0) _ rfl hX7 Tryd.underlying24 rfl (info32 HZL.out) _ _ rfl rfl
  · exact HB2.out.grown hg7 HB2.out.size (fun k e => by cases e; exact Nat.le_refl _)
theorem ver_all {b : List Int} (hb : ∀ x ∈ b, 0 ≤ x ∧ x < 256) (he : errC b = 0) : headB b = headC (readC b) := by
  have h := (err_ok b).1 he
  have h2 := reads_len hb
  rwa [h, List.take_length] at h2
set_option maxHeartbeats 2000000 in
theorem cver_ok (A : Option Addr) (n c : Nat) (b : List Int) (w : World) (hK : KTab w) (hb : Bts w A n c b) (he : errC b = 0) :
    Calls Tryd.prog 16 #[.slice A n c] w (GV (headC (readC b)) 0 w) := by
  have hn := hb.small
  have hro := (err_ok b).1 he
  have hbl := hb.len
  have HRD := Lib.hid (fun (W : World) (hk : KTab W) (h : Bts W A n c b) => cread0_any A n c b W hk h)
  rw [he] at HRD
  have HHD := Lib.hid (fun (W : World) (hk : KTab W) (h : Bts W A n c b) => cheadof_any A n c b W hk h (by omega))
  rw [ver_all (bytes_mem hb.ok) he] at HHD
  obtain ⟨Z, hZ⟩ : ∃ Z, headC (readC b) = Z := ⟨_, rfl⟩
  have HZL := Lib.hid (show Z.length = 32 by rw [← hZ]; exact headC_len _)
  rw [hZ] at HHD ⊢
  have HD := Lib.hid hb
  have HK := Lib.hid hK
  clear hb hro hbl hZ hK he
  go_enter Tryd.func16, Tryd.ntmps16
  go_wp2_with (first
    | (go_at_call 30; (with_reducible refine (HRD.out _ (HK.out.from (one_alloc w _)) (HD.out.more _)).mono ?_); rintro e w1 ⟨A5, n5, c5, rfl, -, -, hb1⟩
       obtain ⟨hb0, -, hz1⟩ := after_one hb1
       have hz1 : RowB w1 w.heap.size 24 noughtsC := hz1
       have HB1 := Lib.hid hb0
       clear hb1 hb0)
    | (go_at_call 26; (with_reducible refine (HHD.out _ (HK.out.from HB1.out) (HD.out.below HB1.out)).mono ?_); rintro e w2 ⟨rfl, hb2⟩
       have hz2 := hz1.keep hb2
       have HB2 := Lib.hid (HB1.out.trans (hb2.mono HB1.out.size))
       clear hb2 hz1)
    | ((with_reducible refine wpList_store_blk rfl 24 _ _ rfl w.heap.size (idv Z) ?hx7 ?hy7 24 _ hz2.is (info32 HZL.out) ?hs7 (idv_one _) ?_); (case hx7 => rfl); (case hy7 => rfl); (case hs7 => rw [idv_size, idv_size, HZL.out]; rfl)
       intro w7 hg7 hX7 hs7))
  refine bodyPost_ret (v := .tuple #[.agg (idv Z), .int .i64 0]) ?_ rfl ⟨rfl, ?_⟩
  · exact results_blk_tmp Tryd.results16 _ _ _ w.heap.size 24 _ (0, 0) _ rfl hX7 Tryd.underlying24 rfl (info32 HZL.out) _ rfl
  · exact HB2.out.grown hg7 HB2.out.size (fun k e => by cases e; exact Nat.le_refl _)
set_option maxHeartbeats 2000000 in
theorem cver_no (A : Option Addr) (n c : Nat) (b : List Int) (w : World) (hK : KTab w) (hb : Bts w A n c b) (he : errC b ≠ 0) :
    Calls Tryd.prog 16 #[.slice A n c] w (GV noughtsC (errC b) w) := by
  have hn := hb.small
  have HRD := Lib.hid (fun (W : World) (hk : KTab W) (h : Bts W A n c b) => cread0_any A n c b W hk h)
  obtain ⟨E, hE⟩ : ∃ E, errC b = E := ⟨_, rfl⟩
  rw [hE] at HRD he ⊢
  have e0 : (E == 0) = false := by rw [beq_eq_false_iff_ne]; exact he
  have HNL := Lib.hid (show noughtsC.length = 32 from rfl)
  have HD := Lib.hid hb
  have HK := Lib.hid hK
  clear hb hE hK he
  go_enter Tryd.func16, Tryd.ntmps16
  go_wp2_with (first
    | (go_at_call 30; (with_reducible refine (HRD.out _ (HK.out.from (one_alloc w _)) (HD.out.more _)).mono ?_); rintro e w1 ⟨A5, n5, c5, rfl, -, -, hb1⟩
       obtain ⟨hb0, -, hz1⟩ := after_one hb1
       have hz1 : RowB w1 w.heap.size 24 noughtsC := hz1
       have HB1 := Lib.hid hb0
       clear hb1 hb0)
    | ((with_reducible refine wpList_store_blk rfl 24 _ _ rfl w.heap.size (idv noughtsC) ?hx7 ?hy7 24 _ hz1.is (info32 HNL.out) ?hs7 (idv_one _) ?_); (case hx7 => rfl); (case hy7 => rfl); (case hs7 => rfl)
       intro w7 hg7 hX7 hs7))
  refine bodyPost_ret (v := .tuple #[.agg (idv noughtsC), .int .i64 E]) ?_ rfl ⟨rfl, ?_⟩
  · exact results_blk_tmp Tryd.results16 _ _ _ w.heap.size 24 _ (0, 0) _ rfl hX7 Tryd.underlying24 rfl (info32 HNL.out) _ rfl
  · exact HB1.out.grown hg7 HB1.out.size (fun k e => by cases e; exact Nat.le_refl _)
theorem cver_any (A : Option Addr) (n c : Nat) (b : List Int) (w : World) (hK : KTab w) (hb : Bts w A n c b) :
    Calls Tryd.prog 16 #[.slice A n c] w (GV (verC b) (errC b) w) := by
  by_cases he : errC b = 0
  · rw [show verC b = headC (readC b) by rw [verC, if_pos he], he]
    exact cver_ok A n c b w hK hb he
  · rw [show verC b = noughtsC by rw [verC, if_neg he]]
    exact cver_no A n c b w hK hb he
end Go.Proofs.YtplfpaclhapldaaDoor

/- The walk over package chain's Clash: two texts of one sum. -/
namespace Go.Proofs.YtplfpaclhapldaaDoor
set_option maxRecDepth 100000
set_option linter.unusedVariables false
set_option linter.unusedSimpArgs false
open Go.RowKit

set_option maxRecDepth 100000 in
set_option maxHeartbeats 4000000 in
theorem cclash_a (A : Option Addr) (n c : Nat) (a : List En) (B : Option Addr) (m d : Nat) (b : List En) (w : World) (hK : KTab w) (ha : Ens w A n c a) (hb : Ens w B m d b) (oa : ∀ u ∈ a, u.ok) (ob : ∀ u ∈ b, u.ok) (hi : putC a = false) :
    Calls Tryd.prog 19 #[.slice A n c, .slice B m d] w (GC [] [] false w) := by
  have hn := ha.small
  have hm := hb.small
  have HK := Lib.hid hK
  have HA := Lib.hid ha
  have HB := Lib.hid hb
  have HPA := Lib.hid (fun (X : World) (hk : KTab X) (h : Ens X A n c a) => cput_any A n c a X hk h oa)
  have HPB := Lib.hid (fun (X : World) (hk : KTab X) (h : Ens X B m d b) => cput_any B m d b X hk h ob)
  rw [hi] at HPA
  obtain ⟨J, hJ⟩ : ∃ J, putC b = J := ⟨_, rfl⟩
  rw [hJ] at HPB
  obtain ⟨R1, hR1⟩ : ∃ R, (if false = true then recsC a else []) = R := ⟨_, rfl⟩
  obtain ⟨Z1, hZ1⟩ : ∃ R, (if false = true then headC a else noughtsC) = R := ⟨_, rfl⟩
  obtain ⟨R2, hR2⟩ : ∃ R, (if J = true then recsC b else []) = R := ⟨_, rfl⟩
  obtain ⟨Z2, hZ2⟩ : ∃ R, (if J = true then headC b else noughtsC) = R := ⟨_, rfl⟩
  have HZ1 := Lib.hid (show Z1.length = 32 by rw [← hZ1]; split; exact headC_len _; rfl)
  have HZ2 := Lib.hid (show Z2.length = 32 by rw [← hZ2]; split; exact headC_len _; rfl)
  rw [hR1, hZ1] at HPA
  rw [hR2, hZ2] at HPB
  clear ha hb oa ob hK hi hJ hR1 hZ1 hR2 hZ2
  go_enter Tryd.func19, Tryd.ntmps19
  go_wp2
  go_step3
  go_wp2_with (first
    | (go_at_call 10; (with_reducible refine (HPA.out _ HK.out HA.out).mono ?_); rintro e w1 ⟨A1, n1, c1, rfl, hbt1, hb1⟩
       have HB1 := Lib.hid hb1
       have HD1 := Lib.hid hbt1
       clear hb1 hbt1)
    | ((with_reducible refine wpList_store_blk rfl 24 _ _ rfl w1.heap.size (idv Z1) ?hx2 ?hy2 24 _ (heap_alloc_new w1 _) (info32 HZ1.out) ?hs2 (idv_one _) ?_); (case hx2 => rfl); (case hy2 => rfl); (case hs2 => rw [idv_size, HZ1.out]; rfl)
       intro w2 hg2 hX2 hs2
       have hb2 : Below w1.heap.size w1 w2 := Below.grows (one_alloc w1 _) hg2 (size_le_alloc _ _) (Nat.le_refl _)
       have hX2 : RowB w2 w1.heap.size 24 Z1 := hX2
       have HD2 := Lib.hid (HD1.out.below hb2)
       have HB2 := Lib.hid (HB1.out.trans (hb2.mono HB1.out.size))
       clear hb2 hg2 hs2)
    | (go_at_call 10; (with_reducible refine (HPB.out _ (HK.out.from HB2.out) (HB.out.below HB2.out)).mono ?_); rintro e w3 ⟨A3, n3, c3, rfl, hbt3, hb3⟩
       have hX3 := hX2.keep hb3
       have HD3 := Lib.hid (HD2.out.below hb3)
       have HE3 := Lib.hid hbt3
       have HB3 := Lib.hid (HB2.out.trans (hb3.mono HB2.out.size))
       clear hb3 hbt3 hX2)
    | ((with_reducible refine wpList_store_blk rfl 24 _ _ rfl w3.heap.size (idv Z2) ?hx4 ?hy4 24 _ (heap_alloc_new w3 _) (info32 HZ2.out) ?hs4 (idv_one _) ?_); (case hx4 => rfl); (case hy4 => rfl); (case hs4 => rw [idv_size, HZ2.out]; rfl)
       intro w4 hg4 hX4 hs4
       have hb4 : Below w3.heap.size w3 w4 := Below.grows (one_alloc w3 _) hg4 (size_le_alloc _ _) (Nat.le_refl _)
       have hX4 : RowB w4 w3.heap.size 24 Z2 := hX4
       have hX5 := hX3.keep hb4
       have HD4 := Lib.hid (HD3.out.below hb4)
       have HE4 := Lib.hid (HE3.out.below hb4)
       have HB4 := Lib.hid (HB3.out.trans (hb4.mono HB3.out.size))
       clear hb4 hg4 hs4 hX3))
  try rw [Exit.noGoto_ret]
  exact bodyPost_ret (v := .tuple #[.slice none 0 0, .slice none 0 0, .bool false]) (results_ttt Tryd.results19 _ _ _ _ _ _ rfl rfl rfl) rfl ⟨none, 0, 0, none, 0, 0, rfl, Bts.nil _, Bts.nil _, HB4.out⟩
set_option maxRecDepth 100000 in
set_option maxHeartbeats 4000000 in
theorem cclash_b (A : Option Addr) (n c : Nat) (a : List En) (B : Option Addr) (m d : Nat) (b : List En) (w : World) (hK : KTab w) (ha : Ens w A n c a) (hb : Ens w B m d b) (oa : ∀ u ∈ a, u.ok) (ob : ∀ u ∈ b, u.ok) (hi : putC a = true) (hj : putC b = false) :
    Calls Tryd.prog 19 #[.slice A n c, .slice B m d] w (GC [] [] false w) := by
  have hn := ha.small
  have hm := hb.small
  have HK := Lib.hid hK
  have HA := Lib.hid ha
  have HB := Lib.hid hb
  have HPA := Lib.hid (fun (X : World) (hk : KTab X) (h : Ens X A n c a) => cput_any A n c a X hk h oa)
  have HPB := Lib.hid (fun (X : World) (hk : KTab X) (h : Ens X B m d b) => cput_any B m d b X hk h ob)
  rw [hi] at HPA
  rw [hj] at HPB
  obtain ⟨R1, hR1⟩ : ∃ R, (if true = true then recsC a else []) = R := ⟨_, rfl⟩
  obtain ⟨Z1, hZ1⟩ : ∃ R, (if true = true then headC a else noughtsC) = R := ⟨_, rfl⟩
  obtain ⟨R2, hR2⟩ : ∃ R, (if false = true then recsC b else []) = R := ⟨_, rfl⟩
  obtain ⟨Z2, hZ2⟩ : ∃ R, (if false = true then headC b else noughtsC) = R := ⟨_, rfl⟩
  have HZ1 := Lib.hid (show Z1.length = 32 by rw [← hZ1]; split; exact headC_len _; rfl)
  have HZ2 := Lib.hid (show Z2.length = 32 by rw [← hZ2]; split; exact headC_len _; rfl)
  rw [hR1, hZ1] at HPA
  rw [hR2, hZ2] at HPB
  clear ha hb oa ob hK hi hj hR1 hZ1 hR2 hZ2
  go_enter Tryd.func19, Tryd.ntmps19
  go_wp2
  go_step3
  go_wp2_with (first
    | (go_at_call 10; (with_reducible refine (HPA.out _ HK.out HA.out).mono ?_); rintro e w1 ⟨A1, n1, c1, rfl, hbt1, hb1⟩
       have HB1 := Lib.hid hb1
       have HD1 := Lib.hid hbt1
       clear hb1 hbt1)
    | ((with_reducible refine wpList_store_blk rfl 24 _ _ rfl w1.heap.size (idv Z1) ?hx2 ?hy2 24 _ (heap_alloc_new w1 _) (info32 HZ1.out) ?hs2 (idv_one _) ?_); (case hx2 => rfl); (case hy2 => rfl); (case hs2 => rw [idv_size, HZ1.out]; rfl)
       intro w2 hg2 hX2 hs2
       have hb2 : Below w1.heap.size w1 w2 := Below.grows (one_alloc w1 _) hg2 (size_le_alloc _ _) (Nat.le_refl _)
       have hX2 : RowB w2 w1.heap.size 24 Z1 := hX2
       have HD2 := Lib.hid (HD1.out.below hb2)
       have HB2 := Lib.hid (HB1.out.trans (hb2.mono HB1.out.size))
       clear hb2 hg2 hs2)
    | (go_at_call 10; (with_reducible refine (HPB.out _ (HK.out.from HB2.out) (HB.out.below HB2.out)).mono ?_); rintro e w3 ⟨A3, n3, c3, rfl, hbt3, hb3⟩
       have hX3 := hX2.keep hb3
       have HD3 := Lib.hid (HD2.out.below hb3)
       have HE3 := Lib.hid hbt3
       have HB3 := Lib.hid (HB2.out.trans (hb3.mono HB2.out.size))
       clear hb3 hbt3 hX2)
    | ((with_reducible refine wpList_store_blk rfl 24 _ _ rfl w3.heap.size (idv Z2) ?hx4 ?hy4 24 _ (heap_alloc_new w3 _) (info32 HZ2.out) ?hs4 (idv_one _) ?_); (case hx4 => rfl); (case hy4 => rfl); (case hs4 => rw [idv_size, HZ2.out]; rfl)
       intro w4 hg4 hX4 hs4
       have hb4 : Below w3.heap.size w3 w4 := Below.grows (one_alloc w3 _) hg4 (size_le_alloc _ _) (Nat.le_refl _)
       have hX4 : RowB w4 w3.heap.size 24 Z2 := hX4
       have hX5 := hX3.keep hb4
       have HD4 := Lib.hid (HD3.out.below hb4)
       have HE4 := Lib.hid (HE3.out.below hb4)
       have HB4 := Lib.hid (HB3.out.trans (hb4.mono HB3.out.size))
       clear hb4 hg4 hs4 hX3))
  try rw [Exit.noGoto_ret]
  exact bodyPost_ret (v := .tuple #[.slice none 0 0, .slice none 0 0, .bool false]) (results_ttt Tryd.results19 _ _ _ _ _ _ rfl rfl rfl) rfl ⟨none, 0, 0, none, 0, 0, rfl, Bts.nil _, Bts.nil _, HB4.out⟩
set_option maxRecDepth 100000 in
set_option maxHeartbeats 8000000 in
theorem cclash_c (A : Option Addr) (n c : Nat) (a : List En) (B : Option Addr) (m d : Nat) (b : List En) (w : World) (hK : KTab w) (ha : Ens w A n c a) (hb : Ens w B m d b) (oa : ∀ u ∈ a, u.ok) (ob : ∀ u ∈ b, u.ok) (hi : putC a = true) (hj : putC b = true) (hD : decide (headC a = headC b) = false) :
    Calls Tryd.prog 19 #[.slice A n c, .slice B m d] w (GC [] [] false w) := by
  have hn := ha.small
  have hm := hb.small
  have HK := Lib.hid hK
  have HA := Lib.hid ha
  have HB := Lib.hid hb
  have HPA := Lib.hid (fun (X : World) (hk : KTab X) (h : Ens X A n c a) => cput_any A n c a X hk h oa)
  have HPB := Lib.hid (fun (X : World) (hk : KTab X) (h : Ens X B m d b) => cput_any B m d b X hk h ob)
  rw [hi] at HPA
  rw [hj] at HPB
  rw [if_pos rfl, if_pos rfl] at HPA HPB
  obtain ⟨R1, hR1⟩ : ∃ R, recsC a = R := ⟨_, rfl⟩
  obtain ⟨Z1, hZ1⟩ : ∃ R, headC a = R := ⟨_, rfl⟩
  obtain ⟨R2, hR2⟩ : ∃ R, recsC b = R := ⟨_, rfl⟩
  obtain ⟨Z2, hZ2⟩ : ∃ R, headC b = R := ⟨_, rfl⟩
  have HZ1 := Lib.hid (show Z1.length = 32 by rw [← hZ1]; exact headC_len _)
  have HZ2 := Lib.hid (show Z2.length = 32 by rw [← hZ2]; exact headC_len _)
  rw [hZ1, hZ2] at hD
  have HQ := Lib.hid (show ∀ w, (Op.equalIn 10000 24 (.agg (idv Z1)) (.agg (idv Z2))).run Tryd.prog w = .ok false w from fun w => by rw [eq_ids _ _ HZ1.out HZ2.out, hD])
  rw [hR1, hZ1] at HPA
  rw [hR2, hZ2] at HPB
  clear ha hb oa ob hK hi hj hR1 hZ1 hR2 hZ2 hD
  go_enter Tryd.func19, Tryd.ntmps19
  go_wp2
  go_step3
  go_wp2_with (first
    | (go_at_call 10; (with_reducible refine (HPA.out _ HK.out HA.out).mono ?_); rintro e w1 ⟨A1, n1, c1, rfl, hbt1, hb1⟩
       have HB1 := Lib.hid hb1
       have HD1 := Lib.hid hbt1
       clear hb1 hbt1)
    | ((with_reducible refine wpList_store_blk rfl 24 _ _ rfl w1.heap.size (idv Z1) ?hx2 ?hy2 24 _ (heap_alloc_new w1 _) (info32 HZ1.out) ?hs2 (idv_one _) ?_); (case hx2 => rfl); (case hy2 => rfl); (case hs2 => rw [idv_size, HZ1.out]; rfl)
       intro w2 hg2 hX2 hs2
       have hb2 : Below w1.heap.size w1 w2 := Below.grows (one_alloc w1 _) hg2 (size_le_alloc _ _) (Nat.le_refl _)
       have hX2 : RowB w2 w1.heap.size 24 Z1 := hX2
       have HD2 := Lib.hid (HD1.out.below hb2)
       have HB2 := Lib.hid (HB1.out.trans (hb2.mono HB1.out.size))
       clear hb2 hg2 hs2)
    | (go_at_call 10; (with_reducible refine (HPB.out _ (HK.out.from HB2.out) (HB.out.below HB2.out)).mono ?_); rintro e w3 ⟨A3, n3, c3, rfl, hbt3, hb3⟩
       have hX3 := hX2.keep hb3
       have HD3 := Lib.hid (HD2.out.below hb3)
       have HE3 := Lib.hid hbt3
       have HB3 := Lib.hid (HB2.out.trans (hb3.mono HB2.out.size))
       clear hb3 hbt3 hX2)
    | ((with_reducible refine wpList_store_blk rfl 24 _ _ rfl w3.heap.size (idv Z2) ?hx4 ?hy4 24 _ (heap_alloc_new w3 _) (info32 HZ2.out) ?hs4 (idv_one _) ?_); (case hx4 => rfl); (case hy4 => rfl); (case hs4 => rw [idv_size, HZ2.out]; rfl)
       intro w4 hg4 hX4 hs4
       have hb4 : Below w3.heap.size w3 w4 := Below.grows (one_alloc w3 _) hg4 (size_le_alloc _ _) (Nat.le_refl _)
       have hX4 : RowB w4 w3.heap.size 24 Z2 := hX4
       have hX5 := hX3.keep hb4
       have HD4 := Lib.hid (HD3.out.below hb4)
       have HE4 := Lib.hid (HE3.out.below hb4)
       have HB4 := Lib.hid (HB3.out.trans (hb4.mono HB3.out.size))
       clear hb4 hg4 hs4 hX3)
    | ((with_reducible refine wpList_load_blk 24 _ rfl w1.heap.size ?hx5 24 (idv Z1) (0, 0) _ hX5.is Tryd.underlying24 ?hd5 (info32 HZ1.out) ?_ ?hw5); (case hx5 => rfl); (case hd5 => rfl); (case hw5 => rfl))
    | ((with_reducible refine wpList_load_blk 24 _ rfl w3.heap.size ?hx6 24 (idv Z2) (0, 0) _ hX4.is Tryd.underlying24 ?hd6 (info32 HZ2.out) ?_ ?hw6); (case hx6 => rfl); (case hd6 => rfl); (case hw6 => rfl))
    | ((with_reducible refine wpList_eq_id .neq _ _ rfl (idv Z1) (idv Z2) ?hx7 ?hy7 false true (.inr ⟨rfl, rfl⟩) (fun w => HQ.out w) ?_ ?hw7); (case hx7 => rfl); (case hy7 => rfl); (case hw7 => rfl)))
  try rw [Exit.noGoto_ret]
  exact bodyPost_ret (v := .tuple #[.slice none 0 0, .slice none 0 0, .bool false]) (results_ttt Tryd.results19 _ _ _ _ _ _ rfl rfl rfl) rfl ⟨none, 0, 0, none, 0, 0, rfl, Bts.nil _, Bts.nil _, HB4.out⟩
set_option maxRecDepth 100000 in
set_option maxHeartbeats 8000000 in
theorem cclash_d (A : Option Addr) (n c : Nat) (a : List En) (B : Option Addr) (m d : Nat) (b : List En) (w : World) (hK : KTab w) (ha : Ens w A n c a) (hb : Ens w B m d b) (oa : ∀ u ∈ a, u.ok) (ob : ∀ u ∈ b, u.ok) (hi : putC a = true) (hj : putC b = true) (hD : decide (headC a = headC b) = true) :
    Calls Tryd.prog 19 #[.slice A n c, .slice B m d] w (GC (clashP a b).1 (clashP a b).2 (clashB a b) w) := by
  have hn := ha.small
  have hm := hb.small
  have HK := Lib.hid hK
  have HA := Lib.hid ha
  have HB := Lib.hid hb
  have HPA := Lib.hid (fun (X : World) (hk : KTab X) (h : Ens X A n c a) => cput_any A n c a X hk h oa)
  have HPB := Lib.hid (fun (X : World) (hk : KTab X) (h : Ens X B m d b) => cput_any B m d b X hk h ob)
  rw [hi] at HPA
  rw [hj] at HPB
  rw [if_pos rfl, if_pos rfl] at HPA HPB
  have hma := putC_may hi
  have hmb := putC_may hj
  have hhh := of_decide_eq_true hD
  have HBO := Lib.hid (fun (i k : Nat) (h : Back a b i k) (ht : ¬ textC (a.take i) = textC (b.take k)) => back_off h hi hj hhh ht)
  have HBN := Lib.hid (fun (k : Nat) (h : Back a b 0 k) (ht : textC (a.take 0) = textC (b.take k)) => back_none h ht)
  have HBG := Lib.hid (fun (i k : Nat) (h : Back a b (i + 1) k) (ht : textC (a.take (i + 1)) = textC (b.take k)) => back_on h hma.1 hmb.1 oa ob ht)
  have HR1 := Lib.hid (show (recsC a).length = 62 * a.length by rw [recsC, recsF_len])
  have HR2 := Lib.hid (show (recsC b).length = 62 * b.length by rw [recsC, recsF_len])
  have HLA := Lib.hid hma.2
  have HLB := Lib.hid hmb.2
  have HUA := Lib.hid (fun (k : Nat) => @recs_upto a k)
  have HUB := Lib.hid (fun (k : Nat) => @recs_upto b k)
  obtain ⟨C1, hC1⟩ : ∃ X, (clashP a b).1 = X := ⟨_, rfl⟩
  obtain ⟨C2, hC2⟩ : ∃ X, (clashP a b).2 = X := ⟨_, rfl⟩
  obtain ⟨CB, hCB⟩ : ∃ X, clashB a b = X := ⟨_, rfl⟩
  rw [hC1, hC2, hCB]
  have HC := Lib.hid (⟨hC1, hC2, hCB⟩ : (clashP a b).1 = C1 ∧ (clashP a b).2 = C2 ∧ clashB a b = CB)
  clear hC1 hC2 hCB hma hmb hhh
  obtain ⟨R1, hR1⟩ : ∃ R, recsC a = R := ⟨_, rfl⟩
  obtain ⟨Z1, hZ1⟩ : ∃ R, headC a = R := ⟨_, rfl⟩
  obtain ⟨R2, hR2⟩ : ∃ R, recsC b = R := ⟨_, rfl⟩
  obtain ⟨Z2, hZ2⟩ : ∃ R, headC b = R := ⟨_, rfl⟩
  have HZ1 := Lib.hid (show Z1.length = 32 by rw [← hZ1]; exact headC_len _)
  have HZ2 := Lib.hid (show Z2.length = 32 by rw [← hZ2]; exact headC_len _)
  rw [hZ1, hZ2] at hD
  have HQ := Lib.hid (show ∀ w, (Op.equalIn 10000 24 (.agg (idv Z1)) (.agg (idv Z2))).run Tryd.prog w = .ok true w from fun w => by rw [eq_ids _ _ HZ1.out HZ2.out, hD])
  rw [hR1, hZ1] at HPA
  rw [hR2, hZ2] at HPB
  rw [hR1] at HR1 HUA
  rw [hR2] at HR2 HUB
  clear ha hb oa ob hK hi hj hR1 hZ1 hR2 hZ2 hD
  go_enter Tryd.func19, Tryd.ntmps19
  go_wp2
  go_step3
  go_wp2_with (first
    | (go_at_call 10; (with_reducible refine (HPA.out _ HK.out HA.out).mono ?_); rintro e w1 ⟨A1, n1, c1, rfl, hbt1, hb1⟩
       have HB1 := Lib.hid hb1
       have HD1 := Lib.hid hbt1
       clear hb1 hbt1)
    | ((with_reducible refine wpList_store_blk rfl 24 _ _ rfl w1.heap.size (idv Z1) ?hx2 ?hy2 24 _ (heap_alloc_new w1 _) (info32 HZ1.out) ?hs2 (idv_one _) ?_); (case hx2 => rfl); (case hy2 => rfl); (case hs2 => rw [idv_size, HZ1.out]; rfl)
       intro w2 hg2 hX2 hs2
       have hb2 : Below w1.heap.size w1 w2 := Below.grows (one_alloc w1 _) hg2 (size_le_alloc _ _) (Nat.le_refl _)
       have hX2 : RowB w2 w1.heap.size 24 Z1 := hX2
       have HD2 := Lib.hid (HD1.out.below hb2)
       have HB2 := Lib.hid (HB1.out.trans (hb2.mono HB1.out.size))
       clear hb2 hg2 hs2)
    | (go_at_call 10; (with_reducible refine (HPB.out _ (HK.out.from HB2.out) (HB.out.below HB2.out)).mono ?_); rintro e w3 ⟨A3, n3, c3, rfl, hbt3, hb3⟩
       have hX3 := hX2.keep hb3
       have HD3 := Lib.hid (HD2.out.below hb3)
       have HE3 := Lib.hid hbt3
       have HB3 := Lib.hid (HB2.out.trans (hb3.mono HB2.out.size))
       clear hb3 hbt3 hX2)
    | ((with_reducible refine wpList_store_blk rfl 24 _ _ rfl w3.heap.size (idv Z2) ?hx4 ?hy4 24 _ (heap_alloc_new w3 _) (info32 HZ2.out) ?hs4 (idv_one _) ?_); (case hx4 => rfl); (case hy4 => rfl); (case hs4 => rw [idv_size, HZ2.out]; rfl)
       intro w4 hg4 hX4 hs4
       have hb4 : Below w3.heap.size w3 w4 := Below.grows (one_alloc w3 _) hg4 (size_le_alloc _ _) (Nat.le_refl _)
       have hX4 : RowB w4 w3.heap.size 24 Z2 := hX4
       have hX5 := hX3.keep hb4
       have HD4 := Lib.hid (HD3.out.below hb4)
       have HE4 := Lib.hid (HE3.out.below hb4)
       have HB4 := Lib.hid (HB3.out.trans (hb4.mono HB3.out.size))
       clear hb4 hg4 hs4 hX3)
    | ((with_reducible refine wpList_load_blk 24 _ rfl w1.heap.size ?hx5 24 (idv Z1) (0, 0) _ hX5.is Tryd.underlying24 ?hd5 (info32 HZ1.out) ?_ ?hw5); (case hx5 => rfl); (case hd5 => rfl); (case hw5 => rfl))
    | ((with_reducible refine wpList_load_blk 24 _ rfl w3.heap.size ?hx6 24 (idv Z2) (0, 0) _ hX4.is Tryd.underlying24 ?hd6 (info32 HZ2.out) ?_ ?hw6); (case hx6 => rfl); (case hd6 => rfl); (case hw6 => rfl))
    | ((with_reducible refine wpList_eq_id .neq _ _ rfl (idv Z1) (idv Z2) ?hx7 ?hy7 true false (.inr ⟨rfl, rfl⟩) (fun w => HQ.out w) ?_ ?hw7); (case hx7 => rfl); (case hy7 => rfl); (case hw7 => rfl)))
  clear hX4 hX5
  have hn1 : n1 = 62 * a.length := HD4.out.len.symm.trans HR1.out
  have hn3 : n3 = 62 * b.length := HE4.out.len.symm.trans HR2.out
  have HN1 := Lib.hid hn1
  have HN3 := Lib.hid hn3
  clear hn1 hn3
  go_step3
  go_wp2
  go_loopw [7, 10, 13, 14] (fun p q s t wr => ∃ i k u v : Nat, Back a b i k ∧ u = 62 * i ∧ v = 62 * k ∧ p = .slice A1 u c1 ∧ q = .slice A3 v c3 ∧ Below w4.heap.size w4 wr) (fun p _ _ _ _ => lenOf p)
  case atStart => exact ⟨_, _, n1, n3, back_start a b, HN1.out, HN3.out, rfl, rfl, Below.refl _ _⟩
  case round =>
    obtain ⟨i, k, u, v, hbk, hu, hv, rfl, rfl, hB⟩ := hrel
    have hia := hbk.1
    have hkb := hbk.2.1
    have hla := HLA.out
    have hlb := HLB.out
    have hbt1 := (run_to (HD4.out.below hB) (u : Int) (hi := u) rfl (by have := HN1.out; omega)).2
    have hbt3 := (run_to (HE4.out.below hB) (v : Int) (hi := v) rfl (by have := HN3.out; omega)).2
    have hq1 : R1.take u = recsC (a.take i) := by rw [hu]; exact HUA.out i hia
    have hq3 : R2.take v = recsC (b.take k) := by rw [hv]; exact HUB.out k hkb
    rw [hq1] at hbt1
    rw [hq3] at hbt3
    have HKr := Lib.hid ((HK.out.from HB4.out).from hB)
    have HT1 := Lib.hid (fun (W : World) (hW : Below wr.heap.size wr W) => ctextof_any A1 u c1 _ W (HKr.out.from hW) (hbt1.below hW) i hu)
    have HT3 := Lib.hid (fun (W : World) (hW : Below wr.heap.size wr W) => ctextof_any A3 v c3 _ W (HKr.out.from hW) (hbt3.below hW) k hv)
    rw [textB_recs] at HT1 HT3
    obtain ⟨S, hS⟩ : ∃ S, textC (a.take i) = S := ⟨_, rfl⟩
    obtain ⟨T, hT⟩ : ∃ T, textC (b.take k) = T := ⟨_, rfl⟩
    rw [hS] at HT1
    rw [hT] at HT3
    have HS := Lib.hid hS
    have HT := Lib.hid hT
    have HBK := Lib.hid hbk
    have HU := Lib.hid hu
    have HV := Lib.hid hv
    have HBr := Lib.hid hB
    have HIA := Lib.hid hia
    have HKB := Lib.hid hkb
    have HU264 := Lib.hid (show u ≤ 16368 ∧ v ≤ 16368 by omega)
    clear hbk hu hv hia hkb hla hlb hbt1 hbt3 hq1 hq3 hS hT hB
    obtain ⟨D, hD⟩ : ∃ D, (S == T) = D := ⟨_, rfl⟩
    have HDD := Lib.hid hD
    clear hD
    cases D with
    | false =>
      go_wp2_with (first
        | (go_at_call 32; (with_reducible refine (HT1.out _ (Below.refl _ _)).mono ?_); rintro e w5 ⟨A5, n5, c5, rfl, hbt5, hb5⟩
           have HB5 := Lib.hid hb5
           have HS5 := Lib.hid hbt5
           clear hb5 hbt5)
        | (go_at_call 32; (with_reducible refine (HT3.out _ HB5.out).mono ?_); rintro e w6 ⟨A6, n6, c6, rfl, hbt6, hb6⟩
           have HB6 := Lib.hid (HB5.out.trans (hb6.mono HB5.out.size))
           have HS6 := Lib.hid (HS5.out.below hb6)
           have HT6 := Lib.hid hbt6
           clear hb6 hbt6)
        | (go_at_call 33; (with_reducible refine (equal_any _ _ _ _ _ _ S T _ HS6.out HT6.out).mono ?_); rintro e w7 ⟨he, rfl⟩
           rw [HDD.out] at he
           subst he))
      have hne : ¬ S = T := by have := HDD.out; rwa [beq_eq_false_iff_ne] at this
      obtain ⟨h1, h2⟩ := HBO.out i k HBK.out (by rw [HS.out, HT.out]; exact hne)
      rw [HS.out, HT.out] at h2
      obtain ⟨k1, k2, k3⟩ := HC.out
      rw [h2] at k1 k2
      rw [h1] at k3
      subst k1 k2 k3
      rw [Exit.noGoto_ret]
      exact bodyPost_ret (v := .tuple #[.slice A5 n5 c5, .slice A6 n6 c6, .bool true]) (results_ttt Tryd.results19 _ _ _ _ _ _ rfl rfl rfl) rfl ⟨A5, n5, c5, A6, n6, c6, rfl, HS6.out, HT6.out, HB4.out.trans ((HBr.out.trans (HB6.out.mono HBr.out.size)).mono HB4.out.size)⟩
    | true =>
      have hst : S = T := by have := HDD.out; rwa [beq_iff_eq] at this
      by_cases h0 : u = 0
      · have hi0 : i = 0 := by have := HU.out; omega
        subst h0 hi0
        have hnn := HBN.out k HBK.out (by rw [HS.out, HT.out]; exact hst)
        have HNN := Lib.hid hnn
        clear hst hnn
        go_wp2_with (first
          | (go_at_call 32; (with_reducible refine (HT1.out _ (Below.refl _ _)).mono ?_); rintro e w5 ⟨A5, n5, c5, rfl, hbt5, hb5⟩
             have HB5 := Lib.hid hb5
             have HS5 := Lib.hid hbt5
             clear hb5 hbt5)
          | (go_at_call 32; (with_reducible refine (HT3.out _ HB5.out).mono ?_); rintro e w6 ⟨A6, n6, c6, rfl, hbt6, hb6⟩
             have HB6 := Lib.hid (HB5.out.trans (hb6.mono HB5.out.size))
             have HS6 := Lib.hid (HS5.out.below hb6)
             have HT6 := Lib.hid hbt6
             clear hb6 hbt6)
          | (go_at_call 33; (with_reducible refine (equal_any _ _ _ _ _ _ S T _ HS6.out HT6.out).mono ?_); rintro e w7 ⟨he, rfl⟩
             rw [HDD.out] at he
             subst he))
        obtain ⟨h1, h2⟩ := HNN.out
        obtain ⟨k1, k2, k3⟩ := HC.out
        rw [h2] at k1 k2
        rw [h1] at k3
        subst k1 k2 k3
        rw [Exit.noGoto_ret]
        exact bodyPost_ret (v := .tuple #[.slice none 0 0, .slice none 0 0, .bool false]) (results_ttt Tryd.results19 _ _ _ _ _ _ rfl rfl rfl) rfl ⟨none, 0, 0, none, 0, 0, rfl, Bts.nil _, Bts.nil _, HB4.out.trans ((HBr.out.trans (HB6.out.mono HBr.out.size)).mono HB4.out.size)⟩
      · obtain ⟨i', rfl⟩ : ∃ j, i = j + 1 := ⟨i - 1, by have := HU.out; omega⟩
        obtain ⟨k', rfl, hbk'⟩ := HBG.out i' k HBK.out (by rw [HS.out, HT.out]; exact hst)
        have hu := HU.out
        have hv := HV.out
        have hbu := (run_to (HD4.out.below HBr.out) (u : Int) (hi := u) rfl (by have := HN1.out; have := HIA.out; omega)).2
        have hbv := (run_to (HE4.out.below HBr.out) (v : Int) (hi := v) rfl (by have := HN3.out; have := HKB.out; omega)).2
        have hcu := (run_to hbu ((u : Int) - 62) (hi := 62 * i') (by omega) (by omega)).1
        have hcv := (run_to hbv ((v : Int) - 62) (hi := 62 * k') (by omega) (by omega)).1
        have hwu : IntKind.i64.wrap ((u : Int) - 62) = (u : Int) - 62 := by have := HU264.out; rw [IntKind.wrap_i64]; omega
        have hwv : IntKind.i64.wrap ((v : Int) - 62) = (v : Int) - 62 := by have := HU264.out; rw [IntKind.wrap_i64]; omega
        have e0 : ((u : Int) == 0) = false := by rw [beq_eq_false_iff_ne]; omega
        have HBK2 := Lib.hid hbk'
        clear hu hv hbu hbv hst h0 hbk'
        go_wp2_with (first
          | (go_at_call 32; (with_reducible refine (HT1.out _ (Below.refl _ _)).mono ?_); rintro e w5 ⟨A5, n5, c5, rfl, hbt5, hb5⟩
             have HB5 := Lib.hid hb5
             have HS5 := Lib.hid hbt5
             clear hb5 hbt5)
          | (go_at_call 32; (with_reducible refine (HT3.out _ HB5.out).mono ?_); rintro e w6 ⟨A6, n6, c6, rfl, hbt6, hb6⟩
             have HB6 := Lib.hid (HB5.out.trans (hb6.mono HB5.out.size))
             have HS6 := Lib.hid (HS5.out.below hb6)
             have HT6 := Lib.hid hbt6
             clear hb6 hbt6)
          | (go_at_call 33; (with_reducible refine (equal_any _ _ _ _ _ _ S T _ HS6.out HT6.out).mono ?_); rintro e w7 ⟨he, rfl⟩
             rw [HDD.out] at he
             subst he))
        refine wp_region_held_drew (S := (fun _ => True)) (by kernel_rfl) trivial (fun hHeld => ?_)
        refine take_move 0 (.tmp 7) (.slice A1 u c1) rfl rfl rfl (by kernel_rfl) (by kernel_rfl) (by kernel_rfl) (fun _ _ _ h => h) rfl hHeld ?_
        simp only [Act.put, List.setIfInBounds_toArray, List.set_cons_zero, List.set_cons_succ]
        refine take_move 1 (.tmp 7) (.slice A1 u c1) rfl rfl rfl (by kernel_rfl) (by kernel_rfl) (by kernel_rfl) (fun _ _ _ h => h) rfl hHeld ?_
        simp only [Act.put, List.setIfInBounds_toArray, List.set_cons_zero, List.set_cons_succ]
        refine take_run 2 (.int .i64 u) rfl (by kernel_rfl) (by kernel_rfl) (by kernel_rfl) (fun _ _ _ h => h) rfl hHeld (fun w => ?_) ?_
        · go_simp
        simp only [Act.put, List.setIfInBounds_toArray, List.set_cons_zero, List.set_cons_succ]
        refine take_run 3 (.int .i64 ((u : Int) - 62)) rfl (by kernel_rfl) (by kernel_rfl) (by kernel_rfl) (fun _ _ _ h => h) rfl hHeld (fun w => ?_) ?_
        · go_simp
        simp only [Act.put, List.setIfInBounds_toArray, List.set_cons_zero, List.set_cons_succ]
        refine take_run 4 (.slice A1 (62 * i') c1) rfl (by kernel_rfl) (by kernel_rfl) (by kernel_rfl) (fun _ _ _ h => h) rfl hHeld (fun w => ?_) ?_
        · go_simp
        simp only [Act.put, List.setIfInBounds_toArray, List.set_cons_zero, List.set_cons_succ]
        refine take_move 5 (.tmp 10) (.slice A3 v c3) rfl rfl rfl (by kernel_rfl) (by kernel_rfl) (by kernel_rfl) (fun _ _ _ h => h) rfl hHeld ?_
        simp only [Act.put, List.setIfInBounds_toArray, List.set_cons_zero, List.set_cons_succ]
        refine take_move 6 (.tmp 10) (.slice A3 v c3) rfl rfl rfl (by kernel_rfl) (by kernel_rfl) (by kernel_rfl) (fun _ _ _ h => h) rfl hHeld ?_
        simp only [Act.put, List.setIfInBounds_toArray, List.set_cons_zero, List.set_cons_succ]
        refine take_run 7 (.int .i64 v) rfl (by kernel_rfl) (by kernel_rfl) (by kernel_rfl) (fun _ _ _ h => h) rfl hHeld (fun w => ?_) ?_
        · go_simp
        simp only [Act.put, List.setIfInBounds_toArray, List.set_cons_zero, List.set_cons_succ]
        refine take_run 8 (.int .i64 ((v : Int) - 62)) rfl (by kernel_rfl) (by kernel_rfl) (by kernel_rfl) (fun _ _ _ h => h) rfl hHeld (fun w => ?_) ?_
        · go_simp
        simp only [Act.put, List.setIfInBounds_toArray, List.set_cons_zero, List.set_cons_succ]
        refine take_run 9 (.slice A3 (62 * k') c3) rfl (by kernel_rfl) (by kernel_rfl) (by kernel_rfl) (fun _ _ _ h => h) rfl hHeld (fun w => ?_) ?_
        · go_simp
        simp only [Act.put, List.setIfInBounds_toArray, List.set_cons_zero, List.set_cons_succ]
        refine take_run 10 (.slice A1 (62 * i') c1) rfl (by kernel_rfl) (by kernel_rfl) (by kernel_rfl) (fun _ _ _ h => h) rfl hHeld (fun w => ?_) ?_
        · go_simp
        simp only [Act.put, List.setIfInBounds_toArray, List.set_cons_zero, List.set_cons_succ]
        refine take_run 11 (.slice A3 (62 * k') c3) rfl (by kernel_rfl) (by kernel_rfl) (by kernel_rfl) (fun _ _ _ h => h) rfl hHeld (fun w => ?_) ?_
        · go_simp
        simp only [Act.put, List.setIfInBounds_toArray, List.set_cons_zero, List.set_cons_succ]
        refine wpAnyH_done (by kernel_rfl) ?_ _
        clear hHeld
        first | go_wp2 | simp only [Exit.inBlock]
        go_roundw
        case rel => exact ⟨i', k', 62 * i', 62 * k', HBK2.out, rfl, rfl, rfl, rfl, (HBr.out.trans (HB6.out.mono HBr.out.size)).drew⟩
        case measure => simp only [lenOf]; have := HU.out; omega
theorem cclash_any (A : Option Addr) (n c : Nat) (a : List En) (B : Option Addr) (m d : Nat) (b : List En) (w : World) (hK : KTab w) (ha : Ens w A n c a) (hb : Ens w B m d b) (oa : ∀ u ∈ a, u.ok) (ob : ∀ u ∈ b, u.ok) :
    Calls Tryd.prog 19 #[.slice A n c, .slice B m d] w (GC (clashP a b).1 (clashP a b).2 (clashB a b) w) := by
  have hno : clashB a b = false → clashP a b = ([], []) := fun h => by rw [clashP, h]; rfl
  cases hi : putC a with
  | false =>
    have h : clashB a b = false := by rw [clashB, hi, Bool.false_and]
    rw [h, hno h]
    exact cclash_a A n c a B m d b w hK ha hb oa ob hi
  | true =>
    cases hj : putC b with
    | false =>
      have h : clashB a b = false := by rw [clashB, hi, hj]; rfl
      rw [h, hno h]
      exact cclash_b A n c a B m d b w hK ha hb oa ob hi hj
    | true =>
      cases hD : decide (headC a = headC b) with
      | false =>
        have h : clashB a b = false := by rw [clashB, hi, hj, hD]; rfl
        rw [h, hno h]
        exact cclash_c A n c a B m d b w hK ha hb oa ob hi hj hD
      | true => exact cclash_d A n c a B m d b w hK ha hb oa ob hi hj hD
end Go.Proofs.YtplfpaclhapldaaDoor

/- append(v, make([]byte, k)...), v the call's own: k noughts behind. -/
namespace Go.Proofs.YtplfpaclhapldaaDoor
open Go.RowKit

theorem zeroCells_u8 (k : Nat) : Builtin.zeroCells (Value.int .u8 0).cells k = (byv (List.replicate k 0)).toArray := by
  rw [← Array.toList_inj]
  apply List.ext_getElem?
  intro j
  have hs : (Value.int .u8 0).cells = #[Value.int .u8 0] := rfl
  rw [hs]
  by_cases hj : j < k
  · simp [Builtin.zeroCells, byv, hj, Nat.mod_one]
  · simp [Builtin.zeroCells, byv, hj]
theorem ok_zeros {l : List Int} (h : ∀ j, 0 ≤ l.getD j 0 ∧ l.getD j 0 < 256) (k : Nat) : ∀ j, 0 ≤ (l ++ List.replicate k 0).getD j 0 ∧ (l ++ List.replicate k 0).getD j 0 < 256 := ok_append h (ok_rep k)
theorem run_append_zeros {w : World} (base : Nat) (ty : TypeId) (v : Value) (l : List Int) (hown : Own w base v l) (k : Nat) (hk : k ≤ 1048576) (hl : l.length ≤ 1048576) (hbase : base ≤ w.heap.size) :
    ∃ v' w', (Builtin.append_ #[29, 3] ty #[v, .int .i64 k]).run Tryd.prog w = .ok v' w' ∧ Own w' base v' (l ++ List.replicate k 0) ∧ w.grownBy w' v.ownBlock := by
  obtain ⟨i, hi, hz, h1, h2⟩ := info_parts info_u8
  have hu := Tryd.underlying29
  have hun := Tryd.underlying3
  have hw : IntKind.i64.wrap (k : Int) = k := by rw [IntKind.wrap_i64]; omega
  have hneg : ¬ ((k : Int) < 0) := by omega
  have h48 : ¬ ((281474976710656 : Int) < (k : Int) * (i.bytes : Int)) := by rw [h2]; omega
  have hlr : (l ++ List.replicate k (0 : Int)).length = l.length + k := by simp
  rcases hown.2 with ⟨rfl, h0⟩ | ⟨g, cap, cur, rfl, hbg, hg, hnc, hcm, hcs, htake⟩
  · obtain rfl : l = [] := List.eq_nil_of_length_eq_zero h0
    by_cases hk0 : k = 0
    · subst hk0
      refine ⟨.slice none 0 0, w, ?_, by simpa using hown, World.grownBy.refl w _⟩
      have hw0 : IntKind.i64.wrap 0 = 0 := by rw [IntKind.wrap_i64]; rfl
      simp [Builtin.append_, run_underlying hu, run_underlying hun, sizeOf, typeInfo, hi, asInt, asIntOf, hw0, h2]
    · have hr := Lib.run_append_nil_zeros (P := Tryd.prog) w 29 3 ty 5 i (.int .u8 0) .i64 .i64 hu hun hi hz k (by omega) (by omega) (by omega) (by rw [h2]; omega)
      have hge := grownCap_ge w k 0 5
      have hcm := grownCap_le_maxLen w k 0 5 (by unfold maxLen; omega)
      refine ⟨_, _, hr, ⟨?_, .inr ⟨w.heap.size, _, _, ?_, hbase, heap_alloc_new w.drew _, ?_, hcm, ?_, ?_⟩⟩, ⟨rfl, rfl, rfl, by simp, fun j hj _ => heap_alloc_old w.drew _ hj⟩⟩
      · rw [byv_length, Nat.mul_one]
      · rw [List.nil_append, List.length_replicate]
      · rw [List.nil_append, List.length_replicate]; exact hge
      · rw [Array.size_append, size_zeroCells, size_zeroCells]
        have hs : (Value.int .u8 0).cells.size = 1 := rfl
        rw [hs]
        omega
      · rw [Array.toList_append, zeroCells_u8, List.nil_append, List.length_replicate, Nat.mul_one]
        exact List.take_left' (by rw [byv_length, List.length_replicate])
  · by_cases hroom : l.length + k ≤ cap
    · have hst := run_storeCells_at Tryd.prog g (l.length * 1) 5 (byv (List.replicate k 0)) 0 cur w hg (by rw [byv_length, List.length_replicate]; omega) (byv_one _)
      simp only [Nat.add_zero, Nat.mul_one] at hst
      obtain ⟨W1, hW1⟩ : ∃ W1, W1 = w.setRow g (cur.toList.take l.length ++ byv (List.replicate k 0) ++ cur.toList.drop (l.length + (byv (List.replicate k 0)).length)).toArray := ⟨_, rfl⟩
      rw [← hW1] at hst
      have hr : (Builtin.append_ #[29, 3] ty #[.slice (some ⟨g, 0, none⟩) l.length cap, .int .i64 k]).run Tryd.prog w = .ok (.slice (some ⟨g, 0, none⟩) (l.length + k) cap) W1 := by
        by_cases hk0 : k = 0
        · subst hk0
          have hw0 : IntKind.i64.wrap 0 = 0 := by rw [IntKind.wrap_i64]; rfl
          have he : byv (List.replicate 0 0) = [] := rfl
          rw [he] at hst
          simp [Builtin.append_, run_underlying hu, run_underlying hun, sizeOf, typeInfo, hi, asInt, asIntOf, hw0, h1, h2, hnc, Addr.add_lit, hst]
        · have hzz : (Builtin.zeroCells (Value.int .u8 0).cells k).toList = byv (List.replicate k 0) := by rw [zeroCells_u8]
          rw [← hzz] at hst
          simp [Builtin.append_, run_underlying hu, run_underlying hun, sizeOf, typeInfo, hi, hz, asInt, asIntOf, hw, h1, h2, hroom, hk0, hneg, Addr.add_lit, zeroValue, hst]
          omega
      refine ⟨_, W1, hr, ⟨?_, .inr ⟨g, cap, _, ?_, hbg, by rw [hW1]; exact setRow_heap w g cur _ 5 _ hg, ?_, hcm, ?_, ?_⟩⟩, ?_⟩
      · rw [byv_length, Nat.mul_one]
      · rw [hlr]
      · rw [hlr]; exact hroom
      · simp only [List.size_toArray, List.length_append, List.length_take, List.length_drop, Array.length_toList, byv_length, List.length_replicate]
        omega
      · rw [Nat.mul_one] at htake
        rw [htake, hlr, Nat.mul_one, byv_append]
        exact List.take_left' (by rw [List.length_append, byv_length, byv_length, List.length_replicate])
      · rw [hW1]
        exact ⟨rfl, rfl, rfl, by simp, fun j _ hj => setRow_other w g j _ (fun e => hj (by simp [Value.ownBlock, e]))⟩
    · have holds : ∀ j u, (byv l)[j]? = some u → w.cell? ((⟨g, 0, none⟩ : Addr).add j) = some u := World.ownsRow.cells hown (g := g) rfl
      have hold : (Builtin.firstCells i.size l.length (.slice (some ⟨g, 0, none⟩) l.length cap)).run Tryd.prog w.drew = .ok (byv l).toArray w.drew := by
        have := run_firstCells_some (P := Tryd.prog) w.drew i.size l.length ⟨g, 0, none⟩ l.length cap (byv l) (by rw [byv_length, h1, Nat.mul_one]) holds
        exact this
      have hcap : cap < l.length + k := by omega
      have hr := Lib.run_append_grow_zeros (P := Tryd.prog) w 29 3 ty 5 i (.int .u8 0) .i64 .i64 hu hun hi hz (some ⟨g, 0, none⟩) l.length cap (byv l) hold k (by omega) (by omega) hcap (by omega) (by rw [h2]; omega) (growslice_fits hcap (by rw [h2]; omega))
      have hge := grownCap_ge w (l.length + k) cap 5
      have hcm2 := grownCap_le_maxLen w (l.length + k) cap 5 (by unfold maxLen; omega)
      refine ⟨_, _, hr, ⟨?_, .inr ⟨w.heap.size, _, _, ?_, hbase, heap_alloc_new w.drew _, ?_, hcm2, ?_, ?_⟩⟩, ⟨rfl, rfl, rfl, by simp, fun j hj _ => heap_alloc_old w.drew _ hj⟩⟩
      · rw [byv_length, Nat.mul_one]
      · rw [hlr]
      · rw [hlr]; exact hge
      · rw [Array.size_append, Array.size_append, size_zeroCells, size_zeroCells]
        have hs : (Value.int .u8 0).cells.size = 1 := rfl
        rw [hs, List.size_toArray, byv_length]
        omega
      · rw [Array.toList_append, Array.toList_append, zeroCells_u8, hlr, Nat.mul_one, byv_append]
        exact List.take_left' (by rw [List.length_append, byv_length, byv_length, List.length_replicate])
theorem wpList_append_zeros {w : World} {ops : Array Oper} {rest : List Oper} {o : Oper} {a : Act} {Q : Exit → Act → World → Prop} (hgd : o.guard = none) (s x : Operand)
    (ho : o.op = .call { callee := .builtin .append, args := #[s, x], argTypes := #[29, 3] })
    (base : Nat) (v : Value) (l : List Int) (hs : a.eval s = v) (hown : Own w base v l) (k : Nat) (hx : a.eval x = .int .i64 k) (hk : k ≤ 1048576) (hl : l.length ≤ 1048576) (hbase : base ≤ w.heap.size)
    (h : ∀ v' w', Own w' base v' (l ++ List.replicate k 0) → w.grownBy w' v.ownBlock → wpList Tryd.prog ops Q rest (a.put o.dst v') w') : wpList Tryd.prog ops Q (o :: rest) a w := by
  obtain ⟨v', w', hr, h2, h3⟩ := run_append_zeros base o.type v l hown k hk hl hbase
  exact Lib.wpList_append_run w hgd s x 29 3 ho v (.int .i64 k) hs hx v' w' hr (h v' w' h2 h3)
end Go.Proofs.YtplfpaclhapldaaDoor
