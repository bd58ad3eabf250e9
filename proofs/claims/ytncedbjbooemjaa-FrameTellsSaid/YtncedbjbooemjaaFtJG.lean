/- Joined texts: The walk over package frame's parsed, of a kind without a tag; and of whatever bytes. The walk over package frame's Read: the frame of bytes, or why none. The walk over package frame's Read, where the bytes are whole. What is put is read; what is read is put; beginnings of frames, and what is longer. -/
import Derived.Test.YtncedbjbooemjaaFtJF
import Derived.Test.YtncedbjbooemjaaFtJE
/- The walk over package frame's parsed, of a kind without a tag; and of whatever bytes. -/
namespace Go.Proofs.Ytncedbjbooemjaa
set_option linter.unusedVariables false
set_option linter.unusedSimpArgs false
open Go.RowKit

set_option maxRecDepth 100000 in
set_option maxHeartbeats 2000000 in
theorem parsed_bare (A : Option Addr) (n c : Nat) (l : List Int) (w : World) (hb : Bts w A n c l) (h : 3 ≤ n) (hk : kindB (kindL l) = true) (hf : n = 2 + folL (szK (kindL l)) (tagK (kindL l))) (ht : tagK (kindL l) = false) :
    Calls Try.prog 27 #[.slice A n c] w (YesFrame l w) := by
  have hn := hb.small
  have hg := get_at A n c l 2 1 2 1 (w.alloc (.cells (frA Fr.zero) 26)) rfl rfl (hb.more _) (by omega) (by omega) (by omega)
  have hks := kindL_small hb.ok
  have hgk : numL ((l.drop 2).take 1) = kindL l := rfl
  rw [hgk] at hg
  obtain ⟨x, hx⟩ : ∃ x, kindL l = x := ⟨_, rfl⟩
  rw [hx] at hg hk hks hf ht
  have hks' : (x : Int) < 256 := by omega
  have hsc := fun w => shape_yes x w hk
  rw [Int.toNat_natCast] at hsc
  have hS := szK_length x
  have hsm := szK_small x
  have hTb := folK_small x
  have hoks := ok_sizes x
  have hsp := szK_pos hk
  obtain ⟨S, hSS⟩ : ∃ S, szK x = S := ⟨_, rfl⟩
  rw [hSS] at hS hsm hsc hf hTb hoks hsp
  rw [ht] at hsc hf hTb
  have hfc := fun w => fol_any S false w hS hsm
  obtain ⟨s0, s1, s2, s3, s4, s5, s6, s7, hl⟩ := list8 S hS
  rw [shV_lit hl] at hsc hfc
  obtain ⟨T, hT⟩ : ∃ T, folL S false = T := ⟨_, rfl⟩
  rw [hT] at hfc hTb hf
  have hT' : (T : Int) ≤ 52 := by omega
  have hne : ((n : Int) != 2 + (T : Int)) = false := by rw [bne_eq_false_iff_eq]; omega
  have hE : ∃ E : Nat, E = 2 + S.sum ∧ n = E := ⟨2 + S.sum, rfl, by rw [hf, ← hT, folL]; simp⟩
  obtain ⟨E, hE0, hE2⟩ := hE
  have hEn : n - E = 0 := by omega
  obtain ⟨A2, hfrom, hbt2⟩ := run_from hb (E : Int) (lo := E) rfl (by omega)
  rw [hEn] at hfrom hbt2
  have hE1 : (n : Int) = (E : Int) := by omega
  obtain ⟨bb, off, hA, _⟩ := hb.at_ (by omega)
  subst hA
  have hcut : ∀ w, (Instr.slice 27 (.slice (some ⟨bb, off, none⟩) n c) (some (.int .i64 2)) (some (.int .i64 (E : Int))) none).run Try.prog w = .ok (.slice (some ⟨bb, off + 2, none⟩) (E - 2) (c - 2)) w := fun w =>
    run_cut bb off n c 2 E 2 E rfl rfl (by omega) (by have := hb.le; omega) (by have := hb.le; omega) w
  have hpc : Bts w (some ⟨bb, off + 2, none⟩) S.sum (c - 2) ((l.drop 2).take S.sum) := piece_bts hb (by omega) (by omega)
  have hE3 : E - 2 = S.sum := by omega
  rw [hE3] at hcut
  have hsz := fun w => sizes_any S false w hS hsm
  have hthl := there_len S 8
  have htk : S.take 8 = S := by rw [← hS, List.take_length]
  rw [htk] at hthl
  have hts := there_sum S
  have hShl : (shC S false).length = 9 := by simp [shC, hS]
  have hcs : (shC S false).toArray = #[.int .i64 s0, .int .i64 s1, .int .i64 s2, .int .i64 s3, .int .i64 s4, .int .i64 s5, .int .i64 s6, .int .i64 s7, .bool false] := by rw [hl]; rfl
  have hshv : shV S false = .agg (shC S false).toArray := rfl
  rw [hshv] at hsz
  have hlb : ∀ x ∈ ((l.drop 2).take S.sum), 0 ≤ x ∧ x < 256 := fun x hx => mem_ok hb.ok x (List.mem_of_mem_drop (List.mem_of_mem_take hx))
  obtain ⟨cut, hcutl⟩ : ∃ cut, cut = cutL (there S) ((l.drop 2).take S.sum) := ⟨_, rfl⟩
  obtain ⟨F, hF⟩ : ∃ F, F = spread S cut := ⟨_, rfl⟩
  have hFl : F.length = 8 := by rw [hF, spread_length, hS]
  have hFb : ∀ k, k < 8 → F.getD k 0 < 256 ^ S.getD k 0 := fun k hk => by rw [hF, hcutl]; exact spread_bound S _ hlb k (by rw [hS]; exact hk)
  have hcl : cut.length = (there S).length := by rw [hcutl, cutL_length]
  have hFg : ∀ k, k < 8 → F.getD k 0 = if 0 < S.getD k 0 then cut.getD (there (S.take k)).length 0 else 0 := fun k hk => by rw [hF]; exact spread_get S cut k (by rw [hS]; exact hk)
  have hat : ∀ k, k < 8 → 0 < S.getD k 0 → (there (S.take k)).length < cut.length := fun k hk h0 => by rw [hcl]; exact (there_at S k (by rw [hS]; exact hk) h0).2
  have hsu : ∀ k, k < 8 → (there (S.take (k + 1))).length = (there (S.take k)).length + if 0 < S.getD k 0 then 1 else 0 := fun k hk => there_succ S k (by rw [hS]; exact hk)
  have hpar : parseF l = frOf F noTag := by
    unfold parseF
    simp only [hx, hSS, ht]
    rw [hF, hcutl]
    rfl
  have hlow := low_sizes x
  rw [hSS] at hlow
  obtain ⟨n0, n1, n2, n3, n4, n5, n6, n7, hF8⟩ := list8 F hFl
  have hcap : ∀ (a k : Nat), k ≤ a → 256 ^ k ≤ 256 ^ a := fun a k h => Nat.pow_le_pow_right (by omega) h
  have q0 : n0 < 9223372036854775808 := by have h1 := hFb 0 (by omega); rw [hF8] at h1; exact Nat.lt_of_lt_of_le h1 (Nat.le_trans (hcap 4 _ hlow.1) (by decide))
  have q1 : n1 < 9223372036854775808 := by have h1 := hFb 1 (by omega); rw [hF8] at h1; exact Nat.lt_of_lt_of_le h1 (Nat.le_trans (hcap 4 _ hlow.2.1) (by decide))
  have q4 : n4 < 9223372036854775808 := by have h1 := hFb 4 (by omega); rw [hF8] at h1; exact Nat.lt_of_lt_of_le h1 (Nat.le_trans (hcap 4 _ hlow.2.2.1) (by decide))
  have q6 : n6 < 9223372036854775808 := by have h1 := hFb 6 (by omega); rw [hF8] at h1; exact Nat.lt_of_lt_of_le h1 (Nat.le_trans (hcap 4 _ hlow.2.2.2.1) (by decide))
  have q7 : n7 < 9223372036854775808 := by have h1 := hFb 7 (by omega); rw [hF8] at h1; exact Nat.lt_of_lt_of_le h1 (Nat.le_trans (hcap 4 _ hlow.2.2.2.2.1) (by decide))
  have q2 : n2 < 18446744073709551616 := by have h1 := hFb 2 (by omega); rw [hF8] at h1; exact Nat.lt_of_lt_of_le h1 (Nat.le_trans (hcap 8 _ hlow.2.2.2.2.2.1) (by decide))
  have q3 : n3 < 18446744073709551616 := by have h1 := hFb 3 (by omega); rw [hF8] at h1; exact Nat.lt_of_lt_of_le h1 (Nat.le_trans (hcap 8 _ hlow.2.2.2.2.2.2.1) (by decide))
  have q5 : n5 < 18446744073709551616 := by have h1 := hFb 5 (by omega); rw [hF8] at h1; exact Nat.lt_of_lt_of_le h1 (Nat.le_trans (hcap 8 _ hlow.2.2.2.2.2.2.2) (by decide))
  have hdl : noTag.length = 32 := rfl
  have hfo := fun w => frame_of n0 n1 n2 n3 n4 n5 n6 n7 noTag w hdl q0 q1 q4 q6 q7 q2 q3 q5
  rw [← hF8, ← hpar] at hfo
  have hfrs : (frA (parseF l)).size = 40 := by rw [hpar]; exact frA_size hdl
  have hfr1 := frA_one (parseF l)
  unfold frV at hfo
  obtain ⟨Y, hY⟩ : ∃ Y, frA (parseF l) = Y := ⟨_, rfl⟩
  have hres : frV (parseF l) = .agg Y := by rw [← hY]; rfl
  rw [hY] at hfo hfrs hfr1
  have hnc : numsC F = #[.int .u64 n0, .int .u64 n1, .int .u64 n2, .int .u64 n3, .int .u64 n4, .int .u64 n5, .int .u64 n6, .int .u64 n7] := by rw [hF8]; rfl
  have HFO := Lib.hid hfo
  have HFRS := Lib.hid hfrs
  have HFR1 := Lib.hid hfr1
  have HYR := Lib.hid hres
  have HNC := Lib.hid hnc
  have HDL := Lib.hid hdl
  have HFL := Lib.hid hFl
  have HFG := Lib.hid hFg
  have HAT := Lib.hid hat
  have HSU := Lib.hid hsu
  have HCUTL := Lib.hid hcutl
  clear hlb hF hFb hcl hFg hat hsu hpar hlow hF8 hcap q0 q1 q2 q3 q4 q5 q6 q7 hdl hfo hfrs hfr1 hY hres hnc hFl hcutl
  have HPC := Lib.hid hpc
  have HCUT := Lib.hid hcut
  have HSZ := Lib.hid hsz
  have HTHL := Lib.hid hthl
  have HTS := Lib.hid hts
  have HSHL := Lib.hid hShl
  have HCS := Lib.hid hcs
  have HS := Lib.hid hS
  have HOKS := Lib.hid hoks
  have HSC9 := Lib.hid (sizC_lit hl)
  have HBT2 := Lib.hid hbt2
  have HE0 := Lib.hid hE0
  have HE2 := Lib.hid hE2
  have HB := Lib.hid hb
  have HFC := Lib.hid hfc
  have hZs : (frA Fr.zero).size = 40 := rfl
  have hZ1 := frA_one Fr.zero
  have hzb := built_zero
  obtain ⟨Z, hZ⟩ : ∃ Z, Z = frA Fr.zero := ⟨_, rfl⟩
  have hres : frV Fr.zero = .agg Z := by rw [hZ]; rfl
  rw [← hZ] at hZs hZ1 hzb
  have HG := Lib.hid hg
  have HSC := Lib.hid hsc
  have HZ := Lib.hid hZ
  have HZS := Lib.hid hZs
  have HZ1 := Lib.hid hZ1
  have HZB := Lib.hid hzb
  have HRES := Lib.hid hres
  clear hpc hcut hsz hthl htk hts hShl hcs hshv hoks hE3 hbt2 hE0 hE2 hEn hg hsc hZ hZs hZ1 hzb hres hb hx hk hks hgk hS hsm hTb hSS ht hl hT hfc hf
  go_enter Try.func27, Try.ntmps27
  go_wp2_with (first
    | (go_at_call 38; refine HG.out.mono ?_; rintro e w1 ⟨rfl, rfl⟩)
    | (go_at_call 19; (with_reducible refine (HSC.out _).mono ?_); rintro e w2 ⟨rfl, hb2⟩
       have hX2 : w2.heap[w.heap.size]? = some (.cells Z 26 (0, 0)) := by rw [HZ.out]; exact after_alloc hb2
       have hB2 := (after_one hb2).1
       clear hb2)
    | (go_at_call 21; (with_reducible refine (HFC.out _).mono ?_); rintro e w3 ⟨rfl, hb3⟩
       have hB3 := hB2.trans ((after_one hb3).1.mono hB2.size)
       have hX3 := ((after_one hb3).1.block w.heap.size (Array.getElem?_eq_some_iff.1 hX2).1).trans hX2
       have hS3 := after_alloc hb3
       have hc3 : w3.cell? ⟨w2.heap.size, 8, none⟩ = some (.bool false) := (cell_of_row _ _ _ _ _ _ hS3).trans rfl
       clear hb3))
  have hz4 := (rowb_lit w3 24 _ noTag rfl).draw1
  have hbt4 := ((HBT2.out.below hB3).more (.cells (idv noTag) 24)).draw1
  have hB4 := (one_alloc w3 (.cells (idv noTag) 24)).drew
  have HZ4 := Lib.hid hz4
  have HBT4 := Lib.hid hbt4
  have HB4 := Lib.hid hB4
  clear hz4 hbt4 hB4
  go_still_tail 4, (by kernel_rfl)
  clear hfrom
  go_wp2_with (refine wpList_copy_t 24 rfl _ _ rfl w3.heap.size 32 noTag rfl HZ4.out rfl A2 0 _ (l.drop E) rfl HBT4.out (Nat.zero_le _) w3.heap.size w3 HB4.out (Nat.le_refl _) ?_
               intro w4 hX4 hB4)
  have hn0 : l.drop E = [] := List.eq_nil_of_length_eq_zero HBT2.out.len
  rw [hn0, List.nil_append, List.drop_zero] at hX4
  have hZr4 : w4.heap[w.heap.size]? = some (.cells Z 26 (0, 0)) := (hB4.block _ (Array.getElem?_eq_some_iff.1 hX3).1).trans hX3
  have hS4 : w4.heap[w2.heap.size]? = some (.cells (shC S false).toArray 47 (0, 0)) := by rw [HCS.out]; exact (hB4.block _ (Array.getElem?_eq_some_iff.1 hS3).1).trans hS3
  have hB04 : Below w.heap.size w w4 := hB3.trans (hB4.mono hB3.size)
  have hr4 := range_of_blk hS4
  have hil : (Try.prog.info? 47).map (·.size) = some (shC S false).length := by rw [HSHL.out]; kernel_rfl
  have HZR4 := Lib.hid hZr4
  have HS4 := Lib.hid hS4
  have HX4 := Lib.hid hX4
  have HR4 := Lib.hid hr4
  have HIL := Lib.hid hil
  clear hn0 hX4 hZr4 hS4 hr4 hil hX3 hS3 hc3 HZ4 HBT4 HB4 hX2
  simp only [Act.put, List.setIfInBounds_toArray, List.set_cons_zero, List.set_cons_succ]
  refine wp_region_held_drew (S := (fun w' => w'.rangeAt w2.heap.size 0 (shC S false))) (by kernel_rfl) ((World.rangeAt_drew _ _ _ _).2 HR4.out) (fun hHeld => ?_)
  refine take_move 0 (.tmp 0) (.slice (some ⟨bb, off, none⟩) n c) rfl rfl rfl (by kernel_rfl) (by kernel_rfl) (by kernel_rfl) (fun _ _ _ h => h) rfl hHeld ?_
  simp only [Act.put, List.setIfInBounds_toArray, List.set_cons_zero, List.set_cons_succ]
  refine take_move 1 (.tmp 8) (.int .i64 (E : Int)) rfl rfl rfl (by kernel_rfl) (by kernel_rfl) (by kernel_rfl) (fun _ _ _ h => h) rfl hHeld ?_
  simp only [Act.put, List.setIfInBounds_toArray, List.set_cons_zero, List.set_cons_succ]
  refine take_run 2 (.slice (some ⟨bb, off + 2, none⟩) S.sum (c - 2)) rfl (by kernel_rfl) (by kernel_rfl) (by kernel_rfl) (fun _ _ _ h => h) rfl hHeld (fun w => ?_) ?_
  · have hcu := HCUT.out w
    go_simp
  simp only [Act.put, List.setIfInBounds_toArray, List.set_cons_zero, List.set_cons_succ]
  refine take_long 3 47 (.tmp 6) w2.heap.size (shC S false) _ rfl rfl rfl (by kernel_rfl) (by kernel_rfl) (by kernel_rfl) (fun _ _ _ h => h) rfl hHeld (fun _ h => h) Try.underlying47 rfl HIL.out ?_
  simp only [Act.put, List.setIfInBounds_toArray, List.set_cons_zero, List.set_cons_succ]
  refine one_step 4 (by kernel_rfl) rfl (fun K hK => ?_)
  go_simp
  go_at_call 40
  refine (HSZ.out _).mono ?_
  rintro e w5 ⟨v5, rfl, hown5, hb5⟩
  have hb5 := below_draw hb5
  obtain ⟨A5, m5, c5, rfl, hits5⟩ := hown5.its
  have hB05 : Below w.heap.size w w5 := hB04.trans (hb5.mono hB04.size)
  have hS5 : w5.heap[w2.heap.size]? = some (.cells (shC S false).toArray 47 (0, 0)) := (hb5.block _ (Array.getElem?_eq_some_iff.1 HS4.out).1).trans HS4.out
  refine hK.out _ _ (range_of_blk hS5) (fun hHeld0 => ?_)
  clear hK K hHeld
  have hHeld := hHeld0
  clear hHeld0
  try simp only [Act.put, List.setIfInBounds_toArray, List.set_cons_zero, List.set_cons_succ]
  refine one_step 5 (by kernel_rfl) rfl (fun K hK => ?_)
  go_simp
  go_at_call 39
  refine (cut_yes _ A5 S.sum (c - 2) m5 c5 ((l.drop 2).take S.sum) (there S) w5 (HPC.out.below hB05) hits5 HOKS.out (by have := HTHL.out; omega) HTS.out).mono ?_
  rintro e w6 ⟨v6, rfl, hown6, hb6⟩
  rw [← HCUTL.out] at hown6
  obtain ⟨A6, m6, c6, rfl, hits6⟩ := hown6.its
  have hB06 : Below w.heap.size w w6 := hB05.trans (hb6.mono hB05.size)
  have hS6 : w6.heap[w2.heap.size]? = some (.cells (shC S false).toArray 47 (0, 0)) := (hb6.block _ (Array.getElem?_eq_some_iff.1 hS5).1).trans hS5
  refine hK.out _ _ (range_of_blk hS6) (fun hHeld0 => ?_)
  clear hK K hHeld
  have hHeld := hHeld0
  clear hHeld0
  try simp only [Act.put, List.setIfInBounds_toArray, List.set_cons_zero, List.set_cons_succ]
  refine take_move 6 (.tmp 57) (.tuple #[.slice A6 m6 c6, .bool true]) rfl rfl rfl (by kernel_rfl) (by kernel_rfl) (by kernel_rfl) (fun _ _ _ h => h) rfl hHeld ?_
  simp only [Act.put, List.setIfInBounds_toArray, List.set_cons_zero, List.set_cons_succ]
  refine take_run 7 (.slice A6 m6 c6) rfl (by kernel_rfl) (by kernel_rfl) (by kernel_rfl) (fun _ _ _ h => h) rfl hHeld (fun w => ?_) ?_
  · go_simp
  simp only [Act.put, List.setIfInBounds_toArray, List.set_cons_zero, List.set_cons_succ]
  refine take_run 8 (.bool true) rfl (by kernel_rfl) (by kernel_rfl) (by kernel_rfl) (fun _ _ _ h => h) rfl hHeld (fun w => ?_) ?_
  · go_simp
  simp only [Act.put, List.setIfInBounds_toArray, List.set_cons_zero, List.set_cons_succ]
  refine take_run 9 (.slice A6 m6 c6) rfl (by kernel_rfl) (by kernel_rfl) (by kernel_rfl) (fun _ _ _ h => h) rfl hHeld (fun w => ?_) ?_
  · go_simp
  simp only [Act.put, List.setIfInBounds_toArray, List.set_cons_zero, List.set_cons_succ]
  refine take_run 10 (.bool true) rfl (by kernel_rfl) (by kernel_rfl) (by kernel_rfl) (fun _ _ _ h => h) rfl hHeld (fun w => ?_) ?_
  · go_simp
  simp only [Act.put, List.setIfInBounds_toArray, List.set_cons_zero, List.set_cons_succ]
  refine wpAnyH_done (by kernel_rfl) ?_ _
  have hZr6 : w6.heap[w.heap.size]? = some (.cells Z 26 (0, 0)) := (hb6.block _ (Nat.lt_of_lt_of_le (Array.getElem?_eq_some_iff.1 HZR4.out).1 hb5.size)).trans ((hb5.block _ (Array.getElem?_eq_some_iff.1 HZR4.out).1).trans HZR4.out)
  have hX6 : RowB w6 w3.heap.size 24 noTag := (HX4.out.keep hb5).keep hb6
  have hr6 : ∀ o : Obj, (w6.alloc o).rangeAt w2.heap.size 0 (sizC S) := fun o j v hv => by
    have hj : j < (sizC S).length := (List.getElem?_eq_some_iff.1 hv).1
    exact World.rangeAt_alloc (range_of_blk hS6) _ j v (by rw [shC, List.getElem?_append_left (by simpa [sizC] using hj)]; exact hv)
  have hits7 := hits6
  have HZR6 := Lib.hid hZr6
  have HX6 := Lib.hid hX6
  have HR6 := Lib.hid hr6
  have HITS6 := Lib.hid hits6
  clear hHeld hZr6 hX6 hr6 hits6 hits7 hown6 hown5 hits5 hS5 hS6 hb5 hb6 HZR4 HS4 HX4 HR4
  go_wp2_with (((with_reducible refine wpList_load_on 45 _ rfl w2.heap.size 0 ?hx7 (sizC S) _ HSC9.out _ (HR6.out _) Try.underlying45 ?hd7 ?hi7 ?_ ?hw7); (case hx7 => rfl); (case hd7 => rfl); (case hi7 => rw [sizC, List.length_map, HS.out]; kernel_rfl); (case hw7 => rfl)))
  have hB7 : Below w6.heap.size w6 (w6.alloc (.cells (numsC (soFar F 0)) 55)) := one_alloc _ _
  have hn7 := heap_alloc_new w6 (.cells (numsC (soFar F 0)) 55)
  have hs0 : numsC (soFar F 0) = #[.int .u64 0, .int .u64 0, .int .u64 0, .int .u64 0, .int .u64 0, .int .u64 0, .int .u64 0, .int .u64 0] := rfl
  rw [hs0] at hB7
  have hn7' : _ = some (Obj.cells (numsC (soFar F 0)) 55) := hn7
  rw [hs0] at hn7
  rw [← hs0] at hn7
  clear hn7
  go_loopw [10, 12, 13, 65] (fun v u1 u2 i wr => ∃ (k : Nat) (A : Option Addr) (m c : Nat), k ≤ 8 ∧ i = .int .i64 k ∧ v = .slice A m c ∧ Its .u64 w6 A m c (ints (cut.drop (there (S.take k)).length)) ∧ wr.heap[w6.heap.size]? = some (.cells (numsC (soFar F k)) 55 (0, 0)) ∧ Below w6.heap.size w6 wr) (fun _ _ _ i _ => 8 - (intOf i).toNat)
  case atStart => exact ⟨0, A6, m6, c6, by omega, rfl, rfl, HITS6.out, hn7', hB7⟩
  case round =>
    clear hn7' hB7 hs0
    obtain ⟨k, A, m, c', hk8, rfl, rfl, hit, hall, hB⟩ := hrel
    by_cases hlt : k < 8
    · have hix := size_index HS.out HSC9.out k hlt
      have hfg := HFG.out k hlt
      have hat := HAT.out k hlt
      have hsu := HSU.out k hlt
      obtain ⟨x1, hx⟩ : ∃ x, S.getD k 0 = x := ⟨_, rfl⟩
      rw [hx] at hix hfg hat hsu
      by_cases hx0 : 0 < x1
      · have hx0' : (0 : Int) < x1 := by omega
        rw [if_pos hx0] at hfg hsu
        have hat := hat hx0
        have hlen : (cut.drop (there (S.take k)).length).length = m := by have := hit.len; rwa [ints_length] at this
        have hm1 : 1 ≤ m := by rw [← hlen, List.length_drop]; omega
        have hm1' : (1 : Int) ≤ m := by omega
        have hm0' : (0 : Int) < m := by omega
        have hmn : 0 < m := by omega
        obtain ⟨A9, hfrom, hit9⟩ := its_from (t := 66) (P := Try.prog) (by kernel_rfl) (fun w => size_of (by kernel_rfl) w) hit 1 (lo := 1) rfl hm1
        obtain ⟨b9, o9, rfl, hc9⟩ := hit.at_ (by omega)
        have hc9 := hc9 0 (by omega)
        rw [Nat.add_zero] at hc9
        have hc90 := hc9
        have hc9 := (hB.cell (p := ⟨b9, o9, none⟩) (block_lt_of_cell hc9)).trans hc9
        have hg9 : (ints (cut.drop (there (S.take k)).length)).getD 0 0 = ((F.getD k 0 : Nat) : Int) := by
          rw [ints_get _ _ (by omega), hfg]
          simp [List.getD_eq_getElem?_getD]
        rw [hg9] at hc9 hc90
        obtain ⟨y, hy⟩ : ∃ y, F.getD k 0 = y := ⟨_, rfl⟩
        rw [hy] at hc9 hc90
        have hnx : soFar F (k + 1) = (soFar F k).set k y := by rw [← hy, soFar_set F HFL.out k hlt]
        have hit10 := hit9 w6 hit
        rw [ints_drop, List.drop_drop, ← hsu] at hit10
        have hkc : k < (soFar F k).length := by rw [soFar_length F HFL.out k hk8]; exact hlt
        have hcell : wr.cell? ⟨w6.heap.size, k, none⟩ = some (.int .u64 (((soFar F k).getD k 0 : Nat) : Int)) := by
          rw [cell_of_row _ _ _ _ _ _ hall, numsC]
          simp [List.getD_eq_getElem?_getD, hkc]
        have hfro : wr.frozen? ⟨w6.heap.size, k, none⟩ = false := frozen_of_row _ _ _ _ _ hall
        have hHeld2 : (wr.drew.setCell ⟨w6.heap.size, k, none⟩ (.int .u64 (y : Int))).cell? ⟨b9, o9, none⟩ = some (.int .u64 (y : Int)) := (World.cell?_setCell_other _ _ _ _ (by have := block_lt_of_cell hc90; simp at this ⊢; try omega)).trans hc9
        have HALL := Lib.hid hall
        have HB := Lib.hid hB
        have HNX := Lib.hid hnx
        have HIT10 := Lib.hid hit10
        clear hc90 hg9 hy hnx hit10 hkc hit9 hx hlen hit hfg hsu hat hall hB hx0 hm1
        go_wp2
        refine wp_region_held_drew (S := (fun w' => w'.cell? ⟨b9, o9, none⟩ = some (.int .u64 (y : Int)))) (by kernel_rfl) ((World.cell?_drew _ _).trans hc9) (fun hHeld => ?_)
        refine take_move 0 (.tmp 12) (.int .i64 (k : Int)) rfl rfl rfl (by kernel_rfl) (by kernel_rfl) (by kernel_rfl) (fun _ _ _ h => h) rfl hHeld ?_
        simp only [Act.put, List.setIfInBounds_toArray, List.set_cons_zero, List.set_cons_succ]
        refine take_move 1 (.tmp 10) (.slice (some ⟨b9, o9, none⟩) m c') rfl rfl rfl (by kernel_rfl) (by kernel_rfl) (by kernel_rfl) (fun _ _ _ h => h) rfl hHeld ?_
        simp only [Act.put, List.setIfInBounds_toArray, List.set_cons_zero, List.set_cons_succ]
        refine take_run 2 (.pointer (some ⟨b9, o9, none⟩)) rfl (by kernel_rfl) (by kernel_rfl) (by kernel_rfl) (fun _ _ _ h => h) rfl hHeld (fun w => ?_) ?_
        · go_simp
        simp only [Act.put, List.setIfInBounds_toArray, List.set_cons_zero, List.set_cons_succ]
        refine take_if 3 (.int .u64 (y : Int)) rfl (by kernel_rfl) (by kernel_rfl) (by kernel_rfl) (fun _ _ _ h => h) rfl hHeld (fun w' hw' => ?_) ?_
        · have hw2 : w'.cell? ⟨b9, o9, none⟩ = some (.int .u64 (y : Int)) := hw'
          clear hw'
          go_simp
        simp only [Act.put, List.setIfInBounds_toArray, List.set_cons_zero, List.set_cons_succ]
        refine take_move 4 (.tmp 10) (.slice (some ⟨b9, o9, none⟩) m c') rfl rfl rfl (by kernel_rfl) (by kernel_rfl) (by kernel_rfl) (fun _ _ _ h => h) rfl hHeld ?_
        simp only [Act.put, List.setIfInBounds_toArray, List.set_cons_zero, List.set_cons_succ]
        refine take_run 5 (.slice A9 (m - 1) (c' - 1)) rfl (by kernel_rfl) (by kernel_rfl) (by kernel_rfl) (fun _ _ _ h => h) rfl hHeld (fun w => ?_) ?_
        · have hfr := hfrom w
          clear hfrom
          go_simp
        simp only [Act.put, List.setIfInBounds_toArray, List.set_cons_zero, List.set_cons_succ]
        refine take_run 6 (.pointer (some ⟨w6.heap.size, k, none⟩)) rfl (by kernel_rfl) (by kernel_rfl) (by kernel_rfl) (fun _ _ _ h => h) rfl hHeld (fun w => ?_) ?_
        · go_simp
        simp only [Act.put, List.setIfInBounds_toArray, List.set_cons_zero, List.set_cons_succ]
        refine one_step 7 (by kernel_rfl) rfl (fun K hK => ?_)
        clear hfrom
        go_simp
        refine hK.out _ _ hHeld2 (fun hHeld0 => ?_)
        clear hK K hHeld
        have hHeld := hHeld0
        clear hHeld0
        try simp only [Act.put, List.setIfInBounds_toArray, List.set_cons_zero, List.set_cons_succ]
        refine take_run 8 (.slice A9 (m - 1) (c' - 1)) rfl (by kernel_rfl) (by kernel_rfl) (by kernel_rfl) (fun _ _ _ h => h) rfl hHeld (fun w => ?_) ?_
        · go_simp
        simp only [Act.put, List.setIfInBounds_toArray, List.set_cons_zero, List.set_cons_succ]
        refine wpAnyH_done (by kernel_rfl) ?_ _
        clear hHeld hc9 hcell hfro hHeld2
        go_wp2
        go_roundw
        case rel =>
          refine ⟨k + 1, A9, m - 1, c' - 1, by omega, by go_num, rfl, HIT10.out, ?_, (HB.out.drew).setCell (Nat.le_refl _) _⟩
          rw [HNX.out, ← numsC_set]
          exact heap_setCell_same _ _ _ _ _ _ HALL.out
        case measure => simp [intOf]; omega
      · have hx0' : (x1 : Int) ≤ 0 := by omega
        rw [if_neg hx0] at hfg hsu
        have hsu : (there (S.take (k + 1))).length = (there (S.take k)).length := hsu
        have hnx := soFar_zero F HFL.out k hlt hfg
        rw [hnx] at hall
        rw [← hsu] at hit
        have HALL := Lib.hid hall
        have HIT := Lib.hid hit
        clear hx hfg hsu hat hnx hall hit hx0
        go_wp2
        go_roundw
        case rel => exact ⟨k + 1, A, m, c', by omega, by go_num, rfl, HIT.out, HALL.out, hB⟩
        case measure => simp [intOf]; omega
    · have hkn : k = 8 := by omega
      rw [hkn, soFar_all F HFL.out] at hall
      have hZr9 : wr.heap[w.heap.size]? = some (.cells Z 26 (0, 0)) := (hB.block _ (Array.getElem?_eq_some_iff.1 HZR6.out).1).trans HZR6.out
      have hX9 : wr.heap[w3.heap.size]? = some (.cells (idv noTag) 24 (0, 0)) := (hB.block _ HX6.out.lt).trans HX6.out
      have hB9 : Below w.heap.size w wr := hB06.trans (hB.mono hB06.size)
      rw [HNC.out] at hall
      have HALL := Lib.hid hall
      have HX9 := Lib.hid hX9
      have HZR9 := Lib.hid hZr9
      have hid32 : (idv noTag).size = 32 := by rw [idv_size, HDL.out]
      have HI32 := Lib.hid hid32
      clear hall hX9 hZr9 hB hit hkn hid32
      go_wp2_with (first
        | ((with_reducible refine wpList_load_blk 55 _ rfl w6.heap.size ?hx8 55 _ (0, 0) _ HALL.out Try.underlying55 ?hd8 ?hi8 ?_ ?hw8); (case hx8 => rfl); (case hd8 => rfl); (case hi8 => kernel_rfl); (case hw8 => rfl))
        | ((with_reducible refine wpList_load_blk 24 _ rfl w3.heap.size ?hx9 24 _ (0, 0) _ HX9.out Try.underlying24 ?hd9 (info_id HI32.out) ?_ ?hw9); (case hx9 => rfl); (case hd9 => rfl); (case hw9 => rfl))
        | (go_at_call 41; (with_reducible refine (HFO.out _).mono ?_); rintro e w10 ⟨rfl, hb10⟩
           have hZ10 : w10.heap[w.heap.size]? = some (.cells Z 26 (0, 0)) := (hb10.block _ (Array.getElem?_eq_some_iff.1 HZR9.out).1).trans HZR9.out
           have hB10 : Below w.heap.size w w10 := hB9.trans (hb10.mono hB9.size)
           clear hb10)
        | ((with_reducible refine wpList_store_blk rfl 26 _ _ rfl w.heap.size Y ?hx11 ?hy11 26 Z hZ10 (info_frame HFRS.out) ?hs11 HFR1.out ?_); (case hx11 => rfl); (case hy11 => rfl); (case hs11 => rw [HZS.out, HFRS.out])
           intro w11 hg11 hX11 hs11))
      refine bodyPost_ret (v := .tuple #[.agg Y, .bool true]) ?_ ?_ ?_
      · exact results_blk_tmp Try.results27 _ _ _ w.heap.size 26 _ (0, 0) _ rfl hX11 Try.underlying26 rfl (info_frame HFRS.out) _ rfl
      · rfl
      · exact ⟨by rw [HYR.out], hB10.grown hg11 hB10.size (fun k e => by cases e; exact Nat.le_refl _)⟩
end Go.Proofs.Ytncedbjbooemjaa

/- The walk over package frame's Read: the frame of bytes, or why none. -/
namespace Go.Proofs.Ytncedbjbooemjaa
set_option linter.unusedVariables false
set_option linter.unusedSimpArgs false
open Go.RowKit

/-- what parsed hands back -/
def ParsedPost (l : List Int) (w : World) (e : Ending) (w' : World) : Prop := e = .returned (.tuple #[frV (if formB l then parseF l else Fr.zero), .bool (formB l)]) ∧ Below w.heap.size w w'
theorem parsed_any (A : Option Addr) (n c : Nat) (l : List Int) (w : World) (hb : Bts w A n c l) :
    Calls Try.prog 27 #[.slice A n c] w (ParsedPost l w) := by
  have hno : formB l = false → ∀ e w', NoFrame w e w' → ParsedPost l w e w' := fun h e w' ⟨he, hB⟩ => ⟨by rw [h]; exact he, hB⟩
  have hyes : formB l = true → ∀ e w', YesFrame l w e w' → ParsedPost l w e w' := fun h e w' ⟨he, hB⟩ => ⟨by rw [h]; exact he, hB⟩
  by_cases h3 : n < 3
  · exact (parsed_short A n c l w hb h3).mono (hno (by unfold formB; rw [hb.len, decide_eq_false (by omega)]; rfl))
  · cases hk : kindB (kindL l) with
    | false => exact (parsed_kind A n c l w hb (by omega) hk).mono (hno (by unfold formB; rw [hk]; simp))
    | true =>
      by_cases hf : n = 2 + folL (szK (kindL l)) (tagK (kindL l))
      · have hform : formB l = true := by
          unfold formB
          rw [hk, hb.len, decide_eq_true (by omega), decide_eq_true hf]
          rfl
        cases ht : tagK (kindL l) with
        | true => exact (parsed_tag A n c l w hb (by omega) hk hf ht).mono (hyes hform)
        | false => exact (parsed_bare A n c l w hb (by omega) hk hf ht).mono (hyes hform)
      · exact (parsed_long A n c l w hb (by omega) hk hf).mono (hno (by unfold formB; rw [hk, hb.len, decide_eq_false hf]; simp))
theorem form_facts {l : List Int} (h : formB l = true) : 3 ≤ l.length ∧ kindB (kindL l) = true ∧ l.length = 2 + folL (szK (kindL l)) (tagK (kindL l)) := by
  unfold formB at h
  rw [Bool.and_eq_true, Bool.and_eq_true, decide_eq_true_eq, decide_eq_true_eq] at h
  exact ⟨h.1, h.2.1, h.2.2⟩
theorem parse_ok {l : List Int} (hl : ∀ j, 0 ≤ l.getD j 0 ∧ l.getD j 0 < 256) (h : formB l = true) : (parseF l).ok := by
  obtain ⟨h1, h2, h3⟩ := form_facts h
  have hlb : ∀ x ∈ ((l.drop 2).take (szK (kindL l)).sum), 0 ≤ x ∧ x < 256 := fun x hx => mem_ok hl x (List.mem_of_mem_drop (List.mem_of_mem_take hx))
  have hlow := low_sizes (kindL l)
  have hcap : ∀ (a k : Nat), k ≤ a → 256 ^ k ≤ 256 ^ a := fun a k h => Nat.pow_le_pow_right (by omega) h
  have hFb := fun k (hk : k < 8) => spread_bound (szK (kindL l)) _ hlb k (by rw [szK_length]; exact hk)
  have q0 : (spread (szK (kindL l)) (cutL (there (szK (kindL l))) ((l.drop 2).take (szK (kindL l)).sum))).getD 0 0 < 9223372036854775808 := Nat.lt_of_lt_of_le (hFb 0 (by omega)) (Nat.le_trans (hcap 4 _ hlow.1) (by decide))
  have q1 : (spread (szK (kindL l)) (cutL (there (szK (kindL l))) ((l.drop 2).take (szK (kindL l)).sum))).getD 1 0 < 9223372036854775808 := Nat.lt_of_lt_of_le (hFb 1 (by omega)) (Nat.le_trans (hcap 4 _ hlow.2.1) (by decide))
  have q4 : (spread (szK (kindL l)) (cutL (there (szK (kindL l))) ((l.drop 2).take (szK (kindL l)).sum))).getD 4 0 < 9223372036854775808 := Nat.lt_of_lt_of_le (hFb 4 (by omega)) (Nat.le_trans (hcap 4 _ hlow.2.2.1) (by decide))
  have q6 : (spread (szK (kindL l)) (cutL (there (szK (kindL l))) ((l.drop 2).take (szK (kindL l)).sum))).getD 6 0 < 9223372036854775808 := Nat.lt_of_lt_of_le (hFb 6 (by omega)) (Nat.le_trans (hcap 4 _ hlow.2.2.2.1) (by decide))
  have q7 : (spread (szK (kindL l)) (cutL (there (szK (kindL l))) ((l.drop 2).take (szK (kindL l)).sum))).getD 7 0 < 9223372036854775808 := Nat.lt_of_lt_of_le (hFb 7 (by omega)) (Nat.le_trans (hcap 4 _ hlow.2.2.2.2.1) (by decide))
  have q2 : (spread (szK (kindL l)) (cutL (there (szK (kindL l))) ((l.drop 2).take (szK (kindL l)).sum))).getD 2 0 < 18446744073709551616 := Nat.lt_of_lt_of_le (hFb 2 (by omega)) (Nat.le_trans (hcap 8 _ hlow.2.2.2.2.2.1) (by decide))
  have q3 : (spread (szK (kindL l)) (cutL (there (szK (kindL l))) ((l.drop 2).take (szK (kindL l)).sum))).getD 3 0 < 18446744073709551616 := Nat.lt_of_lt_of_le (hFb 3 (by omega)) (Nat.le_trans (hcap 8 _ hlow.2.2.2.2.2.2.1) (by decide))
  have q5 : (spread (szK (kindL l)) (cutL (there (szK (kindL l))) ((l.drop 2).take (szK (kindL l)).sum))).getD 5 0 < 18446744073709551616 := Nat.lt_of_lt_of_le (hFb 5 (by omega)) (Nat.le_trans (hcap 8 _ hlow.2.2.2.2.2.2.2) (by decide))
  have htl : (if tagK (kindL l) then l.drop (2 + (szK (kindL l)).sum) else noTag).length = 32 := by
    cases ht : tagK (kindL l) with
    | true => rw [if_pos rfl, List.length_drop, h3, ht, folL, if_pos rfl]; omega
    | false => rfl
  have htb : ∀ j, 0 ≤ (if tagK (kindL l) then l.drop (2 + (szK (kindL l)).sum) else noTag).getD j 0 ∧ (if tagK (kindL l) then l.drop (2 + (szK (kindL l)).sum) else noTag).getD j 0 < 256 := by
    cases ht : tagK (kindL l) with
    | true =>
      intro j
      rw [if_pos rfl]
      have := hl (2 + (szK (kindL l)).sum + j)
      simpa [List.getD_eq_getElem?_getD, List.getElem?_drop] using this
    | false => exact ok_rep 32
  unfold parseF frOf
  exact ⟨⟨by simp only; omega, by simp only; omega⟩, ⟨by simp only; omega, by simp only; omega⟩, ⟨by simp only; omega, by simp only; omega⟩, ⟨by simp only; omega, by simp only; omega⟩, ⟨by simp only; omega, by simp only; omega⟩, ⟨by simp only; omega, by simp only; omega⟩, ⟨by simp only; omega, by simp only; omega⟩, ⟨by simp only; omega, by simp only; omega⟩, htl, htb⟩
/-- are bytes a plain frame's? -/
def goodB (l : List Int) : Bool := formB l && (plainB (parseF l) && putF (parseF l) == l)
/-- the error of bytes -/
def errL (l : List Int) : Int := if 64 < l.length then 2 else if wholeB l = false then 4 else if goodB l then 0 else 3
/-- the frame of bytes -/
def readF (l : List Int) : Fr := if errL l = 0 then parseF l else Fr.zero
def ReadPost (l : List Int) (w : World) (e : Ending) (w' : World) : Prop := e = .returned (.tuple #[frV (readF l), .int .i64 (errL l)]) ∧ Below w.heap.size w w'
theorem readF_no {l : List Int} (h : errL l ≠ 0) : readF l = Fr.zero := by unfold readF; rw [if_neg h]
theorem zero_ok : Fr.zero.ok := ⟨by decide, by decide, by decide, by decide, by decide, by decide, by decide, by decide, rfl, ok_rep 32⟩

set_option maxHeartbeats 1000000 in
theorem read_early (A : Option Addr) (n c : Nat) (l : List Int) (w : World) (hb : Bts w A n c l) (h : 64 < n ∨ wholeB l = false) :
    Calls Try.prog 12 #[.slice A n c] w (ReadPost l w) := by
  have hn := hb.small
  have hZs : (frA Fr.zero).size = 40 := rfl
  have hZ1 := frA_one Fr.zero
  have hzb := built_zero
  have hwh := fun w hb => whole_any A n c l w hb
  have he : errL l = if 64 < n then 2 else 4 := by
    unfold errL
    rw [hb.len]
    split
    · rfl
    · rw [if_pos (h.resolve_left (by omega))]
  have hr : readF l = Fr.zero := readF_no (by rw [he]; split <;> omega)
  obtain ⟨Z, hZ⟩ : ∃ Z, Z = frA Fr.zero := ⟨_, rfl⟩
  have hres : frV (readF l) = .agg Z := by rw [hr, hZ]; rfl
  rw [← hZ] at hZs hZ1 hzb
  have hb' := hb.more (.cells Z 26)
  have hwl : 64 < n ∨ wholeB l = false := h
  obtain ⟨W, hW⟩ : ∃ W, wholeB l = W := ⟨_, rfl⟩
  rw [hW] at hwl h
  have hwh := hwh _ hb'
  rw [hW] at hwh
  have HZ := Lib.hid hZ
  have HZS := Lib.hid hZs
  have HZ1 := Lib.hid hZ1
  have HZB := Lib.hid hzb
  have HRES := Lib.hid hres
  have HWH := Lib.hid hwh
  have HE := Lib.hid he
  by_cases h64 : 64 < n
  · have h64' : (64 : Int) < n := by omega
    have hX2 : (w.alloc (.cells (frA Fr.zero) 26)).heap[w.heap.size]? = some (.cells Z 26 (0, 0)) := by rw [hZ]; exact heap_alloc_new w _
    have HX2 := Lib.hid hX2
    rw [if_pos h64] at he
    have HE := Lib.hid he
    clear hZ hZs hZ1 hzb hres hwh hW hr hb hb' h hwl hX2 he
    go_enter Try.func12, Try.ntmps12
    go_wp2_with (first
      | ((with_reducible refine wpList_build_to rfl 26 _ rfl _ Z ?hb3 HZB.out ?_); (case hb3 => rfl))
      | ((refine wpList_store_blk rfl 26 _ _ rfl w.heap.size Z ?hx4 ?hy4 26 Z HX2.out (info_frame HZS.out) rfl HZ1.out ?_); (case hx4 => rfl); (case hy4 => rfl)
         intro w6 hg6 hX6 hs6))
    refine bodyPost_ret (v := .tuple #[.agg Z, .int .i64 2]) ?_ ?_ ?_
    · exact results_blk_tmp Try.results12 _ _ _ w.heap.size 26 _ (0, 0) _ rfl hX6 Try.underlying26 rfl (info_frame HZS.out) _ rfl
    · rfl
    · exact ⟨by rw [HRES.out, HE.out], (one_alloc _ _).grown hg6 (by simp) (fun k e => by cases e; exact Nat.le_refl _)⟩
  · have h64' : (n : Int) ≤ 64 := by omega
    obtain rfl : W = false := h.resolve_left (by omega)
    have hX2 : (w.alloc (.cells (frA Fr.zero) 26)).heap[w.heap.size]? = some (.cells Z 26 (0, 0)) := by rw [hZ]; exact heap_alloc_new w _
    have HX2 := Lib.hid hX2
    rw [if_neg h64] at he
    have HE := Lib.hid he
    have hb' := hb.more (.cells (frA Fr.zero) 26)
    have hwh := whole_any A n c l _ hb'
    rw [hW] at hwh
    have HWH := Lib.hid hwh
    clear hZ hZs hZ1 hzb hres hwh hW hr hb hb' h hwl hX2 he
    go_enter Try.func12, Try.ntmps12
    go_wp2_with (first
      | (go_at_call 26; refine HWH.out.mono ?_; rintro e w1 ⟨rfl, rfl⟩)
      | ((with_reducible refine wpList_build_to rfl 26 _ rfl _ Z ?hb3 HZB.out ?_); (case hb3 => rfl))
      | ((refine wpList_store_blk rfl 26 _ _ rfl w.heap.size Z ?hx4 ?hy4 26 Z HX2.out (info_frame HZS.out) rfl HZ1.out ?_); (case hx4 => rfl); (case hy4 => rfl)
         intro w6 hg6 hX6 hs6))
    refine bodyPost_ret (v := .tuple #[.agg Z, .int .i64 4]) ?_ ?_ ?_
    · exact results_blk_tmp Try.results12 _ _ _ w.heap.size 26 _ (0, 0) _ rfl hX6 Try.underlying26 rfl (info_frame HZS.out) _ rfl
    · rfl
    · exact ⟨by rw [HRES.out, HE.out], (one_alloc _ _).grown hg6 (by simp) (fun k e => by cases e; exact Nat.le_refl _)⟩
end Go.Proofs.Ytncedbjbooemjaa

/- The walk over package frame's Read, where the bytes are whole. -/
namespace Go.Proofs.Ytncedbjbooemjaa
set_option linter.unusedVariables false
set_option linter.unusedSimpArgs false
open Go.RowKit

theorem size_zero : (frA Fr.zero).size = 40 := rfl

set_option maxHeartbeats 1000000 in
theorem read_form (A : Option Addr) (n c : Nat) (l : List Int) (w : World) (hb : Bts w A n c l) (h64 : n ≤ 64) (hw : wholeB l = true) (hform : formB l = false) :
    Calls Try.prog 12 #[.slice A n c] w (ReadPost l w) := by
  have hgood : goodB l = false := by unfold goodB; rw [hform]; rfl
  have herr : errL l = 3 := by
    unfold errL
    rw [hb.len, if_neg (by omega), if_neg (by rw [hw]; simp), hgood]
    rfl
  have hres : readF l = Fr.zero := readF_no (by rw [herr]; omega)
  have HE := Lib.hid herr
  have HRES0 := Lib.hid hres
  have hn := hb.small
  have hZs := size_zero
  have hZ1 := frA_one Fr.zero
  have hzb := built_zero
  have h64' : (n : Int) ≤ 64 := by omega
  have hpa := parsed_any A n c l
  have hwz := whole_any A n c l _ (hb.more (.cells (frA Fr.zero) 26))
  have hpz := hpa _ (hb.more (.cells (frA Fr.zero) 26))
  unfold ParsedPost at hpz
  rw [hw] at hwz
  rw [hform] at hpz
  obtain ⟨Y, hY⟩ : ∃ Y, frA (if false = true then parseF l else Fr.zero) = Y := ⟨_, rfl⟩
  have hYs : Y.size = 40 := by rw [← hY]; exact frA_size (rfl)
  have hY1 : Y.all (·.oneCell') = true := by rw [← hY]; exact frA_one _
  have hYV : frV (if false = true then parseF l else Fr.zero) = .agg Y := by rw [← hY]; rfl
  rw [hYV] at hpz
  obtain ⟨Z, hZ⟩ : ∃ Z, Z = frA Fr.zero := ⟨_, rfl⟩
  have hZV : frV Fr.zero = .agg Z := by rw [hZ]; rfl
  have hX0 : (w.alloc (.cells (frA Fr.zero) 26)).heap[w.heap.size]? = some (.cells Z 26 (0, 0)) := by rw [hZ]; exact heap_alloc_new w _
  rw [← hZ] at hZs hZ1 hzb
  have HX0 := Lib.hid hX0
  have HZ := Lib.hid hZ
  have HZS := Lib.hid hZs
  have HZ1 := Lib.hid hZ1
  have HZB := Lib.hid hzb
  have HZV := Lib.hid hZV
  have HYS := Lib.hid hYs
  have HY1 := Lib.hid hY1
  have HYV := Lib.hid hYV
  have HY := Lib.hid hY
  have HWZ := Lib.hid hwz
  have HPZ := Lib.hid hpz
  have HB := Lib.hid hb
  have HRES : Hid (frV (readF l) = .agg Z) := Lib.hid (by rw [HRES0.out]; exact HZV.out)
  have hpc := True.intro
  clear hX0 hZ hZs hZ1 hzb hZV hYs hY1 hYV hY hwz hpz hpa hb h64 hw hform hgood hres herr hpc
  go_enter Try.func12, Try.ntmps12
  go_wp2_with (first
    | (go_at_call 26; refine HWZ.out.mono ?_; rintro e w1 ⟨rfl, rfl⟩)
    | (go_at_call 27; refine HPZ.out.mono ?_; rintro e w2 ⟨rfl, hb2⟩
       have hB2 := (after_one hb2).1
       have hX2 : w2.heap[w.heap.size]? = some (.cells Z 26 (0, 0)) := (hb2.block _ (by simp)).trans HX0.out
       clear hb2)
    | ((with_reducible refine wpList_build_to rfl 26 _ rfl _ Z ?hb3 HZB.out ?_); (case hb3 => rfl))
    | ((refine wpList_store_blk rfl 26 _ _ rfl w2.heap.size Y ?hx3 ?hy3 26 _ (heap_alloc_new w2 _) (info_frame HYS.out) ?hs3 HY1.out ?_); (case hx3 => rfl); (case hy3 => rfl); (case hs3 => rw [HYS.out]; rfl)
       intro w3 hg3 hX3 hs3
       have hB3 : Below w.heap.size w w3 := (hB2.alloc hB2.size _).grown hg3 (Nat.le_trans hB2.size (size_le_alloc _ _)) (fun k e => by cases e; exact hB2.size)
       have hlt2 : w.heap.size < w2.heap.size := (Array.getElem?_eq_some_iff.1 hX2).1
       have hX5 : w3.heap[w.heap.size]? = some (.cells Z 26 (0, 0)) := (hg3.block _ (by simp; omega) (ne_some (Nat.ne_of_lt hlt2))).trans (two_rows_in hX2 _)
       clear hg3 hs3)
    | ((with_reducible refine wpList_load_blk 26 _ rfl w2.heap.size ?hx6 26 Y (0, 0) _ hX3 Try.underlying26 ?hd6 (info_frame HYS.out) ?_ ?hw6); (case hx6 => rfl); (case hd6 => rfl); (case hw6 => rfl))
    | ((with_reducible refine wpList_load_blk 26 _ rfl w2.heap.size ?hx8 26 Y (0, 0) _ hXL Try.underlying26 ?hd8 (info_frame HYS.out) ?_ ?hw8); (case hx8 => rfl); (case hd8 => rfl); (case hw8 => rfl))
    | ((refine wpList_store_blk rfl 26 _ _ rfl w.heap.size Z ?hx4 ?hy4 26 Z hX5 (info_frame HZS.out) (HZS.out.trans HZS.out.symm) HZ1.out ?_); (case hx4 => rfl); (case hy4 => rfl)
       intro w6 hg6 hX6 hs6))
  refine bodyPost_ret (v := .tuple #[.agg Z, .int .i64 3]) ?_ ?_ ?_
  · exact results_blk_tmp Try.results12 _ _ _ w.heap.size 26 _ (0, 0) _ rfl hX6 Try.underlying26 rfl (info_frame HZS.out) _ rfl
  · rfl
  · exact ⟨by rw [HRES.out, HE.out], hB3.grown hg6 hB3.size (fun k e => by cases e; exact Nat.le_refl _)⟩

set_option maxHeartbeats 1000000 in
theorem read_plain (A : Option Addr) (n c : Nat) (l : List Int) (w : World) (hb : Bts w A n c l) (h64 : n ≤ 64) (hw : wholeB l = true) (hform : formB l = true) (hp : plainB (parseF l) = false) :
    Calls Try.prog 12 #[.slice A n c] w (ReadPost l w) := by
  have hgood : goodB l = false := by unfold goodB; rw [hform, hp]; rfl
  have herr : errL l = 3 := by
    unfold errL
    rw [hb.len, if_neg (by omega), if_neg (by rw [hw]; simp), hgood]
    rfl
  have hres : readF l = Fr.zero := readF_no (by rw [herr]; omega)
  have HE := Lib.hid herr
  have HRES0 := Lib.hid hres
  have hn := hb.small
  have hZs := size_zero
  have hZ1 := frA_one Fr.zero
  have hzb := built_zero
  have h64' : (n : Int) ≤ 64 := by omega
  have hpa := parsed_any A n c l
  have hwz := whole_any A n c l _ (hb.more (.cells (frA Fr.zero) 26))
  have hpz := hpa _ (hb.more (.cells (frA Fr.zero) 26))
  unfold ParsedPost at hpz
  rw [hw] at hwz
  rw [hform] at hpz
  obtain ⟨Y, hY⟩ : ∃ Y, frA (if true = true then parseF l else Fr.zero) = Y := ⟨_, rfl⟩
  have hYs : Y.size = 40 := by rw [← hY]; exact frA_size ((parse_ok hb.ok hform).len)
  have hY1 : Y.all (·.oneCell') = true := by rw [← hY]; exact frA_one _
  have hYV : frV (if true = true then parseF l else Fr.zero) = .agg Y := by rw [← hY]; rfl
  rw [hYV] at hpz
  obtain ⟨Z, hZ⟩ : ∃ Z, Z = frA Fr.zero := ⟨_, rfl⟩
  have hZV : frV Fr.zero = .agg Z := by rw [hZ]; rfl
  have hX0 : (w.alloc (.cells (frA Fr.zero) 26)).heap[w.heap.size]? = some (.cells Z 26 (0, 0)) := by rw [hZ]; exact heap_alloc_new w _
  rw [← hZ] at hZs hZ1 hzb
  have HX0 := Lib.hid hX0
  have HZ := Lib.hid hZ
  have HZS := Lib.hid hZs
  have HZ1 := Lib.hid hZ1
  have HZB := Lib.hid hzb
  have HZV := Lib.hid hZV
  have HYS := Lib.hid hYs
  have HY1 := Lib.hid hY1
  have HYV := Lib.hid hYV
  have HY := Lib.hid hY
  have HWZ := Lib.hid hwz
  have HPZ := Lib.hid hpz
  have HB := Lib.hid hb
  have HRES : Hid (frV (readF l) = .agg Z) := Lib.hid (by rw [HRES0.out]; exact HZV.out)
  have hpc := fun w => put_plain_b (parseF l) w (parse_ok HB.out.ok hform) false hp
  rw [show frV (parseF l) = .agg Y from HYV.out] at hpc
  have HPC := Lib.hid hpc
  clear hX0 hZ hZs hZ1 hzb hZV hYs hY1 hYV hY hwz hpz hpa hb h64 hw hform hgood hres herr hpc
  go_enter Try.func12, Try.ntmps12
  go_wp2_with (first
    | (go_at_call 26; refine HWZ.out.mono ?_; rintro e w1 ⟨rfl, rfl⟩)
    | (go_at_call 27; refine HPZ.out.mono ?_; rintro e w2 ⟨rfl, hb2⟩
       have hB2 := (after_one hb2).1
       have hX2 : w2.heap[w.heap.size]? = some (.cells Z 26 (0, 0)) := (hb2.block _ (by simp)).trans HX0.out
       clear hb2)
    | ((with_reducible refine wpList_build_to rfl 26 _ rfl _ Z ?hb3 HZB.out ?_); (case hb3 => rfl))
    | ((refine wpList_store_blk rfl 26 _ _ rfl w2.heap.size Y ?hx3 ?hy3 26 _ (heap_alloc_new w2 _) (info_frame HYS.out) ?hs3 HY1.out ?_); (case hx3 => rfl); (case hy3 => rfl); (case hs3 => rw [HYS.out]; rfl)
       intro w3 hg3 hX3 hs3
       have hB3 : Below w.heap.size w w3 := (hB2.alloc hB2.size _).grown hg3 (Nat.le_trans hB2.size (size_le_alloc _ _)) (fun k e => by cases e; exact hB2.size)
       have hlt2 : w.heap.size < w2.heap.size := (Array.getElem?_eq_some_iff.1 hX2).1
       have hX5 : w3.heap[w.heap.size]? = some (.cells Z 26 (0, 0)) := (hg3.block _ (by simp; omega) (ne_some (Nat.ne_of_lt hlt2))).trans (two_rows_in hX2 _)
       clear hg3 hs3)
    | (go_at_call 10; (with_reducible refine (HPC.out _).mono ?_); rintro e w4 ⟨A4, m4, c4, rfl, hv4, hb4⟩
       have hB4 := hB3.trans (hb4.mono hB3.size)
       have hX4 := (hb4.block _ (Array.getElem?_eq_some_iff.1 hX5).1).trans hX5
       have hXL := (hb4.block _ (Array.getElem?_eq_some_iff.1 hX3).1).trans hX3
       clear hb4)
    | ((with_reducible refine wpList_load_blk 26 _ rfl w2.heap.size ?hx6 26 Y (0, 0) _ hX3 Try.underlying26 ?hd6 (info_frame HYS.out) ?_ ?hw6); (case hx6 => rfl); (case hd6 => rfl); (case hw6 => rfl))
    | ((with_reducible refine wpList_load_blk 26 _ rfl w2.heap.size ?hx8 26 Y (0, 0) _ hXL Try.underlying26 ?hd8 (info_frame HYS.out) ?_ ?hw8); (case hx8 => rfl); (case hd8 => rfl); (case hw8 => rfl))
    | ((refine wpList_store_blk rfl 26 _ _ rfl w.heap.size Z ?hx4 ?hy4 26 Z hX4 (info_frame HZS.out) (HZS.out.trans HZS.out.symm) HZ1.out ?_); (case hx4 => rfl); (case hy4 => rfl)
       intro w6 hg6 hX6 hs6))
  refine bodyPost_ret (v := .tuple #[.agg Z, .int .i64 3]) ?_ ?_ ?_
  · exact results_blk_tmp Try.results12 _ _ _ w.heap.size 26 _ (0, 0) _ rfl hX6 Try.underlying26 rfl (info_frame HZS.out) _ rfl
  · rfl
  · exact ⟨by rw [HRES.out, HE.out], hB4.grown hg6 hB4.size (fun k e => by cases e; exact Nat.le_refl _)⟩

set_option maxHeartbeats 1000000 in
theorem read_other (A : Option Addr) (n c : Nat) (l : List Int) (w : World) (hb : Bts w A n c l) (h64 : n ≤ 64) (hw : wholeB l = true) (hform : formB l = true) (hp : plainB (parseF l) = true) (heq : (putF (parseF l) == l) = false) :
    Calls Try.prog 12 #[.slice A n c] w (ReadPost l w) := by
  have hgood : goodB l = false := by unfold goodB; rw [hform, hp, heq]; rfl
  have herr : errL l = 3 := by
    unfold errL
    rw [hb.len, if_neg (by omega), if_neg (by rw [hw]; simp), hgood]
    rfl
  have hres : readF l = Fr.zero := readF_no (by rw [herr]; omega)
  have HE := Lib.hid herr
  have HRES0 := Lib.hid hres
  have hn := hb.small
  have hZs := size_zero
  have hZ1 := frA_one Fr.zero
  have hzb := built_zero
  have h64' : (n : Int) ≤ 64 := by omega
  have hpa := parsed_any A n c l
  have hwz := whole_any A n c l _ (hb.more (.cells (frA Fr.zero) 26))
  have hpz := hpa _ (hb.more (.cells (frA Fr.zero) 26))
  unfold ParsedPost at hpz
  rw [hw] at hwz
  rw [hform] at hpz
  obtain ⟨Y, hY⟩ : ∃ Y, frA (if true = true then parseF l else Fr.zero) = Y := ⟨_, rfl⟩
  have hYs : Y.size = 40 := by rw [← hY]; exact frA_size ((parse_ok hb.ok hform).len)
  have hY1 : Y.all (·.oneCell') = true := by rw [← hY]; exact frA_one _
  have hYV : frV (if true = true then parseF l else Fr.zero) = .agg Y := by rw [← hY]; rfl
  rw [hYV] at hpz
  obtain ⟨Z, hZ⟩ : ∃ Z, Z = frA Fr.zero := ⟨_, rfl⟩
  have hZV : frV Fr.zero = .agg Z := by rw [hZ]; rfl
  have hX0 : (w.alloc (.cells (frA Fr.zero) 26)).heap[w.heap.size]? = some (.cells Z 26 (0, 0)) := by rw [hZ]; exact heap_alloc_new w _
  rw [← hZ] at hZs hZ1 hzb
  have HX0 := Lib.hid hX0
  have HZ := Lib.hid hZ
  have HZS := Lib.hid hZs
  have HZ1 := Lib.hid hZ1
  have HZB := Lib.hid hzb
  have HZV := Lib.hid hZV
  have HYS := Lib.hid hYs
  have HY1 := Lib.hid hY1
  have HYV := Lib.hid hYV
  have HY := Lib.hid hY
  have HWZ := Lib.hid hwz
  have HPZ := Lib.hid hpz
  have HB := Lib.hid hb
  have HRES : Hid (frV (readF l) = .agg Z) := Lib.hid (by rw [HRES0.out]; exact HZV.out)
  have hpc := fun w => put_plain_b (parseF l) w (parse_ok HB.out.ok hform) true hp
  rw [show frV (parseF l) = .agg Y from HYV.out] at hpc
  have HPC := Lib.hid hpc
  have HEQ := Lib.hid heq
  clear hX0 hZ hZs hZ1 hzb hZV hYs hY1 hYV hY hwz hpz hpa hb h64 hw hform hgood hres herr hpc heq
  go_enter Try.func12, Try.ntmps12
  go_wp2_with (first
    | (go_at_call 26; refine HWZ.out.mono ?_; rintro e w1 ⟨rfl, rfl⟩)
    | (go_at_call 27; refine HPZ.out.mono ?_; rintro e w2 ⟨rfl, hb2⟩
       have hB2 := (after_one hb2).1
       have hX2 : w2.heap[w.heap.size]? = some (.cells Z 26 (0, 0)) := (hb2.block _ (by simp)).trans HX0.out
       clear hb2)
    | ((with_reducible refine wpList_build_to rfl 26 _ rfl _ Z ?hb3 HZB.out ?_); (case hb3 => rfl))
    | ((refine wpList_store_blk rfl 26 _ _ rfl w2.heap.size Y ?hx3 ?hy3 26 _ (heap_alloc_new w2 _) (info_frame HYS.out) ?hs3 HY1.out ?_); (case hx3 => rfl); (case hy3 => rfl); (case hs3 => rw [HYS.out]; rfl)
       intro w3 hg3 hX3 hs3
       have hB3 : Below w.heap.size w w3 := (hB2.alloc hB2.size _).grown hg3 (Nat.le_trans hB2.size (size_le_alloc _ _)) (fun k e => by cases e; exact hB2.size)
       have hlt2 : w.heap.size < w2.heap.size := (Array.getElem?_eq_some_iff.1 hX2).1
       have hX5 : w3.heap[w.heap.size]? = some (.cells Z 26 (0, 0)) := (hg3.block _ (by simp; omega) (ne_some (Nat.ne_of_lt hlt2))).trans (two_rows_in hX2 _)
       clear hg3 hs3)
    | (go_at_call 10; (with_reducible refine (HPC.out _).mono ?_); rintro e w4 ⟨A4, m4, c4, rfl, hv4, hb4⟩
       have hB4 := hB3.trans (hb4.mono hB3.size)
       have hX4 := (hb4.block _ (Array.getElem?_eq_some_iff.1 hX5).1).trans hX5
       have hXL := (hb4.block _ (Array.getElem?_eq_some_iff.1 hX3).1).trans hX3
       clear hb4)
    | (go_at_call 28; have hv4 : Bts w4 A4 m4 c4 (putF (parseF l)) := hv4
       (with_reducible refine (equal_any A4 A m4 c4 n c _ l w4 hv4 (HB.out.below hB4)).mono ?_); rintro e w5 ⟨he5, rfl⟩
       rw [HEQ.out] at he5
       subst he5)
    | ((with_reducible refine wpList_load_blk 26 _ rfl w2.heap.size ?hx6 26 Y (0, 0) _ hX3 Try.underlying26 ?hd6 (info_frame HYS.out) ?_ ?hw6); (case hx6 => rfl); (case hd6 => rfl); (case hw6 => rfl))
    | ((with_reducible refine wpList_load_blk 26 _ rfl w2.heap.size ?hx8 26 Y (0, 0) _ hXL Try.underlying26 ?hd8 (info_frame HYS.out) ?_ ?hw8); (case hx8 => rfl); (case hd8 => rfl); (case hw8 => rfl))
    | ((refine wpList_store_blk rfl 26 _ _ rfl w.heap.size Z ?hx4 ?hy4 26 Z hX4 (info_frame HZS.out) (HZS.out.trans HZS.out.symm) HZ1.out ?_); (case hx4 => rfl); (case hy4 => rfl)
       intro w6 hg6 hX6 hs6))
  refine bodyPost_ret (v := .tuple #[.agg Z, .int .i64 3]) ?_ ?_ ?_
  · exact results_blk_tmp Try.results12 _ _ _ w.heap.size 26 _ (0, 0) _ rfl hX6 Try.underlying26 rfl (info_frame HZS.out) _ rfl
  · rfl
  · exact ⟨by rw [HRES.out, HE.out], hB4.grown hg6 hB4.size (fun k e => by cases e; exact Nat.le_refl _)⟩

set_option maxHeartbeats 1000000 in
theorem read_good (A : Option Addr) (n c : Nat) (l : List Int) (w : World) (hb : Bts w A n c l) (h64 : n ≤ 64) (hw : wholeB l = true) (hform : formB l = true) (hp : plainB (parseF l) = true) (heq : (putF (parseF l) == l) = true) :
    Calls Try.prog 12 #[.slice A n c] w (ReadPost l w) := by
  have hgood : goodB l = true := by unfold goodB; rw [hform, hp, heq]; rfl
  have herr : errL l = 0 := by
    unfold errL
    rw [hb.len, if_neg (by omega), if_neg (by rw [hw]; simp), hgood]
    rfl
  have hres : readF l = parseF l := by unfold readF; rw [if_pos herr]
  have HE := Lib.hid herr
  have HRES0 := Lib.hid hres
  have hn := hb.small
  have hZs := size_zero
  have hZ1 := frA_one Fr.zero
  have hzb := built_zero
  have h64' : (n : Int) ≤ 64 := by omega
  have hpa := parsed_any A n c l
  have hwz := whole_any A n c l _ (hb.more (.cells (frA Fr.zero) 26))
  have hpz := hpa _ (hb.more (.cells (frA Fr.zero) 26))
  unfold ParsedPost at hpz
  rw [hw] at hwz
  rw [hform] at hpz
  obtain ⟨Y, hY⟩ : ∃ Y, frA (if true = true then parseF l else Fr.zero) = Y := ⟨_, rfl⟩
  have hYs : Y.size = 40 := by rw [← hY]; exact frA_size ((parse_ok hb.ok hform).len)
  have hY1 : Y.all (·.oneCell') = true := by rw [← hY]; exact frA_one _
  have hYV : frV (if true = true then parseF l else Fr.zero) = .agg Y := by rw [← hY]; rfl
  rw [hYV] at hpz
  obtain ⟨Z, hZ⟩ : ∃ Z, Z = frA Fr.zero := ⟨_, rfl⟩
  have hZV : frV Fr.zero = .agg Z := by rw [hZ]; rfl
  have hX0 : (w.alloc (.cells (frA Fr.zero) 26)).heap[w.heap.size]? = some (.cells Z 26 (0, 0)) := by rw [hZ]; exact heap_alloc_new w _
  rw [← hZ] at hZs hZ1 hzb
  have HX0 := Lib.hid hX0
  have HZ := Lib.hid hZ
  have HZS := Lib.hid hZs
  have HZ1 := Lib.hid hZ1
  have HZB := Lib.hid hzb
  have HZV := Lib.hid hZV
  have HYS := Lib.hid hYs
  have HY1 := Lib.hid hY1
  have HYV := Lib.hid hYV
  have HY := Lib.hid hY
  have HWZ := Lib.hid hwz
  have HPZ := Lib.hid hpz
  have HB := Lib.hid hb
  have HRES : Hid (frV (readF l) = .agg Y) := Lib.hid (by rw [HRES0.out]; exact HYV.out)
  have hpc := fun w => put_plain_b (parseF l) w (parse_ok HB.out.ok hform) true hp
  rw [show frV (parseF l) = .agg Y from HYV.out] at hpc
  have HPC := Lib.hid hpc
  have HEQ := Lib.hid heq
  clear hX0 hZ hZs hZ1 hzb hZV hYs hY1 hYV hY hwz hpz hpa hb h64 hw hform hgood hres herr hpc heq
  go_enter Try.func12, Try.ntmps12
  go_wp2_with (first
    | (go_at_call 26; refine HWZ.out.mono ?_; rintro e w1 ⟨rfl, rfl⟩)
    | (go_at_call 27; refine HPZ.out.mono ?_; rintro e w2 ⟨rfl, hb2⟩
       have hB2 := (after_one hb2).1
       have hX2 : w2.heap[w.heap.size]? = some (.cells Z 26 (0, 0)) := (hb2.block _ (by simp)).trans HX0.out
       clear hb2)
    | ((with_reducible refine wpList_build_to rfl 26 _ rfl _ Z ?hb3 HZB.out ?_); (case hb3 => rfl))
    | ((refine wpList_store_blk rfl 26 _ _ rfl w2.heap.size Y ?hx3 ?hy3 26 _ (heap_alloc_new w2 _) (info_frame HYS.out) ?hs3 HY1.out ?_); (case hx3 => rfl); (case hy3 => rfl); (case hs3 => rw [HYS.out]; rfl)
       intro w3 hg3 hX3 hs3
       have hB3 : Below w.heap.size w w3 := (hB2.alloc hB2.size _).grown hg3 (Nat.le_trans hB2.size (size_le_alloc _ _)) (fun k e => by cases e; exact hB2.size)
       have hlt2 : w.heap.size < w2.heap.size := (Array.getElem?_eq_some_iff.1 hX2).1
       have hX5 : w3.heap[w.heap.size]? = some (.cells Z 26 (0, 0)) := (hg3.block _ (by simp; omega) (ne_some (Nat.ne_of_lt hlt2))).trans (two_rows_in hX2 _)
       clear hg3 hs3)
    | (go_at_call 10; (with_reducible refine (HPC.out _).mono ?_); rintro e w4 ⟨A4, m4, c4, rfl, hv4, hb4⟩
       have hB4 := hB3.trans (hb4.mono hB3.size)
       have hX4 := (hb4.block _ (Array.getElem?_eq_some_iff.1 hX5).1).trans hX5
       have hXL := (hb4.block _ (Array.getElem?_eq_some_iff.1 hX3).1).trans hX3
       clear hb4)
    | (go_at_call 28; have hv4 : Bts w4 A4 m4 c4 (putF (parseF l)) := hv4
       (with_reducible refine (equal_any A4 A m4 c4 n c _ l w4 hv4 (HB.out.below hB4)).mono ?_); rintro e w5 ⟨he5, rfl⟩
       rw [HEQ.out] at he5
       subst he5)
    | ((with_reducible refine wpList_load_blk 26 _ rfl w2.heap.size ?hx6 26 Y (0, 0) _ hX3 Try.underlying26 ?hd6 (info_frame HYS.out) ?_ ?hw6); (case hx6 => rfl); (case hd6 => rfl); (case hw6 => rfl))
    | ((with_reducible refine wpList_load_blk 26 _ rfl w2.heap.size ?hx8 26 Y (0, 0) _ hXL Try.underlying26 ?hd8 (info_frame HYS.out) ?_ ?hw8); (case hx8 => rfl); (case hd8 => rfl); (case hw8 => rfl))
    | ((refine wpList_store_blk rfl 26 _ _ rfl w.heap.size Y ?hx4 ?hy4 26 Z hX4 (info_frame HYS.out) (HZS.out.trans HYS.out.symm) HY1.out ?_); (case hx4 => rfl); (case hy4 => rfl)
       intro w6 hg6 hX6 hs6))
  refine bodyPost_ret (v := .tuple #[.agg Y, .int .i64 0]) ?_ ?_ ?_
  · exact results_blk_tmp Try.results12 _ _ _ w.heap.size 26 _ (0, 0) _ rfl hX6 Try.underlying26 rfl (info_frame HYS.out) _ rfl
  · rfl
  · exact ⟨by rw [HRES.out, HE.out], hB4.grown hg6 hB4.size (fun k e => by cases e; exact Nat.le_refl _)⟩

theorem read_any (A : Option Addr) (n c : Nat) (l : List Int) (w : World) (hb : Bts w A n c l) :
    Calls Try.prog 12 #[.slice A n c] w (ReadPost l w) := by
  by_cases h64 : 64 < n
  · exact read_early A n c l w hb (.inl h64)
  · have h64 : n ≤ 64 := by omega
    cases hw : wholeB l with
    | false => exact read_early A n c l w hb (.inr hw)
    | true =>
      cases hform : formB l with
      | false => exact read_form A n c l w hb h64 hw hform
      | true =>
        cases hp : plainB (parseF l) with
        | false => exact read_plain A n c l w hb h64 hw hform hp
        | true =>
          cases heq : (putF (parseF l) == l) with
          | false => exact read_other A n c l w hb h64 hw hform hp heq
          | true => exact read_good A n c l w hb h64 hw hform hp heq
end Go.Proofs.Ytncedbjbooemjaa

/- What is put is read; what is read is put; beginnings of frames, and what is longer. -/
namespace Go.Proofs.Ytncedbjbooemjaa
set_option linter.unusedVariables false
set_option linter.unusedSimpArgs false
open Go

theorem szK_head {k : Int} (h : kindB k = true) : ∃ S', szK k.toNat = 1 :: S' := by
  rcases kind_cases h with rfl | rfl | rfl | rfl | rfl | rfl | rfl <;> exact ⟨_, rfl⟩
theorem fits_of_cat {f : Fr} (hok : f.ok) (h : plainB f = true) : fitsL (rowS f (szK f.kind.toNat) (tagK f.kind.toNat)) := by
  have h1 := plain_fits hok h
  rw [catB, Bool.and_eq_true] at h1
  have h2 := h1.2
  intro p hp
  rw [← rowI_toN] at hp
  obtain ⟨q, hq, rfl⟩ := List.mem_map.1 hp
  have h3 := List.all_eq_true.1 h2 q hq
  unfold fitB at h3
  rw [decide_eq_true_eq] at h3
  exact h3.2.2
theorem put_drop {f : Fr} : (putF f).drop 2 = catL (pick (natsOf f) (szK f.kind.toNat)) ++ if tagK f.kind.toNat then f.tag else [] := by
  have hl := putL_length (folL (szK f.kind.toNat) (tagK f.kind.toNat)) 2
  rw [putF, frontF, rowS, catL, List.append_assoc]
  exact List.drop_left' hl
theorem put_take {f : Fr} : (putF f).take 2 = putL (folL (szK f.kind.toNat) (tagK f.kind.toNat)) 2 := by
  have hl := putL_length (folL (szK f.kind.toNat) (tagK f.kind.toNat)) 2
  rw [putF, frontF, rowS, catL, List.append_assoc]
  exact List.take_left' hl
theorem put_told {f : Fr} (hT : f.tag.length = 32) : told (putF f) = (putF f).length := by
  have h1 := folK_small f.kind.toNat
  unfold told
  rw [put_take, num_put _ _ (by omega), putF_length hT]
theorem put_whole {f : Fr} (hT : f.tag.length = 32) : wholeB (putF f) = true := by
  have h1 := put_told hT
  unfold told at h1
  unfold wholeB
  rw [decide_eq_true_eq]
  have := putF_length hT
  omega
theorem put_kind_l {f : Fr} (h : kindB f.kind = true) : kindL (putF f) = f.kind.toNat := by
  obtain ⟨S', hS⟩ := szK_head h
  have hk : f.kind.toNat < 256 ^ 1 := by have := kind_cases h; omega
  unfold kindL
  rw [put_drop, hS]
  have hn : natsOf f = f.kind.toNat :: (natsOf f).tail := rfl
  rw [hn, pick, if_pos (by omega), catL, List.append_assoc]
  have hl := putL_length f.kind.toNat 1
  rw [List.take_left' hl, num_put _ _ hk]
theorem put_form {f : Fr} (hT : f.tag.length = 32) (h : kindB f.kind = true) : formB (putF f) = true := by
  have h1 := put_kind_l h
  have h2 := putF_length hT
  have hkk : ((f.kind.toNat : Nat) : Int) = f.kind := by have := kind_cases h; omega
  have hp := szK_pos (x := f.kind.toNat) (by rw [hkk]; exact h)
  unfold formB
  rw [h1, hkk, h, h2]
  simp only [Bool.true_and, decide_true, Bool.and_true, decide_eq_true_eq]
  unfold folL
  omega
theorem frOf_nats {f : Fr} (hp : f.pos) (hok : f.ok) : frOf (natsOf f) f.tag = f := by
  obtain ⟨p0, p1, p2, p3, p4⟩ := hp
  obtain ⟨_, _, ⟨b2, _⟩, ⟨b3, _⟩, _, ⟨b5, _⟩, _, _, _, _⟩ := hok
  refine Fr.ext' ?_ rfl
  rcases f with ⟨kind, user, sess, cn, epoch, count, cmd, arg, tag⟩
  simp only at *
  simp [frOf, natsOf, Fr.nums]
  omega
theorem put_parse {f : Fr} (hok : f.ok) (h : plainB f = true) : parseF (putF f) = f := by
  obtain ⟨h1, h2, h3, h4⟩ := plain_facts h
  have hk := put_kind_l h1
  have hpos := pos_of (kind_pos h1) h2
  have hS := szK_length f.kind.toNat
  have hpl := pick_length (natsOf f) (szK f.kind.toNat) (by rw [natsOf_length, hS])
  have hcl : (catL (pick (natsOf f) (szK f.kind.toNat))).length = (szK f.kind.toNat).sum := by rw [catL_length, hpl, there_sum]
  have hfit := fits_of_cat hok h
  have hcut := cut_cat (pick (natsOf f) (szK f.kind.toNat)) (fun p hp => hfit p (by rw [rowS]; exact List.mem_cons_of_mem _ hp))
  rw [hpl] at hcut
  have hsp := spread_pick f.nums (szK f.kind.toNat) (by rw [hS]; rfl) h3
  unfold parseF
  simp only
  rw [hk, put_drop, List.take_left' hcl, hcut]
  have hsp2 : spread (szK f.kind.toNat) ((pick (natsOf f) (szK f.kind.toNat)).map (·.1)) = natsOf f := hsp
  rw [hsp2]
  have ht : (if tagK f.kind.toNat = true then (putF f).drop (2 + (szK f.kind.toNat).sum) else noTag) = f.tag := by
    cases ht : tagK f.kind.toNat with
    | false => rw [if_neg (by simp), h4 ht]
    | true =>
      rw [if_pos rfl, ← List.drop_drop, put_drop, List.drop_left' hcl, ht, if_pos rfl]
  rw [ht]
  exact frOf_nats hpos hok
theorem put_read {f : Fr} (hok : f.ok) (h : plainB f = true) : errL (putF f) = 0 ∧ readF (putF f) = f := by
  have hT := hok.len
  have hpp := put_parse hok h
  have hg : goodB (putF f) = true := by
    unfold goodB
    rw [put_form hT (plain_facts h).1, hpp, h]
    simp
  have he : errL (putF f) = 0 := by
    unfold errL
    have := putF_small f hT
    rw [if_neg (by omega), if_neg (by rw [put_whole hT]; simp), if_pos hg]
  refine ⟨he, ?_⟩
  unfold readF
  rw [if_pos he, hpp]
theorem err_cases (l : List Int) : errL l = 0 ∨ errL l = 2 ∨ errL l = 3 ∨ errL l = 4 := by
  unfold errL
  split
  · omega
  · split
    · omega
    · split <;> omega
theorem read_put {l : List Int} (hl : ∀ j, 0 ≤ l.getD j 0 ∧ l.getD j 0 < 256) (h : errL l = 0) : (readF l).ok ∧ plainB (readF l) = true ∧ putF (readF l) = l := by
  have hg : goodB l = true := by
    unfold errL at h
    split at h
    · omega
    · split at h
      · omega
      · split at h
        · assumption
        · omega
  have hr : readF l = parseF l := by unfold readF; rw [if_pos h]
  unfold goodB at hg
  rw [Bool.and_eq_true, Bool.and_eq_true, beq_iff_eq] at hg
  rw [hr]
  exact ⟨parse_ok hl hg.1, hg.2.1, hg.2.2⟩
theorem read_okay (l : List Int) (hl : ∀ j, 0 ≤ l.getD j 0 ∧ l.getD j 0 < 256) : (readF l).ok := by
  by_cases h : errL l = 0
  · exact (read_put hl h).1
  · rw [readF_no h]; exact zero_ok
/-- two plain frames of the same bytes are one -/
theorem put_inj {f g : Fr} (hf : f.ok) (hg : g.ok) (pf : plainB f = true) (pg : plainB g = true) (h : putF f = putF g) : f = g := by
  rw [← (put_read hf pf).2, h, (put_read hg pg).2]
/-- a beginning of a frame is short -/
theorem put_begin {f : Fr} (hok : f.ok) (k : Nat) (hk : k < (putF f).length) : errL ((putF f).take k) = 4 := by
  have hT := hok.len
  have hw : wholeB ((putF f).take k) = false := by
    unfold wholeB
    rw [decide_eq_false_iff_not]
    intro ⟨h1, h2⟩
    have hl : ((putF f).take k).length = k := by rw [List.length_take]; omega
    have ht : ((putF f).take k).take 2 = (putF f).take 2 := by rw [List.take_take, Nat.min_eq_left (by omega)]
    rw [ht] at h2
    have := put_told hT
    unfold told at this
    omega
  unfold errL
  have h1 := putF_small f hT
  rw [if_neg (by rw [List.length_take]; omega), if_pos hw]
/-- with more behind it, it is none's, or too long -/
theorem put_longer {f : Fr} (hok : f.ok) (h : plainB f = true) (m : List Int) (hm : 0 < m.length) : errL (putF f ++ m) = if 64 < (putF f).length + m.length then 2 else 3 := by
  have hT := hok.len
  have hk := (plain_facts h).1
  have hpl := putF_length hT
  have hw : wholeB (putF f ++ m) = true := by
    unfold wholeB
    rw [decide_eq_true_eq]
    have ht : (putF f ++ m).take 2 = (putF f).take 2 := List.take_append_of_le_length (by omega)
    have := put_told hT
    unfold told at this
    rw [ht, List.length_append]
    omega
  have hkl : kindL (putF f ++ m) = f.kind.toNat := by
    rw [← put_kind_l hk]
    unfold kindL
    have hp3 : 3 ≤ (putF f).length := (form_facts (put_form hT hk)).1
    rw [List.drop_append_of_le_length (by omega), List.take_append_of_le_length (by rw [List.length_drop]; omega)]
  have hg : goodB (putF f ++ m) = false := by
    have hf : formB (putF f ++ m) = false := by
      unfold formB
      rw [hkl, List.length_append, hpl, decide_eq_false (p := 2 + folL (szK f.kind.toNat) (tagK f.kind.toNat) + m.length = 2 + folL (szK f.kind.toNat) (tagK f.kind.toNat)) (by omega)]
      simp
    unfold goodB
    rw [hf]
    rfl
  unfold errL
  rw [List.length_append, hw, hg]
  split
  · rfl
  · simp
/-- the bytes of a frame with a tag are its body, and the tag -/
theorem body_put {f : Fr} (h : bodyF f ≠ []) : plainB f = true ∧ putF f = bodyF f ++ f.tag := by
  unfold bodyF at h ⊢
  split at h
  · rename_i hc
    rw [Bool.and_eq_true] at hc
    rw [if_pos (by rw [hc.1, hc.2]; rfl)]
    exact ⟨hc.1, by rw [putF, hc.2]; simp⟩
  · exact absurd rfl h
end Go.Proofs.Ytncedbjbooemjaa
