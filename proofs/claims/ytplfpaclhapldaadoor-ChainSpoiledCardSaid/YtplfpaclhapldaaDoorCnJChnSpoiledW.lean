/- The walk over the law ChainSpoiled: records of which one has another entry are not verified, or two texts have one sum, and are not the same. -/
import Derived.Test.YtplfpaclhapldaaDoorCnJO
import Derived.Test.YtplfpaclhapldaaDoorCnJG
import Derived.Test.YtplfpaclhapldaaDoorCnJD
namespace Go.Proofs.YtplfpaclhapldaaDoor
set_option maxRecDepth 100000
set_option linter.unusedVariables false
set_option linter.unusedSimpArgs false
open Go.RowKit

set_option maxHeartbeats 2000000 in
theorem cspoilw_long (A : Option Addr) (n c : Nat) (l : List En) (i : Int) (f : En) (w : World) (hK : KTab w) (hl : Ens w A n c l) (ho : ∀ u ∈ l, u.ok) (hf : f.ok) (h : 20 < n) :
    Calls Tryd.prog 7 #[.slice A n c, .int .i64 i, enV f] w fun e w' => e = .returned (.bool true) ∧ Below w.heap.size w w' := by
  have hn := hl.small
  have e1 : (20 : Int) < n := by omega
  have HK := Lib.hid hK
  clear hl hK ho hf
  unfold enV
  go_enter Tryd.func7, Tryd.ntmps7
  go_wp2_with (go_at_call 9
               refine (cawake_any _ (HK.out.from (one_alloc w _))).mono ?_
               rintro e w1 ⟨rfl, hb1⟩
               have hE : w1.heap[w.heap.size]? = some (.cells (enA f) 28 (0, 0)) := after_alloc hb1
               have HBw1 := Lib.hid (after_one hb1).1
               clear hb1)
  obtain ⟨Y8, hY8⟩ : ∃ Y, w1.drew = Y := ⟨_, rfl⟩
  have hE : Y8.heap[w.heap.size]? = some (.cells (enA f) 28 (0, 0)) := by rw [← hY8]; exact hE
  have HBw8 := Lib.hid (show Below w.heap.size w Y8 by rw [← hY8]; exact HBw1.out.drew)
  refine wp_region_held_drew (S := (fun w' => w' = Y8)) (by kernel_rfl) (by rw [hY8]) (fun hHeld => ?_)
  rw [hY8] at hHeld ⊢
  clear hY8
  refine take_move 0 (.tmp 7) (.bool true) rfl rfl rfl (by kernel_rfl) (by kernel_rfl) (by kernel_rfl) (fun _ _ _ h => h) rfl hHeld ?_
  simp only [Act.put, List.setIfInBounds_toArray, List.set_cons_zero, List.set_cons_succ]
  refine take_run 1 (.bool false) rfl (by kernel_rfl) (by kernel_rfl) (by kernel_rfl) (fun _ _ _ h => h) rfl hHeld (fun w => ?_) ?_
  · go_simp
  simp only [Act.put, List.setIfInBounds_toArray, List.set_cons_zero, List.set_cons_succ]
  refine take_run 2 (.bool false) rfl (by kernel_rfl) (by kernel_rfl) (by kernel_rfl) (fun _ _ _ h => h) rfl hHeld (fun w => ?_) ?_
  · go_simp
  simp only [Act.put, List.setIfInBounds_toArray, List.set_cons_zero, List.set_cons_succ]
  refine take_move 3 (.tmp 0) (.slice A n c) rfl rfl rfl (by kernel_rfl) (by kernel_rfl) (by kernel_rfl) (fun _ _ _ h => h) rfl hHeld ?_
  simp only [Act.put, List.setIfInBounds_toArray, List.set_cons_zero, List.set_cons_succ]
  refine take_run 4 (.int .i64 n) rfl (by kernel_rfl) (by kernel_rfl) (by kernel_rfl) (fun _ _ _ h => h) rfl hHeld (fun w => ?_) ?_
  · go_simp
  simp only [Act.put, List.setIfInBounds_toArray, List.set_cons_zero, List.set_cons_succ]
  refine take_run 5 (.bool true) rfl (by kernel_rfl) (by kernel_rfl) (by kernel_rfl) (fun _ _ _ h => h) rfl hHeld (fun w => ?_) ?_
  · go_simp
  simp only [Act.put, List.setIfInBounds_toArray, List.set_cons_zero, List.set_cons_succ]
  refine take_run 6 (.bool true) rfl (by kernel_rfl) (by kernel_rfl) (by kernel_rfl) (fun _ _ _ h => h) rfl hHeld (fun w => ?_) ?_
  · go_simp
  simp only [Act.put, List.setIfInBounds_toArray, List.set_cons_zero, List.set_cons_succ]
  refine take_run 7 (.bool true) rfl (by kernel_rfl) (by kernel_rfl) (by kernel_rfl) (fun _ _ _ h => h) rfl hHeld (fun w => ?_) ?_
  · go_simp
  simp only [Act.put, List.setIfInBounds_toArray, List.set_cons_zero, List.set_cons_succ]
  refine take_off 8 rfl (by kernel_rfl) (by kernel_rfl) (by kernel_rfl) (fun _ _ _ h => h) rfl hHeld ?_
  simp only [Act.put, List.setIfInBounds_toArray, List.set_cons_zero, List.set_cons_succ]
  refine take_off 9 rfl (by kernel_rfl) (by kernel_rfl) (by kernel_rfl) (fun _ _ _ h => h) rfl hHeld ?_
  simp only [Act.put, List.setIfInBounds_toArray, List.set_cons_zero, List.set_cons_succ]
  refine take_run 10 (.bool true) rfl (by kernel_rfl) (by kernel_rfl) (by kernel_rfl) (fun _ _ _ h => h) rfl hHeld (fun w => ?_) ?_
  · go_simp
  simp only [Act.put, List.setIfInBounds_toArray, List.set_cons_zero, List.set_cons_succ]
  refine take_run 11 (.bool true) rfl (by kernel_rfl) (by kernel_rfl) (by kernel_rfl) (fun _ _ _ h => h) rfl hHeld (fun w => ?_) ?_
  · go_simp
  simp only [Act.put, List.setIfInBounds_toArray, List.set_cons_zero, List.set_cons_succ]
  refine take_off 12 rfl (by kernel_rfl) (by kernel_rfl) (by kernel_rfl) (fun _ _ _ h => h) rfl hHeld ?_
  simp only [Act.put, List.setIfInBounds_toArray, List.set_cons_zero, List.set_cons_succ]
  refine take_off 13 rfl (by kernel_rfl) (by kernel_rfl) (by kernel_rfl) (fun _ _ _ h => h) rfl hHeld ?_
  simp only [Act.put, List.setIfInBounds_toArray, List.set_cons_zero, List.set_cons_succ]
  refine take_off 14 rfl (by kernel_rfl) (by kernel_rfl) (by kernel_rfl) (fun _ _ _ h => h) rfl hHeld ?_
  simp only [Act.put, List.setIfInBounds_toArray, List.set_cons_zero, List.set_cons_succ]
  refine take_off 15 rfl (by kernel_rfl) (by kernel_rfl) (by kernel_rfl) (fun _ _ _ h => h) rfl hHeld ?_
  simp only [Act.put, List.setIfInBounds_toArray, List.set_cons_zero, List.set_cons_succ]
  refine take_run 16 (.bool true) rfl (by kernel_rfl) (by kernel_rfl) (by kernel_rfl) (fun _ _ _ h => h) rfl hHeld (fun w => ?_) ?_
  · go_simp
  simp only [Act.put, List.setIfInBounds_toArray, List.set_cons_zero, List.set_cons_succ]
  refine take_run 17 (.bool true) rfl (by kernel_rfl) (by kernel_rfl) (by kernel_rfl) (fun _ _ _ h => h) rfl hHeld (fun w => ?_) ?_
  · go_simp
  simp only [Act.put, List.setIfInBounds_toArray, List.set_cons_zero, List.set_cons_succ]
  refine take_off 18 rfl (by kernel_rfl) (by kernel_rfl) (by kernel_rfl) (fun _ _ _ h => h) rfl hHeld ?_
  simp only [Act.put, List.setIfInBounds_toArray, List.set_cons_zero, List.set_cons_succ]
  refine take_off 19 rfl (by kernel_rfl) (by kernel_rfl) (by kernel_rfl) (fun _ _ _ h => h) rfl hHeld ?_
  simp only [Act.put, List.setIfInBounds_toArray, List.set_cons_zero, List.set_cons_succ]
  refine take_off 20 rfl (by kernel_rfl) (by kernel_rfl) (by kernel_rfl) (fun _ _ _ h => h) rfl hHeld ?_
  simp only [Act.put, List.setIfInBounds_toArray, List.set_cons_zero, List.set_cons_succ]
  refine take_off 21 rfl (by kernel_rfl) (by kernel_rfl) (by kernel_rfl) (fun _ _ _ h => h) rfl hHeld ?_
  simp only [Act.put, List.setIfInBounds_toArray, List.set_cons_zero, List.set_cons_succ]
  refine take_off 22 rfl (by kernel_rfl) (by kernel_rfl) (by kernel_rfl) (fun _ _ _ h => h) rfl hHeld ?_
  simp only [Act.put, List.setIfInBounds_toArray, List.set_cons_zero, List.set_cons_succ]
  refine take_off 23 rfl (by kernel_rfl) (by kernel_rfl) (by kernel_rfl) (fun _ _ _ h => h) rfl hHeld ?_
  simp only [Act.put, List.setIfInBounds_toArray, List.set_cons_zero, List.set_cons_succ]
  refine take_run 24 (.bool true) rfl (by kernel_rfl) (by kernel_rfl) (by kernel_rfl) (fun _ _ _ h => h) rfl hHeld (fun w => ?_) ?_
  · go_simp
  simp only [Act.put, List.setIfInBounds_toArray, List.set_cons_zero, List.set_cons_succ]
  refine wpAnyH_done (by kernel_rfl) ?_ _
  clear hHeld
  go_wp2
  go_ret
  exact ⟨rfl, HBw8.out⟩
set_option maxHeartbeats 2000000 in
theorem cspoilw_neg (A : Option Addr) (n c : Nat) (l : List En) (i : Int) (f : En) (w : World) (hK : KTab w) (hl : Ens w A n c l) (ho : ∀ u ∈ l, u.ok) (hf : f.ok) (h : n ≤ 20) (hi : i < 0) :
    Calls Tryd.prog 7 #[.slice A n c, .int .i64 i, enV f] w fun e w' => e = .returned (.bool true) ∧ Below w.heap.size w w' := by
  have hn := hl.small
  have e1 : (n : Int) ≤ 20 := by omega
  have HK := Lib.hid hK
  clear hl hK ho hf
  unfold enV
  go_enter Tryd.func7, Tryd.ntmps7
  go_wp2_with (go_at_call 9
               refine (cawake_any _ (HK.out.from (one_alloc w _))).mono ?_
               rintro e w1 ⟨rfl, hb1⟩
               have hE : w1.heap[w.heap.size]? = some (.cells (enA f) 28 (0, 0)) := after_alloc hb1
               have HBw1 := Lib.hid (after_one hb1).1
               clear hb1)
  obtain ⟨Y8, hY8⟩ : ∃ Y, w1.drew = Y := ⟨_, rfl⟩
  have hE : Y8.heap[w.heap.size]? = some (.cells (enA f) 28 (0, 0)) := by rw [← hY8]; exact hE
  have HBw8 := Lib.hid (show Below w.heap.size w Y8 by rw [← hY8]; exact HBw1.out.drew)
  refine wp_region_held_drew (S := (fun w' => w' = Y8)) (by kernel_rfl) (by rw [hY8]) (fun hHeld => ?_)
  rw [hY8] at hHeld ⊢
  clear hY8
  refine take_move 0 (.tmp 7) (.bool true) rfl rfl rfl (by kernel_rfl) (by kernel_rfl) (by kernel_rfl) (fun _ _ _ h => h) rfl hHeld ?_
  simp only [Act.put, List.setIfInBounds_toArray, List.set_cons_zero, List.set_cons_succ]
  refine take_run 1 (.bool false) rfl (by kernel_rfl) (by kernel_rfl) (by kernel_rfl) (fun _ _ _ h => h) rfl hHeld (fun w => ?_) ?_
  · go_simp
  simp only [Act.put, List.setIfInBounds_toArray, List.set_cons_zero, List.set_cons_succ]
  refine take_run 2 (.bool false) rfl (by kernel_rfl) (by kernel_rfl) (by kernel_rfl) (fun _ _ _ h => h) rfl hHeld (fun w => ?_) ?_
  · go_simp
  simp only [Act.put, List.setIfInBounds_toArray, List.set_cons_zero, List.set_cons_succ]
  refine take_move 3 (.tmp 0) (.slice A n c) rfl rfl rfl (by kernel_rfl) (by kernel_rfl) (by kernel_rfl) (fun _ _ _ h => h) rfl hHeld ?_
  simp only [Act.put, List.setIfInBounds_toArray, List.set_cons_zero, List.set_cons_succ]
  refine take_run 4 (.int .i64 n) rfl (by kernel_rfl) (by kernel_rfl) (by kernel_rfl) (fun _ _ _ h => h) rfl hHeld (fun w => ?_) ?_
  · go_simp
  simp only [Act.put, List.setIfInBounds_toArray, List.set_cons_zero, List.set_cons_succ]
  refine take_run 5 (.bool false) rfl (by kernel_rfl) (by kernel_rfl) (by kernel_rfl) (fun _ _ _ h => h) rfl hHeld (fun w => ?_) ?_
  · go_simp
  simp only [Act.put, List.setIfInBounds_toArray, List.set_cons_zero, List.set_cons_succ]
  refine take_run 6 (.bool false) rfl (by kernel_rfl) (by kernel_rfl) (by kernel_rfl) (fun _ _ _ h => h) rfl hHeld (fun w => ?_) ?_
  · go_simp
  simp only [Act.put, List.setIfInBounds_toArray, List.set_cons_zero, List.set_cons_succ]
  refine take_run 7 (.bool false) rfl (by kernel_rfl) (by kernel_rfl) (by kernel_rfl) (fun _ _ _ h => h) rfl hHeld (fun w => ?_) ?_
  · go_simp
  simp only [Act.put, List.setIfInBounds_toArray, List.set_cons_zero, List.set_cons_succ]
  refine take_move 8 (.tmp 1) (.int .i64 i) rfl rfl rfl (by kernel_rfl) (by kernel_rfl) (by kernel_rfl) (fun _ _ _ h => h) rfl hHeld ?_
  simp only [Act.put, List.setIfInBounds_toArray, List.set_cons_zero, List.set_cons_succ]
  refine take_run 9 (.bool true) rfl (by kernel_rfl) (by kernel_rfl) (by kernel_rfl) (fun _ _ _ h => h) rfl hHeld (fun w => ?_) ?_
  · go_simp
  simp only [Act.put, List.setIfInBounds_toArray, List.set_cons_zero, List.set_cons_succ]
  refine take_run 10 (.bool true) rfl (by kernel_rfl) (by kernel_rfl) (by kernel_rfl) (fun _ _ _ h => h) rfl hHeld (fun w => ?_) ?_
  · go_simp
  simp only [Act.put, List.setIfInBounds_toArray, List.set_cons_zero, List.set_cons_succ]
  refine take_run 11 (.bool true) rfl (by kernel_rfl) (by kernel_rfl) (by kernel_rfl) (fun _ _ _ h => h) rfl hHeld (fun w => ?_) ?_
  · go_simp
  simp only [Act.put, List.setIfInBounds_toArray, List.set_cons_zero, List.set_cons_succ]
  refine take_off 12 rfl (by kernel_rfl) (by kernel_rfl) (by kernel_rfl) (fun _ _ _ h => h) rfl hHeld ?_
  simp only [Act.put, List.setIfInBounds_toArray, List.set_cons_zero, List.set_cons_succ]
  refine take_off 13 rfl (by kernel_rfl) (by kernel_rfl) (by kernel_rfl) (fun _ _ _ h => h) rfl hHeld ?_
  simp only [Act.put, List.setIfInBounds_toArray, List.set_cons_zero, List.set_cons_succ]
  refine take_off 14 rfl (by kernel_rfl) (by kernel_rfl) (by kernel_rfl) (fun _ _ _ h => h) rfl hHeld ?_
  simp only [Act.put, List.setIfInBounds_toArray, List.set_cons_zero, List.set_cons_succ]
  refine take_off 15 rfl (by kernel_rfl) (by kernel_rfl) (by kernel_rfl) (fun _ _ _ h => h) rfl hHeld ?_
  simp only [Act.put, List.setIfInBounds_toArray, List.set_cons_zero, List.set_cons_succ]
  refine take_run 16 (.bool true) rfl (by kernel_rfl) (by kernel_rfl) (by kernel_rfl) (fun _ _ _ h => h) rfl hHeld (fun w => ?_) ?_
  · go_simp
  simp only [Act.put, List.setIfInBounds_toArray, List.set_cons_zero, List.set_cons_succ]
  refine take_run 17 (.bool true) rfl (by kernel_rfl) (by kernel_rfl) (by kernel_rfl) (fun _ _ _ h => h) rfl hHeld (fun w => ?_) ?_
  · go_simp
  simp only [Act.put, List.setIfInBounds_toArray, List.set_cons_zero, List.set_cons_succ]
  refine take_off 18 rfl (by kernel_rfl) (by kernel_rfl) (by kernel_rfl) (fun _ _ _ h => h) rfl hHeld ?_
  simp only [Act.put, List.setIfInBounds_toArray, List.set_cons_zero, List.set_cons_succ]
  refine take_off 19 rfl (by kernel_rfl) (by kernel_rfl) (by kernel_rfl) (fun _ _ _ h => h) rfl hHeld ?_
  simp only [Act.put, List.setIfInBounds_toArray, List.set_cons_zero, List.set_cons_succ]
  refine take_off 20 rfl (by kernel_rfl) (by kernel_rfl) (by kernel_rfl) (fun _ _ _ h => h) rfl hHeld ?_
  simp only [Act.put, List.setIfInBounds_toArray, List.set_cons_zero, List.set_cons_succ]
  refine take_off 21 rfl (by kernel_rfl) (by kernel_rfl) (by kernel_rfl) (fun _ _ _ h => h) rfl hHeld ?_
  simp only [Act.put, List.setIfInBounds_toArray, List.set_cons_zero, List.set_cons_succ]
  refine take_off 22 rfl (by kernel_rfl) (by kernel_rfl) (by kernel_rfl) (fun _ _ _ h => h) rfl hHeld ?_
  simp only [Act.put, List.setIfInBounds_toArray, List.set_cons_zero, List.set_cons_succ]
  refine take_off 23 rfl (by kernel_rfl) (by kernel_rfl) (by kernel_rfl) (fun _ _ _ h => h) rfl hHeld ?_
  simp only [Act.put, List.setIfInBounds_toArray, List.set_cons_zero, List.set_cons_succ]
  refine take_run 24 (.bool true) rfl (by kernel_rfl) (by kernel_rfl) (by kernel_rfl) (fun _ _ _ h => h) rfl hHeld (fun w => ?_) ?_
  · go_simp
  simp only [Act.put, List.setIfInBounds_toArray, List.set_cons_zero, List.set_cons_succ]
  refine wpAnyH_done (by kernel_rfl) ?_ _
  clear hHeld
  go_wp2
  go_ret
  exact ⟨rfl, HBw8.out⟩
set_option maxHeartbeats 2000000 in
theorem cspoilw_far (A : Option Addr) (n c : Nat) (l : List En) (i : Int) (f : En) (w : World) (hK : KTab w) (hl : Ens w A n c l) (ho : ∀ u ∈ l, u.ok) (hf : f.ok) (h : n ≤ 20) (hi : ¬ i < 0) (h2 : (n : Int) ≤ i) :
    Calls Tryd.prog 7 #[.slice A n c, .int .i64 i, enV f] w fun e w' => e = .returned (.bool true) ∧ Below w.heap.size w w' := by
  have hn := hl.small
  have e1 : (n : Int) ≤ 20 := by omega
  have e2 : 0 ≤ i := by omega
  have HK := Lib.hid hK
  clear hl hK ho hf
  unfold enV
  go_enter Tryd.func7, Tryd.ntmps7
  go_wp2_with (go_at_call 9
               refine (cawake_any _ (HK.out.from (one_alloc w _))).mono ?_
               rintro e w1 ⟨rfl, hb1⟩
               have hE : w1.heap[w.heap.size]? = some (.cells (enA f) 28 (0, 0)) := after_alloc hb1
               have HBw1 := Lib.hid (after_one hb1).1
               clear hb1)
  obtain ⟨Y8, hY8⟩ : ∃ Y, w1.drew = Y := ⟨_, rfl⟩
  have hE : Y8.heap[w.heap.size]? = some (.cells (enA f) 28 (0, 0)) := by rw [← hY8]; exact hE
  have HBw8 := Lib.hid (show Below w.heap.size w Y8 by rw [← hY8]; exact HBw1.out.drew)
  refine wp_region_held_drew (S := (fun w' => w' = Y8)) (by kernel_rfl) (by rw [hY8]) (fun hHeld => ?_)
  rw [hY8] at hHeld ⊢
  clear hY8
  refine take_move 0 (.tmp 7) (.bool true) rfl rfl rfl (by kernel_rfl) (by kernel_rfl) (by kernel_rfl) (fun _ _ _ h => h) rfl hHeld ?_
  simp only [Act.put, List.setIfInBounds_toArray, List.set_cons_zero, List.set_cons_succ]
  refine take_run 1 (.bool false) rfl (by kernel_rfl) (by kernel_rfl) (by kernel_rfl) (fun _ _ _ h => h) rfl hHeld (fun w => ?_) ?_
  · go_simp
  simp only [Act.put, List.setIfInBounds_toArray, List.set_cons_zero, List.set_cons_succ]
  refine take_run 2 (.bool false) rfl (by kernel_rfl) (by kernel_rfl) (by kernel_rfl) (fun _ _ _ h => h) rfl hHeld (fun w => ?_) ?_
  · go_simp
  simp only [Act.put, List.setIfInBounds_toArray, List.set_cons_zero, List.set_cons_succ]
  refine take_move 3 (.tmp 0) (.slice A n c) rfl rfl rfl (by kernel_rfl) (by kernel_rfl) (by kernel_rfl) (fun _ _ _ h => h) rfl hHeld ?_
  simp only [Act.put, List.setIfInBounds_toArray, List.set_cons_zero, List.set_cons_succ]
  refine take_run 4 (.int .i64 n) rfl (by kernel_rfl) (by kernel_rfl) (by kernel_rfl) (fun _ _ _ h => h) rfl hHeld (fun w => ?_) ?_
  · go_simp
  simp only [Act.put, List.setIfInBounds_toArray, List.set_cons_zero, List.set_cons_succ]
  refine take_run 5 (.bool false) rfl (by kernel_rfl) (by kernel_rfl) (by kernel_rfl) (fun _ _ _ h => h) rfl hHeld (fun w => ?_) ?_
  · go_simp
  simp only [Act.put, List.setIfInBounds_toArray, List.set_cons_zero, List.set_cons_succ]
  refine take_run 6 (.bool false) rfl (by kernel_rfl) (by kernel_rfl) (by kernel_rfl) (fun _ _ _ h => h) rfl hHeld (fun w => ?_) ?_
  · go_simp
  simp only [Act.put, List.setIfInBounds_toArray, List.set_cons_zero, List.set_cons_succ]
  refine take_run 7 (.bool false) rfl (by kernel_rfl) (by kernel_rfl) (by kernel_rfl) (fun _ _ _ h => h) rfl hHeld (fun w => ?_) ?_
  · go_simp
  simp only [Act.put, List.setIfInBounds_toArray, List.set_cons_zero, List.set_cons_succ]
  refine take_move 8 (.tmp 1) (.int .i64 i) rfl rfl rfl (by kernel_rfl) (by kernel_rfl) (by kernel_rfl) (fun _ _ _ h => h) rfl hHeld ?_
  simp only [Act.put, List.setIfInBounds_toArray, List.set_cons_zero, List.set_cons_succ]
  refine take_run 9 (.bool false) rfl (by kernel_rfl) (by kernel_rfl) (by kernel_rfl) (fun _ _ _ h => h) rfl hHeld (fun w => ?_) ?_
  · go_simp
  simp only [Act.put, List.setIfInBounds_toArray, List.set_cons_zero, List.set_cons_succ]
  refine take_run 10 (.bool false) rfl (by kernel_rfl) (by kernel_rfl) (by kernel_rfl) (fun _ _ _ h => h) rfl hHeld (fun w => ?_) ?_
  · go_simp
  simp only [Act.put, List.setIfInBounds_toArray, List.set_cons_zero, List.set_cons_succ]
  refine take_run 11 (.bool false) rfl (by kernel_rfl) (by kernel_rfl) (by kernel_rfl) (fun _ _ _ h => h) rfl hHeld (fun w => ?_) ?_
  · go_simp
  simp only [Act.put, List.setIfInBounds_toArray, List.set_cons_zero, List.set_cons_succ]
  refine take_move 12 (.tmp 1) (.int .i64 i) rfl rfl rfl (by kernel_rfl) (by kernel_rfl) (by kernel_rfl) (fun _ _ _ h => h) rfl hHeld ?_
  simp only [Act.put, List.setIfInBounds_toArray, List.set_cons_zero, List.set_cons_succ]
  refine take_move 13 (.tmp 0) (.slice A n c) rfl rfl rfl (by kernel_rfl) (by kernel_rfl) (by kernel_rfl) (fun _ _ _ h => h) rfl hHeld ?_
  simp only [Act.put, List.setIfInBounds_toArray, List.set_cons_zero, List.set_cons_succ]
  refine take_run 14 (.int .i64 n) rfl (by kernel_rfl) (by kernel_rfl) (by kernel_rfl) (fun _ _ _ h => h) rfl hHeld (fun w => ?_) ?_
  · go_simp
  simp only [Act.put, List.setIfInBounds_toArray, List.set_cons_zero, List.set_cons_succ]
  refine take_run 15 (.bool true) rfl (by kernel_rfl) (by kernel_rfl) (by kernel_rfl) (fun _ _ _ h => h) rfl hHeld (fun w => ?_) ?_
  · go_simp
  simp only [Act.put, List.setIfInBounds_toArray, List.set_cons_zero, List.set_cons_succ]
  refine take_run 16 (.bool true) rfl (by kernel_rfl) (by kernel_rfl) (by kernel_rfl) (fun _ _ _ h => h) rfl hHeld (fun w => ?_) ?_
  · go_simp
  simp only [Act.put, List.setIfInBounds_toArray, List.set_cons_zero, List.set_cons_succ]
  refine take_run 17 (.bool true) rfl (by kernel_rfl) (by kernel_rfl) (by kernel_rfl) (fun _ _ _ h => h) rfl hHeld (fun w => ?_) ?_
  · go_simp
  simp only [Act.put, List.setIfInBounds_toArray, List.set_cons_zero, List.set_cons_succ]
  refine take_off 18 rfl (by kernel_rfl) (by kernel_rfl) (by kernel_rfl) (fun _ _ _ h => h) rfl hHeld ?_
  simp only [Act.put, List.setIfInBounds_toArray, List.set_cons_zero, List.set_cons_succ]
  refine take_off 19 rfl (by kernel_rfl) (by kernel_rfl) (by kernel_rfl) (fun _ _ _ h => h) rfl hHeld ?_
  simp only [Act.put, List.setIfInBounds_toArray, List.set_cons_zero, List.set_cons_succ]
  refine take_off 20 rfl (by kernel_rfl) (by kernel_rfl) (by kernel_rfl) (fun _ _ _ h => h) rfl hHeld ?_
  simp only [Act.put, List.setIfInBounds_toArray, List.set_cons_zero, List.set_cons_succ]
  refine take_off 21 rfl (by kernel_rfl) (by kernel_rfl) (by kernel_rfl) (fun _ _ _ h => h) rfl hHeld ?_
  simp only [Act.put, List.setIfInBounds_toArray, List.set_cons_zero, List.set_cons_succ]
  refine take_off 22 rfl (by kernel_rfl) (by kernel_rfl) (by kernel_rfl) (fun _ _ _ h => h) rfl hHeld ?_
  simp only [Act.put, List.setIfInBounds_toArray, List.set_cons_zero, List.set_cons_succ]
  refine take_off 23 rfl (by kernel_rfl) (by kernel_rfl) (by kernel_rfl) (fun _ _ _ h => h) rfl hHeld ?_
  simp only [Act.put, List.setIfInBounds_toArray, List.set_cons_zero, List.set_cons_succ]
  refine take_run 24 (.bool true) rfl (by kernel_rfl) (by kernel_rfl) (by kernel_rfl) (fun _ _ _ h => h) rfl hHeld (fun w => ?_) ?_
  · go_simp
  simp only [Act.put, List.setIfInBounds_toArray, List.set_cons_zero, List.set_cons_succ]
  refine wpAnyH_done (by kernel_rfl) ?_ _
  clear hHeld
  go_wp2
  go_ret
  exact ⟨rfl, HBw8.out⟩
set_option maxHeartbeats 2000000 in
theorem cspoilw_same (A : Option Addr) (n c : Nat) (l : List En) (k : Nat) (f u : En) (w : World) (hK : KTab w) (hl : Ens w A n c l) (ho : ∀ u ∈ l, u.ok) (hf : f.ok) (h : n ≤ 20) (hu : l[k]? = some u) (hs : u = f) :
    Calls Tryd.prog 7 #[.slice A n c, .int .i64 k, enV f] w fun e w' => e = .returned (.bool true) ∧ Below w.heap.size w w' := by
  have hn := hl.small
  have hll := hl.len
  have hk : k < n := by have := (List.getElem?_eq_some_iff.1 hu).1; omega
  have e1 : (n : Int) ≤ 20 := by omega
  have q0 : 0 ≤ (k : Int) := by omega
  have q1 : (k : Int) < n := by omega
  have hup := hl.upto k (k : Int) rfl (by omega)
  obtain ⟨b, off, u2, rfl, hu2, hr⟩ := hl.range k hk
  obtain rfl : u = u2 := by rw [hu] at hu2; exact Option.some.inj hu2
  have HR := Lib.hid (show ∀ X, Below w.heap.size w X → X.rangeAt b (off + k * 9) u.row from fun X hX => rangeAt_below hr hX)
  have HK := Lib.hid hK
  have HL := Lib.hid hl
  have HEQ := Lib.hid (show ∀ w, (Op.equalIn 10000 28 (.agg (enA u)) (.agg (enA f))).run Tryd.prog w = .ok true w from fun w => by rw [eq_ens, decide_eq_true hs])
  clear hl hK ho hf hll h hu hu2 hr hup hs
  unfold enV
  go_enter Tryd.func7, Tryd.ntmps7
  go_wp2_with (go_at_call 9
               refine (cawake_any _ (HK.out.from (one_alloc w _))).mono ?_
               rintro e w1 ⟨rfl, hb1⟩
               have hE : w1.heap[w.heap.size]? = some (.cells (enA f) 28 (0, 0)) := after_alloc hb1
               have HBw1 := Lib.hid (after_one hb1).1
               clear hb1)
  obtain ⟨Y8, hY8⟩ : ∃ Y, w1.drew = Y := ⟨_, rfl⟩
  have hE : Y8.heap[w.heap.size]? = some (.cells (enA f) 28 (0, 0)) := by rw [← hY8]; exact hE
  have HBw8 := Lib.hid (show Below w.heap.size w Y8 by rw [← hY8]; exact HBw1.out.drew)
  have hr8 := HR.out _ HBw8.out
  refine wp_region_held_drew (S := (fun w' => w' = Y8)) (by kernel_rfl) (by rw [hY8]) (fun hHeld => ?_)
  rw [hY8] at hHeld ⊢
  clear hY8
  refine take_move 0 (.tmp 7) (.bool true) rfl rfl rfl (by kernel_rfl) (by kernel_rfl) (by kernel_rfl) (fun _ _ _ h => h) rfl hHeld ?_
  simp only [Act.put, List.setIfInBounds_toArray, List.set_cons_zero, List.set_cons_succ]
  refine take_run 1 (.bool false) rfl (by kernel_rfl) (by kernel_rfl) (by kernel_rfl) (fun _ _ _ h => h) rfl hHeld (fun w => ?_) ?_
  · go_simp
  simp only [Act.put, List.setIfInBounds_toArray, List.set_cons_zero, List.set_cons_succ]
  refine take_run 2 (.bool false) rfl (by kernel_rfl) (by kernel_rfl) (by kernel_rfl) (fun _ _ _ h => h) rfl hHeld (fun w => ?_) ?_
  · go_simp
  simp only [Act.put, List.setIfInBounds_toArray, List.set_cons_zero, List.set_cons_succ]
  refine take_move 3 (.tmp 0) (.slice (some ⟨b, off, none⟩) n c) rfl rfl rfl (by kernel_rfl) (by kernel_rfl) (by kernel_rfl) (fun _ _ _ h => h) rfl hHeld ?_
  simp only [Act.put, List.setIfInBounds_toArray, List.set_cons_zero, List.set_cons_succ]
  refine take_run 4 (.int .i64 n) rfl (by kernel_rfl) (by kernel_rfl) (by kernel_rfl) (fun _ _ _ h => h) rfl hHeld (fun w => ?_) ?_
  · go_simp
  simp only [Act.put, List.setIfInBounds_toArray, List.set_cons_zero, List.set_cons_succ]
  refine take_run 5 (.bool false) rfl (by kernel_rfl) (by kernel_rfl) (by kernel_rfl) (fun _ _ _ h => h) rfl hHeld (fun w => ?_) ?_
  · go_simp
  simp only [Act.put, List.setIfInBounds_toArray, List.set_cons_zero, List.set_cons_succ]
  refine take_run 6 (.bool false) rfl (by kernel_rfl) (by kernel_rfl) (by kernel_rfl) (fun _ _ _ h => h) rfl hHeld (fun w => ?_) ?_
  · go_simp
  simp only [Act.put, List.setIfInBounds_toArray, List.set_cons_zero, List.set_cons_succ]
  refine take_run 7 (.bool false) rfl (by kernel_rfl) (by kernel_rfl) (by kernel_rfl) (fun _ _ _ h => h) rfl hHeld (fun w => ?_) ?_
  · go_simp
  simp only [Act.put, List.setIfInBounds_toArray, List.set_cons_zero, List.set_cons_succ]
  refine take_move 8 (.tmp 1) (.int .i64 k) rfl rfl rfl (by kernel_rfl) (by kernel_rfl) (by kernel_rfl) (fun _ _ _ h => h) rfl hHeld ?_
  simp only [Act.put, List.setIfInBounds_toArray, List.set_cons_zero, List.set_cons_succ]
  refine take_run 9 (.bool false) rfl (by kernel_rfl) (by kernel_rfl) (by kernel_rfl) (fun _ _ _ h => h) rfl hHeld (fun w => ?_) ?_
  · go_simp
  simp only [Act.put, List.setIfInBounds_toArray, List.set_cons_zero, List.set_cons_succ]
  refine take_run 10 (.bool false) rfl (by kernel_rfl) (by kernel_rfl) (by kernel_rfl) (fun _ _ _ h => h) rfl hHeld (fun w => ?_) ?_
  · go_simp
  simp only [Act.put, List.setIfInBounds_toArray, List.set_cons_zero, List.set_cons_succ]
  refine take_run 11 (.bool false) rfl (by kernel_rfl) (by kernel_rfl) (by kernel_rfl) (fun _ _ _ h => h) rfl hHeld (fun w => ?_) ?_
  · go_simp
  simp only [Act.put, List.setIfInBounds_toArray, List.set_cons_zero, List.set_cons_succ]
  refine take_move 12 (.tmp 1) (.int .i64 k) rfl rfl rfl (by kernel_rfl) (by kernel_rfl) (by kernel_rfl) (fun _ _ _ h => h) rfl hHeld ?_
  simp only [Act.put, List.setIfInBounds_toArray, List.set_cons_zero, List.set_cons_succ]
  refine take_move 13 (.tmp 0) (.slice (some ⟨b, off, none⟩) n c) rfl rfl rfl (by kernel_rfl) (by kernel_rfl) (by kernel_rfl) (fun _ _ _ h => h) rfl hHeld ?_
  simp only [Act.put, List.setIfInBounds_toArray, List.set_cons_zero, List.set_cons_succ]
  refine take_run 14 (.int .i64 n) rfl (by kernel_rfl) (by kernel_rfl) (by kernel_rfl) (fun _ _ _ h => h) rfl hHeld (fun w => ?_) ?_
  · go_simp
  simp only [Act.put, List.setIfInBounds_toArray, List.set_cons_zero, List.set_cons_succ]
  refine take_run 15 (.bool false) rfl (by kernel_rfl) (by kernel_rfl) (by kernel_rfl) (fun _ _ _ h => h) rfl hHeld (fun w => ?_) ?_
  · go_simp
  simp only [Act.put, List.setIfInBounds_toArray, List.set_cons_zero, List.set_cons_succ]
  refine take_run 16 (.bool false) rfl (by kernel_rfl) (by kernel_rfl) (by kernel_rfl) (fun _ _ _ h => h) rfl hHeld (fun w => ?_) ?_
  · go_simp
  simp only [Act.put, List.setIfInBounds_toArray, List.set_cons_zero, List.set_cons_succ]
  refine take_run 17 (.bool false) rfl (by kernel_rfl) (by kernel_rfl) (by kernel_rfl) (fun _ _ _ h => h) rfl hHeld (fun w => ?_) ?_
  · go_simp
  simp only [Act.put, List.setIfInBounds_toArray, List.set_cons_zero, List.set_cons_succ]
  refine take_move 18 (.tmp 0) (.slice (some ⟨b, off, none⟩) n c) rfl rfl rfl (by kernel_rfl) (by kernel_rfl) (by kernel_rfl) (fun _ _ _ h => h) rfl hHeld ?_
  simp only [Act.put, List.setIfInBounds_toArray, List.set_cons_zero, List.set_cons_succ]
  refine take_move 19 (.tmp 1) (.int .i64 k) rfl rfl rfl (by kernel_rfl) (by kernel_rfl) (by kernel_rfl) (fun _ _ _ h => h) rfl hHeld ?_
  simp only [Act.put, List.setIfInBounds_toArray, List.set_cons_zero, List.set_cons_succ]
  refine take_run 20 (.pointer (some ⟨b, off + k * 9, none⟩)) rfl (by kernel_rfl) (by kernel_rfl) (by kernel_rfl) (fun _ _ _ h => h) rfl hHeld (fun w => ?_) ?_
  · go_simp
  simp only [Act.put, List.setIfInBounds_toArray, List.set_cons_zero, List.set_cons_succ]
  refine take_if 21 (.agg (enA u)) rfl (by kernel_rfl) (by kernel_rfl) (by kernel_rfl) (fun _ _ _ h => h) rfl hHeld (fun w' hw' => ?_) ?_
  · cases hw'
    exact run_load_en rfl rfl hr8
  simp only [Act.put, List.setIfInBounds_toArray, List.set_cons_zero, List.set_cons_succ]
  refine take_if 22 (.agg (enA f)) rfl (by kernel_rfl) (by kernel_rfl) (by kernel_rfl) (fun _ _ _ h => h) rfl hHeld (fun w' hw' => ?_) ?_
  · cases hw'
    exact run_load_en rfl rfl (cent_range hE)
  simp only [Act.put, List.setIfInBounds_toArray, List.set_cons_zero, List.set_cons_succ]
  refine take_run 23 (.bool true) rfl (by kernel_rfl) (by kernel_rfl) (by kernel_rfl) (fun _ _ _ h => h) rfl hHeld (fun w => ?_) ?_
  · exact run_eq_en rfl rfl rfl (.inl ⟨rfl, rfl⟩) (HEQ.out w)
  simp only [Act.put, List.setIfInBounds_toArray, List.set_cons_zero, List.set_cons_succ]
  refine take_run 24 (.bool true) rfl (by kernel_rfl) (by kernel_rfl) (by kernel_rfl) (fun _ _ _ h => h) rfl hHeld (fun w => ?_) ?_
  · go_simp
  simp only [Act.put, List.setIfInBounds_toArray, List.set_cons_zero, List.set_cons_succ]
  refine wpAnyH_done (by kernel_rfl) ?_ _
  clear hHeld
  go_wp2
  go_ret
  exact ⟨rfl, HBw8.out⟩
set_option maxHeartbeats 8000000 in
theorem cspoilw_1 (A : Option Addr) (n c : Nat) (l : List En) (k : Nat) (f u : En) (w : World) (hK : KTab w) (hl : Ens w A n c l) (ho : ∀ u ∈ l, u.ok) (hf : f.ok) (h : n ≤ 20) (hu : l[k]? = some u) (hs : ¬ u = f) (hi : putC l = false) :
    Calls Tryd.prog 7 #[.slice A n c, .int .i64 k, enV f] w fun e w' => e = .returned (.bool true) ∧ Below w.heap.size w w' := by
  have hn := hl.small
  have hll := hl.len
  have hk : k < n := by have := (List.getElem?_eq_some_iff.1 hu).1; omega
  have e1 : (n : Int) ≤ 20 := by omega
  have q0 : 0 ≤ (k : Int) := by omega
  have q1 : (k : Int) < n := by omega
  have hup := hl.upto k (k : Int) rfl (by omega)
  obtain ⟨b, off, u2, rfl, hu2, hr⟩ := hl.range k hk
  obtain rfl : u = u2 := by rw [hu] at hu2; exact Option.some.inj hu2
  have HR := Lib.hid (show ∀ X, Below w.heap.size w X → X.rangeAt b (off + k * 9) u.row from fun X hX => rangeAt_below hr hX)
  have HK := Lib.hid hK
  have HL := Lib.hid hl
  have HEQ := Lib.hid (show ∀ w, (Op.equalIn 10000 28 (.agg (enA u)) (.agg (enA f))).run Tryd.prog w = .ok false w from fun w => by rw [eq_ens, decide_eq_false hs])
  have HLK := Lib.hid (show ∀ X, Below w.heap.size w X → Ens X (some ⟨b, off, none⟩) k c (l.take k) from fun X hX => hup.2.below hX)
  have hcut := hup.1
  have hul : u ∈ l := List.mem_of_getElem? hu
  have HPA := Lib.hid (fun (X : World) (hk : KTab X) (h : Ens X (some ⟨b, off, none⟩) n c l) => cput_any (some ⟨b, off, none⟩) n c l X hk h ho)
  have HPK := Lib.hid (fun (X : World) (hk' : KTab X) (h : Ens X (some ⟨b, off, none⟩) k c (l.take k)) => cput_any (some ⟨b, off, none⟩) k c (l.take k) X hk' h (fun v hv => ho v (List.mem_of_mem_take hv)))
  have HPF := Lib.hid (fun X : World => eput_any f X hf)
  have HPU := Lib.hid (fun X : World => eput_any u X (ho u hul))
  rw [hi] at HPA
  obtain ⟨M, hm⟩ : ∃ M, mayE f = M := ⟨_, rfl⟩
  rw [hm] at HPF
  obtain ⟨MU, hmu⟩ : ∃ M, mayE u = M := ⟨_, rfl⟩
  obtain ⟨IK, hik⟩ : ∃ M, putC (l.take k) = M := ⟨_, rfl⟩
  rw [hmu] at HPU
  rw [hik] at HPK
  obtain ⟨R, hR⟩ : ∃ R, (if false = true then recsC l else []) = R := ⟨_, rfl⟩
  obtain ⟨Z, hZ⟩ : ∃ R, (if false = true then headC l else noughtsC) = R := ⟨_, rfl⟩
  obtain ⟨RK, hRK⟩ : ∃ R, (if IK = true then recsC (l.take k) else []) = R := ⟨_, rfl⟩
  obtain ⟨H, hH⟩ : ∃ R, (if IK = true then headC (l.take k) else noughtsC) = R := ⟨_, rfl⟩
  obtain ⟨P, hP⟩ : ∃ R, (if M = true then putE f else []) = R := ⟨_, rfl⟩
  obtain ⟨Q, hQ⟩ : ∃ R, (if MU = true then putE u else []) = R := ⟨_, rfl⟩
  have HZL := Lib.hid (show Z.length = 32 by rw [← hZ]; split; exact headC_len _; rfl)
  have HHL := Lib.hid (show H.length = 32 by rw [← hH]; split; exact headC_len _; rfl)
  rw [hR, hZ] at HPA
  rw [hRK, hH] at HPK
  rw [hP] at HPF
  rw [hQ] at HPU
  clear hmu hik hR hZ hRK hH hP hQ
  clear hl hK ho hf hll h hu hu2 hr hup hs hi hm hul
  unfold enV at HPF HPU ⊢
  go_enter Tryd.func7, Tryd.ntmps7
  go_wp2_with (go_at_call 9
               refine (cawake_any _ (HK.out.from (one_alloc w _))).mono ?_
               rintro e w1 ⟨rfl, hb1⟩
               have hE : w1.heap[w.heap.size]? = some (.cells (enA f) 28 (0, 0)) := after_alloc hb1
               have HBw1 := Lib.hid (after_one hb1).1
               clear hb1)
  obtain ⟨Y8, hY8⟩ : ∃ Y, w1.drew = Y := ⟨_, rfl⟩
  have hE : Y8.heap[w.heap.size]? = some (.cells (enA f) 28 (0, 0)) := by rw [← hY8]; exact hE
  have HBw8 := Lib.hid (show Below w.heap.size w Y8 by rw [← hY8]; exact HBw1.out.drew)
  have hr8 := HR.out _ HBw8.out
  refine wp_region_held_drew (S := (fun w' => w' = Y8)) (by kernel_rfl) (by rw [hY8]) (fun hHeld => ?_)
  rw [hY8] at hHeld ⊢
  clear hY8
  refine take_move 0 (.tmp 7) (.bool true) rfl rfl rfl (by kernel_rfl) (by kernel_rfl) (by kernel_rfl) (fun _ _ _ h => h) rfl hHeld ?_
  simp only [Act.put, List.setIfInBounds_toArray, List.set_cons_zero, List.set_cons_succ]
  refine take_run 1 (.bool false) rfl (by kernel_rfl) (by kernel_rfl) (by kernel_rfl) (fun _ _ _ h => h) rfl hHeld (fun w => ?_) ?_
  · go_simp
  simp only [Act.put, List.setIfInBounds_toArray, List.set_cons_zero, List.set_cons_succ]
  refine take_run 2 (.bool false) rfl (by kernel_rfl) (by kernel_rfl) (by kernel_rfl) (fun _ _ _ h => h) rfl hHeld (fun w => ?_) ?_
  · go_simp
  simp only [Act.put, List.setIfInBounds_toArray, List.set_cons_zero, List.set_cons_succ]
  refine take_move 3 (.tmp 0) (.slice (some ⟨b, off, none⟩) n c) rfl rfl rfl (by kernel_rfl) (by kernel_rfl) (by kernel_rfl) (fun _ _ _ h => h) rfl hHeld ?_
  simp only [Act.put, List.setIfInBounds_toArray, List.set_cons_zero, List.set_cons_succ]
  refine take_run 4 (.int .i64 n) rfl (by kernel_rfl) (by kernel_rfl) (by kernel_rfl) (fun _ _ _ h => h) rfl hHeld (fun w => ?_) ?_
  · go_simp
  simp only [Act.put, List.setIfInBounds_toArray, List.set_cons_zero, List.set_cons_succ]
  refine take_run 5 (.bool false) rfl (by kernel_rfl) (by kernel_rfl) (by kernel_rfl) (fun _ _ _ h => h) rfl hHeld (fun w => ?_) ?_
  · go_simp
  simp only [Act.put, List.setIfInBounds_toArray, List.set_cons_zero, List.set_cons_succ]
  refine take_run 6 (.bool false) rfl (by kernel_rfl) (by kernel_rfl) (by kernel_rfl) (fun _ _ _ h => h) rfl hHeld (fun w => ?_) ?_
  · go_simp
  simp only [Act.put, List.setIfInBounds_toArray, List.set_cons_zero, List.set_cons_succ]
  refine take_run 7 (.bool false) rfl (by kernel_rfl) (by kernel_rfl) (by kernel_rfl) (fun _ _ _ h => h) rfl hHeld (fun w => ?_) ?_
  · go_simp
  simp only [Act.put, List.setIfInBounds_toArray, List.set_cons_zero, List.set_cons_succ]
  refine take_move 8 (.tmp 1) (.int .i64 k) rfl rfl rfl (by kernel_rfl) (by kernel_rfl) (by kernel_rfl) (fun _ _ _ h => h) rfl hHeld ?_
  simp only [Act.put, List.setIfInBounds_toArray, List.set_cons_zero, List.set_cons_succ]
  refine take_run 9 (.bool false) rfl (by kernel_rfl) (by kernel_rfl) (by kernel_rfl) (fun _ _ _ h => h) rfl hHeld (fun w => ?_) ?_
  · go_simp
  simp only [Act.put, List.setIfInBounds_toArray, List.set_cons_zero, List.set_cons_succ]
  refine take_run 10 (.bool false) rfl (by kernel_rfl) (by kernel_rfl) (by kernel_rfl) (fun _ _ _ h => h) rfl hHeld (fun w => ?_) ?_
  · go_simp
  simp only [Act.put, List.setIfInBounds_toArray, List.set_cons_zero, List.set_cons_succ]
  refine take_run 11 (.bool false) rfl (by kernel_rfl) (by kernel_rfl) (by kernel_rfl) (fun _ _ _ h => h) rfl hHeld (fun w => ?_) ?_
  · go_simp
  simp only [Act.put, List.setIfInBounds_toArray, List.set_cons_zero, List.set_cons_succ]
  refine take_move 12 (.tmp 1) (.int .i64 k) rfl rfl rfl (by kernel_rfl) (by kernel_rfl) (by kernel_rfl) (fun _ _ _ h => h) rfl hHeld ?_
  simp only [Act.put, List.setIfInBounds_toArray, List.set_cons_zero, List.set_cons_succ]
  refine take_move 13 (.tmp 0) (.slice (some ⟨b, off, none⟩) n c) rfl rfl rfl (by kernel_rfl) (by kernel_rfl) (by kernel_rfl) (fun _ _ _ h => h) rfl hHeld ?_
  simp only [Act.put, List.setIfInBounds_toArray, List.set_cons_zero, List.set_cons_succ]
  refine take_run 14 (.int .i64 n) rfl (by kernel_rfl) (by kernel_rfl) (by kernel_rfl) (fun _ _ _ h => h) rfl hHeld (fun w => ?_) ?_
  · go_simp
  simp only [Act.put, List.setIfInBounds_toArray, List.set_cons_zero, List.set_cons_succ]
  refine take_run 15 (.bool false) rfl (by kernel_rfl) (by kernel_rfl) (by kernel_rfl) (fun _ _ _ h => h) rfl hHeld (fun w => ?_) ?_
  · go_simp
  simp only [Act.put, List.setIfInBounds_toArray, List.set_cons_zero, List.set_cons_succ]
  refine take_run 16 (.bool false) rfl (by kernel_rfl) (by kernel_rfl) (by kernel_rfl) (fun _ _ _ h => h) rfl hHeld (fun w => ?_) ?_
  · go_simp
  simp only [Act.put, List.setIfInBounds_toArray, List.set_cons_zero, List.set_cons_succ]
  refine take_run 17 (.bool false) rfl (by kernel_rfl) (by kernel_rfl) (by kernel_rfl) (fun _ _ _ h => h) rfl hHeld (fun w => ?_) ?_
  · go_simp
  simp only [Act.put, List.setIfInBounds_toArray, List.set_cons_zero, List.set_cons_succ]
  refine take_move 18 (.tmp 0) (.slice (some ⟨b, off, none⟩) n c) rfl rfl rfl (by kernel_rfl) (by kernel_rfl) (by kernel_rfl) (fun _ _ _ h => h) rfl hHeld ?_
  simp only [Act.put, List.setIfInBounds_toArray, List.set_cons_zero, List.set_cons_succ]
  refine take_move 19 (.tmp 1) (.int .i64 k) rfl rfl rfl (by kernel_rfl) (by kernel_rfl) (by kernel_rfl) (fun _ _ _ h => h) rfl hHeld ?_
  simp only [Act.put, List.setIfInBounds_toArray, List.set_cons_zero, List.set_cons_succ]
  refine take_run 20 (.pointer (some ⟨b, off + k * 9, none⟩)) rfl (by kernel_rfl) (by kernel_rfl) (by kernel_rfl) (fun _ _ _ h => h) rfl hHeld (fun w => ?_) ?_
  · go_simp
  simp only [Act.put, List.setIfInBounds_toArray, List.set_cons_zero, List.set_cons_succ]
  refine take_if 21 (.agg (enA u)) rfl (by kernel_rfl) (by kernel_rfl) (by kernel_rfl) (fun _ _ _ h => h) rfl hHeld (fun w' hw' => ?_) ?_
  · cases hw'
    exact run_load_en rfl rfl hr8
  simp only [Act.put, List.setIfInBounds_toArray, List.set_cons_zero, List.set_cons_succ]
  refine take_if 22 (.agg (enA f)) rfl (by kernel_rfl) (by kernel_rfl) (by kernel_rfl) (fun _ _ _ h => h) rfl hHeld (fun w' hw' => ?_) ?_
  · cases hw'
    exact run_load_en rfl rfl (cent_range hE)
  simp only [Act.put, List.setIfInBounds_toArray, List.set_cons_zero, List.set_cons_succ]
  refine take_run 23 (.bool false) rfl (by kernel_rfl) (by kernel_rfl) (by kernel_rfl) (fun _ _ _ h => h) rfl hHeld (fun w => ?_) ?_
  · exact run_eq_en rfl rfl rfl (.inl ⟨rfl, rfl⟩) (HEQ.out w)
  simp only [Act.put, List.setIfInBounds_toArray, List.set_cons_zero, List.set_cons_succ]
  refine take_run 24 (.bool false) rfl (by kernel_rfl) (by kernel_rfl) (by kernel_rfl) (fun _ _ _ h => h) rfl hHeld (fun w => ?_) ?_
  · go_simp
  simp only [Act.put, List.setIfInBounds_toArray, List.set_cons_zero, List.set_cons_succ]
  refine wpAnyH_done (by kernel_rfl) ?_ _
  clear hHeld
  clear hr8
  go_wp2_with (first
    | (go_at_call 10
       (with_reducible refine (HPA.out _ (HK.out.from HBw8.out) (HL.out.below HBw8.out)).mono ?_)
       rintro e w2 ⟨A2, n2, c2, rfl, hbt, hbx⟩
       have hE := (hbx.block _ (Array.getElem?_eq_some_iff.1 hE).1).trans hE
       have HDR := Lib.hid hbt
       clear hbt
       have HBw2 := Lib.hid (HBw8.out.trans (hbx.mono HBw8.out.size))
       clear hbx)
    | ((with_reducible refine wpList_store_blk rfl 24 _ _ rfl w2.heap.size (idv Z) ?hx2 ?hy2 24 _ (heap_alloc_new w2 _) (info32 HZL.out) ?hs2 (idv_one _) ?_); (case hx2 => rfl); (case hy2 => rfl); (case hs2 => rw [idv_size, HZL.out]; rfl)
       intro w3 hg2 hZ hs2
       have hZ : RowB w3 w2.heap.size 24 Z := hZ
       have hbx : Below w2.heap.size w2 w3 := Below.grows (one_alloc w2 _) hg2 (size_le_alloc _ _) (Nat.le_refl _)
       have HBw3 := Lib.hid (HBw2.out.trans (hbx.mono HBw2.out.size))
       have hE := (hbx.block _ (Array.getElem?_eq_some_iff.1 hE).1).trans hE
       have HDR := Lib.hid (HDR.out.below hbx)
       clear hbx hg2 hs2)
    | ((with_reducible refine wpList_load_blk 28 _ rfl w.heap.size ?hx31 28 (enA f) (0, 0) _ hE Tryd.underlying28 ?hd31 (info_en (enA_size _)) ?_ ?hw31); (case hx31 => rfl); (case hd31 => rfl); (case hw31 => rfl))
    | (go_at_call 25
       (with_reducible refine (HPF.out _).mono ?_)
       rintro e w4 ⟨A4, m4, c4, rfl, hbt, hbx⟩
       have HDR := Lib.hid (HDR.out.below hbx)
       have HDP := Lib.hid hbt
       clear hbt
       have HBw4 := Lib.hid (HBw3.out.trans (hbx.mono HBw3.out.size))
       clear hbx)
    | ((with_reducible refine wpList_load_on 28 _ rfl b (off + k * 9) ?hx32 u.row (enA u) ?ht32 _ (HR.out _ HBw4.out) Tryd.underlying28 ?hd32 ?hi32 ?_ ?hw32); (case hx32 => rfl); (case ht32 => rfl); (case hd32 => rfl); (case hi32 => exact info_en (enA_size u)); (case hw32 => rfl))
    | (go_at_call 25
       (with_reducible refine (HPU.out _).mono ?_)
       rintro e w5 ⟨A5, m5, c5, rfl, hbt, hbx⟩
       have HDR := Lib.hid (HDR.out.below hbx)
       have HDP := Lib.hid (HDP.out.below hbx)
       have HDQ := Lib.hid hbt
       clear hbt
       have HBw5 := Lib.hid (HBw4.out.trans (hbx.mono HBw4.out.size))
       clear hbx)
    | (go_at_call 10
       (with_reducible refine (HPK.out _ (HK.out.from HBw5.out) (HLK.out _ HBw5.out)).mono ?_)
       rintro e w6 ⟨A6, n6, c6, rfl, -, hbx⟩
       have HDR := Lib.hid (HDR.out.below hbx)
       have HDP := Lib.hid (HDP.out.below hbx)
       have HDQ := Lib.hid (HDQ.out.below hbx)
       have HBw6 := Lib.hid (HBw5.out.trans (hbx.mono HBw5.out.size))
       clear hbx)
    | ((with_reducible refine wpList_store_blk rfl 24 _ _ rfl w6.heap.size (idv H) ?hx3 ?hy3 24 _ (heap_alloc_new w6 _) (info32 HHL.out) ?hs3 (idv_one _) ?_); (case hx3 => rfl); (case hy3 => rfl); (case hs3 => rw [idv_size, HHL.out]; rfl)
       intro w7 hg3 hH hs3
       have hH : RowB w7 w6.heap.size 24 H := hH
       have hbx : Below w6.heap.size w6 w7 := Below.grows (one_alloc w6 _) hg3 (size_le_alloc _ _) (Nat.le_refl _)
       have HBw7 := Lib.hid (HBw6.out.trans (hbx.mono HBw6.out.size))
       have HDR := Lib.hid (HDR.out.below hbx)
       have HDP := Lib.hid (HDP.out.below hbx)
       have HDQ := Lib.hid (HDQ.out.below hbx)
       clear hbx hg3 hs3))
  go_ret
  exact ⟨rfl, HBw7.out⟩
set_option maxHeartbeats 8000000 in
theorem cspoilw_2 (A : Option Addr) (n c : Nat) (l : List En) (k : Nat) (f u : En) (w : World) (hK : KTab w) (hl : Ens w A n c l) (ho : ∀ u ∈ l, u.ok) (hf : f.ok) (h : n ≤ 20) (hu : l[k]? = some u) (hs : ¬ u = f) (hi : putC l = true) (hm : mayE f = false) :
    Calls Tryd.prog 7 #[.slice A n c, .int .i64 k, enV f] w fun e w' => e = .returned (.bool true) ∧ Below w.heap.size w w' := by
  have hn := hl.small
  have hll := hl.len
  have hk : k < n := by have := (List.getElem?_eq_some_iff.1 hu).1; omega
  have e1 : (n : Int) ≤ 20 := by omega
  have q0 : 0 ≤ (k : Int) := by omega
  have q1 : (k : Int) < n := by omega
  have hup := hl.upto k (k : Int) rfl (by omega)
  obtain ⟨b, off, u2, rfl, hu2, hr⟩ := hl.range k hk
  obtain rfl : u = u2 := by rw [hu] at hu2; exact Option.some.inj hu2
  have HR := Lib.hid (show ∀ X, Below w.heap.size w X → X.rangeAt b (off + k * 9) u.row from fun X hX => rangeAt_below hr hX)
  have HK := Lib.hid hK
  have HL := Lib.hid hl
  have HEQ := Lib.hid (show ∀ w, (Op.equalIn 10000 28 (.agg (enA u)) (.agg (enA f))).run Tryd.prog w = .ok false w from fun w => by rw [eq_ens, decide_eq_false hs])
  have HLK := Lib.hid (show ∀ X, Below w.heap.size w X → Ens X (some ⟨b, off, none⟩) k c (l.take k) from fun X hX => hup.2.below hX)
  have hcut := hup.1
  have hul : u ∈ l := List.mem_of_getElem? hu
  have HPA := Lib.hid (fun (X : World) (hk : KTab X) (h : Ens X (some ⟨b, off, none⟩) n c l) => cput_any (some ⟨b, off, none⟩) n c l X hk h ho)
  have HPK := Lib.hid (fun (X : World) (hk' : KTab X) (h : Ens X (some ⟨b, off, none⟩) k c (l.take k)) => cput_any (some ⟨b, off, none⟩) k c (l.take k) X hk' h (fun v hv => ho v (List.mem_of_mem_take hv)))
  have HPF := Lib.hid (fun X : World => eput_any f X hf)
  have HPU := Lib.hid (fun X : World => eput_any u X (ho u hul))
  rw [hi] at HPA
  rw [hm] at HPF
  obtain ⟨MU, hmu⟩ : ∃ M, mayE u = M := ⟨_, rfl⟩
  obtain ⟨IK, hik⟩ : ∃ M, putC (l.take k) = M := ⟨_, rfl⟩
  rw [hmu] at HPU
  rw [hik] at HPK
  obtain ⟨R, hR⟩ : ∃ R, (if true = true then recsC l else []) = R := ⟨_, rfl⟩
  obtain ⟨Z, hZ⟩ : ∃ R, (if true = true then headC l else noughtsC) = R := ⟨_, rfl⟩
  obtain ⟨RK, hRK⟩ : ∃ R, (if IK = true then recsC (l.take k) else []) = R := ⟨_, rfl⟩
  obtain ⟨H, hH⟩ : ∃ R, (if IK = true then headC (l.take k) else noughtsC) = R := ⟨_, rfl⟩
  obtain ⟨P, hP⟩ : ∃ R, (if false = true then putE f else []) = R := ⟨_, rfl⟩
  obtain ⟨Q, hQ⟩ : ∃ R, (if MU = true then putE u else []) = R := ⟨_, rfl⟩
  have HZL := Lib.hid (show Z.length = 32 by rw [← hZ]; split; exact headC_len _; rfl)
  have HHL := Lib.hid (show H.length = 32 by rw [← hH]; split; exact headC_len _; rfl)
  rw [hR, hZ] at HPA
  rw [hRK, hH] at HPK
  rw [hP] at HPF
  rw [hQ] at HPU
  clear hmu hik hR hZ hRK hH hP hQ
  clear hl hK ho hf hll h hu hu2 hr hup hs hi hm hul
  unfold enV at HPF HPU ⊢
  go_enter Tryd.func7, Tryd.ntmps7
  go_wp2_with (go_at_call 9
               refine (cawake_any _ (HK.out.from (one_alloc w _))).mono ?_
               rintro e w1 ⟨rfl, hb1⟩
               have hE : w1.heap[w.heap.size]? = some (.cells (enA f) 28 (0, 0)) := after_alloc hb1
               have HBw1 := Lib.hid (after_one hb1).1
               clear hb1)
  obtain ⟨Y8, hY8⟩ : ∃ Y, w1.drew = Y := ⟨_, rfl⟩
  have hE : Y8.heap[w.heap.size]? = some (.cells (enA f) 28 (0, 0)) := by rw [← hY8]; exact hE
  have HBw8 := Lib.hid (show Below w.heap.size w Y8 by rw [← hY8]; exact HBw1.out.drew)
  have hr8 := HR.out _ HBw8.out
  refine wp_region_held_drew (S := (fun w' => w' = Y8)) (by kernel_rfl) (by rw [hY8]) (fun hHeld => ?_)
  rw [hY8] at hHeld ⊢
  clear hY8
  refine take_move 0 (.tmp 7) (.bool true) rfl rfl rfl (by kernel_rfl) (by kernel_rfl) (by kernel_rfl) (fun _ _ _ h => h) rfl hHeld ?_
  simp only [Act.put, List.setIfInBounds_toArray, List.set_cons_zero, List.set_cons_succ]
  refine take_run 1 (.bool false) rfl (by kernel_rfl) (by kernel_rfl) (by kernel_rfl) (fun _ _ _ h => h) rfl hHeld (fun w => ?_) ?_
  · go_simp
  simp only [Act.put, List.setIfInBounds_toArray, List.set_cons_zero, List.set_cons_succ]
  refine take_run 2 (.bool false) rfl (by kernel_rfl) (by kernel_rfl) (by kernel_rfl) (fun _ _ _ h => h) rfl hHeld (fun w => ?_) ?_
  · go_simp
  simp only [Act.put, List.setIfInBounds_toArray, List.set_cons_zero, List.set_cons_succ]
  refine take_move 3 (.tmp 0) (.slice (some ⟨b, off, none⟩) n c) rfl rfl rfl (by kernel_rfl) (by kernel_rfl) (by kernel_rfl) (fun _ _ _ h => h) rfl hHeld ?_
  simp only [Act.put, List.setIfInBounds_toArray, List.set_cons_zero, List.set_cons_succ]
  refine take_run 4 (.int .i64 n) rfl (by kernel_rfl) (by kernel_rfl) (by kernel_rfl) (fun _ _ _ h => h) rfl hHeld (fun w => ?_) ?_
  · go_simp
  simp only [Act.put, List.setIfInBounds_toArray, List.set_cons_zero, List.set_cons_succ]
  refine take_run 5 (.bool false) rfl (by kernel_rfl) (by kernel_rfl) (by kernel_rfl) (fun _ _ _ h => h) rfl hHeld (fun w => ?_) ?_
  · go_simp
  simp only [Act.put, List.setIfInBounds_toArray, List.set_cons_zero, List.set_cons_succ]
  refine take_run 6 (.bool false) rfl (by kernel_rfl) (by kernel_rfl) (by kernel_rfl) (fun _ _ _ h => h) rfl hHeld (fun w => ?_) ?_
  · go_simp
  simp only [Act.put, List.setIfInBounds_toArray, List.set_cons_zero, List.set_cons_succ]
  refine take_run 7 (.bool false) rfl (by kernel_rfl) (by kernel_rfl) (by kernel_rfl) (fun _ _ _ h => h) rfl hHeld (fun w => ?_) ?_
  · go_simp
  simp only [Act.put, List.setIfInBounds_toArray, List.set_cons_zero, List.set_cons_succ]
  refine take_move 8 (.tmp 1) (.int .i64 k) rfl rfl rfl (by kernel_rfl) (by kernel_rfl) (by kernel_rfl) (fun _ _ _ h => h) rfl hHeld ?_
  simp only [Act.put, List.setIfInBounds_toArray, List.set_cons_zero, List.set_cons_succ]
  refine take_run 9 (.bool false) rfl (by kernel_rfl) (by kernel_rfl) (by kernel_rfl) (fun _ _ _ h => h) rfl hHeld (fun w => ?_) ?_
  · go_simp
  simp only [Act.put, List.setIfInBounds_toArray, List.set_cons_zero, List.set_cons_succ]
  refine take_run 10 (.bool false) rfl (by kernel_rfl) (by kernel_rfl) (by kernel_rfl) (fun _ _ _ h => h) rfl hHeld (fun w => ?_) ?_
  · go_simp
  simp only [Act.put, List.setIfInBounds_toArray, List.set_cons_zero, List.set_cons_succ]
  refine take_run 11 (.bool false) rfl (by kernel_rfl) (by kernel_rfl) (by kernel_rfl) (fun _ _ _ h => h) rfl hHeld (fun w => ?_) ?_
  · go_simp
  simp only [Act.put, List.setIfInBounds_toArray, List.set_cons_zero, List.set_cons_succ]
  refine take_move 12 (.tmp 1) (.int .i64 k) rfl rfl rfl (by kernel_rfl) (by kernel_rfl) (by kernel_rfl) (fun _ _ _ h => h) rfl hHeld ?_
  simp only [Act.put, List.setIfInBounds_toArray, List.set_cons_zero, List.set_cons_succ]
  refine take_move 13 (.tmp 0) (.slice (some ⟨b, off, none⟩) n c) rfl rfl rfl (by kernel_rfl) (by kernel_rfl) (by kernel_rfl) (fun _ _ _ h => h) rfl hHeld ?_
  simp only [Act.put, List.setIfInBounds_toArray, List.set_cons_zero, List.set_cons_succ]
  refine take_run 14 (.int .i64 n) rfl (by kernel_rfl) (by kernel_rfl) (by kernel_rfl) (fun _ _ _ h => h) rfl hHeld (fun w => ?_) ?_
  · go_simp
  simp only [Act.put, List.setIfInBounds_toArray, List.set_cons_zero, List.set_cons_succ]
  refine take_run 15 (.bool false) rfl (by kernel_rfl) (by kernel_rfl) (by kernel_rfl) (fun _ _ _ h => h) rfl hHeld (fun w => ?_) ?_
  · go_simp
  simp only [Act.put, List.setIfInBounds_toArray, List.set_cons_zero, List.set_cons_succ]
  refine take_run 16 (.bool false) rfl (by kernel_rfl) (by kernel_rfl) (by kernel_rfl) (fun _ _ _ h => h) rfl hHeld (fun w => ?_) ?_
  · go_simp
  simp only [Act.put, List.setIfInBounds_toArray, List.set_cons_zero, List.set_cons_succ]
  refine take_run 17 (.bool false) rfl (by kernel_rfl) (by kernel_rfl) (by kernel_rfl) (fun _ _ _ h => h) rfl hHeld (fun w => ?_) ?_
  · go_simp
  simp only [Act.put, List.setIfInBounds_toArray, List.set_cons_zero, List.set_cons_succ]
  refine take_move 18 (.tmp 0) (.slice (some ⟨b, off, none⟩) n c) rfl rfl rfl (by kernel_rfl) (by kernel_rfl) (by kernel_rfl) (fun _ _ _ h => h) rfl hHeld ?_
  simp only [Act.put, List.setIfInBounds_toArray, List.set_cons_zero, List.set_cons_succ]
  refine take_move 19 (.tmp 1) (.int .i64 k) rfl rfl rfl (by kernel_rfl) (by kernel_rfl) (by kernel_rfl) (fun _ _ _ h => h) rfl hHeld ?_
  simp only [Act.put, List.setIfInBounds_toArray, List.set_cons_zero, List.set_cons_succ]
  refine take_run 20 (.pointer (some ⟨b, off + k * 9, none⟩)) rfl (by kernel_rfl) (by kernel_rfl) (by kernel_rfl) (fun _ _ _ h => h) rfl hHeld (fun w => ?_) ?_
  · go_simp
  simp only [Act.put, List.setIfInBounds_toArray, List.set_cons_zero, List.set_cons_succ]
  refine take_if 21 (.agg (enA u)) rfl (by kernel_rfl) (by kernel_rfl) (by kernel_rfl) (fun _ _ _ h => h) rfl hHeld (fun w' hw' => ?_) ?_
  · cases hw'
    exact run_load_en rfl rfl hr8
  simp only [Act.put, List.setIfInBounds_toArray, List.set_cons_zero, List.set_cons_succ]
  refine take_if 22 (.agg (enA f)) rfl (by kernel_rfl) (by kernel_rfl) (by kernel_rfl) (fun _ _ _ h => h) rfl hHeld (fun w' hw' => ?_) ?_
  · cases hw'
    exact run_load_en rfl rfl (cent_range hE)
  simp only [Act.put, List.setIfInBounds_toArray, List.set_cons_zero, List.set_cons_succ]
  refine take_run 23 (.bool false) rfl (by kernel_rfl) (by kernel_rfl) (by kernel_rfl) (fun _ _ _ h => h) rfl hHeld (fun w => ?_) ?_
  · exact run_eq_en rfl rfl rfl (.inl ⟨rfl, rfl⟩) (HEQ.out w)
  simp only [Act.put, List.setIfInBounds_toArray, List.set_cons_zero, List.set_cons_succ]
  refine take_run 24 (.bool false) rfl (by kernel_rfl) (by kernel_rfl) (by kernel_rfl) (fun _ _ _ h => h) rfl hHeld (fun w => ?_) ?_
  · go_simp
  simp only [Act.put, List.setIfInBounds_toArray, List.set_cons_zero, List.set_cons_succ]
  refine wpAnyH_done (by kernel_rfl) ?_ _
  clear hHeld
  clear hr8
  go_wp2_with (first
    | (go_at_call 10
       (with_reducible refine (HPA.out _ (HK.out.from HBw8.out) (HL.out.below HBw8.out)).mono ?_)
       rintro e w2 ⟨A2, n2, c2, rfl, hbt, hbx⟩
       have hE := (hbx.block _ (Array.getElem?_eq_some_iff.1 hE).1).trans hE
       have HDR := Lib.hid hbt
       clear hbt
       have HBw2 := Lib.hid (HBw8.out.trans (hbx.mono HBw8.out.size))
       clear hbx)
    | ((with_reducible refine wpList_store_blk rfl 24 _ _ rfl w2.heap.size (idv Z) ?hx2 ?hy2 24 _ (heap_alloc_new w2 _) (info32 HZL.out) ?hs2 (idv_one _) ?_); (case hx2 => rfl); (case hy2 => rfl); (case hs2 => rw [idv_size, HZL.out]; rfl)
       intro w3 hg2 hZ hs2
       have hZ : RowB w3 w2.heap.size 24 Z := hZ
       have hbx : Below w2.heap.size w2 w3 := Below.grows (one_alloc w2 _) hg2 (size_le_alloc _ _) (Nat.le_refl _)
       have HBw3 := Lib.hid (HBw2.out.trans (hbx.mono HBw2.out.size))
       have hE := (hbx.block _ (Array.getElem?_eq_some_iff.1 hE).1).trans hE
       have HDR := Lib.hid (HDR.out.below hbx)
       clear hbx hg2 hs2)
    | ((with_reducible refine wpList_load_blk 28 _ rfl w.heap.size ?hx31 28 (enA f) (0, 0) _ hE Tryd.underlying28 ?hd31 (info_en (enA_size _)) ?_ ?hw31); (case hx31 => rfl); (case hd31 => rfl); (case hw31 => rfl))
    | (go_at_call 25
       (with_reducible refine (HPF.out _).mono ?_)
       rintro e w4 ⟨A4, m4, c4, rfl, hbt, hbx⟩
       have HDR := Lib.hid (HDR.out.below hbx)
       have HDP := Lib.hid hbt
       clear hbt
       have HBw4 := Lib.hid (HBw3.out.trans (hbx.mono HBw3.out.size))
       clear hbx)
    | ((with_reducible refine wpList_load_on 28 _ rfl b (off + k * 9) ?hx32 u.row (enA u) ?ht32 _ (HR.out _ HBw4.out) Tryd.underlying28 ?hd32 ?hi32 ?_ ?hw32); (case hx32 => rfl); (case ht32 => rfl); (case hd32 => rfl); (case hi32 => exact info_en (enA_size u)); (case hw32 => rfl))
    | (go_at_call 25
       (with_reducible refine (HPU.out _).mono ?_)
       rintro e w5 ⟨A5, m5, c5, rfl, hbt, hbx⟩
       have HDR := Lib.hid (HDR.out.below hbx)
       have HDP := Lib.hid (HDP.out.below hbx)
       have HDQ := Lib.hid hbt
       clear hbt
       have HBw5 := Lib.hid (HBw4.out.trans (hbx.mono HBw4.out.size))
       clear hbx)
    | (go_at_call 10
       (with_reducible refine (HPK.out _ (HK.out.from HBw5.out) (HLK.out _ HBw5.out)).mono ?_)
       rintro e w6 ⟨A6, n6, c6, rfl, -, hbx⟩
       have HDR := Lib.hid (HDR.out.below hbx)
       have HDP := Lib.hid (HDP.out.below hbx)
       have HDQ := Lib.hid (HDQ.out.below hbx)
       have HBw6 := Lib.hid (HBw5.out.trans (hbx.mono HBw5.out.size))
       clear hbx)
    | ((with_reducible refine wpList_store_blk rfl 24 _ _ rfl w6.heap.size (idv H) ?hx3 ?hy3 24 _ (heap_alloc_new w6 _) (info32 HHL.out) ?hs3 (idv_one _) ?_); (case hx3 => rfl); (case hy3 => rfl); (case hs3 => rw [idv_size, HHL.out]; rfl)
       intro w7 hg3 hH hs3
       have hH : RowB w7 w6.heap.size 24 H := hH
       have hbx : Below w6.heap.size w6 w7 := Below.grows (one_alloc w6 _) hg3 (size_le_alloc _ _) (Nat.le_refl _)
       have HBw7 := Lib.hid (HBw6.out.trans (hbx.mono HBw6.out.size))
       have HDR := Lib.hid (HDR.out.below hbx)
       have HDP := Lib.hid (HDP.out.below hbx)
       have HDQ := Lib.hid (HDQ.out.below hbx)
       clear hbx hg3 hs3))
  go_ret
  exact ⟨rfl, HBw7.out⟩
set_option maxHeartbeats 8000000 in
theorem cspoilw_7 (A : Option Addr) (n c : Nat) (l : List En) (k : Nat) (f u : En) (w : World) (hK : KTab w) (hl : Ens w A n c l) (ho : ∀ u ∈ l, u.ok) (hf : f.ok) (h : n ≤ 20) (hu : l[k]? = some u) (hs : ¬ u = f) (hi : putC l = true) (hm : mayE f = true) (h7 : errC (recsC (l.take k) ++ (putE f ++ (linkC (headC (l.take k)) u ++ recsF (linkC (headC (l.take k)) u) (l.drop (k + 1))))) = 7) :
    Calls Tryd.prog 7 #[.slice A n c, .int .i64 k, enV f] w fun e w' => e = .returned (.bool true) ∧ Below w.heap.size w w' := by
  have hn := hl.small
  have hll := hl.len
  have hk : k < n := by have := (List.getElem?_eq_some_iff.1 hu).1; omega
  have e1 : (n : Int) ≤ 20 := by omega
  have q0 : 0 ≤ (k : Int) := by omega
  have q1 : (k : Int) < n := by omega
  have hup := hl.upto k (k : Int) rfl (by omega)
  obtain ⟨b, off, u2, rfl, hu2, hr⟩ := hl.range k hk
  obtain rfl : u = u2 := by rw [hu] at hu2; exact Option.some.inj hu2
  have HR := Lib.hid (show ∀ X, Below w.heap.size w X → X.rangeAt b (off + k * 9) u.row from fun X hX => rangeAt_below hr hX)
  have HK := Lib.hid hK
  have HL := Lib.hid hl
  have HEQ := Lib.hid (show ∀ w, (Op.equalIn 10000 28 (.agg (enA u)) (.agg (enA f))).run Tryd.prog w = .ok false w from fun w => by rw [eq_ens, decide_eq_false hs])
  have HLK := Lib.hid (show ∀ X, Below w.heap.size w X → Ens X (some ⟨b, off, none⟩) k c (l.take k) from fun X hX => hup.2.below hX)
  have hcut := hup.1
  have hul : u ∈ l := List.mem_of_getElem? hu
  have HPA := Lib.hid (fun (X : World) (hk : KTab X) (h : Ens X (some ⟨b, off, none⟩) n c l) => cput_any (some ⟨b, off, none⟩) n c l X hk h ho)
  have HPK := Lib.hid (fun (X : World) (hk' : KTab X) (h : Ens X (some ⟨b, off, none⟩) k c (l.take k)) => cput_any (some ⟨b, off, none⟩) k c (l.take k) X hk' h (fun v hv => ho v (List.mem_of_mem_take hv)))
  have HPF := Lib.hid (fun X : World => eput_any f X hf)
  have HPU := Lib.hid (fun X : World => eput_any u X (ho u hul))
  rw [hi] at HPA
  rw [hm] at HPF
  have hmc := putC_may hi
  have hmu : mayE u = true := List.all_eq_true.1 hmc.1 _ hul
  have hik := putC_take hi k
  rw [hmu] at HPU
  rw [hik] at HPK
  have hsp := spoil hu hmc.1 ho hmc.2 hm hf hs
  have hat := spoil_at (e := f) hu
  have hRN : (recsC l).length = 62 * n := by rw [recsC, recsF_len, hll]
  have hPL := put_len f
  have hPO := put_ok f
  have hQL := put_len u
  have hRO : ∀ j, 0 ≤ (recsC l).getD j 0 ∧ (recsC l).getD j 0 < 256 := recs_byte _
  have hHO := headC_byte (l.take k)
  have hoT : ∀ j, 0 ≤ (linkT (headC (l.take k)) f).getD j 0 ∧ (linkT (headC (l.take k)) f).getD j 0 < 256 := ok_linkT hHO
  have hoU : ∀ j, 0 ≤ (linkT (headC (l.take k)) u).getD j 0 ∧ (linkT (headC (l.take k)) u).getD j 0 < 256 := ok_linkT hHO
  rw [← hat] at hsp h7
  rw [if_pos rfl, if_pos rfl] at HPA HPK
  rw [if_pos rfl] at HPF HPU
  obtain ⟨H, hH⟩ : ∃ R, headC (l.take k) = R := ⟨_, rfl⟩
  have hHLn : H.length = 32 := by rw [← hH]; exact headC_len _
  rw [hH] at hsp hoT hoU HPK hHO
  obtain ⟨T, hT⟩ : ∃ T, linkT H f = T := ⟨_, rfl⟩
  obtain ⟨U, hU⟩ : ∃ T, linkT H u = T := ⟨_, rfl⟩
  rw [hT, hU] at hsp
  rw [hT] at hoT
  rw [hU] at hoU
  have hTL : T.length = 63 := by rw [← hT, linkT, List.length_cons, List.length_append, hHLn, put_len]
  have hUL : U.length = 63 := by rw [← hU, linkT, List.length_cons, List.length_append, hHLn, put_len]
  have hT2 : ([1] ++ H) ++ putE f = T := by rw [← hT]; rfl
  have hU2 : ([1] ++ H) ++ putE u = U := by rw [← hU]; rfl
  obtain ⟨P, hP⟩ : ∃ P, putE f = P := ⟨_, rfl⟩
  obtain ⟨Q, hQ⟩ : ∃ P, putE u = P := ⟨_, rfl⟩
  obtain ⟨R, hR⟩ : ∃ R, recsC l = R := ⟨_, rfl⟩
  obtain ⟨Z, hZ⟩ : ∃ R, headC l = R := ⟨_, rfl⟩
  obtain ⟨RK, hRK⟩ : ∃ R, recsC (l.take k) = R := ⟨_, rfl⟩
  have HZL := Lib.hid (show Z.length = 32 by rw [← hZ]; exact headC_len _)
  have HHL := Lib.hid hHLn
  have HHO := Lib.hid hHO
  rw [hP] at HPF hPL hPO hT2 h7 hsp
  rw [hQ] at HPU hQL hU2
  rw [hR] at HPA hRN hRO h7 hsp
  rw [hZ] at HPA
  rw [hRK] at HPK
  obtain ⟨X, hX⟩ : ∃ X, R.take (62 * k) ++ P ++ R.drop (62 * k + 30) = X := ⟨_, rfl⟩
  have hXL : X.length = 62 * n := by rw [← hX]; simp only [List.length_append, List.length_take, List.length_drop]; omega
  have hXO : ∀ j, 0 ≤ X.getD j 0 ∧ X.getD j 0 < 256 := by
    rw [← hX]
    have h1 := ok_piece R hRO 0 (62 * k)
    have h2 : ∀ j, 0 ≤ (R.drop (62 * k + 30)).getD j 0 ∧ (R.drop (62 * k + 30)).getD j 0 < 256 := fun j => by
      have := hRO (62 * k + 30 + j)
      simpa [List.getD_eq_getElem?_getD, List.getElem?_drop] using this
    exact ok_append (ok_append (by simpa using h1) hPO) h2
  rw [hX] at h7 hsp
  obtain ⟨V, hV⟩ : ∃ V, verC X = V := ⟨_, rfl⟩
  have HVL := Lib.hid (show V.length = 32 by rw [← hV]; exact verC_len _)
  have HVE := Lib.hid (fun (A : Option Addr) (n c : Nat) (W : World) (hk : KTab W) (hb : Bts W A n c X) => cver_any A n c X W hk hb)
  rw [hV] at HVE
  obtain ⟨E, hE7⟩ : ∃ E, errC X = E := ⟨_, rfl⟩
  rw [hE7] at HVE h7 hsp
  obtain ⟨N, hN⟩ : ∃ N, 62 * n = N := ⟨_, rfl⟩
  have HN := Lib.hid hN
  rw [hN] at hRN hXL
  have HRN := Lib.hid hRN
  have HPL := Lib.hid hPL
  have HPO := Lib.hid hPO
  have HQL := Lib.hid hQL
  have HRO := Lib.hid hRO
  have HX := Lib.hid hX
  have HXL := Lib.hid hXL
  have HXO := Lib.hid hXO
  have HT2 := Lib.hid hT2
  have HU2 := Lib.hid hU2
  have HTO := Lib.hid hoT
  have HUO := Lib.hid hoU
  have HTL := Lib.hid hTL
  have HUL := Lib.hid hUL
  have hw62 : IntKind.i64.wrap (62 * (n : Int)) = N := by rw [IntKind.wrap_i64]; omega
  have hwk : IntKind.i64.wrap (62 * (k : Int)) = 62 * k := by rw [IntKind.wrap_i64]; omega
  have hwk3 : IntKind.i64.wrap (62 * (k : Int) + 30) = 62 * k + 30 := by rw [IntKind.wrap_i64]; omega
  have HKN := Lib.hid (show 62 * k + 30 ≤ N by omega)
  have HN0 := Lib.hid (show N ≤ 1240 by omega)
  have hal := run_all32
  subst h7
  clear hmc hmu hik hsp hat hRN hPL hPO hQL hRO hHO hoT hoU hH hHLn hT hU hTL hUL hT2 hU2 hP hQ hR hZ hRK hX hXL hXO hV hE7 hN
  clear hl hK ho hf hll h hu hu2 hr hup hs hi hm hul
  unfold enV at HPF HPU ⊢
  go_enter Tryd.func7, Tryd.ntmps7
  go_wp2_with (go_at_call 9
               refine (cawake_any _ (HK.out.from (one_alloc w _))).mono ?_
               rintro e w1 ⟨rfl, hb1⟩
               have hE : w1.heap[w.heap.size]? = some (.cells (enA f) 28 (0, 0)) := after_alloc hb1
               have HBw1 := Lib.hid (after_one hb1).1
               clear hb1)
  obtain ⟨Y8, hY8⟩ : ∃ Y, w1.drew = Y := ⟨_, rfl⟩
  have hE : Y8.heap[w.heap.size]? = some (.cells (enA f) 28 (0, 0)) := by rw [← hY8]; exact hE
  have HBw8 := Lib.hid (show Below w.heap.size w Y8 by rw [← hY8]; exact HBw1.out.drew)
  have hr8 := HR.out _ HBw8.out
  refine wp_region_held_drew (S := (fun w' => w' = Y8)) (by kernel_rfl) (by rw [hY8]) (fun hHeld => ?_)
  rw [hY8] at hHeld ⊢
  clear hY8
  refine take_move 0 (.tmp 7) (.bool true) rfl rfl rfl (by kernel_rfl) (by kernel_rfl) (by kernel_rfl) (fun _ _ _ h => h) rfl hHeld ?_
  simp only [Act.put, List.setIfInBounds_toArray, List.set_cons_zero, List.set_cons_succ]
  refine take_run 1 (.bool false) rfl (by kernel_rfl) (by kernel_rfl) (by kernel_rfl) (fun _ _ _ h => h) rfl hHeld (fun w => ?_) ?_
  · go_simp
  simp only [Act.put, List.setIfInBounds_toArray, List.set_cons_zero, List.set_cons_succ]
  refine take_run 2 (.bool false) rfl (by kernel_rfl) (by kernel_rfl) (by kernel_rfl) (fun _ _ _ h => h) rfl hHeld (fun w => ?_) ?_
  · go_simp
  simp only [Act.put, List.setIfInBounds_toArray, List.set_cons_zero, List.set_cons_succ]
  refine take_move 3 (.tmp 0) (.slice (some ⟨b, off, none⟩) n c) rfl rfl rfl (by kernel_rfl) (by kernel_rfl) (by kernel_rfl) (fun _ _ _ h => h) rfl hHeld ?_
  simp only [Act.put, List.setIfInBounds_toArray, List.set_cons_zero, List.set_cons_succ]
  refine take_run 4 (.int .i64 n) rfl (by kernel_rfl) (by kernel_rfl) (by kernel_rfl) (fun _ _ _ h => h) rfl hHeld (fun w => ?_) ?_
  · go_simp
  simp only [Act.put, List.setIfInBounds_toArray, List.set_cons_zero, List.set_cons_succ]
  refine take_run 5 (.bool false) rfl (by kernel_rfl) (by kernel_rfl) (by kernel_rfl) (fun _ _ _ h => h) rfl hHeld (fun w => ?_) ?_
  · go_simp
  simp only [Act.put, List.setIfInBounds_toArray, List.set_cons_zero, List.set_cons_succ]
  refine take_run 6 (.bool false) rfl (by kernel_rfl) (by kernel_rfl) (by kernel_rfl) (fun _ _ _ h => h) rfl hHeld (fun w => ?_) ?_
  · go_simp
  simp only [Act.put, List.setIfInBounds_toArray, List.set_cons_zero, List.set_cons_succ]
  refine take_run 7 (.bool false) rfl (by kernel_rfl) (by kernel_rfl) (by kernel_rfl) (fun _ _ _ h => h) rfl hHeld (fun w => ?_) ?_
  · go_simp
  simp only [Act.put, List.setIfInBounds_toArray, List.set_cons_zero, List.set_cons_succ]
  refine take_move 8 (.tmp 1) (.int .i64 k) rfl rfl rfl (by kernel_rfl) (by kernel_rfl) (by kernel_rfl) (fun _ _ _ h => h) rfl hHeld ?_
  simp only [Act.put, List.setIfInBounds_toArray, List.set_cons_zero, List.set_cons_succ]
  refine take_run 9 (.bool false) rfl (by kernel_rfl) (by kernel_rfl) (by kernel_rfl) (fun _ _ _ h => h) rfl hHeld (fun w => ?_) ?_
  · go_simp
  simp only [Act.put, List.setIfInBounds_toArray, List.set_cons_zero, List.set_cons_succ]
  refine take_run 10 (.bool false) rfl (by kernel_rfl) (by kernel_rfl) (by kernel_rfl) (fun _ _ _ h => h) rfl hHeld (fun w => ?_) ?_
  · go_simp
  simp only [Act.put, List.setIfInBounds_toArray, List.set_cons_zero, List.set_cons_succ]
  refine take_run 11 (.bool false) rfl (by kernel_rfl) (by kernel_rfl) (by kernel_rfl) (fun _ _ _ h => h) rfl hHeld (fun w => ?_) ?_
  · go_simp
  simp only [Act.put, List.setIfInBounds_toArray, List.set_cons_zero, List.set_cons_succ]
  refine take_move 12 (.tmp 1) (.int .i64 k) rfl rfl rfl (by kernel_rfl) (by kernel_rfl) (by kernel_rfl) (fun _ _ _ h => h) rfl hHeld ?_
  simp only [Act.put, List.setIfInBounds_toArray, List.set_cons_zero, List.set_cons_succ]
  refine take_move 13 (.tmp 0) (.slice (some ⟨b, off, none⟩) n c) rfl rfl rfl (by kernel_rfl) (by kernel_rfl) (by kernel_rfl) (fun _ _ _ h => h) rfl hHeld ?_
  simp only [Act.put, List.setIfInBounds_toArray, List.set_cons_zero, List.set_cons_succ]
  refine take_run 14 (.int .i64 n) rfl (by kernel_rfl) (by kernel_rfl) (by kernel_rfl) (fun _ _ _ h => h) rfl hHeld (fun w => ?_) ?_
  · go_simp
  simp only [Act.put, List.setIfInBounds_toArray, List.set_cons_zero, List.set_cons_succ]
  refine take_run 15 (.bool false) rfl (by kernel_rfl) (by kernel_rfl) (by kernel_rfl) (fun _ _ _ h => h) rfl hHeld (fun w => ?_) ?_
  · go_simp
  simp only [Act.put, List.setIfInBounds_toArray, List.set_cons_zero, List.set_cons_succ]
  refine take_run 16 (.bool false) rfl (by kernel_rfl) (by kernel_rfl) (by kernel_rfl) (fun _ _ _ h => h) rfl hHeld (fun w => ?_) ?_
  · go_simp
  simp only [Act.put, List.setIfInBounds_toArray, List.set_cons_zero, List.set_cons_succ]
  refine take_run 17 (.bool false) rfl (by kernel_rfl) (by kernel_rfl) (by kernel_rfl) (fun _ _ _ h => h) rfl hHeld (fun w => ?_) ?_
  · go_simp
  simp only [Act.put, List.setIfInBounds_toArray, List.set_cons_zero, List.set_cons_succ]
  refine take_move 18 (.tmp 0) (.slice (some ⟨b, off, none⟩) n c) rfl rfl rfl (by kernel_rfl) (by kernel_rfl) (by kernel_rfl) (fun _ _ _ h => h) rfl hHeld ?_
  simp only [Act.put, List.setIfInBounds_toArray, List.set_cons_zero, List.set_cons_succ]
  refine take_move 19 (.tmp 1) (.int .i64 k) rfl rfl rfl (by kernel_rfl) (by kernel_rfl) (by kernel_rfl) (fun _ _ _ h => h) rfl hHeld ?_
  simp only [Act.put, List.setIfInBounds_toArray, List.set_cons_zero, List.set_cons_succ]
  refine take_run 20 (.pointer (some ⟨b, off + k * 9, none⟩)) rfl (by kernel_rfl) (by kernel_rfl) (by kernel_rfl) (fun _ _ _ h => h) rfl hHeld (fun w => ?_) ?_
  · go_simp
  simp only [Act.put, List.setIfInBounds_toArray, List.set_cons_zero, List.set_cons_succ]
  refine take_if 21 (.agg (enA u)) rfl (by kernel_rfl) (by kernel_rfl) (by kernel_rfl) (fun _ _ _ h => h) rfl hHeld (fun w' hw' => ?_) ?_
  · cases hw'
    exact run_load_en rfl rfl hr8
  simp only [Act.put, List.setIfInBounds_toArray, List.set_cons_zero, List.set_cons_succ]
  refine take_if 22 (.agg (enA f)) rfl (by kernel_rfl) (by kernel_rfl) (by kernel_rfl) (fun _ _ _ h => h) rfl hHeld (fun w' hw' => ?_) ?_
  · cases hw'
    exact run_load_en rfl rfl (cent_range hE)
  simp only [Act.put, List.setIfInBounds_toArray, List.set_cons_zero, List.set_cons_succ]
  refine take_run 23 (.bool false) rfl (by kernel_rfl) (by kernel_rfl) (by kernel_rfl) (fun _ _ _ h => h) rfl hHeld (fun w => ?_) ?_
  · exact run_eq_en rfl rfl rfl (.inl ⟨rfl, rfl⟩) (HEQ.out w)
  simp only [Act.put, List.setIfInBounds_toArray, List.set_cons_zero, List.set_cons_succ]
  refine take_run 24 (.bool false) rfl (by kernel_rfl) (by kernel_rfl) (by kernel_rfl) (fun _ _ _ h => h) rfl hHeld (fun w => ?_) ?_
  · go_simp
  simp only [Act.put, List.setIfInBounds_toArray, List.set_cons_zero, List.set_cons_succ]
  refine wpAnyH_done (by kernel_rfl) ?_ _
  clear hHeld
  clear hr8
  go_wp2_with (first
    | (go_at_call 10
       (with_reducible refine (HPA.out _ (HK.out.from HBw8.out) (HL.out.below HBw8.out)).mono ?_)
       rintro e w2 ⟨A2, n2, c2, rfl, hbt, hbx⟩
       have hE := (hbx.block _ (Array.getElem?_eq_some_iff.1 hE).1).trans hE
       have HDR := Lib.hid hbt
       clear hbt
       have HBw2 := Lib.hid (HBw8.out.trans (hbx.mono HBw8.out.size))
       clear hbx)
    | ((with_reducible refine wpList_store_blk rfl 24 _ _ rfl w2.heap.size (idv Z) ?hx2 ?hy2 24 _ (heap_alloc_new w2 _) (info32 HZL.out) ?hs2 (idv_one _) ?_); (case hx2 => rfl); (case hy2 => rfl); (case hs2 => rw [idv_size, HZL.out]; rfl)
       intro w3 hg2 hZ hs2
       have hZ : RowB w3 w2.heap.size 24 Z := hZ
       have hbx : Below w2.heap.size w2 w3 := Below.grows (one_alloc w2 _) hg2 (size_le_alloc _ _) (Nat.le_refl _)
       have HBw3 := Lib.hid (HBw2.out.trans (hbx.mono HBw2.out.size))
       have hE := (hbx.block _ (Array.getElem?_eq_some_iff.1 hE).1).trans hE
       have HDR := Lib.hid (HDR.out.below hbx)
       clear hbx hg2 hs2)
    | ((with_reducible refine wpList_load_blk 28 _ rfl w.heap.size ?hx31 28 (enA f) (0, 0) _ hE Tryd.underlying28 ?hd31 (info_en (enA_size _)) ?_ ?hw31); (case hx31 => rfl); (case hd31 => rfl); (case hw31 => rfl))
    | (go_at_call 25
       (with_reducible refine (HPF.out _).mono ?_)
       rintro e w4 ⟨A4, m4, c4, rfl, hbt, hbx⟩
       have HDR := Lib.hid (HDR.out.below hbx)
       have HDP := Lib.hid hbt
       clear hbt
       have HBw4 := Lib.hid (HBw3.out.trans (hbx.mono HBw3.out.size))
       clear hbx)
    | ((with_reducible refine wpList_load_on 28 _ rfl b (off + k * 9) ?hx32 u.row (enA u) ?ht32 _ (HR.out _ HBw4.out) Tryd.underlying28 ?hd32 ?hi32 ?_ ?hw32); (case hx32 => rfl); (case ht32 => rfl); (case hd32 => rfl); (case hi32 => exact info_en (enA_size u)); (case hw32 => rfl))
    | (go_at_call 25
       (with_reducible refine (HPU.out _).mono ?_)
       rintro e w5 ⟨A5, m5, c5, rfl, hbt, hbx⟩
       have HDR := Lib.hid (HDR.out.below hbx)
       have HDP := Lib.hid (HDP.out.below hbx)
       have HDQ := Lib.hid hbt
       clear hbt
       have HBw5 := Lib.hid (HBw4.out.trans (hbx.mono HBw4.out.size))
       clear hbx)
    | (go_at_call 10
       (with_reducible refine (HPK.out _ (HK.out.from HBw5.out) (HLK.out _ HBw5.out)).mono ?_)
       rintro e w6 ⟨A6, n6, c6, rfl, -, hbx⟩
       have HDR := Lib.hid (HDR.out.below hbx)
       have HDP := Lib.hid (HDP.out.below hbx)
       have HDQ := Lib.hid (HDQ.out.below hbx)
       have HBw6 := Lib.hid (HBw5.out.trans (hbx.mono HBw5.out.size))
       clear hbx)
    | ((with_reducible refine wpList_store_blk rfl 24 _ _ rfl w6.heap.size (idv H) ?hx3 ?hy3 24 _ (heap_alloc_new w6 _) (info32 HHL.out) ?hs3 (idv_one _) ?_); (case hx3 => rfl); (case hy3 => rfl); (case hs3 => rw [idv_size, HHL.out]; rfl)
       intro w7 hg3 hH hs3
       have hH : RowB w7 w6.heap.size 24 H := hH
       have hbx : Below w6.heap.size w6 w7 := Below.grows (one_alloc w6 _) hg3 (size_le_alloc _ _) (Nat.le_refl _)
       have HBw7 := Lib.hid (HBw6.out.trans (hbx.mono HBw6.out.size))
       have HDR := Lib.hid (HDR.out.below hbx)
       have HDP := Lib.hid (HDP.out.below hbx)
       have HDQ := Lib.hid (HDQ.out.below hbx)
       have hn2 : n2 = N := HDR.out.len.symm.trans HRN.out
       subst hn2
       have hm4 : m4 = 30 := HDP.out.len.symm.trans HPL.out
       subst hm4
       have hm5 : m5 = 30 := HDQ.out.len.symm.trans HQL.out
       subst hm5
       clear hbx hg3 hs3)
    | (at_builtin
       refine wpList_append_b rfl _ _ rfl w7.heap.size (.slice none 0 0) [] rfl (Own.nil _ _) A2 n2 c2 R rfl HDR.out (by have := HN0.out; simp; omega) (Nat.le_refl _) ?_
       intro v8 x8 hown8 hg8
       have hH7 := hH.lt
       have hDP7 := HDP.out
       have hDQ7 := HDQ.out
       have hown8 : Own x8 w7.heap.size v8 R := hown8
       have hform := hown8.form (by have := HRN.out; have := HKN.out; omega)
       rw [HRN.out] at hform
       obtain ⟨g8, cap8, rfl, hga, hgb, hca, hcb⟩ := hform
       have hbx : Below w7.heap.size w7 x8 := (Below.refl _ w7).grown hg8 (Nat.le_refl _) (fun g e => by simp [Value.ownBlock] at e)
       have HBx8 := Lib.hid (HBw7.out.trans (hbx.mono HBw7.out.size))
       have hH := hH.keep hbx
       have HDP := Lib.hid (HDP.out.below hbx)
       have HDQ := Lib.hid (HDQ.out.below hbx)
       have hbt8 := hown8.btsAt HRN.out HRO.out
       obtain ⟨bz, oz, ez, -, hcut8⟩ := cut_any hbt8 (62 * k) 30 (by omega) HKN.out
       cases ez
       have hc8 : ∀ W : World, (Instr.slice 29 (.slice (some ⟨g8, 0, none⟩) n2 cap8) (some (.int .i64 (62 * (k : Int)))) (some (.int .i64 (62 * (k : Int) + 30))) none).run Tryd.prog W = .ok (.slice (some ⟨g8, 62 * k, none⟩) 30 (cap8 - 62 * k)) W := fun W => by have := hcut8 (62 * (k : Int)) (62 * (k : Int) + 30) W (by omega) (by omega); rw [Nat.zero_add] at this; exact this
       have HO8 := Lib.hid hown8
       have HGA := Lib.hid hga
       have HX78 := Lib.hid hbx
       have HHLT := Lib.hid (show w6.heap.size < w7.heap.size from hH7)
       have HFP := Lib.hid (show ∀ X, Below w7.heap.size w7 X → Bts X A4 30 c4 P from fun X hX => hDP7.below hX)
       have HFQ := Lib.hid (show ∀ X, Below w7.heap.size w7 X → Bts X A5 30 c5 Q from fun X hX => hDQ7.below hX)
       clear hown8 hg8 hbx hbt8 hcut8 hga hgb hca hcb hH7 hDP7 hDQ7)
    | (refine wpList_copy_into rfl _ _ rfl w7.heap.size g8 n2 cap8 R HO8.out HRN.out (62 * k) 30 _ rfl A4 c4 P rfl HDP.out HKN.out w7.heap.size x8 (Below.refl _ _) HGA.out ?_
       intro w9 hown9 hb9
       rw [HX.out] at hown9
       skip
       have hH := hH.below hb9 HHLT.out
       skip
       have HDP := Lib.hid (HFP.out _ (HX78.out.trans hb9))
       have HDQ := Lib.hid (HFQ.out _ (HX78.out.trans hb9))
       have HBx9 := Lib.hid (HBx8.out.trans (hb9.mono HBw7.out.size))
       have HDX := Lib.hid (hown9.btsAt HXL.out HXO.out)
       clear hown9 hb9 hc8)
    | (go_at_call 16
       (with_reducible refine (HVE.out _ _ _ _ (HK.out.from HBx9.out) HDX.out).mono ?_)
       rintro e x10 ⟨rfl, hbx⟩
       have HDP := Lib.hid (HDP.out.below hbx)
       have HDQ := Lib.hid (HDQ.out.below hbx)
       have HBx10 := Lib.hid (HBx9.out.trans (hbx.mono HBx9.out.size))
       have hH := hH.keep hbx
       clear hbx)
    | ((with_reducible refine wpList_store_blk rfl 24 _ _ rfl x10.heap.size (idv V) ?hx4 ?hy4 24 _ (heap_alloc_new x10 _) (info32 HVL.out) ?hs4 (idv_one _) ?_); (case hx4 => rfl); (case hy4 => rfl); (case hs4 => rw [idv_size, HVL.out]; rfl)
       intro x11 hg4 hV hs4
       have hV : RowB x11 x10.heap.size 24 V := hV
       have hbx : Below x10.heap.size x10 x11 := Below.grows (one_alloc x10 _) hg4 (size_le_alloc _ _) (Nat.le_refl _)
       have HBx11 := Lib.hid (HBx10.out.trans (hbx.mono HBx10.out.size))
       have HDP := Lib.hid (HDP.out.below hbx)
       have HDQ := Lib.hid (HDQ.out.below hbx)
       have hH := hH.keep hbx
       clear hbx hg4 hs4
       have HLT11 := Lib.hid (show w6.heap.size < x11.heap.size from hH.lt)
       have HFQ11 := Lib.hid (show ∀ X, Below x11.heap.size x11 X → Bts X A5 30 c5 Q from fun X hX => HDQ.out.below hX)
       clear HFP HFQ HX78)
    | (at_builtin
       refine wpList_append_b rfl _ _ rfl x11.heap.size _ [1] rfl (one_own x11 1) (some ⟨w6.heap.size, 0, none⟩) 32 32 H rfl ((hH.more _).btsAt HHL.out (by unfold maxLen; omega) HHO.out) (by simp) (by simp) ?_
       intro v12 x12 hown12 hg12
       have hbx : Below x11.heap.size x11 x12 := (one_alloc x11 (.cells #[.int .u8 1] 5)).grown hg12 (size_le_alloc _ _) (fun g e => ((one_own x11 1).size g e).1)
       have hown12 : Own x12 x11.heap.size v12 ([1] ++ H) := hown12
       have hH := hH.keep hbx
       have HDP := Lib.hid (HDP.out.below hbx)
       have HDQ := Lib.hid (HDQ.out.below hbx)
       have HBx12 := Lib.hid (HBx11.out.trans (hbx.mono HBx11.out.size))
       skip
       have HF12 := Lib.hid hbx
       clear hg12 hbx)
    | (at_builtin
       refine wpList_append_b rfl _ _ rfl x11.heap.size v12 ([1] ++ H) rfl hown12 A4 30 c4 P rfl HDP.out (by have := HHL.out; simp; omega) HF12.out.size ?_
       intro v13 x13 hown13 hg13
       have hbx : Below x11.heap.size x12 x13 := (Below.refl _ x12).grown hg13 HF12.out.size (fun g e => (hown12.size g e).1)
       rw [HT2.out] at hown13
       obtain ⟨A13, m13, c13, rfl, hbt13⟩ := hown13.slice HTO.out
       have HDT := Lib.hid hbt13
       have hH := hH.below hbx (HLT11.out)
       have HDQ := Lib.hid (HFQ11.out _ (HF12.out.trans hbx))
       have HBx13 := Lib.hid (HBx12.out.trans (hbx.mono HBx11.out.size))
       clear hg13 hbx hown12 hown13 hbt13)
    | (at_builtin
       refine wpList_append_b rfl _ _ rfl x13.heap.size _ [1] rfl (one_own x13 1) (some ⟨w6.heap.size, 0, none⟩) 32 32 H rfl ((hH.more _).btsAt HHL.out (by unfold maxLen; omega) HHO.out) (by simp) (by simp) ?_
       intro v14 x14 hown14 hg14
       have hbx : Below x13.heap.size x13 x14 := (one_alloc x13 (.cells #[.int .u8 1] 5)).grown hg14 (size_le_alloc _ _) (fun g e => ((one_own x13 1).size g e).1)
       have hown14 : Own x14 x13.heap.size v14 ([1] ++ H) := hown14
       have HDQ := Lib.hid (HDQ.out.below hbx)
       have HBx14 := Lib.hid (HBx13.out.trans (hbx.mono HBx13.out.size))
       have HF14 := Lib.hid hbx
       clear hg14 hbx hH)
    | (at_builtin
       refine wpList_append_b rfl _ _ rfl x13.heap.size v14 ([1] ++ H) rfl hown14 A5 30 c5 Q rfl HDQ.out (by have := HHL.out; simp; omega) HF14.out.size ?_
       intro v15 x15 hown15 hg15
       have hbx : Below x13.heap.size x14 x15 := (Below.refl _ x14).grown hg15 HF14.out.size (fun g e => (hown14.size g e).1)
       rw [HU2.out] at hown15
       obtain ⟨A15, m15, c15, rfl, hbt15⟩ := hown15.slice HUO.out
       have HDU := Lib.hid hbt15
       have HDT := Lib.hid (HDT.out.below (HF14.out.trans hbx))
       have HBx15 := Lib.hid (HBx14.out.trans (hbx.mono HBx13.out.size))
       clear hg15 hbx hown14 hown15 hbt15))
  go_ret
  exact ⟨rfl, HBx15.out⟩
set_option maxHeartbeats 8000000 in
theorem cspoilw_two (A : Option Addr) (n c : Nat) (l : List En) (k : Nat) (f u : En) (w : World) (hK : KTab w) (hl : Ens w A n c l) (ho : ∀ u ∈ l, u.ok) (hf : f.ok) (h : n ≤ 20) (hu : l[k]? = some u) (hs : ¬ u = f) (hi : putC l = true) (hm : mayE f = true) (h7 : ¬ errC (recsC (l.take k) ++ (putE f ++ (linkC (headC (l.take k)) u ++ recsF (linkC (headC (l.take k)) u) (l.drop (k + 1))))) = 7) :
    Calls Tryd.prog 7 #[.slice A n c, .int .i64 k, enV f] w fun e w' => e = .returned (.bool true) ∧ Below w.heap.size w w' := by
  have hn := hl.small
  have hll := hl.len
  have hk : k < n := by have := (List.getElem?_eq_some_iff.1 hu).1; omega
  have e1 : (n : Int) ≤ 20 := by omega
  have q0 : 0 ≤ (k : Int) := by omega
  have q1 : (k : Int) < n := by omega
  have hup := hl.upto k (k : Int) rfl (by omega)
  obtain ⟨b, off, u2, rfl, hu2, hr⟩ := hl.range k hk
  obtain rfl : u = u2 := by rw [hu] at hu2; exact Option.some.inj hu2
  have HR := Lib.hid (show ∀ X, Below w.heap.size w X → X.rangeAt b (off + k * 9) u.row from fun X hX => rangeAt_below hr hX)
  have HK := Lib.hid hK
  have HL := Lib.hid hl
  have HEQ := Lib.hid (show ∀ w, (Op.equalIn 10000 28 (.agg (enA u)) (.agg (enA f))).run Tryd.prog w = .ok false w from fun w => by rw [eq_ens, decide_eq_false hs])
  have HLK := Lib.hid (show ∀ X, Below w.heap.size w X → Ens X (some ⟨b, off, none⟩) k c (l.take k) from fun X hX => hup.2.below hX)
  have hcut := hup.1
  have hul : u ∈ l := List.mem_of_getElem? hu
  have HPA := Lib.hid (fun (X : World) (hk : KTab X) (h : Ens X (some ⟨b, off, none⟩) n c l) => cput_any (some ⟨b, off, none⟩) n c l X hk h ho)
  have HPK := Lib.hid (fun (X : World) (hk' : KTab X) (h : Ens X (some ⟨b, off, none⟩) k c (l.take k)) => cput_any (some ⟨b, off, none⟩) k c (l.take k) X hk' h (fun v hv => ho v (List.mem_of_mem_take hv)))
  have HPF := Lib.hid (fun X : World => eput_any f X hf)
  have HPU := Lib.hid (fun X : World => eput_any u X (ho u hul))
  rw [hi] at HPA
  rw [hm] at HPF
  have hmc := putC_may hi
  have hmu : mayE u = true := List.all_eq_true.1 hmc.1 _ hul
  have hik := putC_take hi k
  rw [hmu] at HPU
  rw [hik] at HPK
  have hsp := spoil hu hmc.1 ho hmc.2 hm hf hs
  have hat := spoil_at (e := f) hu
  have hRN : (recsC l).length = 62 * n := by rw [recsC, recsF_len, hll]
  have hPL := put_len f
  have hPO := put_ok f
  have hQL := put_len u
  have hRO : ∀ j, 0 ≤ (recsC l).getD j 0 ∧ (recsC l).getD j 0 < 256 := recs_byte _
  have hHO := headC_byte (l.take k)
  have hoT : ∀ j, 0 ≤ (linkT (headC (l.take k)) f).getD j 0 ∧ (linkT (headC (l.take k)) f).getD j 0 < 256 := ok_linkT hHO
  have hoU : ∀ j, 0 ≤ (linkT (headC (l.take k)) u).getD j 0 ∧ (linkT (headC (l.take k)) u).getD j 0 < 256 := ok_linkT hHO
  rw [← hat] at hsp h7
  rw [if_pos rfl, if_pos rfl] at HPA HPK
  rw [if_pos rfl] at HPF HPU
  obtain ⟨H, hH⟩ : ∃ R, headC (l.take k) = R := ⟨_, rfl⟩
  have hHLn : H.length = 32 := by rw [← hH]; exact headC_len _
  rw [hH] at hsp hoT hoU HPK hHO
  obtain ⟨T, hT⟩ : ∃ T, linkT H f = T := ⟨_, rfl⟩
  obtain ⟨U, hU⟩ : ∃ T, linkT H u = T := ⟨_, rfl⟩
  rw [hT, hU] at hsp
  rw [hT] at hoT
  rw [hU] at hoU
  have hTL : T.length = 63 := by rw [← hT, linkT, List.length_cons, List.length_append, hHLn, put_len]
  have hUL : U.length = 63 := by rw [← hU, linkT, List.length_cons, List.length_append, hHLn, put_len]
  have hT2 : ([1] ++ H) ++ putE f = T := by rw [← hT]; rfl
  have hU2 : ([1] ++ H) ++ putE u = U := by rw [← hU]; rfl
  obtain ⟨P, hP⟩ : ∃ P, putE f = P := ⟨_, rfl⟩
  obtain ⟨Q, hQ⟩ : ∃ P, putE u = P := ⟨_, rfl⟩
  obtain ⟨R, hR⟩ : ∃ R, recsC l = R := ⟨_, rfl⟩
  obtain ⟨Z, hZ⟩ : ∃ R, headC l = R := ⟨_, rfl⟩
  obtain ⟨RK, hRK⟩ : ∃ R, recsC (l.take k) = R := ⟨_, rfl⟩
  have HZL := Lib.hid (show Z.length = 32 by rw [← hZ]; exact headC_len _)
  have HHL := Lib.hid hHLn
  have HHO := Lib.hid hHO
  rw [hP] at HPF hPL hPO hT2 h7 hsp
  rw [hQ] at HPU hQL hU2
  rw [hR] at HPA hRN hRO h7 hsp
  rw [hZ] at HPA
  rw [hRK] at HPK
  obtain ⟨X, hX⟩ : ∃ X, R.take (62 * k) ++ P ++ R.drop (62 * k + 30) = X := ⟨_, rfl⟩
  have hXL : X.length = 62 * n := by rw [← hX]; simp only [List.length_append, List.length_take, List.length_drop]; omega
  have hXO : ∀ j, 0 ≤ X.getD j 0 ∧ X.getD j 0 < 256 := by
    rw [← hX]
    have h1 := ok_piece R hRO 0 (62 * k)
    have h2 : ∀ j, 0 ≤ (R.drop (62 * k + 30)).getD j 0 ∧ (R.drop (62 * k + 30)).getD j 0 < 256 := fun j => by
      have := hRO (62 * k + 30 + j)
      simpa [List.getD_eq_getElem?_getD, List.getElem?_drop] using this
    exact ok_append (ok_append (by simpa using h1) hPO) h2
  rw [hX] at h7 hsp
  obtain ⟨V, hV⟩ : ∃ V, verC X = V := ⟨_, rfl⟩
  have HVL := Lib.hid (show V.length = 32 by rw [← hV]; exact verC_len _)
  have HVE := Lib.hid (fun (A : Option Addr) (n c : Nat) (W : World) (hk : KTab W) (hb : Bts W A n c X) => cver_any A n c X W hk hb)
  rw [hV] at HVE
  obtain ⟨E, hE7⟩ : ∃ E, errC X = E := ⟨_, rfl⟩
  rw [hE7] at HVE h7 hsp
  obtain ⟨N, hN⟩ : ∃ N, 62 * n = N := ⟨_, rfl⟩
  have HN := Lib.hid hN
  rw [hN] at hRN hXL
  have HRN := Lib.hid hRN
  have HPL := Lib.hid hPL
  have HPO := Lib.hid hPO
  have HQL := Lib.hid hQL
  have HRO := Lib.hid hRO
  have HX := Lib.hid hX
  have HXL := Lib.hid hXL
  have HXO := Lib.hid hXO
  have HT2 := Lib.hid hT2
  have HU2 := Lib.hid hU2
  have HTO := Lib.hid hoT
  have HUO := Lib.hid hoU
  have HTL := Lib.hid hTL
  have HUL := Lib.hid hUL
  have hw62 : IntKind.i64.wrap (62 * (n : Int)) = N := by rw [IntKind.wrap_i64]; omega
  have hwk : IntKind.i64.wrap (62 * (k : Int)) = 62 * k := by rw [IntKind.wrap_i64]; omega
  have hwk3 : IntKind.i64.wrap (62 * (k : Int) + 30) = 62 * k + 30 := by rw [IntKind.wrap_i64]; omega
  have HKN := Lib.hid (show 62 * k + 30 ≤ N by omega)
  have HN0 := Lib.hid (show N ≤ 1240 by omega)
  have hal := run_all32
  have hno := hsp.resolve_left h7
  have e7 : (E == 7) = false := by rw [beq_eq_false_iff_ne]; exact h7
  obtain ⟨s1, hs1⟩ : ∃ s, bstr T = s := ⟨_, rfl⟩
  obtain ⟨s2, hs2⟩ : ∃ s, bstr U = s := ⟨_, rfl⟩
  have hse : (s1.toList == s2.toList) = false := by rw [← hs1, ← hs2, bstr_same hoT hoU, decide_eq_false hno.1]
  have HS1 := Lib.hid hs1
  have HS2 := Lib.hid hs2
  obtain ⟨Y, hY⟩ : ∃ Y, sumL T = Y := ⟨_, rfl⟩
  have HYL := Lib.hid (show Y.length = 32 by rw [← hY]; exact csum_len _)
  have HU1 := Lib.hid (show ∀ (A : Option Addr) (m d : Nat) (W : World), KTab W → Bts W A m d T → Calls Tryd.prog 24 #[.slice A m d] W (fun e w' => e = .returned (.agg (idv Y)) ∧ Below W.heap.size W w') from fun A m d W hk h2 => by rw [← hY]; exact sum_yes A m d _ W hk (by have := h2.len; omega) h2)
  have hsu := hno.2
  have HU3 := Lib.hid (show ∀ (A : Option Addr) (m d : Nat) (W : World), KTab W → Bts W A m d U → Calls Tryd.prog 24 #[.slice A m d] W (fun e w' => e = .returned (.agg (idv Y)) ∧ Below W.heap.size W w') from fun A m d W hk h2 => by rw [← hY, hsu]; exact sum_yes A m d _ W hk (by have := h2.len; omega) h2)
  have HQY := Lib.hid (show ∀ w, (Op.equalIn 10000 24 (.agg (idv Y)) (.agg (idv Y))).run Tryd.prog w = .ok true w from fun w => by rw [eq_ids _ _ HYL.out HYL.out, decide_eq_true rfl])
  clear hno h7 hs1 hs2 hY hsu
  clear hmc hmu hik hsp hat hRN hPL hPO hQL hRO hHO hoT hoU hH hHLn hT hU hTL hUL hT2 hU2 hP hQ hR hZ hRK hX hXL hXO hV hE7 hN
  clear hl hK ho hf hll h hu hu2 hr hup hs hi hm hul
  unfold enV at HPF HPU ⊢
  go_enter Tryd.func7, Tryd.ntmps7
  go_wp2_with (go_at_call 9
               refine (cawake_any _ (HK.out.from (one_alloc w _))).mono ?_
               rintro e w1 ⟨rfl, hb1⟩
               have hE : w1.heap[w.heap.size]? = some (.cells (enA f) 28 (0, 0)) := after_alloc hb1
               have HBw1 := Lib.hid (after_one hb1).1
               clear hb1)
  obtain ⟨Y8, hY8⟩ : ∃ Y, w1.drew = Y := ⟨_, rfl⟩
  have hE : Y8.heap[w.heap.size]? = some (.cells (enA f) 28 (0, 0)) := by rw [← hY8]; exact hE
  have HBw8 := Lib.hid (show Below w.heap.size w Y8 by rw [← hY8]; exact HBw1.out.drew)
  have hr8 := HR.out _ HBw8.out
  refine wp_region_held_drew (S := (fun w' => w' = Y8)) (by kernel_rfl) (by rw [hY8]) (fun hHeld => ?_)
  rw [hY8] at hHeld ⊢
  clear hY8
  refine take_move 0 (.tmp 7) (.bool true) rfl rfl rfl (by kernel_rfl) (by kernel_rfl) (by kernel_rfl) (fun _ _ _ h => h) rfl hHeld ?_
  simp only [Act.put, List.setIfInBounds_toArray, List.set_cons_zero, List.set_cons_succ]
  refine take_run 1 (.bool false) rfl (by kernel_rfl) (by kernel_rfl) (by kernel_rfl) (fun _ _ _ h => h) rfl hHeld (fun w => ?_) ?_
  · go_simp
  simp only [Act.put, List.setIfInBounds_toArray, List.set_cons_zero, List.set_cons_succ]
  refine take_run 2 (.bool false) rfl (by kernel_rfl) (by kernel_rfl) (by kernel_rfl) (fun _ _ _ h => h) rfl hHeld (fun w => ?_) ?_
  · go_simp
  simp only [Act.put, List.setIfInBounds_toArray, List.set_cons_zero, List.set_cons_succ]
  refine take_move 3 (.tmp 0) (.slice (some ⟨b, off, none⟩) n c) rfl rfl rfl (by kernel_rfl) (by kernel_rfl) (by kernel_rfl) (fun _ _ _ h => h) rfl hHeld ?_
  simp only [Act.put, List.setIfInBounds_toArray, List.set_cons_zero, List.set_cons_succ]
  refine take_run 4 (.int .i64 n) rfl (by kernel_rfl) (by kernel_rfl) (by kernel_rfl) (fun _ _ _ h => h) rfl hHeld (fun w => ?_) ?_
  · go_simp
  simp only [Act.put, List.setIfInBounds_toArray, List.set_cons_zero, List.set_cons_succ]
  refine take_run 5 (.bool false) rfl (by kernel_rfl) (by kernel_rfl) (by kernel_rfl) (fun _ _ _ h => h) rfl hHeld (fun w => ?_) ?_
  · go_simp
  simp only [Act.put, List.setIfInBounds_toArray, List.set_cons_zero, List.set_cons_succ]
  refine take_run 6 (.bool false) rfl (by kernel_rfl) (by kernel_rfl) (by kernel_rfl) (fun _ _ _ h => h) rfl hHeld (fun w => ?_) ?_
  · go_simp
  simp only [Act.put, List.setIfInBounds_toArray, List.set_cons_zero, List.set_cons_succ]
  refine take_run 7 (.bool false) rfl (by kernel_rfl) (by kernel_rfl) (by kernel_rfl) (fun _ _ _ h => h) rfl hHeld (fun w => ?_) ?_
  · go_simp
  simp only [Act.put, List.setIfInBounds_toArray, List.set_cons_zero, List.set_cons_succ]
  refine take_move 8 (.tmp 1) (.int .i64 k) rfl rfl rfl (by kernel_rfl) (by kernel_rfl) (by kernel_rfl) (fun _ _ _ h => h) rfl hHeld ?_
  simp only [Act.put, List.setIfInBounds_toArray, List.set_cons_zero, List.set_cons_succ]
  refine take_run 9 (.bool false) rfl (by kernel_rfl) (by kernel_rfl) (by kernel_rfl) (fun _ _ _ h => h) rfl hHeld (fun w => ?_) ?_
  · go_simp
  simp only [Act.put, List.setIfInBounds_toArray, List.set_cons_zero, List.set_cons_succ]
  refine take_run 10 (.bool false) rfl (by kernel_rfl) (by kernel_rfl) (by kernel_rfl) (fun _ _ _ h => h) rfl hHeld (fun w => ?_) ?_
  · go_simp
  simp only [Act.put, List.setIfInBounds_toArray, List.set_cons_zero, List.set_cons_succ]
  refine take_run 11 (.bool false) rfl (by kernel_rfl) (by kernel_rfl) (by kernel_rfl) (fun _ _ _ h => h) rfl hHeld (fun w => ?_) ?_
  · go_simp
  simp only [Act.put, List.setIfInBounds_toArray, List.set_cons_zero, List.set_cons_succ]
  refine take_move 12 (.tmp 1) (.int .i64 k) rfl rfl rfl (by kernel_rfl) (by kernel_rfl) (by kernel_rfl) (fun _ _ _ h => h) rfl hHeld ?_
  simp only [Act.put, List.setIfInBounds_toArray, List.set_cons_zero, List.set_cons_succ]
  refine take_move 13 (.tmp 0) (.slice (some ⟨b, off, none⟩) n c) rfl rfl rfl (by kernel_rfl) (by kernel_rfl) (by kernel_rfl) (fun _ _ _ h => h) rfl hHeld ?_
  simp only [Act.put, List.setIfInBounds_toArray, List.set_cons_zero, List.set_cons_succ]
  refine take_run 14 (.int .i64 n) rfl (by kernel_rfl) (by kernel_rfl) (by kernel_rfl) (fun _ _ _ h => h) rfl hHeld (fun w => ?_) ?_
  · go_simp
  simp only [Act.put, List.setIfInBounds_toArray, List.set_cons_zero, List.set_cons_succ]
  refine take_run 15 (.bool false) rfl (by kernel_rfl) (by kernel_rfl) (by kernel_rfl) (fun _ _ _ h => h) rfl hHeld (fun w => ?_) ?_
  · go_simp
  simp only [Act.put, List.setIfInBounds_toArray, List.set_cons_zero, List.set_cons_succ]
  refine take_run 16 (.bool false) rfl (by kernel_rfl) (by kernel_rfl) (by kernel_rfl) (fun _ _ _ h => h) rfl hHeld (fun w => ?_) ?_
  · go_simp
  simp only [Act.put, List.setIfInBounds_toArray, List.set_cons_zero, List.set_cons_succ]
  refine take_run 17 (.bool false) rfl (by kernel_rfl) (by kernel_rfl) (by kernel_rfl) (fun _ _ _ h => h) rfl hHeld (fun w => ?_) ?_
  · go_simp
  simp only [Act.put, List.setIfInBounds_toArray, List.set_cons_zero, List.set_cons_succ]
  refine take_move 18 (.tmp 0) (.slice (some ⟨b, off, none⟩) n c) rfl rfl rfl (by kernel_rfl) (by kernel_rfl) (by kernel_rfl) (fun _ _ _ h => h) rfl hHeld ?_
  simp only [Act.put, List.setIfInBounds_toArray, List.set_cons_zero, List.set_cons_succ]
  refine take_move 19 (.tmp 1) (.int .i64 k) rfl rfl rfl (by kernel_rfl) (by kernel_rfl) (by kernel_rfl) (fun _ _ _ h => h) rfl hHeld ?_
  simp only [Act.put, List.setIfInBounds_toArray, List.set_cons_zero, List.set_cons_succ]
  refine take_run 20 (.pointer (some ⟨b, off + k * 9, none⟩)) rfl (by kernel_rfl) (by kernel_rfl) (by kernel_rfl) (fun _ _ _ h => h) rfl hHeld (fun w => ?_) ?_
  · go_simp
  simp only [Act.put, List.setIfInBounds_toArray, List.set_cons_zero, List.set_cons_succ]
  refine take_if 21 (.agg (enA u)) rfl (by kernel_rfl) (by kernel_rfl) (by kernel_rfl) (fun _ _ _ h => h) rfl hHeld (fun w' hw' => ?_) ?_
  · cases hw'
    exact run_load_en rfl rfl hr8
  simp only [Act.put, List.setIfInBounds_toArray, List.set_cons_zero, List.set_cons_succ]
  refine take_if 22 (.agg (enA f)) rfl (by kernel_rfl) (by kernel_rfl) (by kernel_rfl) (fun _ _ _ h => h) rfl hHeld (fun w' hw' => ?_) ?_
  · cases hw'
    exact run_load_en rfl rfl (cent_range hE)
  simp only [Act.put, List.setIfInBounds_toArray, List.set_cons_zero, List.set_cons_succ]
  refine take_run 23 (.bool false) rfl (by kernel_rfl) (by kernel_rfl) (by kernel_rfl) (fun _ _ _ h => h) rfl hHeld (fun w => ?_) ?_
  · exact run_eq_en rfl rfl rfl (.inl ⟨rfl, rfl⟩) (HEQ.out w)
  simp only [Act.put, List.setIfInBounds_toArray, List.set_cons_zero, List.set_cons_succ]
  refine take_run 24 (.bool false) rfl (by kernel_rfl) (by kernel_rfl) (by kernel_rfl) (fun _ _ _ h => h) rfl hHeld (fun w => ?_) ?_
  · go_simp
  simp only [Act.put, List.setIfInBounds_toArray, List.set_cons_zero, List.set_cons_succ]
  refine wpAnyH_done (by kernel_rfl) ?_ _
  clear hHeld
  clear hr8
  go_wp2_with (first
    | (go_at_call 10
       (with_reducible refine (HPA.out _ (HK.out.from HBw8.out) (HL.out.below HBw8.out)).mono ?_)
       rintro e w2 ⟨A2, n2, c2, rfl, hbt, hbx⟩
       have hE := (hbx.block _ (Array.getElem?_eq_some_iff.1 hE).1).trans hE
       have HDR := Lib.hid hbt
       clear hbt
       have HBw2 := Lib.hid (HBw8.out.trans (hbx.mono HBw8.out.size))
       clear hbx)
    | ((with_reducible refine wpList_store_blk rfl 24 _ _ rfl w2.heap.size (idv Z) ?hx2 ?hy2 24 _ (heap_alloc_new w2 _) (info32 HZL.out) ?hs2 (idv_one _) ?_); (case hx2 => rfl); (case hy2 => rfl); (case hs2 => rw [idv_size, HZL.out]; rfl)
       intro w3 hg2 hZ hs2
       have hZ : RowB w3 w2.heap.size 24 Z := hZ
       have hbx : Below w2.heap.size w2 w3 := Below.grows (one_alloc w2 _) hg2 (size_le_alloc _ _) (Nat.le_refl _)
       have HBw3 := Lib.hid (HBw2.out.trans (hbx.mono HBw2.out.size))
       have hE := (hbx.block _ (Array.getElem?_eq_some_iff.1 hE).1).trans hE
       have HDR := Lib.hid (HDR.out.below hbx)
       clear hbx hg2 hs2)
    | ((with_reducible refine wpList_load_blk 28 _ rfl w.heap.size ?hx31 28 (enA f) (0, 0) _ hE Tryd.underlying28 ?hd31 (info_en (enA_size _)) ?_ ?hw31); (case hx31 => rfl); (case hd31 => rfl); (case hw31 => rfl))
    | (go_at_call 25
       (with_reducible refine (HPF.out _).mono ?_)
       rintro e w4 ⟨A4, m4, c4, rfl, hbt, hbx⟩
       have HDR := Lib.hid (HDR.out.below hbx)
       have HDP := Lib.hid hbt
       clear hbt
       have HBw4 := Lib.hid (HBw3.out.trans (hbx.mono HBw3.out.size))
       clear hbx)
    | ((with_reducible refine wpList_load_on 28 _ rfl b (off + k * 9) ?hx32 u.row (enA u) ?ht32 _ (HR.out _ HBw4.out) Tryd.underlying28 ?hd32 ?hi32 ?_ ?hw32); (case hx32 => rfl); (case ht32 => rfl); (case hd32 => rfl); (case hi32 => exact info_en (enA_size u)); (case hw32 => rfl))
    | (go_at_call 25
       (with_reducible refine (HPU.out _).mono ?_)
       rintro e w5 ⟨A5, m5, c5, rfl, hbt, hbx⟩
       have HDR := Lib.hid (HDR.out.below hbx)
       have HDP := Lib.hid (HDP.out.below hbx)
       have HDQ := Lib.hid hbt
       clear hbt
       have HBw5 := Lib.hid (HBw4.out.trans (hbx.mono HBw4.out.size))
       clear hbx)
    | (go_at_call 10
       (with_reducible refine (HPK.out _ (HK.out.from HBw5.out) (HLK.out _ HBw5.out)).mono ?_)
       rintro e w6 ⟨A6, n6, c6, rfl, -, hbx⟩
       have HDR := Lib.hid (HDR.out.below hbx)
       have HDP := Lib.hid (HDP.out.below hbx)
       have HDQ := Lib.hid (HDQ.out.below hbx)
       have HBw6 := Lib.hid (HBw5.out.trans (hbx.mono HBw5.out.size))
       clear hbx)
    | ((with_reducible refine wpList_store_blk rfl 24 _ _ rfl w6.heap.size (idv H) ?hx3 ?hy3 24 _ (heap_alloc_new w6 _) (info32 HHL.out) ?hs3 (idv_one _) ?_); (case hx3 => rfl); (case hy3 => rfl); (case hs3 => rw [idv_size, HHL.out]; rfl)
       intro w7 hg3 hH hs3
       have hH : RowB w7 w6.heap.size 24 H := hH
       have hbx : Below w6.heap.size w6 w7 := Below.grows (one_alloc w6 _) hg3 (size_le_alloc _ _) (Nat.le_refl _)
       have HBw7 := Lib.hid (HBw6.out.trans (hbx.mono HBw6.out.size))
       have HDR := Lib.hid (HDR.out.below hbx)
       have HDP := Lib.hid (HDP.out.below hbx)
       have HDQ := Lib.hid (HDQ.out.below hbx)
       have hn2 : n2 = N := HDR.out.len.symm.trans HRN.out
       subst hn2
       have hm4 : m4 = 30 := HDP.out.len.symm.trans HPL.out
       subst hm4
       have hm5 : m5 = 30 := HDQ.out.len.symm.trans HQL.out
       subst hm5
       clear hbx hg3 hs3)
    | (at_builtin
       refine wpList_append_b rfl _ _ rfl w7.heap.size (.slice none 0 0) [] rfl (Own.nil _ _) A2 n2 c2 R rfl HDR.out (by have := HN0.out; simp; omega) (Nat.le_refl _) ?_
       intro v8 x8 hown8 hg8
       have hH7 := hH.lt
       have hDP7 := HDP.out
       have hDQ7 := HDQ.out
       have hown8 : Own x8 w7.heap.size v8 R := hown8
       have hform := hown8.form (by have := HRN.out; have := HKN.out; omega)
       rw [HRN.out] at hform
       obtain ⟨g8, cap8, rfl, hga, hgb, hca, hcb⟩ := hform
       have hbx : Below w7.heap.size w7 x8 := (Below.refl _ w7).grown hg8 (Nat.le_refl _) (fun g e => by simp [Value.ownBlock] at e)
       have HBx8 := Lib.hid (HBw7.out.trans (hbx.mono HBw7.out.size))
       have hH := hH.keep hbx
       have HDP := Lib.hid (HDP.out.below hbx)
       have HDQ := Lib.hid (HDQ.out.below hbx)
       have hbt8 := hown8.btsAt HRN.out HRO.out
       obtain ⟨bz, oz, ez, -, hcut8⟩ := cut_any hbt8 (62 * k) 30 (by omega) HKN.out
       cases ez
       have hc8 : ∀ W : World, (Instr.slice 29 (.slice (some ⟨g8, 0, none⟩) n2 cap8) (some (.int .i64 (62 * (k : Int)))) (some (.int .i64 (62 * (k : Int) + 30))) none).run Tryd.prog W = .ok (.slice (some ⟨g8, 62 * k, none⟩) 30 (cap8 - 62 * k)) W := fun W => by have := hcut8 (62 * (k : Int)) (62 * (k : Int) + 30) W (by omega) (by omega); rw [Nat.zero_add] at this; exact this
       have HO8 := Lib.hid hown8
       have HGA := Lib.hid hga
       have HX78 := Lib.hid hbx
       have HHLT := Lib.hid (show w6.heap.size < w7.heap.size from hH7)
       have HFP := Lib.hid (show ∀ X, Below w7.heap.size w7 X → Bts X A4 30 c4 P from fun X hX => hDP7.below hX)
       have HFQ := Lib.hid (show ∀ X, Below w7.heap.size w7 X → Bts X A5 30 c5 Q from fun X hX => hDQ7.below hX)
       clear hown8 hg8 hbx hbt8 hcut8 hga hgb hca hcb hH7 hDP7 hDQ7)
    | (refine wpList_copy_into rfl _ _ rfl w7.heap.size g8 n2 cap8 R HO8.out HRN.out (62 * k) 30 _ rfl A4 c4 P rfl HDP.out HKN.out w7.heap.size x8 (Below.refl _ _) HGA.out ?_
       intro w9 hown9 hb9
       rw [HX.out] at hown9
       skip
       have hH := hH.below hb9 HHLT.out
       skip
       have HDP := Lib.hid (HFP.out _ (HX78.out.trans hb9))
       have HDQ := Lib.hid (HFQ.out _ (HX78.out.trans hb9))
       have HBx9 := Lib.hid (HBx8.out.trans (hb9.mono HBw7.out.size))
       have HDX := Lib.hid (hown9.btsAt HXL.out HXO.out)
       clear hown9 hb9 hc8)
    | (go_at_call 16
       (with_reducible refine (HVE.out _ _ _ _ (HK.out.from HBx9.out) HDX.out).mono ?_)
       rintro e x10 ⟨rfl, hbx⟩
       have HDP := Lib.hid (HDP.out.below hbx)
       have HDQ := Lib.hid (HDQ.out.below hbx)
       have HBx10 := Lib.hid (HBx9.out.trans (hbx.mono HBx9.out.size))
       have hH := hH.keep hbx
       clear hbx)
    | ((with_reducible refine wpList_store_blk rfl 24 _ _ rfl x10.heap.size (idv V) ?hx4 ?hy4 24 _ (heap_alloc_new x10 _) (info32 HVL.out) ?hs4 (idv_one _) ?_); (case hx4 => rfl); (case hy4 => rfl); (case hs4 => rw [idv_size, HVL.out]; rfl)
       intro x11 hg4 hV hs4
       have hV : RowB x11 x10.heap.size 24 V := hV
       have hbx : Below x10.heap.size x10 x11 := Below.grows (one_alloc x10 _) hg4 (size_le_alloc _ _) (Nat.le_refl _)
       have HBx11 := Lib.hid (HBx10.out.trans (hbx.mono HBx10.out.size))
       have HDP := Lib.hid (HDP.out.below hbx)
       have HDQ := Lib.hid (HDQ.out.below hbx)
       have hH := hH.keep hbx
       clear hbx hg4 hs4
       have HLT11 := Lib.hid (show w6.heap.size < x11.heap.size from hH.lt)
       have HFQ11 := Lib.hid (show ∀ X, Below x11.heap.size x11 X → Bts X A5 30 c5 Q from fun X hX => HDQ.out.below hX)
       clear HFP HFQ HX78)
    | (at_builtin
       refine wpList_append_b rfl _ _ rfl x11.heap.size _ [1] rfl (one_own x11 1) (some ⟨w6.heap.size, 0, none⟩) 32 32 H rfl ((hH.more _).btsAt HHL.out (by unfold maxLen; omega) HHO.out) (by simp) (by simp) ?_
       intro v12 x12 hown12 hg12
       have hbx : Below x11.heap.size x11 x12 := (one_alloc x11 (.cells #[.int .u8 1] 5)).grown hg12 (size_le_alloc _ _) (fun g e => ((one_own x11 1).size g e).1)
       have hown12 : Own x12 x11.heap.size v12 ([1] ++ H) := hown12
       have hH := hH.keep hbx
       have HDP := Lib.hid (HDP.out.below hbx)
       have HDQ := Lib.hid (HDQ.out.below hbx)
       have HBx12 := Lib.hid (HBx11.out.trans (hbx.mono HBx11.out.size))
       skip
       have HF12 := Lib.hid hbx
       clear hg12 hbx)
    | (at_builtin
       refine wpList_append_b rfl _ _ rfl x11.heap.size v12 ([1] ++ H) rfl hown12 A4 30 c4 P rfl HDP.out (by have := HHL.out; simp; omega) HF12.out.size ?_
       intro v13 x13 hown13 hg13
       have hbx : Below x11.heap.size x12 x13 := (Below.refl _ x12).grown hg13 HF12.out.size (fun g e => (hown12.size g e).1)
       rw [HT2.out] at hown13
       obtain ⟨A13, m13, c13, rfl, hbt13⟩ := hown13.slice HTO.out
       have HDT := Lib.hid hbt13
       have hH := hH.below hbx (HLT11.out)
       have HDQ := Lib.hid (HFQ11.out _ (HF12.out.trans hbx))
       have HBx13 := Lib.hid (HBx12.out.trans (hbx.mono HBx11.out.size))
       clear hg13 hbx hown12 hown13 hbt13)
    | (at_builtin
       refine wpList_append_b rfl _ _ rfl x13.heap.size _ [1] rfl (one_own x13 1) (some ⟨w6.heap.size, 0, none⟩) 32 32 H rfl ((hH.more _).btsAt HHL.out (by unfold maxLen; omega) HHO.out) (by simp) (by simp) ?_
       intro v14 x14 hown14 hg14
       have hbx : Below x13.heap.size x13 x14 := (one_alloc x13 (.cells #[.int .u8 1] 5)).grown hg14 (size_le_alloc _ _) (fun g e => ((one_own x13 1).size g e).1)
       have hown14 : Own x14 x13.heap.size v14 ([1] ++ H) := hown14
       have HDQ := Lib.hid (HDQ.out.below hbx)
       have HBx14 := Lib.hid (HBx13.out.trans (hbx.mono HBx13.out.size))
       have HF14 := Lib.hid hbx
       clear hg14 hbx hH)
    | (at_builtin
       refine wpList_append_b rfl _ _ rfl x13.heap.size v14 ([1] ++ H) rfl hown14 A5 30 c5 Q rfl HDQ.out (by have := HHL.out; simp; omega) HF14.out.size ?_
       intro v15 x15 hown15 hg15
       have hbx : Below x13.heap.size x14 x15 := (Below.refl _ x14).grown hg15 HF14.out.size (fun g e => (hown14.size g e).1)
       rw [HU2.out] at hown15
       obtain ⟨A15, m15, c15, rfl, hbt15⟩ := hown15.slice HUO.out
       have HDU := Lib.hid hbt15
       have HDT := Lib.hid (HDT.out.below (HF14.out.trans hbx))
       have HBx15 := Lib.hid (HBx14.out.trans (hbx.mono HBx13.out.size))
       have k1 := conv_bts HDT.out
       have k2 := conv_bts HDU.out
       rw [HS1.out] at k1
       rw [HS2.out] at k2
       clear hg15 hbx hown14 hown15 hbt15)
    | (go_at_call 24
       (with_reducible refine (HU1.out _ _ _ _ (HK.out.from HBx15.out) HDT.out).mono ?_)
       rintro e x16 ⟨rfl, hbx⟩
       have HDU := Lib.hid (HDU.out.below hbx)
       have HBx16 := Lib.hid (HBx15.out.trans (hbx.mono HBx15.out.size))
       clear hbx)
    | (go_at_call 24
       (with_reducible refine (HU3.out _ _ _ _ (HK.out.from HBx16.out) HDU.out).mono ?_)
       rintro e x17 ⟨rfl, hbx⟩
       have HBx17 := Lib.hid (HBx16.out.trans (hbx.mono HBx16.out.size))
       clear hbx)
    | ((with_reducible refine wpList_eq_id .eql _ _ rfl (idv Y) (idv Y) ?hx11 ?hy11 true true (.inl ⟨rfl, rfl⟩) (fun w => HQY.out w) ?_ ?hw11); (case hx11 => rfl); (case hy11 => rfl); (case hw11 => rfl)))
  go_ret
  exact ⟨rfl, HBx17.out⟩
theorem cspoilw_any (A : Option Addr) (n c : Nat) (l : List En) (i : Int) (f : En) (w : World) (hK : KTab w) (hl : Ens w A n c l) (ho : ∀ u ∈ l, u.ok) (hf : f.ok) : Calls Tryd.prog 7 #[.slice A n c, .int .i64 i, enV f] w fun e w' => e = .returned (.bool true) ∧ Below w.heap.size w w' := by
  by_cases h : n ≤ 20
  · by_cases hi : i < 0
    · exact cspoilw_neg A n c l i f w hK hl ho hf h hi
    · by_cases h2 : (n : Int) ≤ i
      · exact cspoilw_far A n c l i f w hK hl ho hf h hi h2
      · obtain ⟨k, rfl⟩ : ∃ k : Nat, i = k := ⟨i.toNat, by omega⟩
        have hk : k < l.length := by rw [hl.len]; omega
        have hu : l[k]? = some l[k] := List.getElem?_eq_getElem hk
        by_cases hs : l[k] = f
        · exact cspoilw_same A n c l k f l[k] w hK hl ho hf h hu hs
        · cases hp : putC l with
          | false => exact cspoilw_1 A n c l k f l[k] w hK hl ho hf h hu hs hp
          | true =>
            cases hm : mayE f with
            | false => exact cspoilw_2 A n c l k f l[k] w hK hl ho hf h hu hs hp hm
            | true =>
              by_cases h7 : errC (recsC (l.take k) ++ (putE f ++ (linkC (headC (l.take k)) l[k] ++ recsF (linkC (headC (l.take k)) l[k]) (l.drop (k + 1))))) = 7
              · exact cspoilw_7 A n c l k f l[k] w hK hl ho hf h hu hs hp hm h7
              · exact cspoilw_two A n c l k f l[k] w hK hl ho hf h hu hs hp hm h7
  · exact cspoilw_long A n c l i f w hK hl ho hf (by omega)
end Go.Proofs.YtplfpaclhapldaaDoor
