/- The walk over the law EntryEpoch: with a start more, behind, the epoch is its; with anything else it stays. -/
import Derived.Test.YtfjiefhicjnnnaaEntAwake
import Derived.Test.YtfjiefhicjnnnaaBasTake
namespace Go.Proofs.Ytfjiefhicjnnnaa
set_option linter.unusedVariables false
set_option linter.unusedSimpArgs false
open Go.RowKit

theorem ent_range {w : World} {g : Nat} {u : En} (h : w.heap[g]? = some (.cells (enA u) 25 (0, 0))) : w.rangeAt g 0 u.row := fun j v hv => by
  rw [Nat.zero_add, cell_of_row _ _ _ _ _ _ h, enA, List.getElem?_toArray, hv]
set_option maxHeartbeats 1000000 in
theorem eepochw_big (A : Option Addr) (n c : Nat) (l : List En) (u : En) (w : World) (hl : Ens w A n c l) (h : 300 < n) :
    Calls Try.prog 7 #[.slice A n c, enV u] w fun e w' => e = .returned (.bool true) ∧ Below w.heap.size w w' := by
  have hn := hl.small
  have h1 : (300 : Int) < n := by omega
  rcases u with ⟨kind, tick, epoch, user, sess, count, cmd, arg, code⟩
  simp only [enV, enA, En.row]
  go_enter Try.func7, Try.ntmps7
  go_wp2_with (go_at_call 9; refine (eawake_any _).mono ?_; rintro e w1 ⟨rfl, hb1⟩; have HB1 := Lib.hid (after_one hb1).1; clear hb1)
  go_ret
  exact ⟨rfl, HB1.out⟩
theorem range_cells {w : World} {g : Nat} {u : En} (h : w.rangeAt g 0 u.row) : w.cell? ⟨g, 0, none⟩ = some (.int .i64 u.kind) ∧ w.cell? ⟨g, 1, none⟩ = some (.int .i64 u.tick) ∧ w.cell? ⟨g, 2, none⟩ = some (.int .i64 u.epoch) ∧ w.cell? ⟨g, 3, none⟩ = some (.int .i64 u.user) ∧ w.cell? ⟨g, 4, none⟩ = some (.int .u64 u.sess) ∧ w.cell? ⟨g, 5, none⟩ = some (.int .u64 u.count) ∧ w.cell? ⟨g, 6, none⟩ = some (.int .i64 u.cmd) ∧ w.cell? ⟨g, 7, none⟩ = some (.int .i64 u.arg) ∧ w.cell? ⟨g, 8, none⟩ = some (.int .i64 u.code) := by
  have k : ∀ j v, u.row[j]? = some v → w.cell? ⟨g, j, none⟩ = some v := fun j v hv => by
    have := h j v hv
    rwa [Nat.zero_add] at this
  exact ⟨k 0 _ rfl, k 1 _ rfl, k 2 _ rfl, k 3 _ rfl, k 4 _ rfl, k 5 _ rfl, k 6 _ rfl, k 7 _ rfl, k 8 _ rfl⟩
set_option maxRecDepth 100000 in
set_option maxHeartbeats 4000000 in
theorem eepochw_boot (A : Option Addr) (n c : Nat) (l : List En) (u : En) (w : World) (hl : Ens w A n c l) (h : n ≤ 300) (hk : u.kind = 0) :
    Calls Try.prog 7 #[.slice A n c, enV u] w fun e w' => e = .returned (.bool true) ∧ Below w.heap.size w w' := by
  have hn := hl.small
  have h1 : (n : Int) ≤ 300 := by omega
  have HL := Lib.hid hl
  have HLL := Lib.hid hl.len
  rcases u with ⟨kind, tick, epoch, user, sess, count, cmd, arg, code⟩
  simp only at hk
  have HEP := Lib.hid (show epochE (l ++ [(⟨kind, tick, epoch, user, sess, count, cmd, arg, code⟩ : En)]) = epoch by rw [epoch_snoc, if_pos hk])
  have hk2 : (kind == 0) = true := by rw [beq_iff_eq]; exact hk
  clear hk
  simp only [enV, enA, En.row]
  clear hl
  go_enter Try.func7, Try.ntmps7
  go_wp2_with ((go_at_call 9; refine (eawake_any _).mono ?_; rintro e w1 ⟨rfl, hb1⟩; have hx1 := after_alloc hb1; have RX := Lib.hid (show ∀ X, Below w1.heap.size w1 X → X.rangeAt w.heap.size 0 (En.row ⟨kind, tick, epoch, user, sess, count, cmd, arg, code⟩) from fun X hX => ent_range ((hX.block _ (Array.getElem?_eq_some_iff.1 hx1).1).trans hx1)); have HBw1 := Lib.hid (after_one hb1).1; clear hb1 hx1))
  obtain ⟨Y0, hY0⟩ : ∃ Y, w1.drew = Y := ⟨_, rfl⟩
  have hB3 := HBw1.out
  have hb0 : Below w1.heap.size w1 Y0 := by rw [← hY0]; exact (Below.refl _ w1).drew
  have hBd : Below w.heap.size w Y0 := hB3.trans (hb0.mono hB3.size)
  have SC := Lib.hid (show ∀ X, Below w1.heap.size w1 X → (fun w' => w'.rangeAt w.heap.size 0 (En.row ⟨kind, tick, epoch, user, sess, count, cmd, arg, code⟩)) X from fun X hX => RX.out _ hX)
  have Sd := SC.out _ hb0
  refine wp_region_held_drew (S := (fun w' => w'.rangeAt w.heap.size 0 (En.row ⟨kind, tick, epoch, user, sess, count, cmd, arg, code⟩))) (by kernel_rfl) (by rw [hY0]; exact Sd) (fun hHeld => ?_)
  rw [hY0] at hHeld ⊢
  clear hY0 Sd
  refine take_move 0 (.tmp 0) (.slice A n c) rfl rfl rfl (by kernel_rfl) (by kernel_rfl) (by kernel_rfl) (fun _ _ _ h => h) rfl hHeld ?_
  simp only [Act.put, List.setIfInBounds_toArray, List.set_cons_zero, List.set_cons_succ]
  refine take_if 2 (.agg #[.int .i64 kind, .int .i64 tick, .int .i64 epoch, .int .i64 user, .int .u64 sess, .int .u64 count, .int .i64 cmd, .int .i64 arg, .int .i64 code]) rfl (by kernel_rfl) (by kernel_rfl) (by kernel_rfl) (fun _ _ _ h => h) rfl hHeld (fun w' hw' => ?_) ?_
  · exact run_load_en (u := ⟨kind, tick, epoch, user, sess, count, cmd, arg, code⟩) rfl rfl hw'
  simp only [Act.put, List.setIfInBounds_toArray, List.set_cons_zero, List.set_cons_succ]
  refine two_steps 1 3 (by kernel_rfl) rfl rfl (fun Kq hKq => ?_) (fun Kq hKq => ?_)
  refine step_append_r 27 25 9 72 _ _ rfl Try.underlying27 info_entry (by omega) w1.heap.size (.slice none 0 0) [] rfl (OwnR.nil _ _ _ _) A n c (l.map En.row) rfl (HL.out.below hBd).rws (by simp; omega) (by simp; omega) hb0.size rfl ?_
  intro v1 y1 hown1 hg1
  have hBy1 : Below w.heap.size w y1 := hBd.grown hg1 hBd.size (fun g hg => by simp [Value.ownBlock] at hg)
  have hby1 : Below w1.heap.size w1 y1 := hb0.grown hg1 hb0.size (fun g hg => by simp [Value.ownBlock] at hg)
  have Sy1 := SC.out _ hby1
  refine hKq.out _ _ Sy1 (fun hHeld0 => ?_)
  clear hKq Kq hHeld Sy1 hg1
  have hHeld := hHeld0
  clear hHeld0
  try simp only [Act.put, List.setIfInBounds_toArray, List.set_cons_zero, List.set_cons_succ]
  refine one_step 3 (by kernel_rfl) rfl (fun Kq hKq => ?_)
  have hBz := hBy1.trans ((one_alloc y1 (.cells #[.int .i64 kind, .int .i64 tick, .int .i64 epoch, .int .i64 user, .int .u64 sess, .int .u64 count, .int .i64 cmd, .int .i64 arg, .int .i64 code] 25)).mono hBy1.size)
  have hbz := hby1.trans ((one_alloc y1 (.cells #[.int .i64 kind, .int .i64 tick, .int .i64 epoch, .int .i64 user, .int .u64 sess, .int .u64 count, .int .i64 cmd, .int .i64 arg, .int .i64 code] 25)).mono hby1.size)
  have Sz := SC.out _ hbz
  have hz := one_rws 9 25 y1 [.int .i64 kind, .int .i64 tick, .int .i64 epoch, .int .i64 user, .int .u64 sess, .int .u64 count, .int .i64 cmd, .int .i64 arg, .int .i64 code] rfl (row_one9 ⟨kind, tick, epoch, user, sess, count, cmd, arg, code⟩)
  have hown1 := hown1.more (.cells #[.int .i64 kind, .int .i64 tick, .int .i64 epoch, .int .i64 user, .int .u64 sess, .int .u64 count, .int .i64 cmd, .int .i64 arg, .int .i64 code] 25)
  go_simp
  refine hKq.out _ _ Sz (fun hHeld0 => ?_)
  clear hKq Kq hHeld Sz 
  have hHeld := hHeld0
  clear hHeld0
  try simp only [Act.put, List.setIfInBounds_toArray, List.set_cons_zero, List.set_cons_succ]
  refine one_step 4 (by kernel_rfl) rfl (fun Kq hKq => ?_)
  refine step_append_r 27 25 9 72 _ _ rfl Try.underlying27 info_entry (by omega) w1.heap.size v1 ([] ++ l.map En.row) rfl hown1 _ 1 1 [[.int .i64 kind, .int .i64 tick, .int .i64 epoch, .int .i64 user, .int .u64 sess, .int .u64 count, .int .i64 cmd, .int .i64 arg, .int .i64 code]] rfl hz (by have := HLL.out; simp; omega) (by have := HLL.out; simp; omega) hbz.size rfl ?_
  intro v2 wM hown2 hg2
  have hBM : Below w.heap.size w wM := hBz.grown hg2 hBz.size (fun g hg => Nat.le_trans hB3.size (hown1.size g hg).1)
  have hbM : Below w1.heap.size w1 wM := hbz.grown hg2 hbz.size (fun g hg => (hown1.size g hg).1)
  have SM := SC.out _ hbM
  have hown2 : OwnR 25 9 wM w1.heap.size v2 ((l ++ [(⟨kind, tick, epoch, user, sess, count, cmd, arg, code⟩ : En)]).map En.row) := by rw [map_row]; exact hown2
  obtain ⟨A5, n5, c5, rfl, hus⟩ := own_ens hown2
  have HUS := Lib.hid hus
  refine hKq.out _ _ SM (fun hHeld0 => ?_)
  clear hKq Kq hHeld SM hown1 hown2 hg2 hz hus
  have hHeld := hHeld0
  clear hHeld0
  try simp only [Act.put, List.setIfInBounds_toArray, List.set_cons_zero, List.set_cons_succ]
  refine take_run 5 (.slice A5 n5 c5) rfl (by kernel_rfl) (by kernel_rfl) (by kernel_rfl) (fun _ _ _ h => h) rfl hHeld (fun w => ?_) ?_
  · go_simp
  simp only [Act.put, List.setIfInBounds_toArray, List.set_cons_zero, List.set_cons_succ]
  refine wpAnyH_done (by kernel_rfl) ?_ _
  clear hHeld
  rotate_left
  have hBz := hBd.trans ((one_alloc Y0 (.cells #[.int .i64 kind, .int .i64 tick, .int .i64 epoch, .int .i64 user, .int .u64 sess, .int .u64 count, .int .i64 cmd, .int .i64 arg, .int .i64 code] 25)).mono hBd.size)
  have hbz := hb0.trans ((one_alloc Y0 (.cells #[.int .i64 kind, .int .i64 tick, .int .i64 epoch, .int .i64 user, .int .u64 sess, .int .u64 count, .int .i64 cmd, .int .i64 arg, .int .i64 code] 25)).mono hb0.size)
  have Sz := SC.out _ hbz
  have hz := one_rws 9 25 Y0 [.int .i64 kind, .int .i64 tick, .int .i64 epoch, .int .i64 user, .int .u64 sess, .int .u64 count, .int .i64 cmd, .int .i64 arg, .int .i64 code] rfl (row_one9 ⟨kind, tick, epoch, user, sess, count, cmd, arg, code⟩)
  go_simp
  refine hKq.out _ _ Sz (fun hHeld0 => ?_)
  clear hKq Kq hHeld Sz 
  have hHeld := hHeld0
  clear hHeld0
  try simp only [Act.put, List.setIfInBounds_toArray, List.set_cons_zero, List.set_cons_succ]
  refine one_step 1 (by kernel_rfl) rfl (fun Kq hKq => ?_)
  refine step_append_r 27 25 9 72 _ _ rfl Try.underlying27 info_entry (by omega) w1.heap.size (.slice none 0 0) [] rfl (OwnR.nil _ _ _ _) A n c (l.map En.row) rfl (HL.out.below hBz).rws (by simp; omega) (by simp; omega) hbz.size rfl ?_
  intro v1 y1 hown1 hg1
  have hBy1 : Below w.heap.size w y1 := hBz.grown hg1 hBz.size (fun g hg => by simp [Value.ownBlock] at hg)
  have hby1 : Below w1.heap.size w1 y1 := hbz.grown hg1 hbz.size (fun g hg => by simp [Value.ownBlock] at hg)
  have Sy1 := SC.out _ hby1
  have hz := hz.grown hg1 (fun b off e => by intro e2; simp [Value.ownBlock] at e2)
  refine hKq.out _ _ Sy1 (fun hHeld0 => ?_)
  clear hKq Kq hHeld Sy1 hg1
  have hHeld := hHeld0
  clear hHeld0
  try simp only [Act.put, List.setIfInBounds_toArray, List.set_cons_zero, List.set_cons_succ]
  refine one_step 4 (by kernel_rfl) rfl (fun Kq hKq => ?_)
  refine step_append_r 27 25 9 72 _ _ rfl Try.underlying27 info_entry (by omega) w1.heap.size v1 ([] ++ l.map En.row) rfl hown1 _ 1 1 [[.int .i64 kind, .int .i64 tick, .int .i64 epoch, .int .i64 user, .int .u64 sess, .int .u64 count, .int .i64 cmd, .int .i64 arg, .int .i64 code]] rfl hz (by have := HLL.out; simp; omega) (by have := HLL.out; simp; omega) hby1.size rfl ?_
  intro v2 wM hown2 hg2
  have hBM : Below w.heap.size w wM := hBy1.grown hg2 hBy1.size (fun g hg => Nat.le_trans hB3.size (hown1.size g hg).1)
  have hbM : Below w1.heap.size w1 wM := hby1.grown hg2 hby1.size (fun g hg => (hown1.size g hg).1)
  have SM := SC.out _ hbM
  have hown2 : OwnR 25 9 wM w1.heap.size v2 ((l ++ [(⟨kind, tick, epoch, user, sess, count, cmd, arg, code⟩ : En)]).map En.row) := by rw [map_row]; exact hown2
  obtain ⟨A5, n5, c5, rfl, hus⟩ := own_ens hown2
  have HUS := Lib.hid hus
  refine hKq.out _ _ SM (fun hHeld0 => ?_)
  clear hKq Kq hHeld SM hown1 hown2 hg2 hz hus
  have hHeld := hHeld0
  clear hHeld0
  try simp only [Act.put, List.setIfInBounds_toArray, List.set_cons_zero, List.set_cons_succ]
  refine take_run 5 (.slice A5 n5 c5) rfl (by kernel_rfl) (by kernel_rfl) (by kernel_rfl) (fun _ _ _ h => h) rfl hHeld (fun w => ?_) ?_
  · go_simp
  simp only [Act.put, List.setIfInBounds_toArray, List.set_cons_zero, List.set_cons_succ]
  refine wpAnyH_done (by kernel_rfl) ?_ _
  clear hHeld
  all_goals
    obtain ⟨x0, x1, x2, x3, x4, x5, x6, x7, x8⟩ := range_cells (SC.out _ hbM)
    go_wp2
    obtain ⟨Y6, hY6⟩ : ∃ Y, wM.drew = Y := ⟨_, rfl⟩
    have hBY : Below w.heap.size w Y6 := by rw [← hY6]; exact hBM.drew
    have hEN : Ens Y6 A5 n5 c5 _ := HUS.out.below (by rw [← hY6]; exact (Below.refl _ wM).drew)
    have hx6 : Y6.cell? ⟨w.heap.size, 2, none⟩ = some (.int .i64 epoch) := by rw [← hY6]; exact x2
    have HEN := Lib.hid hEN
    have HBY := Lib.hid hBY
    clear x0 x1 x2 x3 x4 x5 x6 x7 x8 hEN hBY
    refine wp_region_held_drew (S := (fun w' => w'.cell? ⟨w.heap.size, 2, none⟩ = some (.int .i64 epoch) ∧ True)) (by kernel_rfl) (by rw [hY6]; exact ⟨hx6, trivial⟩) (fun hHeld => ?_)
    rw [hY6] at hHeld ⊢
    clear hY6
    refine take_move 0 (.tmp 6) (.slice A5 n5 c5) rfl rfl rfl (by kernel_rfl) (by kernel_rfl) (by kernel_rfl) (fun _ _ _ h => h) rfl hHeld ?_
    simp only [Act.put, List.setIfInBounds_toArray, List.set_cons_zero, List.set_cons_succ]
    refine take_run 2 (.pointer (some ⟨w.heap.size, 2, none⟩)) rfl (by kernel_rfl) (by kernel_rfl) (by kernel_rfl) (fun _ _ _ h => h) rfl hHeld (fun w => ?_) ?_
    · go_simp
    simp only [Act.put, List.setIfInBounds_toArray, List.set_cons_zero, List.set_cons_succ]
    refine take_if 3 (.int .i64 epoch) rfl (by kernel_rfl) (by kernel_rfl) (by kernel_rfl) (fun _ _ _ h => h) rfl hHeld (fun w' hw' => ?_) ?_
    · obtain ⟨x2, _⟩ := hw'
      go_simp
    simp only [Act.put, List.setIfInBounds_toArray, List.set_cons_zero, List.set_cons_succ]
    refine one_step 1 (by kernel_rfl) rfl (fun K hK => ?_)
    go_simp
    go_at_call 20
    refine (eepoch_any A5 n5 c5 _ Y6 HEN.out).mono ?_
    rintro e w7 ⟨he, hb7⟩
    rw [HEP.out] at he
    subst he
    have HB7 := Lib.hid (HBY.out.trans (hb7.mono HBY.out.size))
    have hx7 := (hb7.cell (block_lt_of_cell hx6)).trans hx6
    clear hb7 hx6
    refine hK.out _ _ ⟨hx7, trivial⟩ (fun hHeld0 => ?_)
    clear hK K hHeld 
    have hHeld := hHeld0
    clear hHeld0
    try simp only [Act.put, List.setIfInBounds_toArray, List.set_cons_zero, List.set_cons_succ]
    refine take_run 4 (.bool true) rfl (by kernel_rfl) (by kernel_rfl) (by kernel_rfl) (fun _ _ _ h => h) rfl hHeld (fun w => ?_) ?_
    · go_simp
    simp only [Act.put, List.setIfInBounds_toArray, List.set_cons_zero, List.set_cons_succ]
    refine take_run 5 (.bool true) rfl (by kernel_rfl) (by kernel_rfl) (by kernel_rfl) (fun _ _ _ h => h) rfl hHeld (fun w => ?_) ?_
    · go_simp
    simp only [Act.put, List.setIfInBounds_toArray, List.set_cons_zero, List.set_cons_succ]
    refine wpAnyH_done (by kernel_rfl) ?_ _
    clear hHeld hx7
    go_wp2
    go_ret
    exact ⟨rfl, HB7.out⟩
set_option maxRecDepth 100000 in
set_option maxHeartbeats 4000000 in
theorem eepochw_rest (A : Option Addr) (n c : Nat) (l : List En) (u : En) (w : World) (hl : Ens w A n c l) (h : n ≤ 300) (hk : u.kind ≠ 0) :
    Calls Try.prog 7 #[.slice A n c, enV u] w fun e w' => e = .returned (.bool true) ∧ Below w.heap.size w w' := by
  have hn := hl.small
  have h1 : (n : Int) ≤ 300 := by omega
  have HL := Lib.hid hl
  have HLL := Lib.hid hl.len
  rcases u with ⟨kind, tick, epoch, user, sess, count, cmd, arg, code⟩
  simp only at hk
  obtain ⟨E, hE⟩ : ∃ E, epochE l = E := ⟨_, rfl⟩
  have HEP := Lib.hid (show epochE (l ++ [(⟨kind, tick, epoch, user, sess, count, cmd, arg, code⟩ : En)]) = E by rw [epoch_snoc, if_neg hk, hE])
  have HEL := Lib.hid hE
  have hk2 : (kind == 0) = false := by rw [beq_eq_false_iff_ne]; exact hk
  clear hk hE
  simp only [enV, enA, En.row]
  clear hl
  go_enter Try.func7, Try.ntmps7
  go_wp2_with ((go_at_call 9; refine (eawake_any _).mono ?_; rintro e w1 ⟨rfl, hb1⟩; have hx1 := after_alloc hb1; have RX := Lib.hid (show ∀ X, Below w1.heap.size w1 X → X.rangeAt w.heap.size 0 (En.row ⟨kind, tick, epoch, user, sess, count, cmd, arg, code⟩) from fun X hX => ent_range ((hX.block _ (Array.getElem?_eq_some_iff.1 hx1).1).trans hx1)); have HBw1 := Lib.hid (after_one hb1).1; clear hb1 hx1))
  obtain ⟨Y0, hY0⟩ : ∃ Y, w1.drew = Y := ⟨_, rfl⟩
  have hB3 := HBw1.out
  have hb0 : Below w1.heap.size w1 Y0 := by rw [← hY0]; exact (Below.refl _ w1).drew
  have hBd : Below w.heap.size w Y0 := hB3.trans (hb0.mono hB3.size)
  have SC := Lib.hid (show ∀ X, Below w1.heap.size w1 X → (fun w' => w'.rangeAt w.heap.size 0 (En.row ⟨kind, tick, epoch, user, sess, count, cmd, arg, code⟩)) X from fun X hX => RX.out _ hX)
  have Sd := SC.out _ hb0
  refine wp_region_held_drew (S := (fun w' => w'.rangeAt w.heap.size 0 (En.row ⟨kind, tick, epoch, user, sess, count, cmd, arg, code⟩))) (by kernel_rfl) (by rw [hY0]; exact Sd) (fun hHeld => ?_)
  rw [hY0] at hHeld ⊢
  clear hY0 Sd
  refine take_move 0 (.tmp 0) (.slice A n c) rfl rfl rfl (by kernel_rfl) (by kernel_rfl) (by kernel_rfl) (fun _ _ _ h => h) rfl hHeld ?_
  simp only [Act.put, List.setIfInBounds_toArray, List.set_cons_zero, List.set_cons_succ]
  refine take_if 2 (.agg #[.int .i64 kind, .int .i64 tick, .int .i64 epoch, .int .i64 user, .int .u64 sess, .int .u64 count, .int .i64 cmd, .int .i64 arg, .int .i64 code]) rfl (by kernel_rfl) (by kernel_rfl) (by kernel_rfl) (fun _ _ _ h => h) rfl hHeld (fun w' hw' => ?_) ?_
  · exact run_load_en (u := ⟨kind, tick, epoch, user, sess, count, cmd, arg, code⟩) rfl rfl hw'
  simp only [Act.put, List.setIfInBounds_toArray, List.set_cons_zero, List.set_cons_succ]
  refine two_steps 1 3 (by kernel_rfl) rfl rfl (fun Kq hKq => ?_) (fun Kq hKq => ?_)
  refine step_append_r 27 25 9 72 _ _ rfl Try.underlying27 info_entry (by omega) w1.heap.size (.slice none 0 0) [] rfl (OwnR.nil _ _ _ _) A n c (l.map En.row) rfl (HL.out.below hBd).rws (by simp; omega) (by simp; omega) hb0.size rfl ?_
  intro v1 y1 hown1 hg1
  have hBy1 : Below w.heap.size w y1 := hBd.grown hg1 hBd.size (fun g hg => by simp [Value.ownBlock] at hg)
  have hby1 : Below w1.heap.size w1 y1 := hb0.grown hg1 hb0.size (fun g hg => by simp [Value.ownBlock] at hg)
  have Sy1 := SC.out _ hby1
  refine hKq.out _ _ Sy1 (fun hHeld0 => ?_)
  clear hKq Kq hHeld Sy1 hg1
  have hHeld := hHeld0
  clear hHeld0
  try simp only [Act.put, List.setIfInBounds_toArray, List.set_cons_zero, List.set_cons_succ]
  refine one_step 3 (by kernel_rfl) rfl (fun Kq hKq => ?_)
  have hBz := hBy1.trans ((one_alloc y1 (.cells #[.int .i64 kind, .int .i64 tick, .int .i64 epoch, .int .i64 user, .int .u64 sess, .int .u64 count, .int .i64 cmd, .int .i64 arg, .int .i64 code] 25)).mono hBy1.size)
  have hbz := hby1.trans ((one_alloc y1 (.cells #[.int .i64 kind, .int .i64 tick, .int .i64 epoch, .int .i64 user, .int .u64 sess, .int .u64 count, .int .i64 cmd, .int .i64 arg, .int .i64 code] 25)).mono hby1.size)
  have Sz := SC.out _ hbz
  have hz := one_rws 9 25 y1 [.int .i64 kind, .int .i64 tick, .int .i64 epoch, .int .i64 user, .int .u64 sess, .int .u64 count, .int .i64 cmd, .int .i64 arg, .int .i64 code] rfl (row_one9 ⟨kind, tick, epoch, user, sess, count, cmd, arg, code⟩)
  have hown1 := hown1.more (.cells #[.int .i64 kind, .int .i64 tick, .int .i64 epoch, .int .i64 user, .int .u64 sess, .int .u64 count, .int .i64 cmd, .int .i64 arg, .int .i64 code] 25)
  go_simp
  refine hKq.out _ _ Sz (fun hHeld0 => ?_)
  clear hKq Kq hHeld Sz 
  have hHeld := hHeld0
  clear hHeld0
  try simp only [Act.put, List.setIfInBounds_toArray, List.set_cons_zero, List.set_cons_succ]
  refine one_step 4 (by kernel_rfl) rfl (fun Kq hKq => ?_)
  refine step_append_r 27 25 9 72 _ _ rfl Try.underlying27 info_entry (by omega) w1.heap.size v1 ([] ++ l.map En.row) rfl hown1 _ 1 1 [[.int .i64 kind, .int .i64 tick, .int .i64 epoch, .int .i64 user, .int .u64 sess, .int .u64 count, .int .i64 cmd, .int .i64 arg, .int .i64 code]] rfl hz (by have := HLL.out; simp; omega) (by have := HLL.out; simp; omega) hbz.size rfl ?_
  intro v2 wM hown2 hg2
  have hBM : Below w.heap.size w wM := hBz.grown hg2 hBz.size (fun g hg => Nat.le_trans hB3.size (hown1.size g hg).1)
  have hbM : Below w1.heap.size w1 wM := hbz.grown hg2 hbz.size (fun g hg => (hown1.size g hg).1)
  have SM := SC.out _ hbM
  have hown2 : OwnR 25 9 wM w1.heap.size v2 ((l ++ [(⟨kind, tick, epoch, user, sess, count, cmd, arg, code⟩ : En)]).map En.row) := by rw [map_row]; exact hown2
  obtain ⟨A5, n5, c5, rfl, hus⟩ := own_ens hown2
  have HUS := Lib.hid hus
  refine hKq.out _ _ SM (fun hHeld0 => ?_)
  clear hKq Kq hHeld SM hown1 hown2 hg2 hz hus
  have hHeld := hHeld0
  clear hHeld0
  try simp only [Act.put, List.setIfInBounds_toArray, List.set_cons_zero, List.set_cons_succ]
  refine take_run 5 (.slice A5 n5 c5) rfl (by kernel_rfl) (by kernel_rfl) (by kernel_rfl) (fun _ _ _ h => h) rfl hHeld (fun w => ?_) ?_
  · go_simp
  simp only [Act.put, List.setIfInBounds_toArray, List.set_cons_zero, List.set_cons_succ]
  refine wpAnyH_done (by kernel_rfl) ?_ _
  clear hHeld
  rotate_left
  have hBz := hBd.trans ((one_alloc Y0 (.cells #[.int .i64 kind, .int .i64 tick, .int .i64 epoch, .int .i64 user, .int .u64 sess, .int .u64 count, .int .i64 cmd, .int .i64 arg, .int .i64 code] 25)).mono hBd.size)
  have hbz := hb0.trans ((one_alloc Y0 (.cells #[.int .i64 kind, .int .i64 tick, .int .i64 epoch, .int .i64 user, .int .u64 sess, .int .u64 count, .int .i64 cmd, .int .i64 arg, .int .i64 code] 25)).mono hb0.size)
  have Sz := SC.out _ hbz
  have hz := one_rws 9 25 Y0 [.int .i64 kind, .int .i64 tick, .int .i64 epoch, .int .i64 user, .int .u64 sess, .int .u64 count, .int .i64 cmd, .int .i64 arg, .int .i64 code] rfl (row_one9 ⟨kind, tick, epoch, user, sess, count, cmd, arg, code⟩)
  go_simp
  refine hKq.out _ _ Sz (fun hHeld0 => ?_)
  clear hKq Kq hHeld Sz 
  have hHeld := hHeld0
  clear hHeld0
  try simp only [Act.put, List.setIfInBounds_toArray, List.set_cons_zero, List.set_cons_succ]
  refine one_step 1 (by kernel_rfl) rfl (fun Kq hKq => ?_)
  refine step_append_r 27 25 9 72 _ _ rfl Try.underlying27 info_entry (by omega) w1.heap.size (.slice none 0 0) [] rfl (OwnR.nil _ _ _ _) A n c (l.map En.row) rfl (HL.out.below hBz).rws (by simp; omega) (by simp; omega) hbz.size rfl ?_
  intro v1 y1 hown1 hg1
  have hBy1 : Below w.heap.size w y1 := hBz.grown hg1 hBz.size (fun g hg => by simp [Value.ownBlock] at hg)
  have hby1 : Below w1.heap.size w1 y1 := hbz.grown hg1 hbz.size (fun g hg => by simp [Value.ownBlock] at hg)
  have Sy1 := SC.out _ hby1
  have hz := hz.grown hg1 (fun b off e => by intro e2; simp [Value.ownBlock] at e2)
  refine hKq.out _ _ Sy1 (fun hHeld0 => ?_)
  clear hKq Kq hHeld Sy1 hg1
  have hHeld := hHeld0
  clear hHeld0
  try simp only [Act.put, List.setIfInBounds_toArray, List.set_cons_zero, List.set_cons_succ]
  refine one_step 4 (by kernel_rfl) rfl (fun Kq hKq => ?_)
  refine step_append_r 27 25 9 72 _ _ rfl Try.underlying27 info_entry (by omega) w1.heap.size v1 ([] ++ l.map En.row) rfl hown1 _ 1 1 [[.int .i64 kind, .int .i64 tick, .int .i64 epoch, .int .i64 user, .int .u64 sess, .int .u64 count, .int .i64 cmd, .int .i64 arg, .int .i64 code]] rfl hz (by have := HLL.out; simp; omega) (by have := HLL.out; simp; omega) hby1.size rfl ?_
  intro v2 wM hown2 hg2
  have hBM : Below w.heap.size w wM := hBy1.grown hg2 hBy1.size (fun g hg => Nat.le_trans hB3.size (hown1.size g hg).1)
  have hbM : Below w1.heap.size w1 wM := hby1.grown hg2 hby1.size (fun g hg => (hown1.size g hg).1)
  have SM := SC.out _ hbM
  have hown2 : OwnR 25 9 wM w1.heap.size v2 ((l ++ [(⟨kind, tick, epoch, user, sess, count, cmd, arg, code⟩ : En)]).map En.row) := by rw [map_row]; exact hown2
  obtain ⟨A5, n5, c5, rfl, hus⟩ := own_ens hown2
  have HUS := Lib.hid hus
  refine hKq.out _ _ SM (fun hHeld0 => ?_)
  clear hKq Kq hHeld SM hown1 hown2 hg2 hz hus
  have hHeld := hHeld0
  clear hHeld0
  try simp only [Act.put, List.setIfInBounds_toArray, List.set_cons_zero, List.set_cons_succ]
  refine take_run 5 (.slice A5 n5 c5) rfl (by kernel_rfl) (by kernel_rfl) (by kernel_rfl) (fun _ _ _ h => h) rfl hHeld (fun w => ?_) ?_
  · go_simp
  simp only [Act.put, List.setIfInBounds_toArray, List.set_cons_zero, List.set_cons_succ]
  refine wpAnyH_done (by kernel_rfl) ?_ _
  clear hHeld
  all_goals
    obtain ⟨x0, x1, x2, x3, x4, x5, x6, x7, x8⟩ := range_cells (SC.out _ hbM)
    go_wp2_with (first
      | (go_at_call 20; (with_reducible refine (eepoch_any A5 n5 c5 (l ++ [(⟨kind, tick, epoch, user, sess, count, cmd, arg, code⟩ : En)]) wM HUS.out).mono ?_); rintro e w6 ⟨he, hbx⟩; rw [HEP.out] at he; subst he; have HBw6 := Lib.hid (hBM.trans (hbx.mono hBM.size)); clear hbx)
      | (go_at_call 20; (with_reducible refine (eepoch_any A n c l w6 (HL.out.below HBw6.out)).mono ?_); rintro e w7 ⟨he, hbx⟩; rw [HEL.out] at he; subst he; have HBw7 := Lib.hid (HBw6.out.trans (hbx.mono HBw6.out.size)); clear hbx))
    go_ret
    exact ⟨by simp, HBw7.out⟩
theorem eepochw_any (A : Option Addr) (n c : Nat) (l : List En) (u : En) (w : World) (hl : Ens w A n c l) :
    Calls Try.prog 7 #[.slice A n c, enV u] w fun e w' => e = .returned (.bool true) ∧ Below w.heap.size w w' := by
  by_cases h : 300 < n
  · exact eepochw_big A n c l u w hl h
  · by_cases hk : u.kind = 0
    · exact eepochw_boot A n c l u w hl (by omega) hk
    · exact eepochw_rest A n c l u w hl (by omega) hk
end Go.Proofs.Ytfjiefhicjnnnaa
