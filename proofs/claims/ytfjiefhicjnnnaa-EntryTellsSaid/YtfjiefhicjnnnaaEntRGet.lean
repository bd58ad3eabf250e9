/- The walk over the document's Get of entries. -/
import Derived.Test.YtfjiefhicjnnnaaEntGet
import Derived.Test.YtfjiefhicjnnnaaEntRPut
import Derived.Test.YtfjiefhicjnnnaaBasTake
namespace Go.Proofs.Ytfjiefhicjnnnaa
set_option linter.unusedVariables false
set_option linter.unusedSimpArgs false
open Go.RowKit

theorem wrap_nat {a : Nat} (h : a < 9223372036854775808) : IntKind.i64.wrap (a : Int) = a := by
  rw [IntKind.wrap_i64]; omega
theorem its_lit (w : World) (t : TypeId) : Its .i64 (w.alloc (.cells szC t)) (some ⟨w.heap.size, 0, none⟩) 9 9 szI :=
  ⟨rfl, Nat.le_refl _, by unfold maxLen; omega, (fun e => by cases e), fun _ => ⟨w.heap.size, 0, rfl, fun j hj => by
    rw [Nat.zero_add, cell_of_row _ _ _ _ _ _ (heap_alloc_new w _)]
    match j, hj with
    | 0, _ | 1, _ | 2, _ | 3, _ | 4, _ | 5, _ | 6, _ | 7, _ | 8, _ => rfl⟩⟩
set_option maxRecDepth 100000 in
set_option maxHeartbeats 2000000 in
theorem erget_short (A : Option Addr) (n c : Nat) (b : List Int) (w : World) (hb : Bts w A n c b) (h : n ≠ 30) :
    Calls Try.prog 13 #[.slice A n c] w (GE En.zero false w) := by
  have HCUT := Lib.hid (show ∀ (W : World) (g : Nat), Below w.heap.size w W → W.heap.size = g → Calls Try.prog 28 #[.slice A n c, .slice (some ⟨g, 0, none⟩) 9 9] (W.alloc (.cells szC 3)) (fun e w' => e = .returned (.tuple #[.slice none 0 0, .bool false]) ∧ W.alloc (.cells szC 3) = w') from fun W g hW hg => by subst hg; exact rcut_no A _ n c 9 9 b szI _ (hb.below (hW.alloc hW.size _)) (its_lit W _) (cut_not h))
  have hz : enV En.zero = .agg (enA En.zero) := rfl
  unfold GE
  rw [hz]
  have hE0 := heap_alloc_new w (.cells (enA En.zero) 25)
  have hB0 := one_alloc w (.cells (enA En.zero) 25)
  clear hb h hz
  go_enter Try.func13, Try.ntmps13
  go_wp2_with (first
    | (go_at_call 28; refine (HCUT.out _ _ hB0 (by simp)).mono ?_; rintro e w2 ⟨rfl, rfl⟩
       have hE2 := in_alloc hE0 (.cells szC 3)
       have hB2 := hB0.alloc hB0.size (.cells szC 3)
       clear hE0 hB0)
    | ((with_reducible refine wpList_store_blk rfl 25 _ _ rfl w.heap.size (enA En.zero) ?hx2 ?hy2 25 _ hE2 (info_en rfl) ?hs2 (enA_one _) ?_); (case hx2 => rfl); (case hy2 => rfl); (case hs2 => rfl)
       intro w6 hg6 hX6 hs6
       clear hE2))
  refine bodyPost_ret (v := .tuple #[.agg (enA En.zero), .bool false]) ?_ rfl ⟨rfl, ?_⟩
  · exact results_blk_tmp Try.results13 _ _ _ w.heap.size 25 _ (0, 0) _ rfl hX6 Try.underlying25 rfl (info_en rfl) _ rfl
  · exact hB2.grown hg6 hB2.size (fun k e => by cases e; exact Nat.le_refl _)
set_option maxRecDepth 100000 in
set_option maxHeartbeats 4000000 in
theorem erget_long (A : Option Addr) (c : Nat) (b : List Int) (w : World) (hb : Bts w A 30 c b) :
    Calls Try.prog 13 #[.slice A 30 c] w (GE (if mayE (seemsE b) then seemsE b else En.zero) (mayE (seemsE b)) w) := by
  have hbm := bytes_mem hb.ok
  obtain ⟨a0, a1, a2, a3, a4, a5, a6, a7, a8, hc⟩ := cut_nine b
  obtain ⟨k0, k1, k2, k3, k4, k5, k6, k7, k8⟩ := cut_small hbm hb.len hc
  have hse : seemsE b = enOf [a0, a1, a2, a3, a4, a5, a6, a7, a8] := by rw [seemsE, hc]
  have hps := put_seems hbm hb.len
  have hok := seems_ok hbm hb.len
  have HCUT := Lib.hid (show ∀ (W : World) (g : Nat), Below w.heap.size w W → W.heap.size = g → Calls Try.prog 28 #[.slice A 30 c, .slice (some ⟨g, 0, none⟩) 9 9] (W.alloc (.cells szC 3)) (fun e w' => ∃ B off c2, e = .returned (.tuple #[.slice (some ⟨B, off, none⟩) 9 c2, .bool true]) ∧ (w'.cell? ⟨B, off, none⟩ = some (.int .u64 a0) ∧ w'.cell? ⟨B, off + 1, none⟩ = some (.int .u64 a1) ∧ w'.cell? ⟨B, off + 2, none⟩ = some (.int .u64 a2) ∧ w'.cell? ⟨B, off + 3, none⟩ = some (.int .u64 a3) ∧ w'.cell? ⟨B, off + 4, none⟩ = some (.int .u64 a4) ∧ w'.cell? ⟨B, off + 5, none⟩ = some (.int .u64 a5) ∧ w'.cell? ⟨B, off + 6, none⟩ = some (.int .u64 a6) ∧ w'.cell? ⟨B, off + 7, none⟩ = some (.int .u64 a7) ∧ w'.cell? ⟨B, off + 8, none⟩ = some (.int .u64 a8)) ∧ Below (W.alloc (.cells szC 3)).heap.size (W.alloc (.cells szC 3)) w') from fun W g hW hg => by
    subst hg
    refine (rcut_yes A _ 30 c 9 9 b szN _ (hb.below (hW.alloc hW.size _)) (its_lit W _) (by intro k hk; simp [szN] at hk; omega) (by decide) rfl).mono ?_
    rintro e w' ⟨v, rfl, hv, hB⟩
    obtain ⟨A2, m, c2, rfl, hi⟩ := hv.its
    obtain ⟨B, off, rfl, rfl, hr⟩ := cut_range hi
    rw [hc] at hr
    exact ⟨B, off, c2, rfl, ⟨hr 0 _ rfl, hr 1 _ rfl, hr 2 _ rfl, hr 3 _ rfl, hr 4 _ rfl, hr 5 _ rfl, hr 6 _ rfl, hr 7 _ rfl, hr 8 _ rfl⟩, hB⟩)
  have HPUT := Lib.hid (fun W => erput_any (seemsE b) W hok)
  have g0 : (a0 : Int) ≤ 9223372036854775807 := by omega
  have g1 : (a1 : Int) ≤ 9223372036854775807 := by omega
  have g2 : (a2 : Int) ≤ 9223372036854775807 := by omega
  have g3 : (a3 : Int) ≤ 9223372036854775807 := by omega
  have g6 : (a6 : Int) ≤ 9223372036854775807 := by omega
  have g7 : (a7 : Int) ≤ 9223372036854775807 := by omega
  have g8 : (a8 : Int) ≤ 9223372036854775807 := by omega
  have hw0 : IntKind.i64.wrap (a0 : Int) = a0 := wrap_nat (by omega)
  have hw1 : IntKind.i64.wrap (a1 : Int) = a1 := wrap_nat (by omega)
  have hw2 : IntKind.i64.wrap (a2 : Int) = a2 := wrap_nat (by omega)
  have hw3 : IntKind.i64.wrap (a3 : Int) = a3 := wrap_nat (by omega)
  have hw6 : IntKind.i64.wrap (a6 : Int) = a6 := wrap_nat (by omega)
  have hw7 : IntKind.i64.wrap (a7 : Int) = a7 := wrap_nat (by omega)
  have hw8 : IntKind.i64.wrap (a8 : Int) = a8 := wrap_nat (by omega)
  have hx : enA (seemsE b) = #[.int .i64 a0, .int .i64 a1, .int .i64 a2, .int .i64 a3, .int .u64 a4, .int .u64 a5, .int .i64 a6, .int .i64 a7, .int .i64 a8] := by rw [hse]; rfl
  obtain ⟨u, hu⟩ : ∃ u, seemsE b = u := ⟨_, rfl⟩
  rw [hu] at HPUT hps hx ⊢
  obtain ⟨M, hM⟩ : ∃ M, mayE u = M := ⟨_, rfl⟩
  rw [hM] at HPUT ⊢
  rw [hps] at HPUT
  unfold enV at HPUT
  have hout : enV (if M = true then u else En.zero) = .agg (if M then #[.int .i64 a0, .int .i64 a1, .int .i64 a2, .int .i64 a3, .int .u64 a4, .int .u64 a5, .int .i64 a6, .int .i64 a7, .int .i64 a8] else enA En.zero) := by cases M <;> simp [enV, hx]
  unfold GE
  rw [hx] at HPUT
  rw [hout]
  have HBT := Lib.hid hb
  have hE0 := heap_alloc_new w (.cells (enA En.zero) 25)
  have hB0 := one_alloc w (.cells (enA En.zero) 25)
  clear hb hbm hc k0 k1 k2 k3 k4 k5 k6 k7 k8 hse hu hM hx hout hps hok
  go_enter Try.func13, Try.ntmps13
  go_wp2_with (go_at_call 28; refine (HCUT.out _ _ hB0 (by simp)).mono ?_; rintro e w2 ⟨B, off, c2, rfl, hr2, hb2⟩
               have HE2 := Lib.hid ((hb2.block _ (by have := (Array.getElem?_eq_some_iff.1 hE0).1; simp at this ⊢; omega)).trans (in_alloc hE0 (.cells szC 3)))
               have HB2 := Lib.hid (hB0.trans ((after_one hb2).1.mono hB0.size))
               have HR2 := Lib.hid hr2
               clear hb2 hE0 hB0 hr2)
  obtain ⟨Y0, hY0⟩ : ∃ Y, w2.drew = Y := ⟨_, rfl⟩
  have hBd : Below w.heap.size w Y0 := by rw [← hY0]; exact HB2.out.drew
  have hEd : Y0.heap[w.heap.size]? = some (.cells (enA En.zero) 25 (0, 0)) := by rw [← hY0]; exact HE2.out
  have hS0 : (fun w' => w'.cell? ⟨B, off, none⟩ = some (.int .u64 a0) ∧ w'.cell? ⟨B, off + 1, none⟩ = some (.int .u64 a1) ∧ w'.cell? ⟨B, off + 2, none⟩ = some (.int .u64 a2) ∧ w'.cell? ⟨B, off + 3, none⟩ = some (.int .u64 a3) ∧ w'.cell? ⟨B, off + 4, none⟩ = some (.int .u64 a4) ∧ w'.cell? ⟨B, off + 5, none⟩ = some (.int .u64 a5) ∧ w'.cell? ⟨B, off + 6, none⟩ = some (.int .u64 a6) ∧ w'.cell? ⟨B, off + 7, none⟩ = some (.int .u64 a7) ∧ w'.cell? ⟨B, off + 8, none⟩ = some (.int .u64 a8)) Y0 := by rw [← hY0]; exact HR2.out
  refine wp_region_held_drew (S := (fun w' => w'.cell? ⟨B, off, none⟩ = some (.int .u64 a0) ∧ w'.cell? ⟨B, off + 1, none⟩ = some (.int .u64 a1) ∧ w'.cell? ⟨B, off + 2, none⟩ = some (.int .u64 a2) ∧ w'.cell? ⟨B, off + 3, none⟩ = some (.int .u64 a3) ∧ w'.cell? ⟨B, off + 4, none⟩ = some (.int .u64 a4) ∧ w'.cell? ⟨B, off + 5, none⟩ = some (.int .u64 a5) ∧ w'.cell? ⟨B, off + 6, none⟩ = some (.int .u64 a6) ∧ w'.cell? ⟨B, off + 7, none⟩ = some (.int .u64 a7) ∧ w'.cell? ⟨B, off + 8, none⟩ = some (.int .u64 a8))) (by kernel_rfl) (by rw [hY0]; exact hS0) (fun hHeld => ?_)
  rw [hY0] at hHeld ⊢
  clear hY0
  refine take_move 0 (.tmp 4) (.slice (some ⟨B, off, none⟩) 9 c2) rfl rfl rfl (by kernel_rfl) (by kernel_rfl) (by kernel_rfl) (fun _ _ _ h => h) rfl hHeld ?_
  simp only [Act.put, List.setIfInBounds_toArray, List.set_cons_zero, List.set_cons_succ]
  refine take_run 1 (.pointer (some ⟨B, off, none⟩)) rfl (by kernel_rfl) (by kernel_rfl) (by kernel_rfl) (fun _ _ _ h => h) rfl hHeld (fun w => ?_) ?_
  · go_simp
  simp only [Act.put, List.setIfInBounds_toArray, List.set_cons_zero, List.set_cons_succ]
  refine take_if 2 (.int .u64 a0) rfl (by kernel_rfl) (by kernel_rfl) (by kernel_rfl) (fun _ _ _ h => h) rfl hHeld (fun w' hw' => ?_) ?_
  · obtain ⟨q0, q1, q2, q3, q4, q5, q6, q7, q8⟩ := hw'
    go_simp
  simp only [Act.put, List.setIfInBounds_toArray, List.set_cons_zero, List.set_cons_succ]
  refine take_run 3 (.int .i64 a0) rfl (by kernel_rfl) (by kernel_rfl) (by kernel_rfl) (fun _ _ _ h => h) rfl hHeld (fun w => ?_) ?_
  · go_simp
  simp only [Act.put, List.setIfInBounds_toArray, List.set_cons_zero, List.set_cons_succ]
  refine take_move 4 (.tmp 4) (.slice (some ⟨B, off, none⟩) 9 c2) rfl rfl rfl (by kernel_rfl) (by kernel_rfl) (by kernel_rfl) (fun _ _ _ h => h) rfl hHeld ?_
  simp only [Act.put, List.setIfInBounds_toArray, List.set_cons_zero, List.set_cons_succ]
  refine take_run 5 (.pointer (some ⟨B, off + 1, none⟩)) rfl (by kernel_rfl) (by kernel_rfl) (by kernel_rfl) (fun _ _ _ h => h) rfl hHeld (fun w => ?_) ?_
  · go_simp
  simp only [Act.put, List.setIfInBounds_toArray, List.set_cons_zero, List.set_cons_succ]
  refine take_if 6 (.int .u64 a1) rfl (by kernel_rfl) (by kernel_rfl) (by kernel_rfl) (fun _ _ _ h => h) rfl hHeld (fun w' hw' => ?_) ?_
  · obtain ⟨q0, q1, q2, q3, q4, q5, q6, q7, q8⟩ := hw'
    go_simp
  simp only [Act.put, List.setIfInBounds_toArray, List.set_cons_zero, List.set_cons_succ]
  refine take_run 7 (.int .i64 a1) rfl (by kernel_rfl) (by kernel_rfl) (by kernel_rfl) (fun _ _ _ h => h) rfl hHeld (fun w => ?_) ?_
  · go_simp
  simp only [Act.put, List.setIfInBounds_toArray, List.set_cons_zero, List.set_cons_succ]
  refine take_move 8 (.tmp 4) (.slice (some ⟨B, off, none⟩) 9 c2) rfl rfl rfl (by kernel_rfl) (by kernel_rfl) (by kernel_rfl) (fun _ _ _ h => h) rfl hHeld ?_
  simp only [Act.put, List.setIfInBounds_toArray, List.set_cons_zero, List.set_cons_succ]
  refine take_run 9 (.pointer (some ⟨B, off + 2, none⟩)) rfl (by kernel_rfl) (by kernel_rfl) (by kernel_rfl) (fun _ _ _ h => h) rfl hHeld (fun w => ?_) ?_
  · go_simp
  simp only [Act.put, List.setIfInBounds_toArray, List.set_cons_zero, List.set_cons_succ]
  refine take_if 10 (.int .u64 a2) rfl (by kernel_rfl) (by kernel_rfl) (by kernel_rfl) (fun _ _ _ h => h) rfl hHeld (fun w' hw' => ?_) ?_
  · obtain ⟨q0, q1, q2, q3, q4, q5, q6, q7, q8⟩ := hw'
    go_simp
  simp only [Act.put, List.setIfInBounds_toArray, List.set_cons_zero, List.set_cons_succ]
  refine take_run 11 (.int .i64 a2) rfl (by kernel_rfl) (by kernel_rfl) (by kernel_rfl) (fun _ _ _ h => h) rfl hHeld (fun w => ?_) ?_
  · go_simp
  simp only [Act.put, List.setIfInBounds_toArray, List.set_cons_zero, List.set_cons_succ]
  refine take_move 12 (.tmp 4) (.slice (some ⟨B, off, none⟩) 9 c2) rfl rfl rfl (by kernel_rfl) (by kernel_rfl) (by kernel_rfl) (fun _ _ _ h => h) rfl hHeld ?_
  simp only [Act.put, List.setIfInBounds_toArray, List.set_cons_zero, List.set_cons_succ]
  refine take_run 13 (.pointer (some ⟨B, off + 3, none⟩)) rfl (by kernel_rfl) (by kernel_rfl) (by kernel_rfl) (fun _ _ _ h => h) rfl hHeld (fun w => ?_) ?_
  · go_simp
  simp only [Act.put, List.setIfInBounds_toArray, List.set_cons_zero, List.set_cons_succ]
  refine take_if 14 (.int .u64 a3) rfl (by kernel_rfl) (by kernel_rfl) (by kernel_rfl) (fun _ _ _ h => h) rfl hHeld (fun w' hw' => ?_) ?_
  · obtain ⟨q0, q1, q2, q3, q4, q5, q6, q7, q8⟩ := hw'
    go_simp
  simp only [Act.put, List.setIfInBounds_toArray, List.set_cons_zero, List.set_cons_succ]
  refine take_run 15 (.int .i64 a3) rfl (by kernel_rfl) (by kernel_rfl) (by kernel_rfl) (fun _ _ _ h => h) rfl hHeld (fun w => ?_) ?_
  · go_simp
  simp only [Act.put, List.setIfInBounds_toArray, List.set_cons_zero, List.set_cons_succ]
  refine take_move 16 (.tmp 4) (.slice (some ⟨B, off, none⟩) 9 c2) rfl rfl rfl (by kernel_rfl) (by kernel_rfl) (by kernel_rfl) (fun _ _ _ h => h) rfl hHeld ?_
  simp only [Act.put, List.setIfInBounds_toArray, List.set_cons_zero, List.set_cons_succ]
  refine take_run 17 (.pointer (some ⟨B, off + 4, none⟩)) rfl (by kernel_rfl) (by kernel_rfl) (by kernel_rfl) (fun _ _ _ h => h) rfl hHeld (fun w => ?_) ?_
  · go_simp
  simp only [Act.put, List.setIfInBounds_toArray, List.set_cons_zero, List.set_cons_succ]
  refine take_if 18 (.int .u64 a4) rfl (by kernel_rfl) (by kernel_rfl) (by kernel_rfl) (fun _ _ _ h => h) rfl hHeld (fun w' hw' => ?_) ?_
  · obtain ⟨q0, q1, q2, q3, q4, q5, q6, q7, q8⟩ := hw'
    go_simp
  simp only [Act.put, List.setIfInBounds_toArray, List.set_cons_zero, List.set_cons_succ]
  refine take_move 19 (.tmp 4) (.slice (some ⟨B, off, none⟩) 9 c2) rfl rfl rfl (by kernel_rfl) (by kernel_rfl) (by kernel_rfl) (fun _ _ _ h => h) rfl hHeld ?_
  simp only [Act.put, List.setIfInBounds_toArray, List.set_cons_zero, List.set_cons_succ]
  refine take_run 20 (.pointer (some ⟨B, off + 5, none⟩)) rfl (by kernel_rfl) (by kernel_rfl) (by kernel_rfl) (fun _ _ _ h => h) rfl hHeld (fun w => ?_) ?_
  · go_simp
  simp only [Act.put, List.setIfInBounds_toArray, List.set_cons_zero, List.set_cons_succ]
  refine take_if 21 (.int .u64 a5) rfl (by kernel_rfl) (by kernel_rfl) (by kernel_rfl) (fun _ _ _ h => h) rfl hHeld (fun w' hw' => ?_) ?_
  · obtain ⟨q0, q1, q2, q3, q4, q5, q6, q7, q8⟩ := hw'
    go_simp
  simp only [Act.put, List.setIfInBounds_toArray, List.set_cons_zero, List.set_cons_succ]
  refine take_move 22 (.tmp 4) (.slice (some ⟨B, off, none⟩) 9 c2) rfl rfl rfl (by kernel_rfl) (by kernel_rfl) (by kernel_rfl) (fun _ _ _ h => h) rfl hHeld ?_
  simp only [Act.put, List.setIfInBounds_toArray, List.set_cons_zero, List.set_cons_succ]
  refine take_run 23 (.pointer (some ⟨B, off + 6, none⟩)) rfl (by kernel_rfl) (by kernel_rfl) (by kernel_rfl) (fun _ _ _ h => h) rfl hHeld (fun w => ?_) ?_
  · go_simp
  simp only [Act.put, List.setIfInBounds_toArray, List.set_cons_zero, List.set_cons_succ]
  refine take_if 24 (.int .u64 a6) rfl (by kernel_rfl) (by kernel_rfl) (by kernel_rfl) (fun _ _ _ h => h) rfl hHeld (fun w' hw' => ?_) ?_
  · obtain ⟨q0, q1, q2, q3, q4, q5, q6, q7, q8⟩ := hw'
    go_simp
  simp only [Act.put, List.setIfInBounds_toArray, List.set_cons_zero, List.set_cons_succ]
  refine take_run 25 (.int .i64 a6) rfl (by kernel_rfl) (by kernel_rfl) (by kernel_rfl) (fun _ _ _ h => h) rfl hHeld (fun w => ?_) ?_
  · go_simp
  simp only [Act.put, List.setIfInBounds_toArray, List.set_cons_zero, List.set_cons_succ]
  refine take_move 26 (.tmp 4) (.slice (some ⟨B, off, none⟩) 9 c2) rfl rfl rfl (by kernel_rfl) (by kernel_rfl) (by kernel_rfl) (fun _ _ _ h => h) rfl hHeld ?_
  simp only [Act.put, List.setIfInBounds_toArray, List.set_cons_zero, List.set_cons_succ]
  refine take_run 27 (.pointer (some ⟨B, off + 7, none⟩)) rfl (by kernel_rfl) (by kernel_rfl) (by kernel_rfl) (fun _ _ _ h => h) rfl hHeld (fun w => ?_) ?_
  · go_simp
  simp only [Act.put, List.setIfInBounds_toArray, List.set_cons_zero, List.set_cons_succ]
  refine take_if 28 (.int .u64 a7) rfl (by kernel_rfl) (by kernel_rfl) (by kernel_rfl) (fun _ _ _ h => h) rfl hHeld (fun w' hw' => ?_) ?_
  · obtain ⟨q0, q1, q2, q3, q4, q5, q6, q7, q8⟩ := hw'
    go_simp
  simp only [Act.put, List.setIfInBounds_toArray, List.set_cons_zero, List.set_cons_succ]
  refine take_run 29 (.int .i64 a7) rfl (by kernel_rfl) (by kernel_rfl) (by kernel_rfl) (fun _ _ _ h => h) rfl hHeld (fun w => ?_) ?_
  · go_simp
  simp only [Act.put, List.setIfInBounds_toArray, List.set_cons_zero, List.set_cons_succ]
  refine take_move 30 (.tmp 4) (.slice (some ⟨B, off, none⟩) 9 c2) rfl rfl rfl (by kernel_rfl) (by kernel_rfl) (by kernel_rfl) (fun _ _ _ h => h) rfl hHeld ?_
  simp only [Act.put, List.setIfInBounds_toArray, List.set_cons_zero, List.set_cons_succ]
  refine take_run 31 (.pointer (some ⟨B, off + 8, none⟩)) rfl (by kernel_rfl) (by kernel_rfl) (by kernel_rfl) (fun _ _ _ h => h) rfl hHeld (fun w => ?_) ?_
  · go_simp
  simp only [Act.put, List.setIfInBounds_toArray, List.set_cons_zero, List.set_cons_succ]
  refine take_if 32 (.int .u64 a8) rfl (by kernel_rfl) (by kernel_rfl) (by kernel_rfl) (fun _ _ _ h => h) rfl hHeld (fun w' hw' => ?_) ?_
  · obtain ⟨q0, q1, q2, q3, q4, q5, q6, q7, q8⟩ := hw'
    go_simp
  simp only [Act.put, List.setIfInBounds_toArray, List.set_cons_zero, List.set_cons_succ]
  refine take_run 33 (.int .i64 a8) rfl (by kernel_rfl) (by kernel_rfl) (by kernel_rfl) (fun _ _ _ h => h) rfl hHeld (fun w => ?_) ?_
  · go_simp
  simp only [Act.put, List.setIfInBounds_toArray, List.set_cons_zero, List.set_cons_succ]
  refine take_run 34 (.agg #[.int .i64 a0, .int .i64 a1, .int .i64 a2, .int .i64 a3, .int .u64 a4, .int .u64 a5, .int .i64 a6, .int .i64 a7, .int .i64 a8]) rfl (by kernel_rfl) (by kernel_rfl) (by kernel_rfl) (fun _ _ _ h => h) rfl hHeld (fun w => ?_) ?_
  · go_simp
  simp only [Act.put, List.setIfInBounds_toArray, List.set_cons_zero, List.set_cons_succ]
  have hcell : ∀ o : Obj, (fun w' => w'.cell? ⟨B, off, none⟩ = some (.int .u64 a0) ∧ w'.cell? ⟨B, off + 1, none⟩ = some (.int .u64 a1) ∧ w'.cell? ⟨B, off + 2, none⟩ = some (.int .u64 a2) ∧ w'.cell? ⟨B, off + 3, none⟩ = some (.int .u64 a3) ∧ w'.cell? ⟨B, off + 4, none⟩ = some (.int .u64 a4) ∧ w'.cell? ⟨B, off + 5, none⟩ = some (.int .u64 a5) ∧ w'.cell? ⟨B, off + 6, none⟩ = some (.int .u64 a6) ∧ w'.cell? ⟨B, off + 7, none⟩ = some (.int .u64 a7) ∧ w'.cell? ⟨B, off + 8, none⟩ = some (.int .u64 a8)) (Y0.alloc o) := fun o => by
    obtain ⟨q0, q1, q2, q3, q4, q5, q6, q7, q8⟩ := hS0
    have hk := one_alloc Y0 o
    exact ⟨(hk.cell (block_lt_of_cell q0)).trans q0, (hk.cell (block_lt_of_cell q1)).trans q1, (hk.cell (block_lt_of_cell q2)).trans q2, (hk.cell (block_lt_of_cell q3)).trans q3, (hk.cell (block_lt_of_cell q4)).trans q4, (hk.cell (block_lt_of_cell q5)).trans q5, (hk.cell (block_lt_of_cell q6)).trans q6, (hk.cell (block_lt_of_cell q7)).trans q7, (hk.cell (block_lt_of_cell q8)).trans q8⟩
  refine one_step 35 (by kernel_rfl) rfl (fun Kq hKq => ?_)
  have hSz := hcell (.cells #[.int .i64 0, .int .i64 0, .int .i64 0, .int .i64 0, .int .u64 0, .int .u64 0, .int .i64 0, .int .i64 0, .int .i64 0] 25)
  go_simp
  refine hKq.out _ _ hSz (fun hHeld0 => ?_)
  clear hKq Kq hHeld hSz
  have hHeld := hHeld0
  clear hHeld0
  try simp only [Act.put, List.setIfInBounds_toArray, List.set_cons_zero, List.set_cons_succ]
  refine one_step 36 (by kernel_rfl) rfl (fun Kq hKq => ?_)
  have hSz := hcell (.cells #[.int .i64 a0, .int .i64 a1, .int .i64 a2, .int .i64 a3, .int .u64 a4, .int .u64 a5, .int .i64 a6, .int .i64 a7, .int .i64 a8] 25)
  go_simp
  refine hKq.out _ _ hSz (fun hHeld0 => ?_)
  clear hKq Kq hHeld hSz
  have hHeld := hHeld0
  clear hHeld0
  try simp only [Act.put, List.setIfInBounds_toArray, List.set_cons_zero, List.set_cons_succ]
  refine wpAnyH_done (by kernel_rfl) ?_ _
  have hXs : (#[.int .i64 a0, .int .i64 a1, .int .i64 a2, .int .i64 a3, .int .u64 a4, .int .u64 a5, .int .i64 a6, .int .i64 a7, .int .i64 a8] : Array Value).size = 9 := rfl
  have hX1 : (#[.int .i64 a0, .int .i64 a1, .int .i64 a2, .int .i64 a3, .int .u64 a4, .int .u64 a5, .int .i64 a6, .int .i64 a7, .int .i64 a8] : Array Value).all (·.oneCell') = true := enA_one ⟨a0, a1, a2, a3, a4, a5, a6, a7, a8⟩
  generalize hXE : (#[.int .i64 a0, .int .i64 a1, .int .i64 a2, .int .i64 a3, .int .u64 a4, .int .u64 a5, .int .i64 a6, .int .i64 a7, .int .i64 a8] : Array Value) = X at HPUT hXs hX1 ⊢
  have HXE := Lib.hid hXE
  clear hXE
  have hEM := (in_alloc hEd (.cells X 25))
  have hBM := hBd.alloc hBd.size (.cells X 25)
  have hXM := heap_alloc_new Y0 (.cells X 25)
  have HXS := Lib.hid hXs
  have HX1 := Lib.hid hX1
  obtain ⟨s, hs⟩ : ∃ s, bstr b = s := ⟨_, rfl⟩
  have HS := Lib.hid hs
  clear hS0 hcell hEd hBd hs hXs hX1
  cases M
  all_goals
    simp only [if_true, Bool.false_eq_true, if_false] at HPUT ⊢
    go_wp2_with (first
      | (go_at_call 11; refine (HPUT.out _).mono ?_; rintro e w5 ⟨A5, m5, c5, rfl, hbt5, hb5⟩
         have hX5 := (hb5.block _ (Array.getElem?_eq_some_iff.1 hXM).1).trans hXM
         have hE5 := (hb5.block _ (Array.getElem?_eq_some_iff.1 hEM).1).trans hEM
         have hB5 := hBM.trans (hb5.mono hBM.size)
         have hcv1 := conv_bts hbt5
         try rw [HS.out] at hcv1
         have hcv2 : (convert 26 9 (.slice A 30 c)).run Try.prog w5 = .ok (.string s) w5 := by rw [← HS.out]; exact conv_bts (HBT.out.below hB5)
         clear hb5 hXM hEM hBM hbt5)
      | ((with_reducible refine wpList_load_blk 25 _ rfl Y0.heap.size ?hx5 25 X (0, 0) _ hXM Try.underlying25 ?hd5 (info_en HXS.out) ?_ ?hw5); (case hx5 => rfl); (case hd5 => rfl); (case hw5 => rfl))
      | ((with_reducible refine wpList_load_blk 25 _ rfl Y0.heap.size ?hx6 25 X (0, 0) _ hX5 Try.underlying25 ?hd6 (info_en HXS.out) ?_ ?hw6); (case hx6 => rfl); (case hd6 => rfl); (case hw6 => rfl))
      | ((with_reducible refine wpList_store_blk rfl 25 _ _ rfl w.heap.size X ?hx7 ?hy7 25 _ hE5 (info_en HXS.out) ?hs7 HX1.out ?_); (case hx7 => rfl); (case hy7 => rfl); (case hs7 => rw [HXS.out]; rfl)
         intro w6 hg6 hX6 hs6
         clear hE5)
      | ((with_reducible refine wpList_store_blk rfl 25 _ _ rfl w.heap.size (enA En.zero) ?hx8 ?hy8 25 _ hE5 (info_en rfl) ?hs8 (enA_one _) ?_); (case hx8 => rfl); (case hy8 => rfl); (case hs8 => rfl)
         intro w6 hg6 hX6 hs6
         clear hE5))
  all_goals
    first
    | (refine bodyPost_ret (v := .tuple #[.agg (enA En.zero), .bool false]) ?_ rfl ⟨rfl, ?_⟩
       · exact results_blk_tmp Try.results13 _ _ _ w.heap.size 25 _ (0, 0) _ rfl hX6 Try.underlying25 rfl (info_en rfl) _ rfl
       · exact hB5.grown hg6 hB5.size (fun k e => by cases e; exact Nat.le_refl _))
    | (refine bodyPost_ret (v := .tuple #[.agg X, .bool true]) ?_ rfl ⟨by rw [HXE.out], ?_⟩
       · exact results_blk_tmp Try.results13 _ _ _ w.heap.size 25 _ (0, 0) _ rfl hX6 Try.underlying25 rfl (info_en HXS.out) _ rfl
       · exact hB5.grown hg6 hB5.size (fun k e => by cases e; exact Nat.le_refl _))
theorem erget_any (A : Option Addr) (n c : Nat) (b : List Int) (w : World) (hb : Bts w A n c b) :
    Calls Try.prog 13 #[.slice A n c] w (GE (getE b) (gotB b) w) := by
  by_cases h : n = 30
  · subst h
    have := erget_long A c b w hb
    rw [getE, gotB, hb.len, decide_eq_true rfl, Bool.true_and]
    exact this
  · have h2 : gotB b = false := got_short (by rw [hb.len]; exact h)
    rw [get_not h2, h2]
    exact erget_short A n c b w hb h
end Go.Proofs.Ytfjiefhicjnnnaa
