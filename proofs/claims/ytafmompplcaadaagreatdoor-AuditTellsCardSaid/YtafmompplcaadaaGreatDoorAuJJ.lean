/- Joined texts: The walk over the document's Get of entries. The walk over the document's Read of bytes: entries, head, how many bytes. The walk over the document's Verify of bytes. -/
import Derived.Test.YtafmompplcaadaaGreatDoorAuJG
import Derived.Test.YtafmompplcaadaaGreatDoorAuJE
import Derived.Test.YtafmompplcaadaaGreatDoorAuJH
import Derived.Test.YtafmompplcaadaaGreatDoorAuJI
/- The walk over the document's Get of entries. -/
namespace Go.Proofs.YtafmompplcaadaaGreatDoor
set_option maxRecDepth 100000
set_option linter.unusedVariables false
set_option linter.unusedSimpArgs false
open Go.RowKit

theorem wrap_nat {a : Nat} (h : a < 9223372036854775808) : IntKind.i64.wrap (a : Int) = a := by
  rw [IntKind.wrap_i64]; omega
theorem its_lit (w : World) (t : TypeId) : Its .i64 (w.alloc (.cells szC t)) (some ⟨w.heap.size, 0, none⟩) 9 9 szI :=
  ⟨rfl, Nat.le_refl _, by unfold maxLen; omega, (fun e => by cases e), fun _ => ⟨w.heap.size, 0, rfl, fun j hj => by
    rw [Nat.zero_add, cell_of_row _ _ _ _ _ _ (heap_alloc_new w _)]
    match j, hj with
    | 0, _ | 1, _ | 2, _ | 3, _ | 4, _ | 5, _ | 6, _ | 7, _ | 8, _ => rfl⟩⟩
set_option maxRecDepth 100000 in
set_option maxHeartbeats 2000000 in
theorem erget_short (A : Option Addr) (n c : Nat) (b : List Int) (w : World) (hb : Bts w A n c b) (h : n ≠ 30) :
    Calls Tryz.prog 59 #[.slice A n c] w (GE En.zero false w) := by
  have HCUT := Lib.hid (show ∀ (W : World) (g : Nat), Below w.heap.size w W → W.heap.size = g → Calls Tryz.prog 74 #[.slice A n c, .slice (some ⟨g, 0, none⟩) 9 9] (W.alloc (.cells szC 3)) (fun e w' => e = .returned (.tuple #[.slice none 0 0, .bool false]) ∧ W.alloc (.cells szC 3) = w') from fun W g hW hg => by subst hg; exact rcut_no A _ n c 9 9 b szI _ (hb.below (hW.alloc hW.size _)) (its_lit W _) (cut_not h))
  have hz : enV En.zero = .agg (enA En.zero) := rfl
  unfold GE
  rw [hz]
  have hE0 := heap_alloc_new w (.cells (enA En.zero) 33)
  have hB0 := one_alloc w (.cells (enA En.zero) 33)
  clear hb h hz
  go_enter Tryz.func59, Tryz.ntmps59
  go_wp2_with (first
    | (go_at_call 74; refine (HCUT.out _ _ hB0 (by simp)).mono ?_; rintro e w2 ⟨rfl, rfl⟩
       have hE2 := in_alloc hE0 (.cells szC 3)
       have hB2 := hB0.alloc hB0.size (.cells szC 3)
       clear hE0 hB0)
    | ((with_reducible refine wpList_store_blk rfl 33 _ _ rfl w.heap.size (enA En.zero) ?hx2 ?hy2 33 _ hE2 (info_en rfl) ?hs2 (enA_one _) ?_); (case hx2 => rfl); (case hy2 => rfl); (case hs2 => rfl)
       intro w6 hg6 hX6 hs6
       clear hE2))
  refine bodyPost_ret (v := .tuple #[.agg (enA En.zero), .bool false]) ?_ rfl ⟨rfl, ?_⟩
  · exact results_blk_tmp Tryz.results59 _ _ _ w.heap.size 33 _ (0, 0) _ rfl hX6 Tryz.underlying33 rfl (info_en rfl) _ rfl
  · exact hB2.grown hg6 hB2.size (fun k e => by cases e; exact Nat.le_refl _)
set_option maxRecDepth 100000 in
set_option maxHeartbeats 4000000 in
theorem erget_long (A : Option Addr) (c : Nat) (b : List Int) (w : World) (hb : Bts w A 30 c b) :
    Calls Tryz.prog 59 #[.slice A 30 c] w (GE (if mayE (seemsE b) then seemsE b else En.zero) (mayE (seemsE b)) w) := by
  have hbm := bytes_mem hb.ok
  obtain ⟨a0, a1, a2, a3, a4, a5, a6, a7, a8, hc⟩ := cut_nine b
  obtain ⟨k0, k1, k2, k3, k4, k5, k6, k7, k8⟩ := cut_small hbm hb.len hc
  have hse : seemsE b = enOf [a0, a1, a2, a3, a4, a5, a6, a7, a8] := by rw [seemsE, hc]
  have hps := put_seems hbm hb.len
  have hok := seems_ok hbm hb.len
  have HCUT := Lib.hid (show ∀ (W : World) (g : Nat), Below w.heap.size w W → W.heap.size = g → Calls Tryz.prog 74 #[.slice A 30 c, .slice (some ⟨g, 0, none⟩) 9 9] (W.alloc (.cells szC 3)) (fun e w' => ∃ B off c2, e = .returned (.tuple #[.slice (some ⟨B, off, none⟩) 9 c2, .bool true]) ∧ (w'.cell? ⟨B, off, none⟩ = some (.int .u64 a0) ∧ w'.cell? ⟨B, off + 1, none⟩ = some (.int .u64 a1) ∧ w'.cell? ⟨B, off + 2, none⟩ = some (.int .u64 a2) ∧ w'.cell? ⟨B, off + 3, none⟩ = some (.int .u64 a3) ∧ w'.cell? ⟨B, off + 4, none⟩ = some (.int .u64 a4) ∧ w'.cell? ⟨B, off + 5, none⟩ = some (.int .u64 a5) ∧ w'.cell? ⟨B, off + 6, none⟩ = some (.int .u64 a6) ∧ w'.cell? ⟨B, off + 7, none⟩ = some (.int .u64 a7) ∧ w'.cell? ⟨B, off + 8, none⟩ = some (.int .u64 a8)) ∧ Below (W.alloc (.cells szC 3)).heap.size (W.alloc (.cells szC 3)) w') from fun W g hW hg => by
    subst hg
    refine (rcut_yes A _ 30 c 9 9 b szN _ (hb.below (hW.alloc hW.size _)) (its_lit W _) (by intro k hk; simp [szN] at hk; omega) (by decide) rfl).mono ?_
    rintro e w' ⟨v, rfl, hv, hB⟩
    obtain ⟨A2, m, c2, rfl, hi⟩ := hv.its
    obtain ⟨B, off, rfl, rfl, hr⟩ := cut_range hi
    rw [hc] at hr
    exact ⟨B, off, c2, rfl, ⟨hr 0 _ rfl, hr 1 _ rfl, hr 2 _ rfl, hr 3 _ rfl, hr 4 _ rfl, hr 5 _ rfl, hr 6 _ rfl, hr 7 _ rfl, hr 8 _ rfl⟩, hB⟩)
  have HPUT := Lib.hid (fun W => erput_any (seemsE b) W hok)
  have g0 : (a0 : Int) ≤ 9223372036854775807 := by omega
  have g1 : (a1 : Int) ≤ 9223372036854775807 := by omega
  have g2 : (a2 : Int) ≤ 9223372036854775807 := by omega
  have g3 : (a3 : Int) ≤ 9223372036854775807 := by omega
  have g6 : (a6 : Int) ≤ 9223372036854775807 := by omega
  have g7 : (a7 : Int) ≤ 9223372036854775807 := by omega
  have g8 : (a8 : Int) ≤ 9223372036854775807 := by omega
  have hw0 : IntKind.i64.wrap (a0 : Int) = a0 := wrap_nat (by omega)
  have hw1 : IntKind.i64.wrap (a1 : Int) = a1 := wrap_nat (by omega)
  have hw2 : IntKind.i64.wrap (a2 : Int) = a2 := wrap_nat (by omega)
  have hw3 : IntKind.i64.wrap (a3 : Int) = a3 := wrap_nat (by omega)
  have hw6 : IntKind.i64.wrap (a6 : Int) = a6 := wrap_nat (by omega)
  have hw7 : IntKind.i64.wrap (a7 : Int) = a7 := wrap_nat (by omega)
  have hw8 : IntKind.i64.wrap (a8 : Int) = a8 := wrap_nat (by omega)
  have hx : enA (seemsE b) = #[.int .i64 a0, .int .i64 a1, .int .i64 a2, .int .i64 a3, .int .u64 a4, .int .u64 a5, .int .i64 a6, .int .i64 a7, .int .i64 a8] := by rw [hse]; rfl
  obtain ⟨u, hu⟩ : ∃ u, seemsE b = u := ⟨_, rfl⟩
  rw [hu] at HPUT hps hx ⊢
  obtain ⟨M, hM⟩ : ∃ M, mayE u = M := ⟨_, rfl⟩
  rw [hM] at HPUT ⊢
  rw [hps] at HPUT
  unfold enV at HPUT
  have hout : enV (if M = true then u else En.zero) = .agg (if M then #[.int .i64 a0, .int .i64 a1, .int .i64 a2, .int .i64 a3, .int .u64 a4, .int .u64 a5, .int .i64 a6, .int .i64 a7, .int .i64 a8] else enA En.zero) := by cases M <;> simp [enV, hx]
  unfold GE
  rw [hx] at HPUT
  rw [hout]
  have HBT := Lib.hid hb
  have hE0 := heap_alloc_new w (.cells (enA En.zero) 33)
  have hB0 := one_alloc w (.cells (enA En.zero) 33)
  clear hb hbm hc k0 k1 k2 k3 k4 k5 k6 k7 k8 hse hu hM hx hout hps hok
  go_enter Tryz.func59, Tryz.ntmps59
  go_wp2_with (go_at_call 74; refine (HCUT.out _ _ hB0 (by simp)).mono ?_; rintro e w2 ⟨B, off, c2, rfl, hr2, hb2⟩
               have HE2 := Lib.hid ((hb2.block _ (by have := (Array.getElem?_eq_some_iff.1 hE0).1; simp at this ⊢; omega)).trans (in_alloc hE0 (.cells szC 3)))
               have HB2 := Lib.hid (hB0.trans ((after_one hb2).1.mono hB0.size))
               have HR2 := Lib.hid hr2
               clear hb2 hE0 hB0 hr2)
  obtain ⟨Y0, hY0⟩ : ∃ Y, w2.drew = Y := ⟨_, rfl⟩
  have hBd : Below w.heap.size w Y0 := by rw [← hY0]; exact HB2.out.drew
  have hEd : Y0.heap[w.heap.size]? = some (.cells (enA En.zero) 33 (0, 0)) := by rw [← hY0]; exact HE2.out
  have hS0 : (fun w' => w'.cell? ⟨B, off, none⟩ = some (.int .u64 a0) ∧ w'.cell? ⟨B, off + 1, none⟩ = some (.int .u64 a1) ∧ w'.cell? ⟨B, off + 2, none⟩ = some (.int .u64 a2) ∧ w'.cell? ⟨B, off + 3, none⟩ = some (.int .u64 a3) ∧ w'.cell? ⟨B, off + 4, none⟩ = some (.int .u64 a4) ∧ w'.cell? ⟨B, off + 5, none⟩ = some (.int .u64 a5) ∧ w'.cell? ⟨B, off + 6, none⟩ = some (.int .u64 a6) ∧ w'.cell? ⟨B, off + 7, none⟩ = some (.int .u64 a7) ∧ w'.cell? ⟨B, off + 8, none⟩ = some (.int .u64 a8)) Y0 := by rw [← hY0]; exact HR2.out
  refine wp_region_held_drew (S := (fun w' => w'.cell? ⟨B, off, none⟩ = some (.int .u64 a0) ∧ w'.cell? ⟨B, off + 1, none⟩ = some (.int .u64 a1) ∧ w'.cell? ⟨B, off + 2, none⟩ = some (.int .u64 a2) ∧ w'.cell? ⟨B, off + 3, none⟩ = some (.int .u64 a3) ∧ w'.cell? ⟨B, off + 4, none⟩ = some (.int .u64 a4) ∧ w'.cell? ⟨B, off + 5, none⟩ = some (.int .u64 a5) ∧ w'.cell? ⟨B, off + 6, none⟩ = some (.int .u64 a6) ∧ w'.cell? ⟨B, off + 7, none⟩ = some (.int .u64 a7) ∧ w'.cell? ⟨B, off + 8, none⟩ = some (.int .u64 a8))) (by kernel_rfl) (by rw [hY0]; exact hS0) (fun hHeld => ?_)
  rw [hY0] at hHeld ⊢
  clear hY0
  refine take_move 0 (.tmp 4) (.slice (some ⟨B, off, none⟩) 9 c2) rfl rfl rfl (by kernel_rfl) (by kernel_rfl) (by kernel_rfl) (fun _ _ _ h => h) rfl hHeld ?_
  simp only [Act.put, List.setIfInBounds_toArray, List.set_cons_zero, List.set_cons_succ]
  refine take_run 1 (.pointer (some ⟨B, off, none⟩)) rfl (by kernel_rfl) (by kernel_rfl) (by kernel_rfl) (fun _ _ _ h => h) rfl hHeld (fun w => ?_) ?_
  · go_simp
  simp only [Act.put, List.setIfInBounds_toArray, List.set_cons_zero, List.set_cons_succ]
  refine take_if 2 (.int .u64 a0) rfl (by kernel_rfl) (by kernel_rfl) (by kernel_rfl) (fun _ _ _ h => h) rfl hHeld (fun w' hw' => ?_) ?_
  · obtain ⟨q0, q1, q2, q3, q4, q5, q6, q7, q8⟩ := hw'
    go_simp
  simp only [Act.put, List.setIfInBounds_toArray, List.set_cons_zero, List.set_cons_succ]
  refine take_run 3 (.int .i64 a0) rfl (by kernel_rfl) (by kernel_rfl) (by kernel_rfl) (fun _ _ _ h => h) rfl hHeld (fun w => ?_) ?_
  · go_simp
  simp only [Act.put, List.setIfInBounds_toArray, List.set_cons_zero, List.set_cons_succ]
  refine take_move 4 (.tmp 4) (.slice (some ⟨B, off, none⟩) 9 c2) rfl rfl rfl (by kernel_rfl) (by kernel_rfl) (by kernel_rfl) (fun _ _ _ h => h) rfl hHeld ?_
  simp only [Act.put, List.setIfInBounds_toArray, List.set_cons_zero, List.set_cons_succ]
  refine take_run 5 (.pointer (some ⟨B, off + 1, none⟩)) rfl (by kernel_rfl) (by kernel_rfl) (by kernel_rfl) (fun _ _ _ h => h) rfl hHeld (fun w => ?_) ?_
  · go_simp
  simp only [Act.put, List.setIfInBounds_toArray, List.set_cons_zero, List.set_cons_succ]
  refine take_if 6 (.int .u64 a1) rfl (by kernel_rfl) (by kernel_rfl) (by kernel_rfl) (fun _ _ _ h => h) rfl hHeld (fun w' hw' => ?_) ?_
  · obtain ⟨q0, q1, q2, q3, q4, q5, q6, q7, q8⟩ := hw'
    go_simp
  simp only [Act.put, List.setIfInBounds_toArray, List.set_cons_zero, List.set_cons_succ]
  refine take_run 7 (.int .i64 a1) rfl (by kernel_rfl) (by kernel_rfl) (by kernel_rfl) (fun _ _ _ h => h) rfl hHeld (fun w => ?_) ?_
  · go_simp
  simp only [Act.put, List.setIfInBounds_toArray, List.set_cons_zero, List.set_cons_succ]
  refine take_move 8 (.tmp 4) (.slice (some ⟨B, off, none⟩) 9 c2) rfl rfl rfl (by kernel_rfl) (by kernel_rfl) (by kernel_rfl) (fun _ _ _ h => h) rfl hHeld ?_
  simp only [Act.put, List.setIfInBounds_toArray, List.set_cons_zero, List.set_cons_succ]
  refine take_run 9 (.pointer (some ⟨B, off + 2, none⟩)) rfl (by kernel_rfl) (by kernel_rfl) (by kernel_rfl) (fun _ _ _ h => h) rfl hHeld (fun w => ?_) ?_
  · go_simp
  simp only [Act.put, List.setIfInBounds_toArray, List.set_cons_zero, List.set_cons_succ]
  refine take_if 10 (.int .u64 a2) rfl (by kernel_rfl) (by kernel_rfl) (by kernel_rfl) (fun _ _ _ h => h) rfl hHeld (fun w' hw' => ?_) ?_
  · obtain ⟨q0, q1, q2, q3, q4, q5, q6, q7, q8⟩ := hw'
    go_simp
  simp only [Act.put, List.setIfInBounds_toArray, List.set_cons_zero, List.set_cons_succ]
  refine take_run 11 (.int .i64 a2) rfl (by kernel_rfl) (by kernel_rfl) (by kernel_rfl) (fun _ _ _ h => h) rfl hHeld (fun w => ?_) ?_
  · go_simp
  simp only [Act.put, List.setIfInBounds_toArray, List.set_cons_zero, List.set_cons_succ]
  refine take_move 12 (.tmp 4) (.slice (some ⟨B, off, none⟩) 9 c2) rfl rfl rfl (by kernel_rfl) (by kernel_rfl) (by kernel_rfl) (fun _ _ _ h => h) rfl hHeld ?_
  simp only [Act.put, List.setIfInBounds_toArray, List.set_cons_zero, List.set_cons_succ]
  refine take_run 13 (.pointer (some ⟨B, off + 3, none⟩)) rfl (by kernel_rfl) (by kernel_rfl) (by kernel_rfl) (fun _ _ _ h => h) rfl hHeld (fun w => ?_) ?_
  · go_simp
  simp only [Act.put, List.setIfInBounds_toArray, List.set_cons_zero, List.set_cons_succ]
  refine take_if 14 (.int .u64 a3) rfl (by kernel_rfl) (by kernel_rfl) (by kernel_rfl) (fun _ _ _ h => h) rfl hHeld (fun w' hw' => ?_) ?_
  · obtain ⟨q0, q1, q2, q3, q4, q5, q6, q7, q8⟩ := hw'
    go_simp
  simp only [Act.put, List.setIfInBounds_toArray, List.set_cons_zero, List.set_cons_succ]
  refine take_run 15 (.int .i64 a3) rfl (by kernel_rfl) (by kernel_rfl) (by kernel_rfl) (fun _ _ _ h => h) rfl hHeld (fun w => ?_) ?_
  · go_simp
  simp only [Act.put, List.setIfInBounds_toArray, List.set_cons_zero, List.set_cons_succ]
  refine take_move 16 (.tmp 4) (.slice (some ⟨B, off, none⟩) 9 c2) rfl rfl rfl (by kernel_rfl) (by kernel_rfl) (by kernel_rfl) (fun _ _ _ h => h) rfl hHeld ?_
  simp only [Act.put, List.setIfInBounds_toArray, List.set_cons_zero, List.set_cons_succ]
  refine take_run 17 (.pointer (some ⟨B, off + 4, none⟩)) rfl (by kernel_rfl) (by kernel_rfl) (by kernel_rfl) (fun _ _ _ h => h) rfl hHeld (fun w => ?_) ?_
  · go_simp
  simp only [Act.put, List.setIfInBounds_toArray, List.set_cons_zero, List.set_cons_succ]
  refine take_if 18 (.int .u64 a4) rfl (by kernel_rfl) (by kernel_rfl) (by kernel_rfl) (fun _ _ _ h => h) rfl hHeld (fun w' hw' => ?_) ?_
  · obtain ⟨q0, q1, q2, q3, q4, q5, q6, q7, q8⟩ := hw'
    go_simp
  simp only [Act.put, List.setIfInBounds_toArray, List.set_cons_zero, List.set_cons_succ]
  refine take_move 19 (.tmp 4) (.slice (some ⟨B, off, none⟩) 9 c2) rfl rfl rfl (by kernel_rfl) (by kernel_rfl) (by kernel_rfl) (fun _ _ _ h => h) rfl hHeld ?_
  simp only [Act.put, List.setIfInBounds_toArray, List.set_cons_zero, List.set_cons_succ]
  refine take_run 20 (.pointer (some ⟨B, off + 5, none⟩)) rfl (by kernel_rfl) (by kernel_rfl) (by kernel_rfl) (fun _ _ _ h => h) rfl hHeld (fun w => ?_) ?_
  · go_simp
  simp only [Act.put, List.setIfInBounds_toArray, List.set_cons_zero, List.set_cons_succ]
  refine take_if 21 (.int .u64 a5) rfl (by kernel_rfl) (by kernel_rfl) (by kernel_rfl) (fun _ _ _ h => h) rfl hHeld (fun w' hw' => ?_) ?_
  · obtain ⟨q0, q1, q2, q3, q4, q5, q6, q7, q8⟩ := hw'
    go_simp
  simp only [Act.put, List.setIfInBounds_toArray, List.set_cons_zero, List.set_cons_succ]
  refine take_move 22 (.tmp 4) (.slice (some ⟨B, off, none⟩) 9 c2) rfl rfl rfl (by kernel_rfl) (by kernel_rfl) (by kernel_rfl) (fun _ _ _ h => h) rfl hHeld ?_
  simp only [Act.put, List.setIfInBounds_toArray, List.set_cons_zero, List.set_cons_succ]
  refine take_run 23 (.pointer (some ⟨B, off + 6, none⟩)) rfl (by kernel_rfl) (by kernel_rfl) (by kernel_rfl) (fun _ _ _ h => h) rfl hHeld (fun w => ?_) ?_
  · go_simp
  simp only [Act.put, List.setIfInBounds_toArray, List.set_cons_zero, List.set_cons_succ]
  refine take_if 24 (.int .u64 a6) rfl (by kernel_rfl) (by kernel_rfl) (by kernel_rfl) (fun _ _ _ h => h) rfl hHeld (fun w' hw' => ?_) ?_
  · obtain ⟨q0, q1, q2, q3, q4, q5, q6, q7, q8⟩ := hw'
    go_simp
  simp only [Act.put, List.setIfInBounds_toArray, List.set_cons_zero, List.set_cons_succ]
  refine take_run 25 (.int .i64 a6) rfl (by kernel_rfl) (by kernel_rfl) (by kernel_rfl) (fun _ _ _ h => h) rfl hHeld (fun w => ?_) ?_
  · go_simp
  simp only [Act.put, List.setIfInBounds_toArray, List.set_cons_zero, List.set_cons_succ]
  refine take_move 26 (.tmp 4) (.slice (some ⟨B, off, none⟩) 9 c2) rfl rfl rfl (by kernel_rfl) (by kernel_rfl) (by kernel_rfl) (fun _ _ _ h => h) rfl hHeld ?_
  simp only [Act.put, List.setIfInBounds_toArray, List.set_cons_zero, List.set_cons_succ]
  refine take_run 27 (.pointer (some ⟨B, off + 7, none⟩)) rfl (by kernel_rfl) (by kernel_rfl) (by kernel_rfl) (fun _ _ _ h => h) rfl hHeld (fun w => ?_) ?_
  · go_simp
  simp only [Act.put, List.setIfInBounds_toArray, List.set_cons_zero, List.set_cons_succ]
  refine take_if 28 (.int .u64 a7) rfl (by kernel_rfl) (by kernel_rfl) (by kernel_rfl) (fun _ _ _ h => h) rfl hHeld (fun w' hw' => ?_) ?_
  · obtain ⟨q0, q1, q2, q3, q4, q5, q6, q7, q8⟩ := hw'
    go_simp
  simp only [Act.put, List.setIfInBounds_toArray, List.set_cons_zero, List.set_cons_succ]
  refine take_run 29 (.int .i64 a7) rfl (by kernel_rfl) (by kernel_rfl) (by kernel_rfl) (fun _ _ _ h => h) rfl hHeld (fun w => ?_) ?_
  · go_simp
  simp only [Act.put, List.setIfInBounds_toArray, List.set_cons_zero, List.set_cons_succ]
  refine take_move 30 (.tmp 4) (.slice (some ⟨B, off, none⟩) 9 c2) rfl rfl rfl (by kernel_rfl) (by kernel_rfl) (by kernel_rfl) (fun _ _ _ h => h) rfl hHeld ?_
  simp only [Act.put, List.setIfInBounds_toArray, List.set_cons_zero, List.set_cons_succ]
  refine take_run 31 (.pointer (some ⟨B, off + 8, none⟩)) rfl (by kernel_rfl) (by kernel_rfl) (by kernel_rfl) (fun _ _ _ h => h) rfl hHeld (fun w => ?_) ?_
  · go_simp
  simp only [Act.put, List.setIfInBounds_toArray, List.set_cons_zero, List.set_cons_succ]
  refine take_if 32 (.int .u64 a8) rfl (by kernel_rfl) (by kernel_rfl) (by kernel_rfl) (fun _ _ _ h => h) rfl hHeld (fun w' hw' => ?_) ?_
  · obtain ⟨q0, q1, q2, q3, q4, q5, q6, q7, q8⟩ := hw'
    go_simp
  simp only [Act.put, List.setIfInBounds_toArray, List.set_cons_zero, List.set_cons_succ]
  refine take_run 33 (.int .i64 a8) rfl (by kernel_rfl) (by kernel_rfl) (by kernel_rfl) (fun _ _ _ h => h) rfl hHeld (fun w => ?_) ?_
  · go_simp
  simp only [Act.put, List.setIfInBounds_toArray, List.set_cons_zero, List.set_cons_succ]
  refine take_run 34 (.agg #[.int .i64 a0, .int .i64 a1, .int .i64 a2, .int .i64 a3, .int .u64 a4, .int .u64 a5, .int .i64 a6, .int .i64 a7, .int .i64 a8]) rfl (by kernel_rfl) (by kernel_rfl) (by kernel_rfl) (fun _ _ _ h => h) rfl hHeld (fun w => ?_) ?_
  · go_simp
  simp only [Act.put, List.setIfInBounds_toArray, List.set_cons_zero, List.set_cons_succ]
  have hcell : ∀ o : Obj, (fun w' => w'.cell? ⟨B, off, none⟩ = some (.int .u64 a0) ∧ w'.cell? ⟨B, off + 1, none⟩ = some (.int .u64 a1) ∧ w'.cell? ⟨B, off + 2, none⟩ = some (.int .u64 a2) ∧ w'.cell? ⟨B, off + 3, none⟩ = some (.int .u64 a3) ∧ w'.cell? ⟨B, off + 4, none⟩ = some (.int .u64 a4) ∧ w'.cell? ⟨B, off + 5, none⟩ = some (.int .u64 a5) ∧ w'.cell? ⟨B, off + 6, none⟩ = some (.int .u64 a6) ∧ w'.cell? ⟨B, off + 7, none⟩ = some (.int .u64 a7) ∧ w'.cell? ⟨B, off + 8, none⟩ = some (.int .u64 a8)) (Y0.alloc o) := fun o => by
    obtain ⟨q0, q1, q2, q3, q4, q5, q6, q7, q8⟩ := hS0
    have hk := one_alloc Y0 o
    exact ⟨(hk.cell (block_lt_of_cell q0)).trans q0, (hk.cell (block_lt_of_cell q1)).trans q1, (hk.cell (block_lt_of_cell q2)).trans q2, (hk.cell (block_lt_of_cell q3)).trans q3, (hk.cell (block_lt_of_cell q4)).trans q4, (hk.cell (block_lt_of_cell q5)).trans q5, (hk.cell (block_lt_of_cell q6)).trans q6, (hk.cell (block_lt_of_cell q7)).trans q7, (hk.cell (block_lt_of_cell q8)).trans q8⟩
  refine one_step 35 (by kernel_rfl) rfl (fun Kq hKq => ?_)
  have hSz := hcell (.cells #[.int .i64 0, .int .i64 0, .int .i64 0, .int .i64 0, .int .u64 0, .int .u64 0, .int .i64 0, .int .i64 0, .int .i64 0] 33)
  go_simp
  refine hKq.out _ _ hSz (fun hHeld0 => ?_)
  clear hKq Kq hHeld hSz
  have hHeld := hHeld0
  clear hHeld0
  try simp only [Act.put, List.setIfInBounds_toArray, List.set_cons_zero, List.set_cons_succ]
  refine one_step 36 (by kernel_rfl) rfl (fun Kq hKq => ?_)
  have hSz := hcell (.cells #[.int .i64 a0, .int .i64 a1, .int .i64 a2, .int .i64 a3, .int .u64 a4, .int .u64 a5, .int .i64 a6, .int .i64 a7, .int .i64 a8] 33)
  go_simp
  refine hKq.out _ _ hSz (fun hHeld0 => ?_)
  clear hKq Kq hHeld hSz
  have hHeld := hHeld0
  clear hHeld0
  try simp only [Act.put, List.setIfInBounds_toArray, List.set_cons_zero, List.set_cons_succ]
  refine wpAnyH_done (by kernel_rfl) ?_ _
  have hXs : (#[.int .i64 a0, .int .i64 a1, .int .i64 a2, .int .i64 a3, .int .u64 a4, .int .u64 a5, .int .i64 a6, .int .i64 a7, .int .i64 a8] : Array Value).size = 9 := rfl
  have hX1 : (#[.int .i64 a0, .int .i64 a1, .int .i64 a2, .int .i64 a3, .int .u64 a4, .int .u64 a5, .int .i64 a6, .int .i64 a7, .int .i64 a8] : Array Value).all (·.oneCell') = true := enA_one ⟨a0, a1, a2, a3, a4, a5, a6, a7, a8⟩
  generalize hXE : (#[.int .i64 a0, .int .i64 a1, .int .i64 a2, .int .i64 a3, .int .u64 a4, .int .u64 a5, .int .i64 a6, .int .i64 a7, .int .i64 a8] : Array Value) = X at HPUT hXs hX1 ⊢
  have HXE := Lib.hid hXE
  clear hXE
  have hEM := (in_alloc hEd (.cells X 33))
  have hBM := hBd.alloc hBd.size (.cells X 33)
  have hXM := heap_alloc_new Y0 (.cells X 33)
  have HXS := Lib.hid hXs
  have HX1 := Lib.hid hX1
  obtain ⟨s, hs⟩ : ∃ s, bstr b = s := ⟨_, rfl⟩
  have HS := Lib.hid hs
  clear hS0 hcell hEd hBd hs hXs hX1
  cases M
  all_goals
    simp only [if_true, Bool.false_eq_true, if_false] at HPUT ⊢
    go_wp2_with (first
      | (go_at_call 55; refine (HPUT.out _).mono ?_; rintro e w5 ⟨A5, m5, c5, rfl, hbt5, hb5⟩
         have hX5 := (hb5.block _ (Array.getElem?_eq_some_iff.1 hXM).1).trans hXM
         have hE5 := (hb5.block _ (Array.getElem?_eq_some_iff.1 hEM).1).trans hEM
         have hB5 := hBM.trans (hb5.mono hBM.size)
         have hcv1 := conv_bts hbt5
         try rw [HS.out] at hcv1
         have hcv2 : (convert 22 9 (.slice A 30 c)).run Tryz.prog w5 = .ok (.string s) w5 := by rw [← HS.out]; exact conv_bts (HBT.out.below hB5)
         clear hb5 hXM hEM hBM hbt5)
      | ((with_reducible refine wpList_load_blk 33 _ rfl Y0.heap.size ?hx5 33 X (0, 0) _ hXM Tryz.underlying33 ?hd5 (info_en HXS.out) ?_ ?hw5); (case hx5 => rfl); (case hd5 => rfl); (case hw5 => rfl))
      | ((with_reducible refine wpList_load_blk 33 _ rfl Y0.heap.size ?hx6 33 X (0, 0) _ hX5 Tryz.underlying33 ?hd6 (info_en HXS.out) ?_ ?hw6); (case hx6 => rfl); (case hd6 => rfl); (case hw6 => rfl))
      | ((with_reducible refine wpList_store_blk rfl 33 _ _ rfl w.heap.size X ?hx7 ?hy7 33 _ hE5 (info_en HXS.out) ?hs7 HX1.out ?_); (case hx7 => rfl); (case hy7 => rfl); (case hs7 => rw [HXS.out]; rfl)
         intro w6 hg6 hX6 hs6
         clear hE5)
      | ((with_reducible refine wpList_store_blk rfl 33 _ _ rfl w.heap.size (enA En.zero) ?hx8 ?hy8 33 _ hE5 (info_en rfl) ?hs8 (enA_one _) ?_); (case hx8 => rfl); (case hy8 => rfl); (case hs8 => rfl)
         intro w6 hg6 hX6 hs6
         clear hE5))
  all_goals
    first
    | (refine bodyPost_ret (v := .tuple #[.agg (enA En.zero), .bool false]) ?_ rfl ⟨rfl, ?_⟩
       · exact results_blk_tmp Tryz.results59 _ _ _ w.heap.size 33 _ (0, 0) _ rfl hX6 Tryz.underlying33 rfl (info_en rfl) _ rfl
       · exact hB5.grown hg6 hB5.size (fun k e => by cases e; exact Nat.le_refl _))
    | (refine bodyPost_ret (v := .tuple #[.agg X, .bool true]) ?_ rfl ⟨by rw [HXE.out], ?_⟩
       · exact results_blk_tmp Tryz.results59 _ _ _ w.heap.size 33 _ (0, 0) _ rfl hX6 Tryz.underlying33 rfl (info_en HXS.out) _ rfl
       · exact hB5.grown hg6 hB5.size (fun k e => by cases e; exact Nat.le_refl _))
theorem erget_any (A : Option Addr) (n c : Nat) (b : List Int) (w : World) (hb : Bts w A n c b) :
    Calls Tryz.prog 59 #[.slice A n c] w (GE (getE b) (gotB b) w) := by
  by_cases h : n = 30
  · subst h
    have := erget_long A c b w hb
    rw [getE, gotB, hb.len, decide_eq_true rfl, Bool.true_and]
    exact this
  · have h2 : gotB b = false := got_short (by rw [hb.len]; exact h)
    rw [get_not h2, h2]
    exact erget_short A n c b w hb h
end Go.Proofs.YtafmompplcaadaaGreatDoor

/- The walk over the document's Read of bytes: entries, head, how many bytes. -/
namespace Go.Proofs.YtafmompplcaadaaGreatDoor
set_option maxRecDepth 100000
set_option linter.unusedVariables false
set_option linter.unusedSimpArgs false
open Go.RowKit

/-- gives entries, a head, and a number -/
def GRd (L : List En) (Z : List Int) (m : Nat) (w : World) (e : Ending) (w' : World) : Prop := ∃ A n c, e = .returned (.tuple #[.slice A n c, .agg (idv Z), .int .i64 (62 * m)]) ∧ Ens w' A n c L ∧ Below w.heap.size w w'
/-- the same, and where the entries lie -/
def GRl (L : List En) (Z : List Int) (m : Nat) (w : World) (e : Ending) (w' : World) : Prop := ∃ A n c, e = .returned (.tuple #[.slice A n c, .agg (idv Z), .int .i64 (62 * m)]) ∧ Ens w' A n c L ∧ (∀ a, A = some a → w.heap.size ≤ a.block) ∧ Below w.heap.size w w'
theorem ownr_loc {w : World} {e : TypeId} {k b : Nat} {A : Option Addr} {n c : Nat} {l : List (List Value)} (h : OwnR e k w b (.slice A n c) l) : ∀ a, A = some a → b ≤ a.block := fun a ha => by subst ha; exact (h.size a.block rfl).1
def lenOf : Value → Nat
  | .slice _ n _ => n
  | _ => 0
theorem ownr_len {w : World} {e : TypeId} {k b : Nat} {v : Value} {l : List (List Value)} (h : OwnR e k w b v l) : lenOf v = l.length := by
  obtain ⟨A, n, c, rfl, hr⟩ := h.rws
  exact hr.len.symm
theorem one_alloc' {B : Nat} (w : World) (o : Obj) (h : B ≤ w.heap.size) : Below B w (w.alloc o) := (Below.refl _ w).alloc h o
theorem ownr_far {w : World} {e : TypeId} {k b g : Nat} {v : Value} {l : List (List Value)} (h : OwnR e k w b v l) (hg : g < b) : v.ownBlock = none ∨ v.ownBlock ≠ some g := by
  cases e : v.ownBlock with
  | none => exact .inl rfl
  | some k =>
    refine .inr (fun h2 => ?_)
    injection h2 with h2
    have := (h.size k e).1
    omega
set_option maxRecDepth 100000 in
set_option maxHeartbeats 4000000 in
theorem rreadl_any (A : Option Addr) (n c : Nat) (b : List Int) (w : World) (hb : Bts w A n c b) :
    Calls Tryz.prog 32 #[.slice A n c] w (GRl (readC b) (headC (readC b)) (readC b).length w) := by
  have hn := hb.small
  have hbl := hb.len
  have hbm := bytes_mem hb.ok
  have hal := run_all32
  have HDb := Lib.hid hb
  have HHD := Lib.hid (show ∀ W : World, Calls Tryz.prog 37 #[.slice none 0 0] W (fun e w' => e = .returned (.agg (idv startC)) ∧ Below W.heap.size W w') from fun W => rheadc_any none 0 0 [] W (Ens.nil W) rfl (fun u hu => by cases hu))
  have HSL := Lib.hid (show startC.length = 32 from csum_len [0])
  have HNL := Lib.hid (show noughtsC.length = 32 from rfl)
  have hon := fun (k : Nat) (h : List Int) => @read_on b k h
  have hoff := fun (k : Nat) (h : List Int) => @read_off b k h
  have hend := fun (k : Nat) => @read_end b k
  have hRl := readC_le b
  obtain ⟨R, hR⟩ : ∃ R, readC b = R := ⟨_, rfl⟩
  rw [hR] at hon hoff hend hRl ⊢
  obtain ⟨ZC, hZ⟩ : ∃ Z, headC R = Z := ⟨_, rfl⟩
  have HZL := Lib.hid (show ZC.length = 32 by rw [← hZ]; exact headC_len _)
  rw [hZ]
  have HZE := Lib.hid hZ
  have HON := Lib.hid hon
  have HOFF := Lib.hid hoff
  have HEND := Lib.hid hend
  clear hb hR hZ hon hoff hend
  go_enter Tryz.func32, Tryz.ntmps32
  go_wp2_with (first
    | (go_at_call 37; (with_reducible refine (HHD.out _).mono ?_); rintro e w1 ⟨rfl, hb1⟩
       obtain ⟨hb0, -, hz1⟩ := after_one hb1
       have hz1 : RowB w1 w.heap.size 27 noughtsC := hz1
       have HB1 := Lib.hid hb0
       clear hb1 hb0)
    | ((with_reducible refine wpList_store_blk rfl 27 _ _ rfl w1.heap.size (idv startC) ?hx2 ?hy2 27 _ (heap_alloc_new w1 _) (info32 HSL.out) ?hs2 (idv_one _) ?_); (case hx2 => rfl); (case hy2 => rfl); (case hs2 => rw [idv_size, HSL.out]; rfl)
       intro w2 hg2 hX2 hs2
       have hb2 : Below w1.heap.size w1 w2 := Below.grows (one_alloc w1 _) hg2 (size_le_alloc _ _) (Nat.le_refl _)
       have hz2 := hz1.keep hb2
       have hX2 : RowB w2 w1.heap.size 27 startC := hX2
       have HB2 := Lib.hid (HB1.out.trans (hb2.mono HB1.out.size))
       clear hb2 hg2 hs2))
  have hg3 : w.heap.size < w1.heap.size := hz1.lt
  clear hz1
  go_frame
  go_loopw [5, 7, 8, 9, 10, 11] (fun v i x y z t wr => ∃ k : Nat, k ≤ R.length ∧ lenOf v = k ∧ OwnR 33 9 wr (w1.heap.size + 1) v ((R.take k).map En.row) ∧ RowB wr w1.heap.size 27 (headC (R.take k)) ∧ RowB wr w.heap.size 27 noughtsC ∧ Below w.heap.size w wr) (fun v _ _ _ _ _ _ => 264 - lenOf v)
  case atStart => exact ⟨0, by omega, rfl, by rw [List.take_zero]; exact OwnR.nil _ _ _ _, hX2, hz2, HB2.out⟩
  case round =>
    clear hX2 hz2
    obtain ⟨k, hk, hlen, hown, hX, hz, hB⟩ := hrel
    obtain ⟨A5, n5, c5, rfl, hen5⟩ := own_ens hown
    have hn5 : k = n5 := hlen.symm
    have h264 : n5 ≤ 264 := by omega
    have HBr := Lib.hid hB
    clear hB hen5
    by_cases hroom : k < 264 ∧ 62 * k + 62 ≤ n
    · subst hn5
      obtain ⟨q264, qn⟩ := hroom
      obtain ⟨b1, o1, rfl, hp1, hcut1⟩ := cut_any (HDb.out.below HBr.out) (62 * k) 30 (by omega) (by omega)
      obtain ⟨b2, o2, he2, hp2, hcut2⟩ := cut_any (HDb.out.below HBr.out) (62 * k + 30) 32 (by omega) (by omega)
      cases he2
      have hc1 : ∀ W : World, (Instr.slice 22 (.slice (some ⟨b1, o1, none⟩) n c) (some (.int .i64 (62 * k))) (some (.int .i64 (62 * k + 30))) none).run Tryz.prog W = .ok (.slice (some ⟨b1, o1 + 62 * k, none⟩) 30 (c - 62 * k)) W := fun W => hcut1 _ _ W (by omega) (by omega)
      have hc2 : ∀ W : World, (Instr.slice 22 (.slice (some ⟨b1, o1, none⟩) n c) (some (.int .i64 (62 * k + 30))) (some (.int .i64 (62 * k + 62))) none).run Tryz.prog W = .ok (.slice (some ⟨b1, o1 + (62 * k + 30), none⟩) 32 (c - (62 * k + 30))) W := fun W => hcut2 _ _ W (by omega) (by omega)
      clear hcut1 hcut2
      obtain ⟨h, hh⟩ : ∃ h, headC (R.take k) = h := ⟨_, rfl⟩
      have hhl : h.length = 32 := by rw [← hh]; exact headC_len _
      have hhb : ∀ j, 0 ≤ h.getD j 0 ∧ h.getD j 0 < 256 := by rw [← hh]; exact headC_byte _
      rw [hh] at hX
      have hon := HON.out _ _ hk q264 (by omega) hh
      have hoff := HOFF.out _ _ hk (by omega) hh
      have hgo := gete_ok (b := (b.drop (62 * k)).take 30) (fun x hx => hbm x (List.mem_of_mem_drop (List.mem_of_mem_take hx)))
      obtain ⟨p1, hp1e⟩ : ∃ p, (b.drop (62 * k)).take 30 = p := ⟨_, rfl⟩
      obtain ⟨p2, hp2e⟩ : ∃ p, (b.drop (62 * k + 30)).take 32 = p := ⟨_, rfl⟩
      rw [hp1e] at hp1 hon hoff hgo
      rw [hp2e] at hp2 hon hoff
      have HGE := Lib.hid (fun (A : Option Addr) (d : Nat) (W : World) (h : Bts W A 30 d p1) => erget_any A 30 d p1 W h)
      obtain ⟨G, hG⟩ : ∃ G, getE p1 = G := ⟨_, rfl⟩
      obtain ⟨g, hg⟩ : ∃ g, gotB p1 = g := ⟨_, rfl⟩
      rw [hG, hg] at hon hoff HGE
      rw [hG] at hgo
      obtain ⟨X, hXe⟩ : ∃ X, linkP h G = X := ⟨_, rfl⟩
      have HXL := Lib.hid (show X.length = 32 by rw [← hXe]; exact linkP_len _ _)
      have hXB : ∀ j, 0 ≤ X.getD j 0 ∧ X.getD j 0 < 256 := by rw [← hXe]; exact linkP_byte _ _
      have HXB := Lib.hid hXB
      have HLK := Lib.hid (fun W => rlink_any h G W hhl hhb hgo)
      rw [hXe] at hon hoff HLK
      obtain ⟨M, hM⟩ : ∃ M, mayE G = M := ⟨_, rfl⟩
      rw [hM] at HLK
      obtain ⟨sx, hsx⟩ : ∃ s, bstr X = s := ⟨_, rfl⟩
      obtain ⟨sp, hsp⟩ : ∃ s, bstr p2 = s := ⟨_, rfl⟩
      obtain ⟨D, hD⟩ : ∃ D, decide (X = p2) = D := ⟨_, rfl⟩
      have HSE := Lib.hid (show (sx.toList == sp.toList) = D by rw [← hsx, ← hsp, bstr_same hXB hp2.ok]; exact hD)
      have HSX := Lib.hid hsx
      have HSP := Lib.hid hsp
      have HDD := Lib.hid hD
      have HON2 := Lib.hid hon
      have HOFF2 := Lib.hid hoff
      have HHH := Lib.hid hh
      have HKK := Lib.hid hk
      have HOB := Lib.hid (fun g e => (hown.size g e).2)
      have HHL := Lib.hid hhl
      have HP1 := Lib.hid hp1
      have HP2 := Lib.hid hp2
      have q0 : 0 ≤ (k : Int) := by omega
      have q1 : (k : Int) < 264 := by omega
      have q2 : ¬ ((n : Int) - 62 * k < 62) := by omega
      have q3 : (n : Int) ≤ 9223372036854775807 := by omega
      have HLT1 := Lib.hid hX.lt
      unfold GE enV at HGE
      unfold enV at HLK
      clear hh hhl hhb hon hoff hgo hp1e hp2e hG hg hXe hXB hM hsx hsp hD hp1 hp2 hlen
      go_wp2_with (first
        | (go_at_call 59; (with_reducible refine (HGE.out _ _ _ HP1.out).mono ?_); rintro e w3 ⟨rfl, hb1⟩
           have hX1 := hX.keep hb1
           have hz1 := hz.keep hb1
           have hown1 := hown.below hb1
           have HP3 := Lib.hid (HP2.out.below hb1)
           have HB3 := Lib.hid (HBr.out.trans (hb1.mono HBr.out.size))
           have HSa := Lib.hid hb1.size
           clear hb1 hX hz hown)
        | ((with_reducible refine wpList_store_blk rfl 33 _ _ rfl w3.heap.size (enA G) ?hx4 ?hy4 33 _ (heap_alloc_new w3 _) (info_en (enA_size _)) ?hs4 (enA_one _) ?_); (case hx4 => rfl); (case hy4 => rfl); (case hs4 => rfl)
           intro w4 hg4 hE4 hs4
           have hb4 : Below w3.heap.size w3 w4 := Below.grows (one_alloc w3 _) hg4 (size_le_alloc _ _) (Nat.le_refl _)
           have hX4 := hX1.keep hb4
           have hz4 := hz1.keep hb4
           have hown4 := hown1.below hb4
           have HP4 := Lib.hid (HP3.out.below hb4)
           have HB4 := Lib.hid (HB3.out.trans (hb4.mono HB3.out.size))
           have HSb := Lib.hid hb4.size
           clear hb4 hg4 hs4 hX1 hz1 hown1)
        | ((with_reducible refine wpList_load_blk 27 _ rfl w1.heap.size ?hx5 27 (idv h) (0, 0) _ hX4.is Tryz.underlying27 ?hd5 (info32 HHL.out) ?_ ?hw5); (case hx5 => rfl); (case hd5 => rfl); (case hw5 => rfl))
        | ((with_reducible refine wpList_load_blk 33 _ rfl w3.heap.size ?hx6 33 (enA G) (0, 0) _ hE4 Tryz.underlying33 ?hd6 (info_en (enA_size _)) ?_ ?hw6); (case hx6 => rfl); (case hd6 => rfl); (case hw6 => rfl))
        | (go_at_call 56; (with_reducible refine (HLK.out _).mono ?_); rintro e w5 ⟨rfl, hb5⟩
           have hX5 := hX4.keep hb5
           have hz5 := hz4.keep hb5
           have hown5 := hown4.below hb5
           have hE5 := (hb5.block _ (Array.getElem?_eq_some_iff.1 hE4).1).trans hE4
           have HP5 := Lib.hid (HP4.out.below hb5)
           have HB5 := Lib.hid (HB4.out.trans (hb5.mono HB4.out.size))
           have HSc := Lib.hid hb5.size
           clear hb5 hX4 hz4 hown4 hE4)
        | ((with_reducible refine wpList_store_blk rfl 27 _ _ rfl w5.heap.size (idv X) ?hx7 ?hy7 27 _ (heap_alloc_new w5 _) (info32 HXL.out) ?hs7 (idv_one _) ?_); (case hx7 => rfl); (case hy7 => rfl); (case hs7 => rw [idv_size, HXL.out]; rfl)
           intro w6 hg6 hXX hs6
           have hb6 : Below w5.heap.size w5 w6 := Below.grows (one_alloc w5 _) hg6 (size_le_alloc _ _) (Nat.le_refl _)
           have hXX : RowB w6 w5.heap.size 27 X := hXX
           have hX6 := hX5.keep hb6
           have hz6 := hz5.keep hb6
           have hown6 := hown5.below hb6
           have hE6 := (hb6.block _ (Array.getElem?_eq_some_iff.1 hE5).1).trans hE5
           have HP6 := Lib.hid (HP5.out.below hb6)
           have HB6 := Lib.hid (HB5.out.trans (hb6.mono HB5.out.size))
           clear hb6 hg6 hs6 hX5 hz5 hown5 hE5))
      have HFAR := Lib.hid (show ∀ g, (Value.slice A5 k c5).ownBlock = some g → g < w5.heap.size from fun g e => Nat.lt_of_lt_of_le (HOB.out g e) (Nat.le_trans HSa.out (Nat.le_trans HSb.out HSc.out)))
      have HSX := HSX
      have HS1 := Lib.hid (show w1.heap.size + 1 ≤ w5.heap.size from Nat.le_trans (Nat.succ_le_of_lt HLT1.out) (Nat.le_trans HSa.out (Nat.le_trans HSb.out HSc.out)))
      obtain ⟨gx, hgx⟩ : ∃ q, w5.heap.size = q := ⟨_, rfl⟩
      obtain ⟨ge, hge⟩ : ∃ q, w3.heap.size = q := ⟨_, rfl⟩
      have HS8 := Lib.hid (show w1.heap.size + 1 ≤ w6.drew.heap.size from hX6.lt)
      rw [hgx] at hXX HFAR HS1 ⊢
      rw [hge] at hE6 ⊢
      obtain ⟨Y8, hY8⟩ : ∃ Y, w6.drew = Y := ⟨_, rfl⟩
      rw [hY8] at HS8
      have hXX : RowB Y8 gx 27 X := by rw [← hY8]; exact hXX.draw1
      have hX : RowB Y8 w1.heap.size 27 h := by rw [← hY8]; exact hX6.draw1
      have hz : RowB Y8 w.heap.size 27 noughtsC := by rw [← hY8]; exact hz6.draw1
      have hown : OwnR 33 9 Y8 (w1.heap.size + 1) (.slice A5 k c5) ((R.take k).map En.row) := by rw [← hY8]; exact hown6.draw1
      have hE : Y8.heap[ge]? = some (.cells (enA G) 33 (0, 0)) := by rw [← hY8]; exact hE6
      have HBr := Lib.hid (show Below w.heap.size w Y8 by rw [← hY8]; exact HB6.out.drew)
      have KSX := Lib.hid (show (convert 22 9 (.slice (some ⟨gx, 0, none⟩) 32 32)).run Tryz.prog Y8 = .ok (.string sx) Y8 by rw [← HSX.out]; exact conv_bts (hXX.btsAt HXL.out (by unfold maxLen; omega) HXB.out))
      have KSP := Lib.hid (show (convert 22 9 (.slice (some ⟨b1, o1 + (62 * k + 30), none⟩) 32 (c - (62 * k + 30)))).run Tryz.prog Y8 = .ok (.string sp) Y8 by rw [← HSP.out, ← hY8]; exact conv_bts (HP6.out.draw1))
      clear hX6 hz6 hown6 hE6 hgx hge HP6 HP5 HP4 HP3 HP2 HP1 HB3 HB4 HB5 HB6 hc1 HSa HSb HSc HOB
      have hw30 : IntKind.i64.wrap (62 * k + 30) = 62 * k + 30 := by rw [IntKind.wrap_i64]; omega
      have hw62 : IntKind.i64.wrap (62 * k + 62) = 62 * k + 62 := by rw [IntKind.wrap_i64]; omega
      cases g with
      | false =>
        refine wp_region_held_drew (S := (fun w' => w' = Y8)) (by kernel_rfl) (by rw [hY8]) (fun hHeld => ?_)
        rw [hY8] at hHeld ⊢
        clear hY8
        refine take_move 0 (.tmp 9) (.bool false) rfl rfl rfl (by kernel_rfl) (by kernel_rfl) (by kernel_rfl) (fun _ _ _ h => h) rfl hHeld ?_
        simp only [Act.put, List.setIfInBounds_toArray, List.set_cons_zero, List.set_cons_succ]
        refine take_run 1 (.bool true) rfl (by kernel_rfl) (by kernel_rfl) (by kernel_rfl) (fun _ _ _ h => h) rfl hHeld (fun w => ?_) ?_
        · go_simp
        simp only [Act.put, List.setIfInBounds_toArray, List.set_cons_zero, List.set_cons_succ]
        refine take_run 2 (.bool true) rfl (by kernel_rfl) (by kernel_rfl) (by kernel_rfl) (fun _ _ _ h => h) rfl hHeld (fun w => ?_) ?_
        · go_simp
        simp only [Act.put, List.setIfInBounds_toArray, List.set_cons_zero, List.set_cons_succ]
        refine take_off 3 rfl (by kernel_rfl) (by kernel_rfl) (by kernel_rfl) (fun _ _ _ h => h) rfl hHeld ?_
        simp only [Act.put, List.setIfInBounds_toArray, List.set_cons_zero, List.set_cons_succ]
        refine take_off 4 rfl (by kernel_rfl) (by kernel_rfl) (by kernel_rfl) (fun _ _ _ h => h) rfl hHeld ?_
        simp only [Act.put, List.setIfInBounds_toArray, List.set_cons_zero, List.set_cons_succ]
        refine take_off 5 rfl (by kernel_rfl) (by kernel_rfl) (by kernel_rfl) (fun _ _ _ h => h) rfl hHeld ?_
        simp only [Act.put, List.setIfInBounds_toArray, List.set_cons_zero, List.set_cons_succ]
        refine take_off 6 rfl (by kernel_rfl) (by kernel_rfl) (by kernel_rfl) (fun _ _ _ h => h) rfl hHeld ?_
        simp only [Act.put, List.setIfInBounds_toArray, List.set_cons_zero, List.set_cons_succ]
        refine take_off 7 rfl (by kernel_rfl) (by kernel_rfl) (by kernel_rfl) (fun _ _ _ h => h) rfl hHeld ?_
        simp only [Act.put, List.setIfInBounds_toArray, List.set_cons_zero, List.set_cons_succ]
        refine take_off 8 rfl (by kernel_rfl) (by kernel_rfl) (by kernel_rfl) (fun _ _ _ h => h) rfl hHeld ?_
        simp only [Act.put, List.setIfInBounds_toArray, List.set_cons_zero, List.set_cons_succ]
        refine take_off 9 rfl (by kernel_rfl) (by kernel_rfl) (by kernel_rfl) (fun _ _ _ h => h) rfl hHeld ?_
        simp only [Act.put, List.setIfInBounds_toArray, List.set_cons_zero, List.set_cons_succ]
        refine take_off 10 rfl (by kernel_rfl) (by kernel_rfl) (by kernel_rfl) (fun _ _ _ h => h) rfl hHeld ?_
        simp only [Act.put, List.setIfInBounds_toArray, List.set_cons_zero, List.set_cons_succ]
        refine take_off 11 rfl (by kernel_rfl) (by kernel_rfl) (by kernel_rfl) (fun _ _ _ h => h) rfl hHeld ?_
        simp only [Act.put, List.setIfInBounds_toArray, List.set_cons_zero, List.set_cons_succ]
        refine take_off 12 rfl (by kernel_rfl) (by kernel_rfl) (by kernel_rfl) (fun _ _ _ h => h) rfl hHeld ?_
        simp only [Act.put, List.setIfInBounds_toArray, List.set_cons_zero, List.set_cons_succ]
        refine take_run 13 (.bool true) rfl (by kernel_rfl) (by kernel_rfl) (by kernel_rfl) (fun _ _ _ h => h) rfl hHeld (fun w => ?_) ?_
        · go_simp
        simp only [Act.put, List.setIfInBounds_toArray, List.set_cons_zero, List.set_cons_succ]
        refine wpAnyH_done (by kernel_rfl) ?_ _
        clear hHeld
        have hkR : k = R.length := HOFF2.out (fun e => by cases e.1)
        have hX : RowB Y8 w1.heap.size 27 ZC := by
          have e : h = ZC := by rw [← HHH.out, hkR, List.take_length, HZE.out]
          rw [e] at hX
          exact hX
        have hown : OwnR 33 9 Y8 (w1.heap.size + 1) (.slice A5 k c5) (R.map En.row) := by
          rw [List.take_of_length_le (by omega)] at hown
          exact hown
        have HN5 := Lib.hid hkR
        have hw0 : IntKind.i64.wrap (62 * k) = 62 * k := by rw [IntKind.wrap_i64]; omega
        clear hkR
        go_wp2
        have hzd := hz.draw1
        refine wp_region_held_drew (S := (fun w' => RowB w' w1.heap.size 27 ZC ∧ Below w.heap.size w w' ∧ OwnR 33 9 w' (w1.heap.size + 1) (.slice A5 k c5) (R.map En.row))) (by kernel_rfl) ⟨hX.draw1, HBr.out.drew, hown.draw1⟩ (fun hHeld => ?_)
        have hSd := hHeld
        clear hX hz hown
        refine take_move 0 (.tmp 5) (.slice A5 k c5) rfl rfl rfl (by kernel_rfl) (by kernel_rfl) (by kernel_rfl) (fun _ _ _ h => h) rfl hHeld ?_
        simp only [Act.put, List.setIfInBounds_toArray, List.set_cons_zero, List.set_cons_succ]
        refine take_if 1 (.agg (idv ZC)) rfl (by kernel_rfl) (by kernel_rfl) (by kernel_rfl) (fun _ _ _ h => h) rfl hHeld (fun w' hw' => ?_) ?_
        · exact id_load hw'.1 HZL.out rfl rfl
        simp only [Act.put, List.setIfInBounds_toArray, List.set_cons_zero, List.set_cons_succ]
        refine take_move 2 (.tmp 5) (.slice A5 k c5) rfl rfl rfl (by kernel_rfl) (by kernel_rfl) (by kernel_rfl) (fun _ _ _ h => h) rfl hHeld ?_
        simp only [Act.put, List.setIfInBounds_toArray, List.set_cons_zero, List.set_cons_succ]
        refine take_run 3 (.int .i64 k) rfl (by kernel_rfl) (by kernel_rfl) (by kernel_rfl) (fun _ _ _ h => h) rfl hHeld (fun w => ?_) ?_
        · go_simp
        simp only [Act.put, List.setIfInBounds_toArray, List.set_cons_zero, List.set_cons_succ]
        refine take_run 4 (.int .i64 (62 * k)) rfl (by kernel_rfl) (by kernel_rfl) (by kernel_rfl) (fun _ _ _ h => h) rfl hHeld (fun w => ?_) ?_
        · go_simp
        simp only [Act.put, List.setIfInBounds_toArray, List.set_cons_zero, List.set_cons_succ]
        refine take_run 5 (.slice A5 k c5) rfl (by kernel_rfl) (by kernel_rfl) (by kernel_rfl) (fun _ _ _ h => h) rfl hHeld (fun w => ?_) ?_
        · go_simp
        simp only [Act.put, List.setIfInBounds_toArray, List.set_cons_zero, List.set_cons_succ]
        refine one_step 6 (by kernel_rfl) rfl (fun Kq hKq => ?_)
        refine step_store_b 27 _ _ rfl w.heap.size ZC noughtsC rfl rfl 27 hzd (info32 HZL.out) (by rw [HZL.out]; rfl) rfl ?_
        intro wM hgM hXM hsM
        have hSM : RowB wM w1.heap.size 27 ZC ∧ Below w.heap.size w wM ∧ OwnR 33 9 wM (w1.heap.size + 1) (.slice A5 k c5) (R.map En.row) := ⟨rowb_grown hSd.1 hgM (by omega), hSd.2.1.grown hgM hSd.2.1.size (fun q e => by cases e; exact Nat.le_refl _), hSd.2.2.far hgM (ownr_far hSd.2.2 (by omega))⟩
        refine hKq.out _ _ hSM (fun hHeld0 => ?_)
        clear hKq Kq hHeld
        have hHeld := hHeld0
        clear hHeld0
        try simp only [Act.put, List.setIfInBounds_toArray, List.set_cons_zero, List.set_cons_succ]
        refine take_run 7 (.int .i64 (62 * k)) rfl (by kernel_rfl) (by kernel_rfl) (by kernel_rfl) (fun _ _ _ h => h) rfl hHeld (fun w => ?_) ?_
        · go_simp
        simp only [Act.put, List.setIfInBounds_toArray, List.set_cons_zero, List.set_cons_succ]
        refine wpAnyH_done (by kernel_rfl) ?_ _
        go_wp2
        obtain ⟨A9, n9, c9, he9, hen9⟩ := own_ens hSM.2.2
        cases he9
        refine bodyPost_ret (v := .tuple #[.slice A5 k c5, .agg (idv ZC), .int .i64 (62 * k)]) ?_ rfl ⟨A5, k, c5, by rw [HN5.out], hen9, fun a ha => Nat.le_trans (Nat.le_succ_of_le HB1.out.size) (ownr_loc hSM.2.2 a ha), hSM.2.1⟩
        exact results_tct Tryz.results32 _ _ _ w.heap.size 27 _ (0, 0) _ rfl hXM Tryz.underlying27 rfl (info32 HZL.out) _ _ rfl rfl
      | true =>
        refine wp_region_held_drew (S := (fun w' => w' = Y8)) (by kernel_rfl) (by rw [hY8]) (fun hHeld => ?_)
        rw [hY8] at hHeld ⊢
        clear hY8
        refine take_move 0 (.tmp 9) (.bool true) rfl rfl rfl (by kernel_rfl) (by kernel_rfl) (by kernel_rfl) (fun _ _ _ h => h) rfl hHeld ?_
        simp only [Act.put, List.setIfInBounds_toArray, List.set_cons_zero, List.set_cons_succ]
        refine take_run 1 (.bool false) rfl (by kernel_rfl) (by kernel_rfl) (by kernel_rfl) (fun _ _ _ h => h) rfl hHeld (fun w => ?_) ?_
        · go_simp
        simp only [Act.put, List.setIfInBounds_toArray, List.set_cons_zero, List.set_cons_succ]
        refine take_run 2 (.bool false) rfl (by kernel_rfl) (by kernel_rfl) (by kernel_rfl) (fun _ _ _ h => h) rfl hHeld (fun w => ?_) ?_
        · go_simp
        simp only [Act.put, List.setIfInBounds_toArray, List.set_cons_zero, List.set_cons_succ]
        refine take_run 3 (.slice (some ⟨gx, 0, none⟩) 32 32) rfl (by kernel_rfl) (by kernel_rfl) (by kernel_rfl) (fun _ _ _ h => h) rfl hHeld (fun w => ?_) ?_
        · go_simp
        simp only [Act.put, List.setIfInBounds_toArray, List.set_cons_zero, List.set_cons_succ]
        refine take_if 4 (.string sx) rfl (by kernel_rfl) (by kernel_rfl) (by kernel_rfl) (fun _ _ _ h => h) rfl hHeld (fun w' hw' => ?_) ?_
        · cases hw'
          have hq := KSX.out
          go_simp
        simp only [Act.put, List.setIfInBounds_toArray, List.set_cons_zero, List.set_cons_succ]
        refine take_move 5 (.tmp 0) (.slice (some ⟨b1, o1, none⟩) n c) rfl rfl rfl (by kernel_rfl) (by kernel_rfl) (by kernel_rfl) (fun _ _ _ h => h) rfl hHeld ?_
        simp only [Act.put, List.setIfInBounds_toArray, List.set_cons_zero, List.set_cons_succ]
        refine take_move 6 (.tmp 7) (.int .i64 (62 * k)) rfl rfl rfl (by kernel_rfl) (by kernel_rfl) (by kernel_rfl) (fun _ _ _ h => h) rfl hHeld ?_
        simp only [Act.put, List.setIfInBounds_toArray, List.set_cons_zero, List.set_cons_succ]
        refine take_run 7 (.int .i64 (62 * k + 30)) rfl (by kernel_rfl) (by kernel_rfl) (by kernel_rfl) (fun _ _ _ h => h) rfl hHeld (fun w => ?_) ?_
        · go_simp
        simp only [Act.put, List.setIfInBounds_toArray, List.set_cons_zero, List.set_cons_succ]
        refine take_move 8 (.tmp 7) (.int .i64 (62 * k)) rfl rfl rfl (by kernel_rfl) (by kernel_rfl) (by kernel_rfl) (fun _ _ _ h => h) rfl hHeld ?_
        simp only [Act.put, List.setIfInBounds_toArray, List.set_cons_zero, List.set_cons_succ]
        refine take_run 9 (.int .i64 (62 * k + 62)) rfl (by kernel_rfl) (by kernel_rfl) (by kernel_rfl) (fun _ _ _ h => h) rfl hHeld (fun w => ?_) ?_
        · go_simp
        simp only [Act.put, List.setIfInBounds_toArray, List.set_cons_zero, List.set_cons_succ]
        refine take_run 10 (.slice (some ⟨b1, o1 + (62 * k + 30), none⟩) 32 (c - (62 * k + 30))) rfl (by kernel_rfl) (by kernel_rfl) (by kernel_rfl) (fun _ _ _ h => h) rfl hHeld (fun w => ?_) ?_
        · go_simp
        simp only [Act.put, List.setIfInBounds_toArray, List.set_cons_zero, List.set_cons_succ]
        refine take_if 11 (.string sp) rfl (by kernel_rfl) (by kernel_rfl) (by kernel_rfl) (fun _ _ _ h => h) rfl hHeld (fun w' hw' => ?_) ?_
        · cases hw'
          have hq := KSP.out
          go_simp
        simp only [Act.put, List.setIfInBounds_toArray, List.set_cons_zero, List.set_cons_succ]
        refine take_run 12 (.bool (!D)) rfl (by kernel_rfl) (by kernel_rfl) (by kernel_rfl) (fun _ _ _ h => h) rfl hHeld (fun w => ?_) ?_
        · have hq := HSE.out; go_simp
        simp only [Act.put, List.setIfInBounds_toArray, List.set_cons_zero, List.set_cons_succ]
        refine take_run 13 (.bool (!D)) rfl (by kernel_rfl) (by kernel_rfl) (by kernel_rfl) (fun _ _ _ h => h) rfl hHeld (fun w => ?_) ?_
        · go_simp
        simp only [Act.put, List.setIfInBounds_toArray, List.set_cons_zero, List.set_cons_succ]
        refine wpAnyH_done (by kernel_rfl) ?_ _
        clear hHeld
        cases D with
        | false =>
          have hkR : k = R.length := HOFF2.out (fun e => by have := HDD.out; rw [decide_eq_true e.2] at this; cases this)
          have hX : RowB Y8 w1.heap.size 27 ZC := by
            have e : h = ZC := by rw [← HHH.out, hkR, List.take_length, HZE.out]
            rw [e] at hX
            exact hX
          have hown : OwnR 33 9 Y8 (w1.heap.size + 1) (.slice A5 k c5) (R.map En.row) := by
            rw [List.take_of_length_le (by omega)] at hown
            exact hown
          have HN5 := Lib.hid hkR
          have hw0 : IntKind.i64.wrap (62 * k) = 62 * k := by rw [IntKind.wrap_i64]; omega
          clear hkR
          go_wp2
          have hzd := hz.draw1
          refine wp_region_held_drew (S := (fun w' => RowB w' w1.heap.size 27 ZC ∧ Below w.heap.size w w' ∧ OwnR 33 9 w' (w1.heap.size + 1) (.slice A5 k c5) (R.map En.row))) (by kernel_rfl) ⟨hX.draw1, HBr.out.drew, hown.draw1⟩ (fun hHeld => ?_)
          have hSd := hHeld
          clear hX hz hown
          refine take_move 0 (.tmp 5) (.slice A5 k c5) rfl rfl rfl (by kernel_rfl) (by kernel_rfl) (by kernel_rfl) (fun _ _ _ h => h) rfl hHeld ?_
          simp only [Act.put, List.setIfInBounds_toArray, List.set_cons_zero, List.set_cons_succ]
          refine take_if 1 (.agg (idv ZC)) rfl (by kernel_rfl) (by kernel_rfl) (by kernel_rfl) (fun _ _ _ h => h) rfl hHeld (fun w' hw' => ?_) ?_
          · exact id_load hw'.1 HZL.out rfl rfl
          simp only [Act.put, List.setIfInBounds_toArray, List.set_cons_zero, List.set_cons_succ]
          refine take_move 2 (.tmp 5) (.slice A5 k c5) rfl rfl rfl (by kernel_rfl) (by kernel_rfl) (by kernel_rfl) (fun _ _ _ h => h) rfl hHeld ?_
          simp only [Act.put, List.setIfInBounds_toArray, List.set_cons_zero, List.set_cons_succ]
          refine take_run 3 (.int .i64 k) rfl (by kernel_rfl) (by kernel_rfl) (by kernel_rfl) (fun _ _ _ h => h) rfl hHeld (fun w => ?_) ?_
          · go_simp
          simp only [Act.put, List.setIfInBounds_toArray, List.set_cons_zero, List.set_cons_succ]
          refine take_run 4 (.int .i64 (62 * k)) rfl (by kernel_rfl) (by kernel_rfl) (by kernel_rfl) (fun _ _ _ h => h) rfl hHeld (fun w => ?_) ?_
          · go_simp
          simp only [Act.put, List.setIfInBounds_toArray, List.set_cons_zero, List.set_cons_succ]
          refine take_run 5 (.slice A5 k c5) rfl (by kernel_rfl) (by kernel_rfl) (by kernel_rfl) (fun _ _ _ h => h) rfl hHeld (fun w => ?_) ?_
          · go_simp
          simp only [Act.put, List.setIfInBounds_toArray, List.set_cons_zero, List.set_cons_succ]
          refine one_step 6 (by kernel_rfl) rfl (fun Kq hKq => ?_)
          refine step_store_b 27 _ _ rfl w.heap.size ZC noughtsC rfl rfl 27 hzd (info32 HZL.out) (by rw [HZL.out]; rfl) rfl ?_
          intro wM hgM hXM hsM
          have hSM : RowB wM w1.heap.size 27 ZC ∧ Below w.heap.size w wM ∧ OwnR 33 9 wM (w1.heap.size + 1) (.slice A5 k c5) (R.map En.row) := ⟨rowb_grown hSd.1 hgM (by omega), hSd.2.1.grown hgM hSd.2.1.size (fun q e => by cases e; exact Nat.le_refl _), hSd.2.2.far hgM (ownr_far hSd.2.2 (by omega))⟩
          refine hKq.out _ _ hSM (fun hHeld0 => ?_)
          clear hKq Kq hHeld
          have hHeld := hHeld0
          clear hHeld0
          try simp only [Act.put, List.setIfInBounds_toArray, List.set_cons_zero, List.set_cons_succ]
          refine take_run 7 (.int .i64 (62 * k)) rfl (by kernel_rfl) (by kernel_rfl) (by kernel_rfl) (fun _ _ _ h => h) rfl hHeld (fun w => ?_) ?_
          · go_simp
          simp only [Act.put, List.setIfInBounds_toArray, List.set_cons_zero, List.set_cons_succ]
          refine wpAnyH_done (by kernel_rfl) ?_ _
          go_wp2
          obtain ⟨A9, n9, c9, he9, hen9⟩ := own_ens hSM.2.2
          cases he9
          refine bodyPost_ret (v := .tuple #[.slice A5 k c5, .agg (idv ZC), .int .i64 (62 * k)]) ?_ rfl ⟨A5, k, c5, by rw [HN5.out], hen9, fun a ha => Nat.le_trans (Nat.le_succ_of_le HB1.out.size) (ownr_loc hSM.2.2 a ha), hSM.2.1⟩
          exact results_tct Tryz.results32 _ _ _ w.heap.size 27 _ (0, 0) _ rfl hXM Tryz.underlying27 rfl (info32 HZL.out) _ _ rfl rfl
        | true =>
          obtain ⟨hk1, hRk, hhd⟩ := HON2.out rfl (of_decide_eq_true HDD.out)
          have hrows : (R.take (k + 1)).map En.row = (R.take k).map En.row ++ [En.row G] := by rw [etake_more hRk, map_row]; rfl
          have HRL := Lib.hid (show ((R.take k).map En.row).length ≤ 264 by rw [List.length_map, List.length_take]; omega)
          obtain ⟨RW, hRW⟩ : ∃ r, (R.take k).map En.row = r := ⟨_, rfl⟩
          rw [hRW] at hrows hown HRL
          obtain ⟨NX, hNX⟩ : ∃ r, (R.take (k + 1)).map En.row = r := ⟨_, rfl⟩
          have HNX := Lib.hid hNX
          rw [hNX] at hrows
          have HHD2 := Lib.hid hhd
          have HK1 := Lib.hid hk1
          have HNL2 := Lib.hid (show NX.length = k + 1 by rw [← hNX, List.length_map, List.length_take]; omega)
          clear hRW hNX hRk hhd hk1 HON2 HOFF2 KSX KSP HLK HGE
          obtain ⟨g0, g1, g2, g3, g4, g5, g6, g7, g8⟩ := G
          have hE : Y8.heap[ge]? = some (.cells #[.int .i64 g0, .int .i64 g1, .int .i64 g2, .int .i64 g3, .int .u64 g4, .int .u64 g5, .int .i64 g6, .int .i64 g7, .int .i64 g8] 33 (0, 0)) := hE
          have HRO := Lib.hid hrows
          clear hrows
          go_wp2_with (first
            | (at_builtin
               refine wpList_append_r rfl 25 33 9 72 _ _ rfl Tryz.underlying25 info_entry (by omega) (w1.heap.size + 1) (.slice A5 k c5) RW rfl (hown.more _) (some ⟨Y8.heap.size, 0, none⟩) 1 1 [En.row ⟨g0, g1, g2, g3, g4, g5, g6, g7, g8⟩] rfl (one_rws 9 33 Y8 _ rfl (row_one9 ⟨g0, g1, g2, g3, g4, g5, g6, g7, g8⟩)) (by have := HRL.out; omega) (by have := HRL.out; omega) (Nat.le_trans HS8.out (size_le_alloc _ _)) ?_
               intro v7 w7 hown7 hg7
               have hb7 : Below (w1.heap.size + 1) Y8 w7 := (one_alloc' Y8 _ HS8.out).grown hg7 (Nat.le_trans HS8.out (size_le_alloc _ _)) (fun g e => (hown.size g e).1)
               have hX7 : RowB w7 w1.heap.size 27 h := hX.below hb7 (Nat.lt_succ_self _)
               have hz7 := hz.below hb7 (Nat.lt_succ_of_lt hg3)
               have hXX7 : RowB w7 gx 27 X := (hXX.more _).grown hg7 (fun e => Nat.lt_irrefl _ (HFAR.out gx e.symm))
               rw [← HRO.out] at hown7
               have HB7 := Lib.hid (HBr.out.trans (hb7.mono (Nat.le_of_lt (Nat.lt_succ_of_lt hg3))))
               clear hg7 hb7 hX hz hXX hown)
            | ((with_reducible refine wpList_load_blk 33 _ rfl ge ?hx6 33 #[.int .i64 g0, .int .i64 g1, .int .i64 g2, .int .i64 g3, .int .u64 g4, .int .u64 g5, .int .i64 g6, .int .i64 g7, .int .i64 g8] (0, 0) _ hE Tryz.underlying33 ?hd6 (info_en rfl) ?_ ?hw6); (case hx6 => rfl); (case hd6 => rfl); (case hw6 => rfl))
            | ((with_reducible refine wpList_load_blk 27 _ rfl gx ?hx8 27 (idv X) (0, 0) _ hXX7.is Tryz.underlying27 ?hd8 (info32 HXL.out) ?_ ?hw8); (case hx8 => rfl); (case hd8 => rfl); (case hw8 => rfl))
            | ((with_reducible refine wpList_store_blk rfl 27 _ _ rfl w1.heap.size (idv X) ?hx9 ?hy9 27 _ hX7.is (info32 HXL.out) ?hs9 (idv_one _) ?_); (case hx9 => rfl); (case hy9 => rfl); (case hs9 => rw [idv_size, idv_size, HXL.out, HHL.out])
               intro w9 hg9 hX9 hs9
               have hX9 : RowB w9 w1.heap.size 27 X := hX9
               have hz9 := rowb_grown hz7 hg9 (by omega)
               have hown9 := hown7.far hg9 (ownr_far hown7 (Nat.lt_succ_self _))
               have HB9 := Lib.hid (HB7.out.grown hg9 HB7.out.size (fun k e => by cases e; omega))
               clear hg9 hs9 hX7 hz7 hXX7 hown7))
          go_frame
          go_roundw
          case rel => exact ⟨k + 1, HK1.out, by rw [ownr_len hown9]; exact HNL2.out, by rw [HNX.out]; exact hown9, by rw [HHD2.out]; exact hX9, hz9, HB9.out⟩
          case measure =>
            have e1 := ownr_len hown9
            rw [HNL2.out] at e1
            show 264 - lenOf v7 < 264 - k
            omega
    · subst hn5
      have hkR : k = R.length := HEND.out _ hk (by rw [hbl]; exact hroom)
      have q0 : 0 ≤ (k : Int) := by omega
      have q3 : (n : Int) ≤ 9223372036854775807 := by omega
      have hX : RowB wr w1.heap.size 27 ZC := by
        rw [List.take_of_length_le (by omega), HZE.out] at hX
        exact hX
      have hown : OwnR 33 9 wr (w1.heap.size + 1) (.slice A5 k c5) (R.map En.row) := by
        rw [List.take_of_length_le (by omega)] at hown
        exact hown
      have HN5 := Lib.hid hkR
      have hw0 : IntKind.i64.wrap (62 * k) = 62 * k := by rw [IntKind.wrap_i64]; omega
      clear hkR
      obtain ⟨b0, hb0⟩ : ∃ b0 : Bool, decide (k < 264) = b0 := ⟨_, rfl⟩
      cases b0 with
      | false =>
        have q1 : ¬ (k : Int) < 264 := by have := of_decide_eq_false hb0; omega
        clear hb0 hroom hlen hk
        go_wp2
        have hzd := hz.draw1
        refine wp_region_held_drew (S := (fun w' => RowB w' w1.heap.size 27 ZC ∧ Below w.heap.size w w' ∧ OwnR 33 9 w' (w1.heap.size + 1) (.slice A5 k c5) (R.map En.row))) (by kernel_rfl) ⟨hX.draw1, HBr.out.drew, hown.draw1⟩ (fun hHeld => ?_)
        have hSd := hHeld
        clear hX hz hown
        refine take_move 0 (.tmp 5) (.slice A5 k c5) rfl rfl rfl (by kernel_rfl) (by kernel_rfl) (by kernel_rfl) (fun _ _ _ h => h) rfl hHeld ?_
        simp only [Act.put, List.setIfInBounds_toArray, List.set_cons_zero, List.set_cons_succ]
        refine take_if 1 (.agg (idv ZC)) rfl (by kernel_rfl) (by kernel_rfl) (by kernel_rfl) (fun _ _ _ h => h) rfl hHeld (fun w' hw' => ?_) ?_
        · exact id_load hw'.1 HZL.out rfl rfl
        simp only [Act.put, List.setIfInBounds_toArray, List.set_cons_zero, List.set_cons_succ]
        refine take_move 2 (.tmp 5) (.slice A5 k c5) rfl rfl rfl (by kernel_rfl) (by kernel_rfl) (by kernel_rfl) (fun _ _ _ h => h) rfl hHeld ?_
        simp only [Act.put, List.setIfInBounds_toArray, List.set_cons_zero, List.set_cons_succ]
        refine take_run 3 (.int .i64 k) rfl (by kernel_rfl) (by kernel_rfl) (by kernel_rfl) (fun _ _ _ h => h) rfl hHeld (fun w => ?_) ?_
        · go_simp
        simp only [Act.put, List.setIfInBounds_toArray, List.set_cons_zero, List.set_cons_succ]
        refine take_run 4 (.int .i64 (62 * k)) rfl (by kernel_rfl) (by kernel_rfl) (by kernel_rfl) (fun _ _ _ h => h) rfl hHeld (fun w => ?_) ?_
        · go_simp
        simp only [Act.put, List.setIfInBounds_toArray, List.set_cons_zero, List.set_cons_succ]
        refine take_run 5 (.slice A5 k c5) rfl (by kernel_rfl) (by kernel_rfl) (by kernel_rfl) (fun _ _ _ h => h) rfl hHeld (fun w => ?_) ?_
        · go_simp
        simp only [Act.put, List.setIfInBounds_toArray, List.set_cons_zero, List.set_cons_succ]
        refine one_step 6 (by kernel_rfl) rfl (fun Kq hKq => ?_)
        refine step_store_b 27 _ _ rfl w.heap.size ZC noughtsC rfl rfl 27 hzd (info32 HZL.out) (by rw [HZL.out]; rfl) rfl ?_
        intro wM hgM hXM hsM
        have hSM : RowB wM w1.heap.size 27 ZC ∧ Below w.heap.size w wM ∧ OwnR 33 9 wM (w1.heap.size + 1) (.slice A5 k c5) (R.map En.row) := ⟨rowb_grown hSd.1 hgM (by omega), hSd.2.1.grown hgM hSd.2.1.size (fun q e => by cases e; exact Nat.le_refl _), hSd.2.2.far hgM (ownr_far hSd.2.2 (by omega))⟩
        refine hKq.out _ _ hSM (fun hHeld0 => ?_)
        clear hKq Kq hHeld
        have hHeld := hHeld0
        clear hHeld0
        try simp only [Act.put, List.setIfInBounds_toArray, List.set_cons_zero, List.set_cons_succ]
        refine take_run 7 (.int .i64 (62 * k)) rfl (by kernel_rfl) (by kernel_rfl) (by kernel_rfl) (fun _ _ _ h => h) rfl hHeld (fun w => ?_) ?_
        · go_simp
        simp only [Act.put, List.setIfInBounds_toArray, List.set_cons_zero, List.set_cons_succ]
        refine wpAnyH_done (by kernel_rfl) ?_ _
        go_wp2
        obtain ⟨A9, n9, c9, he9, hen9⟩ := own_ens hSM.2.2
        cases he9
        refine bodyPost_ret (v := .tuple #[.slice A5 k c5, .agg (idv ZC), .int .i64 (62 * k)]) ?_ rfl ⟨A5, k, c5, by rw [HN5.out], hen9, fun a ha => Nat.le_trans (Nat.le_succ_of_le HB1.out.size) (ownr_loc hSM.2.2 a ha), hSM.2.1⟩
        exact results_tct Tryz.results32 _ _ _ w.heap.size 27 _ (0, 0) _ rfl hXM Tryz.underlying27 rfl (info32 HZL.out) _ _ rfl rfl
      | true =>
        have h1 := of_decide_eq_true hb0
        have q1 : (k : Int) < 264 := by omega
        have q2 : (n : Int) - 62 * k < 62 := by omega
        clear hb0 hroom hlen hk h1
        go_wp2
        have hzd := hz.draw1
        refine wp_region_held_drew (S := (fun w' => RowB w' w1.heap.size 27 ZC ∧ Below w.heap.size w w' ∧ OwnR 33 9 w' (w1.heap.size + 1) (.slice A5 k c5) (R.map En.row))) (by kernel_rfl) ⟨hX.draw1, HBr.out.drew, hown.draw1⟩ (fun hHeld => ?_)
        have hSd := hHeld
        clear hX hz hown
        refine take_move 0 (.tmp 5) (.slice A5 k c5) rfl rfl rfl (by kernel_rfl) (by kernel_rfl) (by kernel_rfl) (fun _ _ _ h => h) rfl hHeld ?_
        simp only [Act.put, List.setIfInBounds_toArray, List.set_cons_zero, List.set_cons_succ]
        refine take_if 1 (.agg (idv ZC)) rfl (by kernel_rfl) (by kernel_rfl) (by kernel_rfl) (fun _ _ _ h => h) rfl hHeld (fun w' hw' => ?_) ?_
        · exact id_load hw'.1 HZL.out rfl rfl
        simp only [Act.put, List.setIfInBounds_toArray, List.set_cons_zero, List.set_cons_succ]
        refine take_move 2 (.tmp 5) (.slice A5 k c5) rfl rfl rfl (by kernel_rfl) (by kernel_rfl) (by kernel_rfl) (fun _ _ _ h => h) rfl hHeld ?_
        simp only [Act.put, List.setIfInBounds_toArray, List.set_cons_zero, List.set_cons_succ]
        refine take_run 3 (.int .i64 k) rfl (by kernel_rfl) (by kernel_rfl) (by kernel_rfl) (fun _ _ _ h => h) rfl hHeld (fun w => ?_) ?_
        · go_simp
        simp only [Act.put, List.setIfInBounds_toArray, List.set_cons_zero, List.set_cons_succ]
        refine take_run 4 (.int .i64 (62 * k)) rfl (by kernel_rfl) (by kernel_rfl) (by kernel_rfl) (fun _ _ _ h => h) rfl hHeld (fun w => ?_) ?_
        · go_simp
        simp only [Act.put, List.setIfInBounds_toArray, List.set_cons_zero, List.set_cons_succ]
        refine take_run 5 (.slice A5 k c5) rfl (by kernel_rfl) (by kernel_rfl) (by kernel_rfl) (fun _ _ _ h => h) rfl hHeld (fun w => ?_) ?_
        · go_simp
        simp only [Act.put, List.setIfInBounds_toArray, List.set_cons_zero, List.set_cons_succ]
        refine one_step 6 (by kernel_rfl) rfl (fun Kq hKq => ?_)
        refine step_store_b 27 _ _ rfl w.heap.size ZC noughtsC rfl rfl 27 hzd (info32 HZL.out) (by rw [HZL.out]; rfl) rfl ?_
        intro wM hgM hXM hsM
        have hSM : RowB wM w1.heap.size 27 ZC ∧ Below w.heap.size w wM ∧ OwnR 33 9 wM (w1.heap.size + 1) (.slice A5 k c5) (R.map En.row) := ⟨rowb_grown hSd.1 hgM (by omega), hSd.2.1.grown hgM hSd.2.1.size (fun q e => by cases e; exact Nat.le_refl _), hSd.2.2.far hgM (ownr_far hSd.2.2 (by omega))⟩
        refine hKq.out _ _ hSM (fun hHeld0 => ?_)
        clear hKq Kq hHeld
        have hHeld := hHeld0
        clear hHeld0
        try simp only [Act.put, List.setIfInBounds_toArray, List.set_cons_zero, List.set_cons_succ]
        refine take_run 7 (.int .i64 (62 * k)) rfl (by kernel_rfl) (by kernel_rfl) (by kernel_rfl) (fun _ _ _ h => h) rfl hHeld (fun w => ?_) ?_
        · go_simp
        simp only [Act.put, List.setIfInBounds_toArray, List.set_cons_zero, List.set_cons_succ]
        refine wpAnyH_done (by kernel_rfl) ?_ _
        go_wp2
        obtain ⟨A9, n9, c9, he9, hen9⟩ := own_ens hSM.2.2
        cases he9
        refine bodyPost_ret (v := .tuple #[.slice A5 k c5, .agg (idv ZC), .int .i64 (62 * k)]) ?_ rfl ⟨A5, k, c5, by rw [HN5.out], hen9, fun a ha => Nat.le_trans (Nat.le_succ_of_le HB1.out.size) (ownr_loc hSM.2.2 a ha), hSM.2.1⟩
        exact results_tct Tryz.results32 _ _ _ w.heap.size 27 _ (0, 0) _ rfl hXM Tryz.underlying27 rfl (info32 HZL.out) _ _ rfl rfl
theorem rreadc_any (A : Option Addr) (n c : Nat) (b : List Int) (w : World) (hb : Bts w A n c b) :
    Calls Tryz.prog 32 #[.slice A n c] w (GRd (readC b) (headC (readC b)) (readC b).length w) :=
  (rreadl_any A n c b w hb).mono fun e w' ⟨A, n, c, he, h1, _, h2⟩ => ⟨A, n, c, he, h1, h2⟩
end Go.Proofs.YtafmompplcaadaaGreatDoor

/- The walk over the document's Verify of bytes. -/
namespace Go.Proofs.YtafmompplcaadaaGreatDoor
set_option maxRecDepth 100000
set_option linter.unusedVariables false
set_option linter.unusedSimpArgs false
open Go.RowKit

/-- gives a head and what is wrong -/
def GV (Z : List Int) (x : Int) (w : World) (e : Ending) (w' : World) : Prop := e = .returned (.tuple #[.agg (idv Z), .int .i64 x]) ∧ Below w.heap.size w w'
end Go.Proofs.YtafmompplcaadaaGreatDoor
