/- The walk over the law FrameLong: each kind has its own length; frames of two kinds have other bytes. -/
import Derived.Test.YtadcbikdbekmgaaFrmAwake
import Derived.Test.YtadcbikdbekmgaaBasTake
namespace Go.Proofs.Ytadcbikdbekmgaa
set_option linter.unusedVariables false
set_option linter.unusedSimpArgs false
open Go.RowKit

def lens : List Nat := [12, 15, 43, 43, 54, 54, 4]
theorem len_kind {f : Fr} (hok : f.ok) (h : plainB f = true) : ∃ K : Nat, f.kind = (K : Int) ∧ K < 7 ∧ (putF f).length = lens.getD K 0 := by
  rw [putF_length hok.len]
  rcases kind_cases (plain_facts h).1 with hk | hk | hk | hk | hk | hk | hk <;> rw [hk]
  · exact ⟨0, rfl, by omega, rfl⟩
  · exact ⟨1, rfl, by omega, rfl⟩
  · exact ⟨2, rfl, by omega, rfl⟩
  · exact ⟨3, rfl, by omega, rfl⟩
  · exact ⟨4, rfl, by omega, rfl⟩
  · exact ⟨5, rfl, by omega, rfl⟩
  · exact ⟨6, rfl, by omega, rfl⟩
theorem lens_at (w : World) (K L : Nat) (hK : K < 7) (h : lens.getD K 0 = L) :
    (w.alloc (.cells #[.int .i64 12, .int .i64 15, .int .i64 43, .int .i64 43, .int .i64 54, .int .i64 54, .int .i64 4] 3)).cell? ⟨w.heap.size, K, none⟩ = some (.int .i64 (L : Int)) := by
  subst h
  rw [cell_of_row _ _ _ _ _ _ (heap_alloc_new w _)]
  have : K = 0 ∨ K = 1 ∨ K = 2 ∨ K = 3 ∨ K = 4 ∨ K = 5 ∨ K = 6 := by omega
  rcases this with rfl | rfl | rfl | rfl | rfl | rfl | rfl <;> rfl
theorem run_eq_fr {op : BinOp} {ρ : Operand → Value} {o : Oper} {x y : Operand} {xs ys : Array Value} {E r : Bool} {w : World} (ho : o.op = .binOp op 26 x y 26) (hx : ρ x = .agg xs) (hy : ρ y = .agg ys) (hr : op = .eql ∧ r = E ∨ op = .neq ∧ r = !E)
    (h : (Op.equalIn 10000 26 (.agg xs) (.agg ys)).run Try.prog w = .ok E w) : (execOp ρ o).run Try.prog w = .ok (.value (.bool r)) w := by
  unfold execOp
  rw [ho]
  have hm : Try.prog.eqGuardType Try.prog.depth 26 = false := by kernel_rfl
  rcases hr with ⟨rfl, rfl⟩ | ⟨rfl, rfl⟩
  · simp only [hx, hy, Sem.run_bind, run_eqGuard_agg (hm := hm), run_eql_struct, h, Result.andThen_ok, Sem.run_pure, Sem.run_map]
  · simp only [hx, hy, Sem.run_bind, run_eqGuard_agg (hm := hm), run_neq_struct, h, Result.andThen_ok, Sem.run_pure, Sem.run_map]
theorem frA_arr (f : Fr) : frA f = (frC f).toArray := rfl
theorem info_row {C : List Value} (h : C.length = 40) : (Try.prog.info? 26).map (·.size) = some C.length := by rw [h]; kernel_rfl

set_option maxRecDepth 100000 in
set_option maxHeartbeats 2000000 in
theorem flong_no (f g : Fr) (w : World) (hf : f.ok) (hg : g.ok) (hp : plainB f = false) :
    Calls Try.prog 8 #[frV f, frV g] w fun e w' => e = .returned (.bool true) ∧ Below w.heap.size w w' := by
  have hpc := fun w => put_plain_b f w hf false hp
  obtain ⟨Y, hY⟩ : ∃ Y, (if plainB g then putF g else []) = Y := ⟨_, rfl⟩
  obtain ⟨q, hq⟩ : ∃ q, plainB g = q := ⟨_, rfl⟩
  have hqc := fun w => put_plain_b g w hg (plainB g) rfl
  rw [hY, hq] at hqc
  have hCs := frA_size hf.len
  have hDs := frA_size hg.len
  unfold frV at hpc hqc ⊢
  obtain ⟨C, hC⟩ : ∃ C, frA f = C := ⟨_, rfl⟩
  obtain ⟨D, hD⟩ : ∃ D, frA g = D := ⟨_, rfl⟩
  rw [hC] at hpc hCs ⊢
  rw [hD] at hqc hDs ⊢
  have HP := Lib.hid hpc
  have HQ := Lib.hid hqc
  have HCS := Lib.hid hCs
  have HDS := Lib.hid hDs
  clear hpc hqc hCs hDs hC hD hY hq
  go_enter Try.func8, Try.ntmps8
  go_wp2_with (first
    | (go_at_call 9; (with_reducible refine (fawake_any _).mono ?_); rintro e w1 ⟨rfl, hb1⟩
       obtain ⟨hB1, _, hX1, hZ1⟩ := after_two hb1)
    | ((with_reducible refine wpList_load_blk 26 _ rfl w.heap.size ?hx2 26 C (0, 0) _ hX1 Try.underlying26 ?hd2 (info_frame HCS.out) ?_ ?hw2); (case hx2 => rfl); (case hd2 => rfl); (case hw2 => rfl))
    | (go_at_call 10; (with_reducible refine (HP.out _).mono ?_); rintro e w2 ⟨A2, m2, c2, rfl, hv2, hb2⟩
       have hB2 := hB1.trans (hb2.mono hB1.size)
       have hZ2 := (hb2.block _ (Array.getElem?_eq_some_iff.1 hZ1).1).trans hZ1)
    | ((with_reducible refine wpList_load_blk 26 _ rfl (w.heap.size + 1) ?hx3 26 D (0, 0) _ hZ2 Try.underlying26 ?hd3 (info_frame HDS.out) ?_ ?hw3); (case hx3 => rfl); (case hd3 => rfl); (case hw3 => rfl))
    | (go_at_call 10; (with_reducible refine (HQ.out _).mono ?_); rintro e w3 ⟨A3, m3, c3, rfl, hv3, hb3⟩
       have hB3 := hB2.trans (hb3.mono hB2.size)))
  go_ret
  exact ⟨rfl, hB3⟩

set_option maxRecDepth 100000 in
set_option maxHeartbeats 2000000 in
theorem flong_yes (f g : Fr) (w : World) (hf : f.ok) (hg : g.ok) (hp : plainB f = true) (q : Bool) (hq : plainB g = q) :
    Calls Try.prog 8 #[frV f, frV g] w fun e w' => e = .returned (.bool true) ∧ Below w.heap.size w w' := by
  obtain ⟨K, hk, hK7, hlen⟩ := len_kind hf hp
  have hpc := fun w => put_plain_b f w hf true hp
  rw [if_pos rfl] at hpc
  have hqc := fun w => put_plain_b g w hg q hq
  have hok1 := putF_ok hf
  obtain ⟨X, hX⟩ : ∃ X, putF f = X := ⟨_, rfl⟩
  obtain ⟨Y, hY⟩ : ∃ Y, (if q then putF g else []) = Y := ⟨_, rfl⟩
  rw [hX] at hpc hlen hok1
  rw [hY] at hqc
  have hok2 : ∀ j, 0 ≤ Y.getD j 0 ∧ Y.getD j 0 < 256 := by
    rw [← hY]
    cases q
    · exact ok_nil
    · exact putF_ok hg
  have hEq : q = true → ((X == Y) = eqFr f g) := by
    intro h
    subst h
    rw [if_pos rfl] at hY
    rw [Bool.eq_iff_iff, beq_iff_eq, eqFr_iff, ← hX, ← hY]
    exact ⟨fun e => put_inj hf hg hp hq e, fun e => by rw [e]⟩
  have hfe := fun w => eq_frames f g hf.len hg.len w
  have hCs := frC_length hf.len
  have hDs := frC_length hg.len
  have hC0 : (frC f)[0]? = some (.int .i64 (K : Int)) := by rw [← hk]; rfl
  have hK6 : (K : Int) ≤ 6 := by omega
  unfold frV at hpc hqc ⊢
  rw [frA_arr, frA_arr] at hfe
  rw [frA_arr] at hpc hqc ⊢
  rw [frA_arr]
  obtain ⟨C, hC⟩ : ∃ C, frC f = C := ⟨_, rfl⟩
  obtain ⟨D, hD⟩ : ∃ D, frC g = D := ⟨_, rfl⟩
  rw [hC] at hpc hCs hC0 hfe ⊢
  rw [hD] at hqc hDs hfe ⊢
  obtain ⟨E, hE⟩ : ∃ E, eqFr f g = E := ⟨_, rfl⟩
  obtain ⟨L, hL⟩ : ∃ L, lens.getD K 0 = L := ⟨_, rfl⟩
  rw [hL] at hlen
  have HL := Lib.hid hL
  rw [hE] at hfe hEq
  have HP := Lib.hid hpc
  have HQ := Lib.hid hqc
  have HCS := Lib.hid hCs
  have HDS := Lib.hid hDs
  have HC0 := Lib.hid hC0
  have HCA : Hid (C.toArray.size = 40) := Lib.hid hCs
  have HDA : Hid (D.toArray.size = 40) := Lib.hid hDs
  have HLEN := Lib.hid hlen
  have HOK1 := Lib.hid hok1
  have HOK2 := Lib.hid hok2
  have HEQ := Lib.hid hEq
  have HFE := Lib.hid hfe
  clear hpc hqc hCs hDs hC hD hX hY hC0 hlen hok1 hok2 hEq hfe hE hq hp hk hL
  go_enter Try.func8, Try.ntmps8
  go_wp2_with (first
    | (go_at_call 9; (with_reducible refine (fawake_any _).mono ?_); rintro e w1 ⟨rfl, hb1⟩
       obtain ⟨hB1, _, hX1, hZ1⟩ := after_two hb1)
    | ((with_reducible refine wpList_load_blk 26 _ rfl w.heap.size ?hx2 26 C.toArray (0, 0) _ hX1 Try.underlying26 ?hd2 (info_frame HCA.out) ?_ ?hw2); (case hx2 => rfl); (case hd2 => rfl); (case hw2 => rfl))
    | (go_at_call 10; (with_reducible refine (HP.out _).mono ?_); rintro e w2 ⟨A2, m2, c2, rfl, hv2, hb2⟩
       have hB2 := hB1.trans (hb2.mono hB1.size)
       have hX2 := (hb2.block _ (Array.getElem?_eq_some_iff.1 hX1).1).trans hX1
       have hZ2 := (hb2.block _ (Array.getElem?_eq_some_iff.1 hZ1).1).trans hZ1)
    | ((with_reducible refine wpList_load_blk 26 _ rfl (w.heap.size + 1) ?hx3 26 D.toArray (0, 0) _ hZ2 Try.underlying26 ?hd3 (info_frame HDA.out) ?_ ?hw3); (case hx3 => rfl); (case hd3 => rfl); (case hw3 => rfl))
    | (go_at_call 10; (with_reducible refine (HQ.out _).mono ?_); rintro e w3 ⟨A3, m3, c3, rfl, hv3, hb3⟩
       have hB3 := hB2.trans (hb3.mono hB2.size)
       have hX3 := (hb3.block _ (Array.getElem?_eq_some_iff.1 hX2).1).trans hX2
       have hZ3 := (hb3.block _ (Array.getElem?_eq_some_iff.1 hZ2).1).trans hZ2
       have hv23 := hv2.below hb3
       have q0 : ∀ o : Obj, (w3.alloc o).cell? ⟨w.heap.size, 0, none⟩ = some (.int .i64 (K : Int)) := fun o => (cell_of_row _ _ _ _ _ _ (two_rows_in hX3 o)).trans (by rw [List.getElem?_toArray]; exact HC0.out)
       have qk := lens_at w3 K L hK7 HL.out
       obtain rfl : m2 = L := by rw [← hv2.len, HLEN.out]))
  have hBo := hB3.trans ((mac_alloc w3 (.cells #[.int .i64 12, .int .i64 15, .int .i64 43, .int .i64 43, .int .i64 54, .int .i64 54, .int .i64 4] 3)).mono hB3.size)
  have hX4 := two_rows_in hX3 (.cells #[.int .i64 12, .int .i64 15, .int .i64 43, .int .i64 43, .int .i64 54, .int .i64 54, .int .i64 4] 3)
  have hZ4 := two_rows_in hZ3 (.cells #[.int .i64 12, .int .i64 15, .int .i64 43, .int .i64 43, .int .i64 54, .int .i64 54, .int .i64 4] 3)
  have hv4 := hv23.more (.cells #[.int .i64 12, .int .i64 15, .int .i64 43, .int .i64 43, .int .i64 54, .int .i64 54, .int .i64 4] 3)
  have hu4 := hv3.more (.cells #[.int .i64 12, .int .i64 15, .int .i64 43, .int .i64 43, .int .i64 54, .int .i64 54, .int .i64 4] 3)
  obtain ⟨W, hW⟩ : ∃ W, W = w3.alloc (.cells #[.int .i64 12, .int .i64 15, .int .i64 43, .int .i64 43, .int .i64 54, .int .i64 54, .int .i64 4] 3) := ⟨_, rfl⟩
  rw [← hW] at hBo hX4 hZ4 hv4 hu4 ⊢
  have HX4 := Lib.hid hX4
  have HZ4 := Lib.hid hZ4
  have HV4 := Lib.hid hv4
  have HU4 := Lib.hid hu4
  clear hW q0 qk hX4 hZ4 hv4 hu4 hX1 hX2 hX3 hZ1 hZ2 hZ3 hv23 hv2 hv3 hb1 hb2 hb3 hB1 hB2 hB3
  have hb : ∀ w', Below W.heap.size W w' → w'.heap[w.heap.size]? = some (.cells C.toArray 26 (0, 0)) := fun w' h => (h.block _ (Array.getElem?_eq_some_iff.1 HX4.out).1).trans HX4.out
  have hd : ∀ w', Below W.heap.size W w' → w'.heap[w.heap.size + 1]? = some (.cells D.toArray 26 (0, 0)) := fun w' h => (h.block _ (Array.getElem?_eq_some_iff.1 HZ4.out).1).trans HZ4.out
  refine wp_region_held_drew (S := (fun w' => Below W.heap.size W w')) (by kernel_rfl) (Below.refl _ _).drew (fun hHeld => ?_)
  refine take_move 0 (.tmp 9) (.bool q) rfl rfl rfl (by kernel_rfl) (by kernel_rfl) (by kernel_rfl) (fun _ _ _ h => h) rfl hHeld ?_
  simp only [Act.put, List.setIfInBounds_toArray, List.set_cons_zero, List.set_cons_succ]
  refine take_run 1 (.bool (!q)) rfl (by kernel_rfl) (by kernel_rfl) (by kernel_rfl) (fun _ _ _ h => h) rfl hHeld (fun w => ?_) ?_
  · go_simp
  simp only [Act.put, List.setIfInBounds_toArray, List.set_cons_zero, List.set_cons_succ]
  refine take_move 2 (.tmp 49) (.bool (!q)) rfl rfl rfl (by kernel_rfl) (by kernel_rfl) (by kernel_rfl) (fun _ _ _ h => h) rfl hHeld ?_
  simp only [Act.put, List.setIfInBounds_toArray, List.set_cons_zero, List.set_cons_succ]
  cases q with
  | false =>
    refine take_off 3 rfl (by kernel_rfl) (by kernel_rfl) (by kernel_rfl) (fun _ _ _ h => h) rfl hHeld ?_
    simp only [Act.put, List.setIfInBounds_toArray, List.set_cons_zero, List.set_cons_succ]
    refine take_off 4 rfl (by kernel_rfl) (by kernel_rfl) (by kernel_rfl) (fun _ _ _ h => h) rfl hHeld ?_
    simp only [Act.put, List.setIfInBounds_toArray, List.set_cons_zero, List.set_cons_succ]
    refine take_off 5 rfl (by kernel_rfl) (by kernel_rfl) (by kernel_rfl) (fun _ _ _ h => h) rfl hHeld ?_
    simp only [Act.put, List.setIfInBounds_toArray, List.set_cons_zero, List.set_cons_succ]
    refine take_off 6 rfl (by kernel_rfl) (by kernel_rfl) (by kernel_rfl) (fun _ _ _ h => h) rfl hHeld ?_
    simp only [Act.put, List.setIfInBounds_toArray, List.set_cons_zero, List.set_cons_succ]
    refine take_off 7 rfl (by kernel_rfl) (by kernel_rfl) (by kernel_rfl) (fun _ _ _ h => h) rfl hHeld ?_
    simp only [Act.put, List.setIfInBounds_toArray, List.set_cons_zero, List.set_cons_succ]
    refine take_off 8 rfl (by kernel_rfl) (by kernel_rfl) (by kernel_rfl) (fun _ _ _ h => h) rfl hHeld ?_
    simp only [Act.put, List.setIfInBounds_toArray, List.set_cons_zero, List.set_cons_succ]
    refine take_off 9 rfl (by kernel_rfl) (by kernel_rfl) (by kernel_rfl) (fun _ _ _ h => h) rfl hHeld ?_
    simp only [Act.put, List.setIfInBounds_toArray, List.set_cons_zero, List.set_cons_succ]
    refine take_off 10 rfl (by kernel_rfl) (by kernel_rfl) (by kernel_rfl) (fun _ _ _ h => h) rfl hHeld ?_
    simp only [Act.put, List.setIfInBounds_toArray, List.set_cons_zero, List.set_cons_succ]
    refine take_off 11 rfl (by kernel_rfl) (by kernel_rfl) (by kernel_rfl) (fun _ _ _ h => h) rfl hHeld ?_
    simp only [Act.put, List.setIfInBounds_toArray, List.set_cons_zero, List.set_cons_succ]
    refine take_run 12 (.bool true) rfl (by kernel_rfl) (by kernel_rfl) (by kernel_rfl) (fun _ _ _ h => h) rfl hHeld (fun w => ?_) ?_
    · go_simp
    simp only [Act.put, List.setIfInBounds_toArray, List.set_cons_zero, List.set_cons_succ]
    refine take_run 13 (.bool true) rfl (by kernel_rfl) (by kernel_rfl) (by kernel_rfl) (fun _ _ _ h => h) rfl hHeld (fun w => ?_) ?_
    · go_simp
    simp only [Act.put, List.setIfInBounds_toArray, List.set_cons_zero, List.set_cons_succ]
    refine wpAnyH_done (by kernel_rfl) ?_ _
    go_wp2
    go_ret
    exact ⟨rfl, hBo.drew⟩
  | true =>
    refine take_move 3 (.tmp 6) (.slice A2 m2 c2) rfl rfl rfl (by kernel_rfl) (by kernel_rfl) (by kernel_rfl) (fun _ _ _ h => h) rfl hHeld ?_
    simp only [Act.put, List.setIfInBounds_toArray, List.set_cons_zero, List.set_cons_succ]
    refine take_if 4 (.string (bstr X)) rfl (by kernel_rfl) (by kernel_rfl) (by kernel_rfl) (fun _ _ _ h => h) rfl hHeld (fun w' hw' => ?_) ?_
    · have hc := conv_bts (HV4.out.below hw')
      go_simp
    simp only [Act.put, List.setIfInBounds_toArray, List.set_cons_zero, List.set_cons_succ]
    refine take_move 5 (.tmp 8) (.slice A3 m3 c3) rfl rfl rfl (by kernel_rfl) (by kernel_rfl) (by kernel_rfl) (fun _ _ _ h => h) rfl hHeld ?_
    simp only [Act.put, List.setIfInBounds_toArray, List.set_cons_zero, List.set_cons_succ]
    refine take_if 6 (.string (bstr Y)) rfl (by kernel_rfl) (by kernel_rfl) (by kernel_rfl) (fun _ _ _ h => h) rfl hHeld (fun w' hw' => ?_) ?_
    · have hc := conv_bts (HU4.out.below hw')
      go_simp
    simp only [Act.put, List.setIfInBounds_toArray, List.set_cons_zero, List.set_cons_succ]
    refine take_run 7 (.bool E) rfl (by kernel_rfl) (by kernel_rfl) (by kernel_rfl) (fun _ _ _ h => h) rfl hHeld (fun w => ?_) ?_
    · have hc : ((bstr X).toList == (bstr Y).toList) = E := (run_eq_bstr X Y HOK1.out HOK2.out).trans (HEQ.out rfl)
      go_simp
    simp only [Act.put, List.setIfInBounds_toArray, List.set_cons_zero, List.set_cons_succ]
    refine take_long 8 26 (.tmp 2) w.heap.size C _ rfl rfl rfl (by kernel_rfl) (by kernel_rfl) (by kernel_rfl) (fun _ _ _ h => h) rfl hHeld (fun w' h => range_of_blk (hb w' h)) Try.underlying26 rfl (info_row HCS.out) ?_
    simp only [Act.put, List.setIfInBounds_toArray, List.set_cons_zero, List.set_cons_succ]
    refine take_long 9 26 (.tmp 3) (w.heap.size + 1) D _ rfl rfl rfl (by kernel_rfl) (by kernel_rfl) (by kernel_rfl) (fun _ _ _ h => h) rfl hHeld (fun w' h => range_of_blk (hd w' h)) Try.underlying26 rfl (info_row HDS.out) ?_
    simp only [Act.put, List.setIfInBounds_toArray, List.set_cons_zero, List.set_cons_succ]
    refine take_run 10 (.bool E) rfl (by kernel_rfl) (by kernel_rfl) (by kernel_rfl) (fun _ _ _ h => h) rfl hHeld (fun w => ?_) ?_
    · exact run_eq_fr rfl rfl rfl (.inl ⟨rfl, rfl⟩) (HFE.out w)
    simp only [Act.put, List.setIfInBounds_toArray, List.set_cons_zero, List.set_cons_succ]
    refine take_run 11 (.bool true) rfl (by kernel_rfl) (by kernel_rfl) (by kernel_rfl) (fun _ _ _ h => h) rfl hHeld (fun w => ?_) ?_
    · go_simp
    simp only [Act.put, List.setIfInBounds_toArray, List.set_cons_zero, List.set_cons_succ]
    refine take_run 12 (.bool true) rfl (by kernel_rfl) (by kernel_rfl) (by kernel_rfl) (fun _ _ _ h => h) rfl hHeld (fun w => ?_) ?_
    · go_simp
    simp only [Act.put, List.setIfInBounds_toArray, List.set_cons_zero, List.set_cons_succ]
    refine take_run 13 (.bool true) rfl (by kernel_rfl) (by kernel_rfl) (by kernel_rfl) (fun _ _ _ h => h) rfl hHeld (fun w => ?_) ?_
    · go_simp
    simp only [Act.put, List.setIfInBounds_toArray, List.set_cons_zero, List.set_cons_succ]
    refine wpAnyH_done (by kernel_rfl) ?_ _
    go_wp2
    go_ret
    exact ⟨rfl, hBo.drew⟩
theorem flong_all (f g : Fr) (w : World) (hf : f.ok) (hg : g.ok) :
    Calls Try.prog 8 #[frV f, frV g] w fun e w' => e = .returned (.bool true) ∧ Below w.heap.size w w' := by
  cases hp : plainB f with
  | false => exact flong_no f g w hf hg hp
  | true => exact flong_yes f g w hf hg hp _ rfl
end Go.Proofs.Ytadcbikdbekmgaa
