/- What package group does: six contracts that its own walks must bring; the chapter's example over them. -/
import Derived.Test.YtlejeecnkbapmaaGrpRSets
namespace Go.Proofs.Ytlejeecnkbapmaa
set_option maxRecDepth 100000
set_option linter.unusedVariables false
set_option linter.unusedSimpArgs false
open Go.RowKit

structure GrpOk : Prop where
  may : ∀ (A : Option Addr) (n c : Nat) (m : List Int) (X : World), Its .i64 X A n c m → n ≤ 1000 → Calls Try.prog 16 #[.slice A n c] X fun e w' => e = .returned (.bool (mayM m)) ∧ Below X.heap.size X w'
  free : ∀ (A : Option Addr) (n c : Nat) (m : List Int) (s : Int) (X : World), Its .i64 X A n c m → n ≤ 1000 → Calls Try.prog 17 #[.slice A n c, .int .i64 s] X fun e w' => e = .returned (.bool (freeM m s)) ∧ Below X.heap.size X w'
  against : ∀ (A : Option Addr) (n c : Nat) (m : List Int) (s : Int) (X : World), Its .i64 X A n c m → n ≤ 1000 → Calls Try.prog 18 #[.slice A n c, .int .i64 s] X fun e w' => e = .returned (.int .i64 (againstM m s)) ∧ Below X.heap.size X w'
  sets : ∀ (A : Option Addr) (n c : Nat) (m : List Int) (X : World), Its .i64 X A n c m → n ≤ 1000 → Calls Try.prog 12 #[.slice A n c] X (GivesL (setsM m) X)
  list : ∀ (s : Int) (X : World), Calls Try.prog 14 #[.int .i64 s] X (GivesL (listM s) X)
  of : ∀ (A : Option Addr) (n c : Nat) (l : List Int) (X : World), Its .i64 X A n c l → n ≤ 1000 → Calls Try.prog 20 #[.slice A n c] X fun e w' => e = .returned (.int .i64 (ofM l)) ∧ Below X.heap.size X w'
def exM : List Int := [2, 1, 0]
theorem ex_may : mayM exM = true := by decide +kernel
theorem ex_sets : setsM exM = [5, 6] := by decide +kernel
theorem ex_five : freeM exM 5 = true := by decide +kernel
theorem ex_three : freeM exM 3 = false := by decide +kernel
theorem ex_against : againstM exM 1 = 2 := by decide +kernel
theorem ex_of : ofM [0, 2] = 5 := by decide +kernel
theorem ex_list : listM 5 = [0, 2] := by decide +kernel
theorem lit_three (W : World) (x y z : Int) : Its .i64 (W.alloc (.cells #[.int .i64 x, .int .i64 y, .int .i64 z] 3 (0, 0))) (some ⟨W.heap.size, 0, none⟩) 3 3 [x, y, z] := by
  refine ⟨rfl, Nat.le_refl _, by unfold maxLen; omega, (fun h => by cases h), fun _ => ⟨_, 0, rfl, fun j hj => ?_⟩⟩
  rw [cell_of_row _ _ _ _ _ _ (heap_alloc_new W _)]
  match j, hj with
  | 0, _ => rfl
  | 1, _ => rfl
  | 2, _ => rfl
theorem lit_two (W : World) (x y : Int) : Its .i64 (W.alloc (.cells #[.int .i64 x, .int .i64 y] 3 (0, 0))) (some ⟨W.heap.size, 0, none⟩) 2 2 [x, y] := by
  refine ⟨rfl, Nat.le_refl _, by unfold maxLen; omega, (fun h => by cases h), fun _ => ⟨_, 0, rfl, fun j hj => ?_⟩⟩
  rw [cell_of_row _ _ _ _ _ _ (heap_alloc_new W _)]
  match j, hj with
  | 0, _ => rfl
  | 1, _ => rfl
set_option maxHeartbeats 4000000 in
theorem gawake_any (HG : GrpOk) (w : World) : Calls Try.prog 8 #[] w fun e w' => e = .returned (.bool true) ∧ Below w.heap.size w w' := by
  obtain ⟨W, hW⟩ : ∃ W, w.alloc (.cells #[.int .i64 2, .int .i64 1, .int .i64 0] 3 (0, 0)) = W := ⟨_, rfl⟩
  have hit : Its .i64 W (some ⟨w.heap.size, 0, none⟩) 3 3 exM := by rw [← hW]; exact lit_three w 2 1 0
  have HW := Lib.hid (show Below w.heap.size w W by rw [← hW]; exact one_alloc w _)
  have HSE := Lib.hid (HG.sets _ _ _ _ W hit (by omega))
  have HMY := Lib.hid (fun (X : World) (hX : Below W.heap.size W X) => HG.may _ _ _ _ X (hit.below hX) (by omega))
  have HF5 := Lib.hid (fun (X : World) (hX : Below W.heap.size W X) => HG.free _ _ _ _ 5 X (hit.below hX) (by omega))
  have HF3 := Lib.hid (fun (X : World) (hX : Below W.heap.size W X) => HG.free _ _ _ _ 3 X (hit.below hX) (by omega))
  have HAG := Lib.hid (fun (X : World) (hX : Below W.heap.size W X) => HG.against _ _ _ _ 1 X (hit.below hX) (by omega))
  have HOF := Lib.hid (fun (X : World) => HG.of _ _ _ [0, 2] (X.alloc (.cells #[.int .i64 0, .int .i64 2] 3 (0, 0))) (lit_two X 0 2) (by omega))
  have HLI := Lib.hid (fun (X : World) => HG.list 5 X)
  rw [ex_sets] at HSE
  simp only [ex_may] at HMY
  simp only [ex_five] at HF5
  simp only [ex_three] at HF3
  simp only [ex_against] at HAG
  simp only [ex_of] at HOF
  simp only [ex_list] at HLI
  clear hit HG
  go_enter Try.func8, Try.ntmps8
  go_wp2_with (first
    | (go_at_call 12
       (with_reducible refine HSE.out.mono ?_)
       rintro e w1 ⟨A, n, c, rfl, hit, hb1⟩
       obtain rfl : 2 = n := hit.len
       obtain ⟨b, off, rfl, hc⟩ := hit.at_ (by omega)
       have HC := Lib.hid hc
       have HB1 := Lib.hid hb1
       clear hit hc hb1)
    | (go_at_call 16
       (with_reducible refine (HMY.out _ HB1.out).mono ?_)
       rintro e w2 ⟨rfl, hbx⟩
       have y0 : w2.cell? ⟨b, off, none⟩ = some (.int .i64 5) := (hbx.cell (p := ⟨b, off, none⟩) (block_lt_of_cell (HC.out 0 (by omega)))).trans (HC.out 0 (by omega))
       have y1 : w2.cell? ⟨b, off + 1, none⟩ = some (.int .i64 6) := (hbx.cell (p := ⟨b, off + 1, none⟩) (block_lt_of_cell (HC.out 1 (by omega)))).trans (HC.out 1 (by omega))
       have HB2 := Lib.hid (HB1.out.trans (hbx.mono HB1.out.size))
       clear hbx)
    | (go_at_call 17
       (with_reducible refine (HF5.out _ HB2.out).mono ?_)
       rintro e w3 ⟨rfl, hbx⟩
       have HB3 := Lib.hid (HB2.out.trans (hbx.mono HB2.out.size))
       clear hbx y0 y1)
    | (go_at_call 17
       (with_reducible refine (HF3.out _ HB3.out).mono ?_)
       rintro e w4 ⟨rfl, hbx⟩
       have HB4 := Lib.hid (HB3.out.trans (hbx.mono HB3.out.size))
       clear hbx)
    | (go_at_call 18
       (with_reducible refine (HAG.out _ HB4.out).mono ?_)
       rintro e w5 ⟨rfl, hbx⟩
       have HB5 := Lib.hid (HB4.out.trans (hbx.mono HB4.out.size))
       clear hbx)
    | (go_at_call 20
       (with_reducible refine (HOF.out w5).mono ?_)
       rintro e w6 ⟨rfl, hbx⟩
       have HB6 := Lib.hid ((HB5.out.alloc HB5.out.size _).trans (hbx.mono (HB5.out.alloc HB5.out.size _).size))
       clear hbx)
    | (go_at_call 14
       (with_reducible refine (HLI.out _).mono ?_)
       rintro e w7 ⟨A7, n7, c7, rfl, hit7, hbx⟩
       obtain rfl : 2 = n7 := hit7.len
       have HB7 := Lib.hid (HB6.out.trans (hbx.mono HB6.out.size))
       clear hbx hit7))
  go_ret
  exact ⟨rfl, HW.out.trans (HB7.out.mono HW.out.size)⟩
end Go.Proofs.Ytlejeecnkbapmaa
