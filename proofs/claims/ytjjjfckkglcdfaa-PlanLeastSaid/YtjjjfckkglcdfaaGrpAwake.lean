/- What package group does: six contracts that its own walks must bring; the chapter's example over them. -/
import Derived.Test.YtjjjfckkglcdfaaGrpRSets
namespace Go.Proofs.Ytjjjfckkglcdfaa
set_option maxRecDepth 100000
set_option linter.unusedVariables false
set_option linter.unusedSimpArgs false
open Go.RowKit

def exM : List Int := [2, 1, 0]
theorem ex_may : mayM exM = true := by decide +kernel
theorem ex_sets : setsM exM = [5, 6] := by decide +kernel
theorem ex_five : freeM exM 5 = true := by decide +kernel
theorem ex_three : freeM exM 3 = false := by decide +kernel
theorem ex_against : againstM exM 1 = 2 := by decide +kernel
theorem ex_of : ofM [0, 2] = 5 := by decide +kernel
theorem ex_list : listM 5 = [0, 2] := by decide +kernel
theorem lit_three (W : World) (x y z : Int) : Its .i64 (W.alloc (.cells #[.int .i64 x, .int .i64 y, .int .i64 z] 3 (0, 0))) (some ⟨W.heap.size, 0, none⟩) 3 3 [x, y, z] := by
  refine ⟨rfl, Nat.le_refl _, by unfold maxLen; omega, (fun h => by cases h), fun _ => ⟨_, 0, rfl, fun j hj => ?_⟩⟩
  rw [cell_of_row _ _ _ _ _ _ (heap_alloc_new W _)]
  match j, hj with
  | 0, _ => rfl
  | 1, _ => rfl
  | 2, _ => rfl
theorem lit_two (W : World) (x y : Int) : Its .i64 (W.alloc (.cells #[.int .i64 x, .int .i64 y] 3 (0, 0))) (some ⟨W.heap.size, 0, none⟩) 2 2 [x, y] := by
  refine ⟨rfl, Nat.le_refl _, by unfold maxLen; omega, (fun h => by cases h), fun _ => ⟨_, 0, rfl, fun j hj => ?_⟩⟩
  rw [cell_of_row _ _ _ _ _ _ (heap_alloc_new W _)]
  match j, hj with
  | 0, _ => rfl
  | 1, _ => rfl
end Go.Proofs.Ytjjjfckkglcdfaa
