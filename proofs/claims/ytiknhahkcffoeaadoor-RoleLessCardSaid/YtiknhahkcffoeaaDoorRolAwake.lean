/- The chapter's examples; the laws RoleRed, RoleLess, RoleNames, walked. -/
import Derived.Test.YtiknhahkcffoeaaDoorRolRead
namespace Go.Proofs.YtiknhahkcffoeaaDoor
set_option linter.unusedVariables false
set_option linter.unusedSimpArgs false
open Go.RowKit

theorem all1 : allB 1 = [0, 1, 2, 3, 7] := by decide
theorem who4 : whoB 4 = [2] := by decide
def clearS : ByteArray := ⟨#[99, 108, 101, 97, 114]⟩
theorem read_clear : readB ⟨#[99, 108, 101, 97, 114]⟩ = 6 := read_hit _ 6 (by omega) (by decide +kernel) (by decide +kernel)
theorem name6 : nameB 6 = ⟨#[99, 108, 101, 97, 114]⟩ := by decide +kernel
theorem then_below {w w1 w2 : World} (h1 : Below w.heap.size w w1) (h2 : Below w1.heap.size w1 w2) : Below w.heap.size w w2 := h1.trans (h2.mono h1.size)

set_option maxHeartbeats 1000000 in
theorem awake_any (w : World) (hT : Tabs w) : Calls Tryd.prog 8 #[] w fun e w' => e = .returned (.bool true) ∧ Below w.heap.size w w' := by
  go_enter Tryd.func8, Tryd.ntmps8
  go_wp2_with (first
    | (go_at_call 13; refine (all_any 1 w hT).mono ?_; rintro e w1 ⟨A1, n1, c1, rfl, hi1, hB1⟩
       rw [all1] at hi1
       obtain rfl : n1 = 5 := hi1.len.symm
       obtain ⟨b1, o1, rfl, hc1⟩ := hi1.at_ (by omega)
       have q4 : w1.cell? ⟨b1, o1 + 4, none⟩ = some (.int .i64 7) := hc1 4 (by omega)
       have hT1 := hT.below hB1
       clear hc1 hi1)
    | (go_at_call 22; refine (read_any ⟨#[99, 108, 101, 97, 114]⟩ w1 hT1).mono ?_; rintro e w2 ⟨he, rfl⟩; rw [read_clear] at he; subst he)
    | (go_at_call 20; refine (name_any 6 _ hT1).mono ?_; rintro e w3 ⟨he, rfl⟩; rw [name6] at he; subst he)
    | (go_at_call 17; refine (is_any 0 _).mono ?_; rintro e w4 ⟨he, rfl⟩; rw [show isB 0 = true from rfl] at he; subst he)
    | (go_at_call 18; refine (may_any 2 4 _ hT1).mono ?_; rintro e w5 ⟨he, rfl⟩; rw [show mayB 2 4 = true from rfl] at he; subst he)
    | (go_at_call 19; refine (turns_any 5 _).mono ?_; rintro e w6 ⟨he, rfl⟩; rw [show turnsB 5 = true from rfl] at he; subst he)
    | (go_at_call 15; refine (who_any 4 _ hT1).mono ?_; rintro e w7 ⟨A7, n7, c7, rfl, hi7, hB7⟩
       rw [who4] at hi7
       obtain rfl : n7 = 1 := hi7.len.symm))
  go_ret
  exact ⟨rfl, then_below hB1 hB7⟩
end Go.Proofs.YtiknhahkcffoeaaDoor
