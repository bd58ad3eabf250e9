/- Turns, Name, and the document's own Is, May, Turns, Name; two lists of numbers held against one another. -/
import Derived.Test.YtcfkpepohnjdfaaDoorRolSpec
namespace Go.Proofs.YtcfkpepohnjdfaaDoor
set_option linter.unusedVariables false
set_option linter.unusedSimpArgs false
open Go.RowKit

theorem eight_of {c : Int} (h : cmdB c = true) : c = 0 ∨ c = 1 ∨ c = 2 ∨ c = 3 ∨ c = 4 ∨ c = 5 ∨ c = 6 ∨ c = 7 := by
  have h2 : 0 ≤ c ∧ c < 8 := by simpa [cmdB] using h
  omega
theorem four_of {r : Int} (h : isB r = true) : r = 0 ∨ r = 1 ∨ r = 2 ∨ r = 3 := by
  have h2 : 0 ≤ r ∧ r < 4 := by simpa [isB] using h
  omega
theorem no_cmd {c : Int} (h : cmdB c = false) : (c == 0) = false ∧ (c == 1) = false ∧ (c == 2) = false ∧ (c == 3) = false ∧ (c == 4) = false ∧ (c == 5) = false ∧ (c == 6) = false ∧ (c == 7) = false := by
  have h2 : ¬ (0 ≤ c ∧ c < 8) := by
    intro h3
    simp [cmdB, h3.1, h3.2] at h
  simp only [beq_eq_false_iff_ne, ne_eq]
  omega
theorem no_role {r : Int} (h : isB r = false) : (r == 0) = false ∧ (r == 1) = false ∧ (r == 2) = false ∧ (r == 3) = false := by
  have h2 : ¬ (0 ≤ r ∧ r < 4) := by
    intro h3
    simp [isB, h3.1, h3.2] at h
  simp only [beq_eq_false_iff_ne, ne_eq]
  omega

theorem ris_any (r : Int) (w : World) : Calls Tryd.prog 27 #[.int .i64 r] w fun e w' => e = .returned (.bool (isB r)) ∧ w' = w := by
  by_cases h0 : 0 ≤ r
  · by_cases h1 : r < 4
    · have hb : isB r = true := by simp [isB, h0, h1]
      rw [hb]
      clear hb
      go_enter Tryd.func27, Tryd.ntmps27
      go_wp2
      go_ret
      exact ⟨rfl, rfl⟩
    · have hb : isB r = false := by simp [isB, h1]
      rw [hb]
      clear hb
      go_enter Tryd.func27, Tryd.ntmps27
      go_wp2
      go_ret
      exact ⟨rfl, rfl⟩
  · have hb : isB r = false := by simp [isB, h0]
    rw [hb]
    clear hb
    go_enter Tryd.func27, Tryd.ntmps27
    go_wp2
    go_ret
    exact ⟨rfl, rfl⟩
theorem ints_differ (a b : List Int) (k : Nat) (h : a.getD k 0 ≠ b.getD k 0) : (a == b) = false := by
  rw [beq_eq_false_iff_ne]
  rintro rfl
  exact h rfl
theorem ints_same (a b : List Int) (k : Nat) (ha : a.length = k) (hb : b.length = k) (h : ∀ j, j < k → a.getD j 0 = b.getD j 0) : (a == b) = true := by
  rw [beq_iff_eq]
  refine List.ext_getElem (by omega) fun j h1 h2 => ?_
  have := h j (by omega)
  simpa [List.getD_eq_getElem?_getD, h1, h2] using this
end Go.Proofs.YtcfkpepohnjdfaaDoor
