/- The walk over the document's Against of a set. -/
import Derived.Test.YtjjjfckkglcdfaaGrpRFree
namespace Go.Proofs.Ytjjjfckkglcdfaa
set_option maxRecDepth 100000
set_option linter.unusedVariables false
set_option linter.unusedSimpArgs false
open Go.RowKit

theorem against_bad {m : List Int} {s : Int} (h : mayM m = false ∨ s < 0 ∨ ((2 ^ m.length : Nat) : Int) ≤ s) : againstM m s = -1 := if_neg fun hh => by
  obtain ⟨h1, h2, h3⟩ := hh
  rw [pow_int] at h3
  rcases h with h | h | h
  · rw [h] at h1; cases h1
  · omega
  · omega
def anyTo (m : List Int) (t k i : Nat) : Bool := (List.range i).any fun j => t.testBit j && meetM m j k
theorem any_next (m : List Int) (t k i : Nat) : anyTo m t k (i + 1) = (anyTo m t k i || (t.testBit i && meetM m i k)) := by
  simp [anyTo, List.range_succ]
theorem any_hit {m : List Int} {t k n : Nat} (hl : m.length = n) : anyTo m t k n = hitM m (t : Int) k := by
  subst hl
  simp only [anyTo, hitM, bit_nat]
end Go.Proofs.Ytjjjfckkglcdfaa
