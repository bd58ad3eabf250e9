/- The walk over package num's Get: the number of some bytes. -/
import Derived.Test.YtcfkpepohnjdfaaDoorNumPut
import Derived.WalkMore
import Derived.ScopeJumps
namespace Go.Proofs.YtcfkpepohnjdfaaDoor
set_option linter.unusedVariables false
set_option linter.unusedSimpArgs false
open Go.RowKit

/-- may a number be read there? -/
def mayGet (n at_ k : Int) : Bool := decide (1 ≤ k ∧ k ≤ 8 ∧ 0 ≤ at_ ∧ at_ + k ≤ n)

theorem orStep (y : Nat) (z : Int) (hy : y < 256 ^ 7) (h0 : 0 ≤ z) (h1 : z < 256) : bits .or .u64 (IntKind.u64.wrap ((y : Int) * 256)) z = ((256 * y + z.toNat : Nat) : Int) := by
  obtain ⟨x, rfl⟩ := Int.eq_ofNat_of_zero_le h0
  have e : IntKind.u64.wrap ((y : Int) * 256) = ((256 * y : Nat) : Int) := by
    rw [IntKind.wrap_u64]
    omega
  have hx : x < 2 ^ 8 := by omega
  rw [e, u64_or_nat _ _ (by omega) (by omega), Int.toNat_natCast]
  have := Nat.two_pow_add_eq_or_of_lt hx y
  rw [show 2 ^ 8 = 256 by rfl] at this
  rw [this]
theorem orStart (z : Int) (h0 : 0 ≤ z) (h1 : z < 256) : bits .or .u64 0 z = ((z.toNat : Nat) : Int) := by
  have := orStep 0 z (by omega) h0 h1
  simpa [IntKind.wrap_u64] using this
theorem num_one (l : List Int) (a : Nat) (h : a < l.length) : numL ((l.drop a).take 1) = (l.getD a 0).toNat := by
  rw [List.drop_eq_getElem_cons h, List.take_succ_cons, List.take_zero]
  simp [numL, numOf, h]
theorem num_next (l : List Int) (a j : Nat) (h : a + j < l.length) : numL ((l.drop a).take (j + 1)) = 256 * numL ((l.drop a).take j) + (l.getD (a + j) 0).toNat := by
  rw [List.take_succ_eq_append_getElem (by rw [List.length_drop]; omega), numL, numOf_snoc, numL]
  simp [h]
theorem mem_ok {l : List Int} (h : ∀ j, 0 ≤ l.getD j 0 ∧ l.getD j 0 < 256) : ∀ x ∈ l, 0 ≤ x ∧ x < 256 := by
  intro x hx
  obtain ⟨i, hi, rfl⟩ := List.getElem_of_mem hx
  have := h i
  simpa [List.getD_eq_getElem?_getD, hi] using this

end Go.Proofs.YtcfkpepohnjdfaaDoor
