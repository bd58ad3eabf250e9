/- The walk over the document's Sets: the greatest free ones. -/
import Derived.Test.YtjjjfckkglcdfaaGrpRList
namespace Go.Proofs.Ytjjjfckkglcdfaa
set_option maxRecDepth 100000
set_option linter.unusedVariables false
set_option linter.unusedSimpArgs false
open Go.RowKit

def mostTo (m : List Int) (t k : Nat) : Bool := freeM m (t : Int) && (List.range k).all fun j => !(!t.testBit j && freeM m ((t : Int) + ((2 ^ j : Nat) : Int)))
theorem most_next (m : List Int) (t k : Nat) : mostTo m t (k + 1) = (mostTo m t k && !(!t.testBit k && freeM m ((t : Int) + ((2 ^ k : Nat) : Int)))) := by
  simp only [mostTo, List.range_succ, List.all_append, List.all_cons, List.all_nil, Bool.and_true, Bool.and_assoc]
theorem most_all {m : List Int} {t n : Nat} (hl : m.length = n) : mostTo m t n = mostM m (t : Int) := by
  subst hl
  rw [Bool.eq_iff_iff, most_iff, mostTo, Bool.and_eq_true, List.all_eq_true]
  simp only [List.mem_range, bit_nat, pow_int, Bool.not_eq_true', Bool.and_eq_false_iff, Bool.not_eq_false']
  refine and_congr_right fun _ => forall_congr' fun i => imp_congr_right fun _ => ?_
  cases t.testBit i <;> cases freeM m ((t : Int) + ((2 ^ i : Nat) : Int)) <;> simp
def setsTo (m : List Int) (k : Nat) : List Int := ((List.range k).filter fun t : Nat => mostM m (t : Int)).map Int.ofNat
theorem sets_next (m : List Int) (k : Nat) : setsTo m (k + 1) = setsTo m k ++ (if mostM m (k : Int) = true then [(k : Int)] else []) := by
  rw [setsTo, List.range_succ, List.filter_append, List.map_append]
  congr 1
  by_cases h : mostM m (k : Int) = true
  · rw [if_pos h]; simp [h]
  · rw [if_neg h]; simp [h]
theorem sets_len (m : List Int) (k : Nat) : (setsTo m k).length ≤ k := by
  rw [setsTo, List.length_map]
  exact Nat.le_trans (List.length_filter_le _ _) (by rw [List.length_range]; exact Nat.le_refl _)
end Go.Proofs.Ytjjjfckkglcdfaa
