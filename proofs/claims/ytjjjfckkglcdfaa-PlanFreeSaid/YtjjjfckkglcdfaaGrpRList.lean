/- The walks over the document's List and Of of groups, and Sets. -/
import Derived.Test.YtjjjfckkglcdfaaGrpRAgn
namespace Go.Proofs.Ytjjjfckkglcdfaa
set_option maxRecDepth 100000
set_option linter.unusedVariables false
set_option linter.unusedSimpArgs false
open Go.RowKit

def listTo (t k : Nat) : List Int := ((List.range k).filter fun j => t.testBit j).map Int.ofNat
theorem list_next (t k : Nat) : listTo t (k + 1) = listTo t k ++ (if t.testBit k = true then [(k : Int)] else []) := by
  rw [listTo, List.range_succ, List.filter_append, List.map_append]
  congr 1
  by_cases h : t.testBit k = true
  · rw [if_pos h]; simp [h]
  · rw [if_neg h]; simp [h]
theorem list_len (t k : Nat) : (listTo t k).length ≤ k := by
  rw [listTo, List.length_map]
  exact Nat.le_trans (List.length_filter_le _ _) (by rw [List.length_range]; exact Nat.le_refl _)
theorem list_all {t : Nat} (h : t < 256) : listTo t 8 = listM (t : Int) := by
  rw [listM, if_pos (by omega), listTo]
  congr 1
  refine List.filter_congr fun j _ => ?_
  rw [bit_nat]
/-- gives a list of numbers -/
def GivesL (L : List Int) (w : World) (e : Ending) (w' : World) : Prop := ∃ A n c, e = .returned (.slice A n c) ∧ Its .i64 w' A n c L ∧ Below w.heap.size w w'
theorem of_next {l : List Int} {j : Nat} {x o : Int} (hj : j < l.length) (hx : l.getD j 0 = x) : ofF (l.drop j) o = if x < 0 ∨ 7 < x then -1 else if bitI o x.toNat = true then -1 else ofF (l.drop (j + 1)) (o + 2 ^ x.toNat) := by
  rw [List.drop_eq_getElem_cons hj, ofF]
  have e : l[j] = x := by rw [← hx]; simp [List.getD_eq_getElem?_getD, hj]
  rw [e]
end Go.Proofs.Ytjjjfckkglcdfaa
