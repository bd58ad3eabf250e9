/- Blocks, part by part: plain facts on lists. -/
import Derived.Test.YtomfnnhdihbpfaaDoorShaAdd
namespace Go.Proofs.YtomfnnhdihbpfaaDoor

theorem blocksL_same (r l m : List Int) (k : Nat) (h : ∀ i, i < k → (l.drop (64 * i)).take 64 = (m.drop (64 * i)).take 64) : blocksL r l k = blocksL r m k := by
  induction k with
  | zero => rfl
  | succ k ih => rw [blocksL, blocksL, ih (fun i hi => h i (by omega)), h k (by omega)]
theorem blocksL_add (r l : List Int) (i j : Nat) : blocksL r l (i + j) = blocksL (blocksL r l i) (l.drop (64 * i)) j := by
  induction j with
  | zero => rfl
  | succ j ih =>
    rw [← Nat.add_assoc, blocksL, blocksL, ih, List.drop_drop]
    congr 3
    omega
theorem piece_take (l : List Int) (w i : Nat) (h : 64 * i + 64 ≤ w) : ((l.take w).drop (64 * i)).take 64 = (l.drop (64 * i)).take 64 := by
  rw [List.drop_take, List.take_take, Nat.min_eq_left (by omega)]
theorem piece_append (l b : List Int) (i : Nat) (h : 64 * i + 64 ≤ l.length) : ((l ++ b).drop (64 * i)).take 64 = (l.drop (64 * i)).take 64 := by
  rw [List.drop_append_of_le_length (by omega), List.take_append_of_le_length (by rw [List.length_drop]; omega)]
theorem byBlocks_whole (x l : List Int) : byBlocks x (l.take (whole l)) = blocksL x l (l.length / 64) := by
  have hw : (l.take (whole l)).length = l.length / 64 * 64 := by rw [List.length_take, whole]; omega
  rw [byBlocks, hw, Nat.mul_div_cancel _ (by omega)]
  exact blocksL_same _ _ _ _ fun i hi => piece_take l _ i (by rw [whole]; omega)
theorem byBlocks_all (x l : List Int) : byBlocks x (l.take (whole l)) = byBlocks x l := by rw [byBlocks_whole, byBlocks]

/-- bytes in two parts -/
theorem parts (x l b : List Int) : byBlocks (byBlocks x (l.take (whole l))) ((l.drop (whole l) ++ b).take (whole (l.drop (whole l) ++ b))) = byBlocks x ((l ++ b).take (whole (l ++ b))) ∧
    (l.drop (whole l) ++ b).drop (whole (l.drop (whole l) ++ b)) = (l ++ b).drop (whole (l ++ b)) := by
  have hd : (l ++ b).drop (64 * (l.length / 64)) = l.drop (whole l) ++ b := by
    rw [List.drop_append_of_le_length (by omega), whole, Nat.mul_comm]
  have hl : (l.drop (whole l) ++ b).length = l.length - 64 * (l.length / 64) + b.length := by
    rw [List.length_append, List.length_drop, whole]; omega
  have hk : (l ++ b).length / 64 = l.length / 64 + (l.drop (whole l) ++ b).length / 64 := by
    rw [hl, List.length_append]; omega
  refine ⟨?_, ?_⟩
  · rw [byBlocks_whole, byBlocks_whole, byBlocks_whole, hk, blocksL_add, hd]
    congr 1
    exact (blocksL_same _ _ _ _ fun i hi => piece_append l b i (by omega)).symm
  · have e : 64 * (l.length / 64) + whole (l.drop (whole l) ++ b) = whole (l ++ b) := by
      simp only [whole] at hk ⊢
      omega
    rw [← hd, List.drop_drop, hd, e]
theorem whole_drop (l : List Int) : (l.drop (whole l)).length = l.length % 64 := by
  rw [List.length_drop, whole]; omega
end Go.Proofs.YtomfnnhdihbpfaaDoor
