/- Slices of bytes that a call makes whole ('make([]byte, n)'): the block they lie in is known as a row. -/
import Derived.Test.YtcfkpepohnjdfaaDoorMacSpec
import Derived.Test.YtcfkpepohnjdfaaDoorShaEnd
import Derived.OwnWalk
namespace Go.Proofs.YtcfkpepohnjdfaaDoor
open Go.RowKit

theorem keyL_length (key : List Int) : (keyL key).length ≤ 64 := by
  unfold keyL
  split
  · rw [sumL, endL, spelt_length]; omega
  · omega
theorem blockL_length (key : List Int) : (blockL key).length = 64 := by
  have := keyL_length key
  simp only [blockL, padK, List.length_append, List.length_replicate]
  omega
theorem xorL_length (x : Int) (l : List Int) : (xorL x l).length = 64 := by simp [xorL]
theorem ok_spelt (r : List Int) : ∀ j, 0 ≤ (speltL r).getD j 0 ∧ (speltL r).getD j 0 < 256 := ok_map _ (fun i => by unfold speltAt; omega) 32
theorem ok_sum (l : List Int) : ∀ j, 0 ≤ (sumL l).getD j 0 ∧ (sumL l).getD j 0 < 256 := by rw [sumL, endL]; exact ok_spelt _
theorem sumL_length (l : List Int) : (sumL l).length = 32 := by rw [sumL, endL]; exact spelt_length _
theorem ok_block (key : List Int) (h : ∀ j, 0 ≤ key.getD j 0 ∧ key.getD j 0 < 256) : ∀ j, 0 ≤ (blockL key).getD j 0 ∧ (blockL key).getD j 0 < 256 := by
  unfold blockL padK
  refine ok_append ?_ (ok_rep _)
  unfold keyL
  split
  · exact ok_sum key
  · exact h
theorem xor_u8_range (a x : Int) : 0 ≤ bits .xor .u8 a x ∧ bits .xor .u8 a x < 256 := by
  have h : ∃ y : Int, bits .xor .u8 a x = IntKind.u8.wrap y := ⟨_, rfl⟩
  obtain ⟨y, h⟩ := h
  rw [h, IntKind.wrap_u8']
  omega
theorem ok_xor (x : Int) (l : List Int) : ∀ j, 0 ≤ (xorL x l).getD j 0 ∧ (xorL x l).getD j 0 < 256 := ok_map _ (fun _ => xor_u8_range _ _) 64
end Go.Proofs.YtcfkpepohnjdfaaDoor
