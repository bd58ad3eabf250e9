/- The walk over package mac's closure in Tag: the bytes of a block, each exclusive-or a number. -/
import Derived.Test.YtcfkpepohnjdfaaDoorMacRow
namespace Go.Proofs.YtcfkpepohnjdfaaDoor
open Go.RowKit

set_option maxHeartbeats 1000000 in
theorem turn_any (x : Int) (l : List Int) (C g : Nat) (w : World) (hl : l.length = 64) (hC : w.heap[C]? = some (.cells #[.slice (some ⟨g, 0, none⟩) 64 64] 23 (0, 0))) (hg : RowB w g 5 l) :
    Calls Tryd.prog 39 #[.int .u8 x, .pointer (some ⟨C, 0, none⟩)] w fun e w' => e = .returned (.slice (some ⟨w.heap.size, 0, none⟩) 64 64) ∧ RowB w' w.heap.size 5 (xorL x l) ∧ Below w.heap.size w w' := by
  have hCl := (Array.getElem?_eq_some_iff.1 hC).1
  have hgl := hg.lt
  have hc0 : w.cell? ⟨C, 0, none⟩ = some (.slice (some ⟨g, 0, none⟩) 64 64) := cell_of_row _ _ 0 _ _ _ hC
  have HLN := Lib.hid hl
  clear hl
  go_enter Tryd.func39, Tryd.ntmps39
  go_wp2_with (at_make; refine wpList_make_n rfl _ _ rfl 64 64 64 rfl rfl rfl rfl (by omega) ?_; intro w1 hX1 hg1 hs1)
  have hB1 : Below w.heap.size w w1 := (Below.refl _ _).grown hg1 (Nat.le_refl _) (fun k hk => by cases hk)
  go_loopw [11] (fun i wr => ∃ k : Nat, k ≤ 64 ∧ i = .int .i64 k ∧ RowB wr w.heap.size 5 (fillTo (xorAt x l) 64 k) ∧ Below w.heap.size w wr) (fun i _ => 64 - (intOf i).toNat)
  case atStart => exact ⟨0, by omega, rfl, hX1, hB1⟩
  case round =>
    clear hX1 hg1 hs1 hB1
    obtain ⟨k, hk, rfl, hX, hB⟩ := hrel
    have hXl := fillTo_length (xorAt x l) 64 k
    by_cases hlt : k < 64
    · have hcr := (hB.cell (p := ⟨C, 0, none⟩) hCl).trans hc0
      have hgr := (hg.below hB hgl).cell k (by rw [HLN.out]; exact hlt)
      have hXc := hX.cell k (by rw [hXl]; exact hlt)
      have hXf := hX.free k
      have hXs := hX.lt
      have hnext : fillTo (xorAt x l) 64 (k + 1) = (fillTo (xorAt x l) 64 k).set k (xorAt x l k) := rfl
      obtain ⟨y, hy⟩ : ∃ y, y = l.getD k 0 := ⟨_, rfl⟩
      rw [← hy] at hgr
      have hval : xorAt x l k = bits .xor .u8 y x := by rw [xorAt, hy]
      rw [hval] at hnext
      have HN := Lib.hid hnext
      clear hy hnext hval hXl
      go_wp2
      go_roundw
      case rel =>
        refine ⟨k + 1, by omega, by go_num, ?_, ?_⟩
        · rw [HN.out]; exact hX.put k _
        · exact hB.setCell (p := ⟨w.heap.size, k, none⟩) (by simp) _
      case measure => simp [intOf]; omega
    · have hge : 64 ≤ k := by omega
      have h64 : k = 64 := by omega
      rw [h64] at hX
      rw [fillTo_all] at hX
      have HX := Lib.hid hX
      clear hX hXl h64 hk hlt
      go_wp2
      go_ret
      exact ⟨rfl, HX.out, hB⟩
end Go.Proofs.YtcfkpepohnjdfaaDoor
