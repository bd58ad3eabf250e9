/- The walk over package sha's spelt: the bytes of a register. Arrays of bytes that lie in a block of their own. -/
import Derived.Test.YtcfkpepohnjdfaaDoorShaRows
import Derived.Test.YtcfkpepohnjdfaaDoorBasBytes
import Derived.Test.YtcfkpepohnjdfaaDoorShaRounded
namespace Go.Proofs.YtcfkpepohnjdfaaDoor
open Go.RowKit

theorem info32 {l : List Int} (h : l.length = 32) : (Tryd.prog.info? 30).map (·.size) = some (idv l).size := by rw [idv_size, h]; kernel_rfl

set_option maxRecDepth 100000 in
set_option maxHeartbeats 1000000 in
theorem spelt_any (r : List Int) (w : World) (hr : r.length = 8) :
    Calls Tryd.prog 52 #[.agg (regv r)] w fun e w' => e = .returned (.agg (idv (speltL r))) ∧ Below w.heap.size w w' := by
  have HR := Lib.hid hr
  clear hr
  go_enter Tryd.func52, Tryd.ntmps52
  go_wp2
  go_loopw [5] (fun i wr => ∃ k : Nat, k ≤ 32 ∧ i = .int .i64 k ∧ Row wr w.heap.size 61 r ∧ RowB wr (w.heap.size + 1) 30 (List.replicate 32 0) ∧ RowB wr (w.heap.size + 2) 30 (fillTo (speltAt r) 32 k) ∧ Below w.heap.size w wr)
    (fun i _ => 32 - (intOf i).toNat)
  case atStart =>
    have h := two_rows w (.cells (regv r) 61) 30 _ _ (List.replicate 32 0) rfl rfl
    exact ⟨0, by omega, rfl, Row.more (heap_alloc2_old w _ _) _, h.1, h.2, three_below w _ _ _⟩
  case round =>
    obtain ⟨k, hk, rfl, hR, hO, hX, hB⟩ := hrel
    have hXl := fillTo_length (speltAt r) 32 k
    by_cases hlt : k < 32
    · have hRc := hR.cell (k / 4) (by rw [HR.out]; omega)
      have hXc := hX.cell k (by rw [hXl]; exact hlt)
      have hXf := hX.free k
      have hnext : fillTo (speltAt r) 32 (k + 1) = (fillTo (speltAt r) 32 k).set k (speltAt r k) := rfl
      obtain ⟨x, hx⟩ : ∃ x, x = r.getD (k / 4) 0 := ⟨_, rfl⟩
      rw [← hx] at hRc
      have hval : speltAt r k = x / 2 ^ (24 - 8 * (k % 4)) % 256 := by rw [speltAt, hx]
      rw [hval] at hnext
      have HN := Lib.hid hnext
      clear hx hnext hval hXl
      go_wp2
      go_roundw
      case rel =>
        refine ⟨k + 1, by omega, by go_num, ?_, ?_, ?_, ?_⟩
        · exact hR.draw1.far (a := ⟨w.heap.size + 2, k, none⟩) (by simp) _
        · exact hO.draw1.far (a := ⟨w.heap.size + 2, k, none⟩) (by simp) _
        · rw [HN.out]; exact hX.draw1.put k _
        · exact hB.setCell (p := ⟨w.heap.size + 2, k, none⟩) (by simp) _
      case measure => simp [intOf]; omega
    · have hge : 32 ≤ k := by omega
      rw [show k = 32 by omega] at hX hXl
      rw [fillTo_all] at hX hXl
      obtain ⟨Z, hZ⟩ : ∃ Z, Z = speltL r := ⟨_, rfl⟩
      have hX : RowB wr (w.heap.size + 2) 30 Z := by rw [hZ]; exact hX
      have hXl : Z.length = 32 := by rw [hZ]; exact hXl
      have HZ := Lib.hid hZ
      have HXL := Lib.hid hXl
      clear hlt hk hXl hZ hR
      go_wp2_with (first
        | ((with_reducible refine wpList_load_b rfl 30 _ _ rfl (w.heap.size + 2) ?hx6 30 Z hX Tryd.underlying30 ?hd6 (info32 HXL.out) ?_); (case hx6 => rfl); (case hd6 => rfl))
        | ((with_reducible refine wpList_store_b rfl 30 _ _ rfl (w.heap.size + 1) Z ?hx7 ?hy7 30 (List.replicate 32 0) hO (info32 HXL.out) ?hl7 ?hm7); (case hx7 => rfl); (case hy7 => rfl); (case hl7 => rw [HXL.out]; rfl)
           intro w6 hg6 hX6 hs6))
      refine bodyPost_ret (v := .agg (idv Z)) ?_ ?_ ?_
      · exact results_cell_row Tryd.results52 _ _ (w.heap.size + 1) 30 _ (0, 0) _ rfl hX6.is Tryd.underlying30 rfl (info32 HXL.out)
      · rfl
      · exact ⟨by rw [HZ.out], Below.grows hB hg6 hB.size (by omega)⟩
end Go.Proofs.YtcfkpepohnjdfaaDoor
