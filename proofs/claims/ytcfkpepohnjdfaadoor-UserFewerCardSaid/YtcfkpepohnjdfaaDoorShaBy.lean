/- The walk over package sha's roundedBy: a register, rounded by all whole blocks of a slice. -/
import Derived.Test.YtcfkpepohnjdfaaDoorShaRounded
import Derived.Test.YtcfkpepohnjdfaaDoorShaRows
import Derived.Test.YtcfkpepohnjdfaaDoorBasBytes
namespace Go.Proofs.YtcfkpepohnjdfaaDoor
open Go.RowKit

theorem rounded_lit (x0 x1 x2 x3 x4 x5 x6 x7 : Int) (l : List Int) (b off cap : Nat) (w : World) (hK : KTab w) (hby : ∀ j, 0 ≤ l.getD j 0 ∧ l.getD j 0 < 256)
    (hc : ∀ j, j < 64 → w.cell? ⟨b, off + j, none⟩ = some (.int .u8 (l.getD j 0))) :
    Calls Tryd.prog 58 #[.agg #[.int .u32 x0, .int .u32 x1, .int .u32 x2, .int .u32 x3, .int .u32 x4, .int .u32 x5, .int .u32 x6, .int .u32 x7], .slice (some ⟨b, off, none⟩) 64 cap] w
      fun e w' => e = .returned (.agg (regv (roundedL [x0, x1, x2, x3, x4, x5, x6, x7] l))) ∧ Below w.heap.size w w' :=
  rounded_any [x0, x1, x2, x3, x4, x5, x6, x7] l b off cap w hK rfl hby hc

theorem blocks_length (r l : List Int) (hr : r.length = 8) (k : Nat) : (blocksL r l k).length = 8 := by
  induction k with
  | zero => exact hr
  | succ k ih => rw [blocksL]; exact rounded_length _ _ ih
set_option maxRecDepth 100000 in
set_option maxHeartbeats 1000000 in
theorem roundedBy_some (r l : List Int) (b off n cap : Nat) (w : World) (hK : KTab w) (hr : r.length = 8) (hB : Bts w (some ⟨b, off, none⟩) n cap l) :
    Calls Tryd.prog 53 #[.agg (regv r), .slice (some ⟨b, off, none⟩) n cap] w fun e w' => e = .returned (.agg (regv (blocksL r l (n / 64)))) ∧ Below w.heap.size w w' := by
  have HR := Lib.hid hr
  have hle := hB.le
  have hmx := hB.max
  unfold maxLen at hmx
  have HBT := Lib.hid hB
  clear hr hB
  go_enter Tryd.func53, Tryd.ntmps53
  go_wp2
  go_loopw [9] (fun i wr => ∃ k : Nat, k ≤ n / 64 ∧ i = .int .i64 k ∧ Row wr w.heap.size 61 (blocksL r l k) ∧ Row wr (w.heap.size + 1) 61 [0, 0, 0, 0, 0, 0, 0, 0] ∧ Below w.heap.size w wr)
    (fun i _ => n / 64 - (intOf i).toNat)
  case atStart => exact ⟨0, by omega, rfl, heap_alloc2_old w _ _, heap_alloc2_new w _ _, two_below w _ _⟩
  case round =>
    obtain ⟨k, hk, rfl, hX, hO, hB⟩ := hrel
    have hXl := blocks_length r l HR.out k
    by_cases hlt : (k : Int) < (n : Int) / 64
    · have hkn : 64 * k + 64 ≤ n := by omega
      have hK1 := hK.from hB
      obtain ⟨b', off', hA, hc⟩ := HBT.out.at_ (by omega)
      obtain ⟨rfl, rfl⟩ : b = b' ∧ off = off' := by
        injection hA with hA; injection hA with h1 h2 _
        exact ⟨h1, h2⟩
      have hbw : b < w.heap.size := block_lt_of_cell (hc 0 (by omega))
      have hcell : ∀ j, j < 64 → wr.cell? ⟨b, off + k * 64 + j, none⟩ = some (.int .u8 (((l.drop (64 * k)).take 64).getD j 0)) := fun j hj => by
        rw [getD_piece _ _ _ hj, Nat.add_assoc, Nat.mul_comm k 64]
        exact (hB.cell (p := ⟨b, off + (64 * k + j), none⟩) hbw).trans (hc (64 * k + j) (by omega))
      have hby := ok_piece l HBT.out.ok (64 * k) 64
      obtain ⟨m, hm⟩ : ∃ m, m = (l.drop (64 * k)).take 64 := ⟨_, rfl⟩
      rw [← hm] at hcell hby
      obtain ⟨x0, x1, x2, x3, x4, x5, x6, x7, hx⟩ := eight hXl
      have hnext : blocksL r l (k + 1) = roundedL [x0, x1, x2, x3, x4, x5, x6, x7] m := by
        rw [blocksL, hx, hm]
      rw [hx] at hX
      have hl8 : (roundedL [x0, x1, x2, x3, x4, x5, x6, x7] m).length = 8 := rounded_length _ _ rfl
      obtain ⟨R, hR⟩ : ∃ R, R = roundedL [x0, x1, x2, x3, x4, x5, x6, x7] m := ⟨_, rfl⟩
      rw [← hR] at hnext hl8
      obtain ⟨c0, c1, c2, c3, c4, c5, c6, c7⟩ := hX.eight
      have HN := Lib.hid hnext
      have HL := Lib.hid hl8
      have HRD := Lib.hid hR
      have HC := Lib.hid hcell
      have s1 : IntKind.i64.wrap ((k : Int) * 64) = (k : Int) * 64 := IntWalk.i64_in _ (by omega)
      have s2 : IntKind.i64.wrap ((k : Int) + 1) = (k : Int) + 1 := IntWalk.i64_in _ (by omega)
      have s3 : IntKind.i64.wrap (((k : Int) + 1) * 64) = ((k : Int) + 1) * 64 := IntWalk.i64_in _ (by omega)
      have n3 : (k + 1) * 64 - k * 64 = 64 := by omega
      have hcut := run_cut b off n cap (k * 64) ((k + 1) * 64) ((k : Int) * 64) (((k : Int) + 1) * 64) (by omega) (by omega) (by omega) (by omega) (by omega)
      rw [n3] at hcut
      clear hnext hl8 hR hcell hx hXl hm hc hA
      go_wp2
      go_still_tail 8, (by kernel_rfl)
      clear c0 c1 c2 c3 c4 c5 c6 c7 hcut s1 s2 s3 n3
      go_wp2_with (first
        | (go_at_call 58; refine (rounded_lit _ _ _ _ _ _ _ _ m _ _ _ _ (by exact hK1) (by exact hby) (by exact HC.out)).mono ?_; rintro e w4 ⟨he, hb4⟩
           rw [← HRD.out] at he
           subst he
           have hb4 := below_draw hb4
           have hX4 := hX.below hb4 hX.lt)
        | ((with_reducible refine wpList_store_r32 rfl 61 _ _ rfl w.heap.size R ?hx5 ?hy5 61 [x0, x1, x2, x3, x4, x5, x6, x7] hX4 (info8 HL.out) ?hl5 ?hm5); (case hx5 => rfl); (case hy5 => rfl); (case hl5 => rw [HL.out]; rfl)
           intro w5 hg5 hX5 hs5))
      go_roundw
      case rel =>
        refine ⟨k + 1, by omega, by go_num, ?_, ?_, ?_⟩
        · rw [HN.out]; exact hX5
        · exact (hO.below hb4 hO.lt).grown hg5 (ne_some (by omega))
        · exact Below.grows (hB.trans (hb4.mono hB.size)) hg5 (Nat.le_trans hB.size hb4.size) (Nat.le_refl _)
      case measure => simp [intOf]; omega
    · have hge : (n : Int) / 64 ≤ (k : Int) := by omega
      rw [show k = n / 64 by omega] at hX hXl
      obtain ⟨Z, hZ⟩ : ∃ Z, Z = blocksL r l (n / 64) := ⟨_, rfl⟩
      rw [← hZ] at hX hXl
      have HZ := Lib.hid hZ
      have HXL := Lib.hid hXl
      clear hlt hk hXl hZ
      go_wp2_with (first
        | ((with_reducible refine wpList_load_r32 rfl 61 60 8 _ rfl w.heap.size ?hx6 61 Z hX Tryd.underlying61 (info8 HXL.out) ?_); (case hx6 => rfl))
        | ((with_reducible refine wpList_store_r32 rfl 61 _ _ rfl (w.heap.size + 1) Z ?hx7 ?hy7 61 [0, 0, 0, 0, 0, 0, 0, 0] hO (info8 HXL.out) ?hl7 ?hm7); (case hx7 => rfl); (case hy7 => rfl); (case hl7 => rw [HXL.out]; rfl)
           intro w6 hg6 hX6 hs6))
      refine bodyPost_ret (v := .agg (regv Z)) ?_ ?_ ?_
      · exact results_cell_row Tryd.results53 _ _ (w.heap.size + 1) 61 _ (0, 0) _ rfl hX6.is Tryd.underlying61 rfl (info8 HXL.out)
      · rfl
      · exact ⟨by rw [HZ.out], Below.grows hB hg6 hB.size (by omega)⟩

set_option maxRecDepth 100000 in
set_option maxHeartbeats 1000000 in
/-- fewer than 64 bytes: no block -/
theorem roundedBy_few (r : List Int) (A : Option Addr) (n cap : Nat) (w : World) (hr : r.length = 8) (hn : n < 64) :
    Calls Tryd.prog 53 #[.agg (regv r), .slice A n cap] w fun e w' => e = .returned (.agg (regv r)) ∧ Below w.heap.size w w' := by
  have HR := Lib.hid hr
  have hq : (n : Int) / 64 = 0 := by omega
  clear hr
  go_enter Tryd.func53, Tryd.ntmps53
  go_wp2
  refine wp_loop_rounds 1 ?_
  rw [rounds_succ]
  have hX : ∀ o, Row ((w.alloc (.cells (regv r) 61)).alloc o) w.heap.size 61 r := fun o => heap_alloc2_old w _ _
  go_wp2_with (first
    | ((with_reducible refine wpList_load_r32 rfl 61 60 8 _ rfl w.heap.size ?hx6 61 r (hX _) Tryd.underlying61 (info8 HR.out) ?_); (case hx6 => rfl))
    | ((with_reducible refine wpList_store_r32 rfl 61 _ _ rfl (w.heap.size + 1) r ?hx7 ?hy7 61 [0, 0, 0, 0, 0, 0, 0, 0] ?hO (info8 HR.out) ?hl7 ?hm7); (case hx7 => rfl); (case hy7 => rfl); (case hO => exact heap_alloc2_new w _ _); (case hl7 => rw [HR.out]; rfl)
       intro w6 hg6 hX6 hs6))
  refine bodyPost_ret (v := .agg (regv r)) ?_ ?_ ?_
  · exact results_cell_row Tryd.results53 _ _ (w.heap.size + 1) 61 _ (0, 0) _ rfl hX6.is Tryd.underlying61 rfl (info8 HR.out)
  · rfl
  · exact ⟨rfl, Below.grows (two_below w _ _) hg6 (by simp; omega) (by omega)⟩

/-- whatever the slice is -/
theorem roundedBy_any (r l : List Int) (A : Option Addr) (n cap : Nat) (w : World) (hK : KTab w) (hr : r.length = 8) (hB : Bts w A n cap l) :
    Calls Tryd.prog 53 #[.agg (regv r), .slice A n cap] w fun e w' => e = .returned (.agg (regv (byBlocks r l))) ∧ Below w.heap.size w w' := by
  by_cases hn : n < 64
  · have h0 : byBlocks r l = r := by
      rw [byBlocks, hB.len, show n / 64 = 0 by omega]; rfl
    rw [h0]
    exact roundedBy_few r A n cap w hr hn
  · obtain ⟨b, off, rfl, _⟩ := hB.at_ (by omega)
    rw [byBlocks, hB.len]
    exact roundedBy_some r l b off n cap w hK hr hB
end Go.Proofs.YtcfkpepohnjdfaaDoor
