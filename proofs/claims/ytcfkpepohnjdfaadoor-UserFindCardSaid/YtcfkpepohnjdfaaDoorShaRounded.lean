/- The walks over package sha's rounded (a register, rounded by a block) and roundedBy (by all whole blocks). -/
import Derived.Test.YtcfkpepohnjdfaaDoorShaSpread
import Derived.Test.YtcfkpepohnjdfaaDoorShaRows
namespace Go.Proofs.YtcfkpepohnjdfaaDoor
open Go.RowKit

theorem info8 {l : List Int} (h : l.length = 8) : (Tryd.prog.info? 61).map (·.size) = some (regv l).size := by rw [regv_size, h]; kernel_rfl
theorem info64 {l : List Int} (h : l.length = 64) : (Tryd.prog.info? 75).map (·.size) = some (regv l).size := by rw [regv_size, h]; kernel_rfl
theorem spreadAll_length (l : List Int) : (spreadAll l).length = 64 := spreadB_length l 48

theorem round_lit (a b c d e f g h n : Int) (w : World) :
    Calls Tryd.prog 63 #[.agg #[.int .u32 a, .int .u32 b, .int .u32 c, .int .u32 d, .int .u32 e, .int .u32 f, .int .u32 g, .int .u32 h], .int .u32 n] w fun e' w' => e' = .returned (.agg (regv (rnd [a, b, c, d, e, f, g, h] n))) ∧ Below w.heap.size w w' :=
  round_any [a, b, c, d, e, f, g, h] n w rfl
theorem rnd_length (a b c d e f g h n : Int) : (rnd [a, b, c, d, e, f, g, h] n).length = 8 := rfl

set_option maxRecDepth 100000 in
set_option maxHeartbeats 1000000 in
theorem rounded_any (r l : List Int) (b off cap : Nat) (w : World) (hK : KTab w) (hr : r.length = 8) (hby : ∀ j, 0 ≤ l.getD j 0 ∧ l.getD j 0 < 256)
    (hc : ∀ j, j < 64 → w.cell? ⟨b, off + j, none⟩ = some (.int .u8 (l.getD j 0))) :
    Calls Tryd.prog 58 #[.agg (regv r), .slice (some ⟨b, off, none⟩) 64 cap] w fun e w' => e = .returned (.agg (regv (roundedL r l))) ∧ Below w.heap.size w w' := by
  have hbw : b < w.heap.size := block_lt_of_cell (hc 0 (by omega))
  have HR := Lib.hid hr
  obtain ⟨S, hSd⟩ : ∃ S, S = spreadAll l := ⟨_, rfl⟩
  have hSl : S.length = 64 := by rw [hSd]; exact spreadAll_length l
  have HW := Lib.hid hSl
  have HSD := Lib.hid hSd
  clear hr hSd hSl
  go_enter Tryd.func58, Tryd.ntmps58
  go_wp2_with fail
  refine (spread_any l b off cap _ hby (fun j hj => ((two_below w _ _).cell (p := ⟨b, off + j, none⟩) hbw).trans (hc j hj))).mono ?_
  rintro e w1 ⟨he, hb1⟩
  rw [← HSD.out] at he
  subst he
  obtain ⟨hB1, hz1, hR1, hO1⟩ := after_two hb1
  have hR1 : Row w1 w.heap.size 61 r := hR1
  have hO1 : Row w1 (w.heap.size + 1) 61 [0, 0, 0, 0, 0, 0, 0, 0] := hO1
  have hK1 := hK.from hB1
  clear hb1 hc
  go_wp2_with (first
    | ((with_reducible refine wpList_store_r32 rfl 75 _ _ rfl w1.heap.size S ?hx ?hy 75 (List.replicate 64 0) (row_lit w1 75 _ _ ?hz) ?hi ?hl ?hm); (case hx => rfl); (case hy => rfl); (case hz => rfl); (case hi => exact info64 HW.out); (case hl => rw [HW.out]; rfl)
       intro w2 hg2 hW2 hs2
       have hR2 : Row w2 w.heap.size 61 r := (hR1.more _).grown hg2 (ne_some (by omega))
       have hO2 : Row w2 (w.heap.size + 1) 61 [0, 0, 0, 0, 0, 0, 0, 0] := (hO1.more _).grown hg2 (ne_some (by omega))
       have hB2 : Below w.heap.size w w2 := Below.grows (hB1.alloc (by omega) _) hg2 (by simp; omega) (by omega)
       have hz2 : w1.heap.size < w2.heap.size := hW2.lt
       clear hg2 hs2 hR1 hO1)
    | ((with_reducible refine wpList_load_r32 rfl 61 60 8 _ rfl w.heap.size ?hx2 61 r hR2 Tryd.underlying61 (info8 HR.out) ?_); (case hx2 => rfl))
    | ((with_reducible refine wpList_store_r32 rfl 61 _ _ rfl w2.heap.size r ?hx3 ?hy3 61 [0, 0, 0, 0, 0, 0, 0, 0] (row_lit w2 61 _ _ ?hz3) (info8 HR.out) ?hl3 ?hm3); (case hx3 => rfl); (case hy3 => rfl); (case hz3 => rfl); (case hl3 => rw [HR.out]; rfl)
       intro w3 hg3 hX3 hs3
       have hR3 : Row w3 w.heap.size 61 r := (hR2.more _).grown hg3 (ne_some (by omega))
       have hO3 : Row w3 (w.heap.size + 1) 61 [0, 0, 0, 0, 0, 0, 0, 0] := (hO2.more _).grown hg3 (ne_some (by omega))
       have hW3 : Row w3 w1.heap.size 75 S := (hW2.more _).grown hg3 (ne_some (by omega))
       have hB3 : Below w.heap.size w w3 := Below.grows (hB2.alloc (by omega) _) hg3 (by simp; omega) (by omega)
       clear hg3 hs3 hR2 hO2 hW2))
  go_loopw [12] (fun i wr => ∃ k : Nat, k ≤ 64 ∧ i = .int .i64 k ∧ Row wr w.heap.size 61 r ∧ Row wr (w.heap.size + 1) 61 [0, 0, 0, 0, 0, 0, 0, 0] ∧ Row wr w1.heap.size 75 S ∧ Row wr w2.heap.size 61 (runs S r k) ∧ Below w.heap.size w wr)
    (fun i _ => 64 - (intOf i).toNat)
  case atStart => exact ⟨0, by omega, rfl, hR3, hO3, hW3, hX3, hB3⟩
  case round =>
    clear hB3 hX3 hW3 hO3 hR3 hK1 hB1 hB2
    obtain ⟨k, hk, rfl, hR, hO, hS, hX, hB⟩ := hrel
    have hXl := runs_length S r HR.out k
    have hw1 := hS.lt
    have hw2 := hX.lt
    by_cases hlt : k < 64
    · obtain ⟨x0, x1, x2, x3, x4, x5, x6, x7, hx⟩ := eight hXl
      have hnext : runs S r (k + 1) = rnd [x0, x1, x2, x3, x4, x5, x6, x7] ((kList.getD k 0 + S.getD k 0) % 4294967296) := by
        rw [runs, hx]
      have HN := Lib.hid hnext
      rw [hx] at hX
      obtain ⟨c0, c1, c2, c3, c4, c5, c6, c7⟩ := hX.eight
      have hKr := (hK.from hB).2 k hlt
      have hSr := hS.cell k (by rw [HW.out]; exact hlt)
      obtain ⟨kk, hkk⟩ : ∃ x, x = kList.getD k 0 := ⟨_, rfl⟩
      obtain ⟨wk, hwk⟩ : ∃ x, x = S.getD k 0 := ⟨_, rfl⟩
      rw [← hkk, ← hwk] at hnext
      rw [← hkk] at hKr
      rw [← hwk] at hSr
      have HN := Lib.hid hnext
      have p0 : 0 ≤ (k : Int) := by omega
      have q0 : (k : Int) < 64 := by omega
      clear hkk hwk hx hnext hXl
      go_wp2
      go_still_tail 8, (by kernel_rfl)
      clear c0 c1 c2 c3 c4 c5 c6 c7 hKr hSr
      go_wp2_with (first
        | (go_at_call 63; refine (round_lit _ _ _ _ _ _ _ _ _ _).mono ?_; rintro e w4 ⟨rfl, hb4⟩
           have hb4 := below_draw hb4
           have hX4 := hX.below hb4 hw2)
        | ((with_reducible refine wpList_store_r32 rfl 61 _ _ rfl w2.heap.size (rnd [x0, x1, x2, x3, x4, x5, x6, x7] ((kk + wk) % 4294967296)) ?hx5 ?hy5 61 [x0, x1, x2, x3, x4, x5, x6, x7] hX4 (info8 (rnd_length _ _ _ _ _ _ _ _ _)) ?hl5 ?hm5); (case hx5 => rfl); (case hy5 => rfl); (case hl5 => rfl)
           intro w5 hg5 hX5 hs5
           have hz5 := hb4.size))
      go_roundw
      case rel =>
        refine ⟨k + 1, by omega, by go_num, ?_, ?_, ?_, ?_, ?_⟩
        · exact (hR.below hb4 hR.lt).grown hg5 (ne_some (by omega))
        · exact (hO.below hb4 hO.lt).grown hg5 (ne_some (by omega))
        · exact (hS.below hb4 hS.lt).grown hg5 (ne_some (by omega))
        · rw [HN.out]; exact hX5
        · exact Below.grows (hB.trans (hb4.mono hB.size)) hg5 (by omega) (by omega)
      case measure => simp [intOf]; omega
    · have hge : 64 ≤ k := by omega
      rw [show k = 64 by omega] at hX
      have hk64 := runs_length S r HR.out 64
      obtain ⟨Y, hY⟩ : ∃ Y, Y = runs S r 64 := ⟨_, rfl⟩
      rw [← hY] at hX hk64
      have HY := Lib.hid hY
      have HL := Lib.hid hk64
      clear hlt hk hS hXl hk64 hY
      go_wp2
      go_loopw [25] (fun i wr => ∃ k : Nat, k ≤ 8 ∧ i = .int .i64 k ∧ Row wr w.heap.size 61 r ∧ Row wr (w.heap.size + 1) 61 [0, 0, 0, 0, 0, 0, 0, 0] ∧ Row wr w2.heap.size 61 (addTo Y r k) ∧ Below w.heap.size w wr)
        (fun i _ => 8 - (intOf i).toNat)
      case atStart => exact ⟨0, by omega, rfl, hR, hO, hX, hB⟩
      case round =>
        clear hR hO hX hB hw1 hw2 hge
        obtain ⟨k, hk, rfl, hR, hO, hX, hB⟩ := hrel
        have hXl := addTo_length Y r k
        rw [HL.out] at hXl
        have hw2 := hX.lt
        by_cases hlt : k < 8
        · have hXc := hX.cell k (by rw [hXl]; exact hlt)
          have hXf := hX.free k
          have hRc := hR.cell k (by rw [HR.out]; exact hlt)
          obtain ⟨xk, hxk⟩ : ∃ x, x = (addTo Y r k).getD k 0 := ⟨_, rfl⟩
          obtain ⟨rk, hrk⟩ : ∃ x, x = r.getD k 0 := ⟨_, rfl⟩
          have hnext : addTo Y r (k + 1) = (addTo Y r k).set k ((xk + rk) % 4294967296) := by
            rw [addTo, hxk, hrk]
          rw [← hxk] at hXc
          rw [← hrk] at hRc
          have HN := Lib.hid hnext
          have p0 : 0 ≤ (k : Int) := by omega
          have q0 : (k : Int) < 8 := by omega
          clear hxk hrk hnext hXl
          go_wp2
          go_still_tail 8, (by kernel_rfl)
          go_wp2
          go_roundw
          case rel =>
            refine ⟨k + 1, by omega, by go_num, ?_, ?_, ?_, ?_⟩
            · exact hR.draw1.far (by simp; omega) _
            · exact hO.draw1.far (by simp; omega) _
            · rw [HN.out]; exact hX.draw1.put k _
            · exact hB.drew.setCell (by simp; omega) _
          case measure => simp [intOf]; omega
        · rw [show k = 8 by omega] at hX hXl
          have hge : 8 ≤ k := by omega
          obtain ⟨Z, hZ⟩ : ∃ Z, Z = roundedL r l := ⟨_, rfl⟩
          have hZ2 : addTo Y r 8 = Z := by rw [hZ, roundedL, HY.out, HSD.out]
          rw [hZ2] at hX hXl
          have HZ := Lib.hid hZ
          have HXL := Lib.hid hXl
          clear hlt hk hXl hZ hZ2
          go_wp2_with (first
            | ((with_reducible refine wpList_load_r32 rfl 61 60 8 _ rfl w2.heap.size ?hx6 61 Z hX Tryd.underlying61 (info8 HXL.out) ?_); (case hx6 => rfl))
            | ((with_reducible refine wpList_store_r32 rfl 61 _ _ rfl (w.heap.size + 1) Z ?hx7 ?hy7 61 [0, 0, 0, 0, 0, 0, 0, 0] hO (info8 HXL.out) ?hl7 ?hm7); (case hx7 => rfl); (case hy7 => rfl); (case hl7 => rw [HXL.out]; rfl)
               intro w6 hg6 hX6 hs6))
          refine bodyPost_ret (v := .agg (regv Z)) ?_ ?_ ?_
          · exact results_cell_row Tryd.results58 _ _ (w.heap.size + 1) 61 _ (0, 0) _ rfl hX6.is Tryd.underlying61 rfl (info8 HXL.out)
          · rfl
          · exact ⟨by rw [HZ.out], Below.grows hB hg6 hB.size (by omega)⟩
end Go.Proofs.YtcfkpepohnjdfaaDoor
