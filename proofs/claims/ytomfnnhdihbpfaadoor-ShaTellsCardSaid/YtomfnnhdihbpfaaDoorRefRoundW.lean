/- The walk over the plain answers' round: a register, rounded by a block. -/
import Derived.Test.YtomfnnhdihbpfaaDoorRefNumW
namespace Go.Proofs.YtomfnnhdihbpfaaDoor
open Go.RowKit

set_option maxRecDepth 100000 in
set_option maxHeartbeats 1000000 in
theorem rround_any (r l : List Int) (b off cap : Nat) (w : World) (hr : r.length = 8) (hby : ∀ j, 0 ≤ l.getD j 0 ∧ l.getD j 0 < 256)
    (hc : ∀ j, j < 64 → w.cell? ⟨b, off + j, none⟩ = some (.int .u8 (l.getD j 0))) :
    Calls Tryd.prog 39 #[.agg (regv r), .slice (some ⟨b, off, none⟩) 64 cap] w fun e w' => e = .returned (.agg (regv (roundedL r l))) ∧ Below w.heap.size w w' := by
  have hbw : b < w.heap.size := block_lt_of_cell (hc 0 (by omega))
  have HR := Lib.hid hr
  obtain ⟨S, hSd⟩ : ∃ S, S = spreadAll l := ⟨_, rfl⟩
  have hSl : S.length = 64 := by rw [hSd]; exact spreadAll_length l
  have HW := Lib.hid hSl
  have HSD := Lib.hid hSd
  clear hSd hSl
  go_enter Tryd.func39, Tryd.ntmps39
  go_wp2_with fail
  refine (numbers_any l b off cap _ hby (fun j hj => ((two_below w _ _).cell (p := ⟨b, off + j, none⟩) hbw).trans (hc j hj))).mono ?_
  rintro e w1 ⟨v, he, hown, hb1⟩
  rw [← HSD.out] at hown
  subst he
  obtain ⟨g, cp, rfl, hgb, hgl, hgc, hgm, cel⟩ := hown.form (by rw [HW.out]; omega)
  rw [HW.out] at cel ⊢
  obtain ⟨hB1, hz1, hR1, hO1⟩ := after_two hb1
  have hR1 : Row w1 w.heap.size 23 r := hR1
  have hO1 : Row w1 (w.heap.size + 1) 23 [0, 0, 0, 0, 0, 0, 0, 0] := hO1
  obtain ⟨r0, r1, r2, r3, r4, r5, r6, r7, hrx⟩ := eight hr
  have HRX := Lib.hid hrx
  rw [hrx] at hR1
  obtain ⟨c0, c1, c2, c3, c4, c5, c6, c7⟩ := hR1.eight
  have HRow := Lib.hid hR1
  have HORow := Lib.hid hO1
  have HCEL := Lib.hid cel
  have HB1 := Lib.hid hB1
  clear hb1 hc hown hrx hr hR1 hO1 cel hB1 hgc hgm
  go_wp2
  go_loopw [6, 7, 8, 9, 10, 11, 12, 13, 14] (fun a b c d e f g h i wr => ∃ k : Nat, k ≤ 64 ∧ i = .int .i64 k ∧ (∃ y0 y1 y2 y3 y4 y5 y6 y7 : Int, a = .int .u32 y0 ∧ b = .int .u32 y1 ∧ c = .int .u32 y2 ∧ d = .int .u32 y3 ∧ e = .int .u32 y4 ∧ f = .int .u32 y5 ∧ g = .int .u32 y6 ∧ h = .int .u32 y7 ∧ runs S r k = [y0, y1, y2, y3, y4, y5, y6, y7]) ∧ Below w1.heap.size w1 wr)
    (fun _ _ _ _ _ _ _ _ i _ => 64 - (intOf i).toNat)
  case atStart => exact ⟨0, by omega, rfl, ⟨_, _, _, _, _, _, _, _, rfl, rfl, rfl, rfl, rfl, rfl, rfl, rfl, HRX.out⟩, Below.refl _ _⟩
  case round =>
    clear c0 c1 c2 c3 c4 c5 c6 c7
    obtain ⟨k, hk, rfl, ⟨y0, y1, y2, y3, y4, y5, y6, y7, rfl, rfl, rfl, rfl, rfl, rfl, rfl, rfl, hy⟩, hB⟩ := hrel
    by_cases hlt : k < 64
    · obtain ⟨kk, hkk⟩ : ∃ x, x = kList.getD k 0 := ⟨_, rfl⟩
      obtain ⟨wk, hwk⟩ : ∃ x, x = S.getD k 0 := ⟨_, rfl⟩
      have hnext : runs S r (k + 1) = rnd [y0, y1, y2, y3, y4, y5, y6, y7] ((kk + wk) % 4294967296) := by
        rw [runs, hy, hkk, hwk]
      have hcell := (hB.cell (p := ⟨g, k, none⟩) hgl).trans (HCEL.out k hlt)
      have hgr := Nat.lt_of_lt_of_le hgl hB.size
      rw [← hwk] at hcell
      have hcst : ∀ w, Calls Tryd.prog 47 #[.int .i64 k] w fun e w' => e = .returned (.int .u32 kk) ∧ Below w.heap.size w w' := by
        rw [hkk]
        exact fun w => rconst_any k w hlt
      have HC := Lib.hid hcell
      have HN := Lib.hid hnext
      have HB := Lib.hid hB
      have p0 : 0 ≤ (k : Int) := by omega
      have q0 : (k : Int) < 64 := by omega
      clear hkk hwk hnext hy hcell hB
      go_wp2
      go_region_held3 (fun w' => w'.cell? ⟨g, k, none⟩ = some (.int .u32 wk))
        (first | exact HC.out | exact (hb4.cell (p := ⟨g, k, none⟩) hgr).trans HC.out)
        (first
        | (go_at_call 46; refine (rturned_any _ _ _ (by omega) (by omega)).mono ?_; rintro e w4 ⟨rfl, rfl⟩)
        | (go_at_call 47; refine (hcst _).mono ?_; rintro e w4 ⟨rfl, hb4⟩))
      go_wp2_with (go_at_call 46; refine (rturned_any _ _ _ (by omega) (by omega)).mono ?_; rintro e w5 ⟨rfl, rfl⟩)
      go_roundw
      case rel =>
        refine ⟨k + 1, by omega, by go_num, ⟨_, _, _, _, _, _, _, _, rfl, rfl, rfl, rfl, rfl, rfl, rfl, rfl, ?_⟩, ?_⟩
        · rw [HN.out]
          simp only [rnd, bigE, bigA, chE, majA, x32, a32]
          congr 1
          · omega
          · congr 4
            omega
        · exact HB.out.trans ((by first | exact hb4 | exact below_draw hb4 : Below wr.heap.size wr _).mono HB.out.size)
      case measure => simp [intOf]; omega
    · have h64 : k = 64 := by omega
      rw [h64] at hy
      have hfin : roundedL r l = [(r0 + y0) % 4294967296, (r1 + y1) % 4294967296, (r2 + y2) % 4294967296, (r3 + y3) % 4294967296, (r4 + y4) % 4294967296, (r5 + y5) % 4294967296, (r6 + y6) % 4294967296, (r7 + y7) % 4294967296] := by
        rw [roundedL, ← HSD.out, hy, HRX.out]
        simp [addTo, Int.add_comm]
      obtain ⟨Z, hZ⟩ : ∃ Z, Z = roundedL r l := ⟨_, rfl⟩
      rw [← hZ] at hfin
      have HZ := Lib.hid hZ
      simp only [← IntKind.wrap_u32'] at hfin
      have hZl : Z.length = 8 := by rw [hfin]; rfl
      have hRw := HRow.out.below hB (by omega)
      have hOw := HORow.out.below hB (by omega)
      obtain ⟨c0, c1, c2, c3, c4, c5, c6, c7⟩ := hRw.eight
      have HF := Lib.hid hfin
      have HL := Lib.hid hZl
      have HB := Lib.hid hB
      clear hy hfin hZ hZl hB h64
      go_wp2_with (first
        | ((with_reducible refine wpList_store_r32 rfl 23 _ _ rfl (w.heap.size + 1) Z ?hx7 ?hy7 23 [0, 0, 0, 0, 0, 0, 0, 0] hOw (info8 HL.out) ?hl7 ?hm7); (case hx7 => rfl); (case hy7 => rw [HF.out]; rfl); (case hl7 => rw [HL.out]; rfl)
           intro w6 hg6 hX6 hs6))
      refine bodyPost_ret (v := .agg (regv Z)) ?_ ?_ ?_
      · exact results_cell_row Tryd.results39 _ _ (w.heap.size + 1) 23 _ (0, 0) _ rfl hX6.is Tryd.underlying23 rfl (info8 HL.out)
      · rfl
      · exact ⟨by rw [HZ.out], Below.grows (HB1.out.trans (HB.out.mono (by omega))) hg6 (by have := HB.out.size; omega) (by omega)⟩
end Go.Proofs.YtomfnnhdihbpfaaDoor
