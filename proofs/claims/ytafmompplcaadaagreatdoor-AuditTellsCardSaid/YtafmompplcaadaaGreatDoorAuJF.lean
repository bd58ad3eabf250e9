/- Joined texts: The walk over the plain answers' round: a register, rounded by a block. The walk over package sha's roundedBy: a register, rounded by all whole blocks of a slice. The walks over package sha's join (two slices of bytes, one behind the other) and ending (what stands behind n bytes). The walk over package sha's spelt: the bytes of a register. Arrays of bytes that lie in a block of their own. The walks over package sha's New, May, End, Add and Sum. The walks over the plain answers' New and May. The walk over package sha's End: the sum of a state. The walk over package sha's Add, where the state may be, and there is room for the bytes. Blocks, part by part: plain facts on lists. The walks over package sha's Add and End where they answer noughts, and over Sum. -/
import Derived.Test.YtafmompplcaadaaGreatDoorAuJE
import Derived.Test.YtafmompplcaadaaGreatDoorAuJA
import Derived.Laws.OwnMore
import Derived.Deep.RegionHeld3
import Derived.Deep.MidRow
/- The walk over the plain answers' round: a register, rounded by a block. -/
namespace Go.Proofs.YtafmompplcaadaaGreatDoor
open Go.RowKit

set_option maxRecDepth 100000 in
set_option maxHeartbeats 1000000 in
theorem rround_any (r l : List Int) (b off cap : Nat) (w : World) (hr : r.length = 8) (hby : ∀ j, 0 ≤ l.getD j 0 ∧ l.getD j 0 < 256)
    (hc : ∀ j, j < 64 → w.cell? ⟨b, off + j, none⟩ = some (.int .u8 (l.getD j 0))) :
    Calls Tryz.prog 94 #[.agg (regv r), .slice (some ⟨b, off, none⟩) 64 cap] w fun e w' => e = .returned (.agg (regv (roundedL r l))) ∧ Below w.heap.size w w' := by
  have hbw : b < w.heap.size := block_lt_of_cell (hc 0 (by omega))
  have HR := Lib.hid hr
  obtain ⟨S, hSd⟩ : ∃ S, S = spreadAll l := ⟨_, rfl⟩
  have hSl : S.length = 64 := by rw [hSd]; exact spreadAll_length l
  have HW := Lib.hid hSl
  have HSD := Lib.hid hSd
  clear hSd hSl
  go_enter Tryz.func94, Tryz.ntmps94
  go_wp2_with fail
  refine (numbers_any l b off cap _ hby (fun j hj => ((two_below w _ _).cell (p := ⟨b, off + j, none⟩) hbw).trans (hc j hj))).mono ?_
  rintro e w1 ⟨v, he, hown, hb1⟩
  rw [← HSD.out] at hown
  subst he
  obtain ⟨g, cp, rfl, hgb, hgl, hgc, hgm, cel⟩ := hown.form (by rw [HW.out]; omega)
  rw [HW.out] at cel ⊢
  obtain ⟨hB1, hz1, hR1, hO1⟩ := after_two hb1
  have hR1 : Row w1 w.heap.size 108 r := hR1
  have hO1 : Row w1 (w.heap.size + 1) 108 [0, 0, 0, 0, 0, 0, 0, 0] := hO1
  obtain ⟨r0, r1, r2, r3, r4, r5, r6, r7, hrx⟩ := eight hr
  have HRX := Lib.hid hrx
  rw [hrx] at hR1
  obtain ⟨c0, c1, c2, c3, c4, c5, c6, c7⟩ := hR1.eight
  have HRow := Lib.hid hR1
  have HORow := Lib.hid hO1
  have HCEL := Lib.hid cel
  have HB1 := Lib.hid hB1
  clear hb1 hc hown hrx hr hR1 hO1 cel hB1 hgc hgm
  go_wp2
  go_loopw [6, 7, 8, 9, 10, 11, 12, 13, 14] (fun a b c d e f g h i wr => ∃ k : Nat, k ≤ 64 ∧ i = .int .i64 k ∧ (∃ y0 y1 y2 y3 y4 y5 y6 y7 : Int, a = .int .u32 y0 ∧ b = .int .u32 y1 ∧ c = .int .u32 y2 ∧ d = .int .u32 y3 ∧ e = .int .u32 y4 ∧ f = .int .u32 y5 ∧ g = .int .u32 y6 ∧ h = .int .u32 y7 ∧ runs S r k = [y0, y1, y2, y3, y4, y5, y6, y7]) ∧ Below w1.heap.size w1 wr)
    (fun _ _ _ _ _ _ _ _ i _ => 64 - (intOf i).toNat)
  case atStart => exact ⟨0, by omega, rfl, ⟨_, _, _, _, _, _, _, _, rfl, rfl, rfl, rfl, rfl, rfl, rfl, rfl, HRX.out⟩, Below.refl _ _⟩
  case round =>
    clear c0 c1 c2 c3 c4 c5 c6 c7
    obtain ⟨k, hk, rfl, ⟨y0, y1, y2, y3, y4, y5, y6, y7, rfl, rfl, rfl, rfl, rfl, rfl, rfl, rfl, hy⟩, hB⟩ := hrel
    by_cases hlt : k < 64
    · obtain ⟨kk, hkk⟩ : ∃ x, x = kList.getD k 0 := ⟨_, rfl⟩
      obtain ⟨wk, hwk⟩ : ∃ x, x = S.getD k 0 := ⟨_, rfl⟩
      have hnext : runs S r (k + 1) = rnd [y0, y1, y2, y3, y4, y5, y6, y7] ((kk + wk) % 4294967296) := by
        rw [runs, hy, hkk, hwk]
      have hcell := (hB.cell (p := ⟨g, k, none⟩) hgl).trans (HCEL.out k hlt)
      have hgr := Nat.lt_of_lt_of_le hgl hB.size
      rw [← hwk] at hcell
      have hcst : ∀ w, Calls Tryz.prog 101 #[.int .i64 k] w fun e w' => e = .returned (.int .u32 kk) ∧ Below w.heap.size w w' := by
        rw [hkk]
        exact fun w => rconst_any k w hlt
      have HC := Lib.hid hcell
      have HN := Lib.hid hnext
      have HB := Lib.hid hB
      have p0 : 0 ≤ (k : Int) := by omega
      have q0 : (k : Int) < 64 := by omega
      clear hkk hwk hnext hy hcell hB
      go_wp2
      go_region_held3 (fun w' => w'.cell? ⟨g, k, none⟩ = some (.int .u32 wk))
        (first | exact HC.out | exact (hb4.cell (p := ⟨g, k, none⟩) hgr).trans HC.out)
        (first
        | (go_at_call 100; refine (rturned_any _ _ _ (by omega) (by omega)).mono ?_; rintro e w4 ⟨rfl, rfl⟩)
        | (go_at_call 101; refine (hcst _).mono ?_; rintro e w4 ⟨rfl, hb4⟩))
      go_wp2_with (go_at_call 100; refine (rturned_any _ _ _ (by omega) (by omega)).mono ?_; rintro e w5 ⟨rfl, rfl⟩)
      go_roundw
      case rel =>
        refine ⟨k + 1, by omega, by go_num, ⟨_, _, _, _, _, _, _, _, rfl, rfl, rfl, rfl, rfl, rfl, rfl, rfl, ?_⟩, ?_⟩
        · rw [HN.out]
          simp only [rnd, bigE, bigA, chE, majA, x32, a32]
          congr 1
          · omega
          · congr 4
            omega
        · exact HB.out.trans ((by first | exact hb4 | exact below_draw hb4 : Below wr.heap.size wr _).mono HB.out.size)
      case measure => simp [intOf]; omega
    · have h64 : k = 64 := by omega
      rw [h64] at hy
      have hfin : roundedL r l = [(r0 + y0) % 4294967296, (r1 + y1) % 4294967296, (r2 + y2) % 4294967296, (r3 + y3) % 4294967296, (r4 + y4) % 4294967296, (r5 + y5) % 4294967296, (r6 + y6) % 4294967296, (r7 + y7) % 4294967296] := by
        rw [roundedL, ← HSD.out, hy, HRX.out]
        simp [addTo, Int.add_comm]
      obtain ⟨Z, hZ⟩ : ∃ Z, Z = roundedL r l := ⟨_, rfl⟩
      rw [← hZ] at hfin
      have HZ := Lib.hid hZ
      simp only [← IntKind.wrap_u32'] at hfin
      have hZl : Z.length = 8 := by rw [hfin]; rfl
      have hRw := HRow.out.below hB (by omega)
      have hOw := HORow.out.below hB (by omega)
      obtain ⟨c0, c1, c2, c3, c4, c5, c6, c7⟩ := hRw.eight
      have HF := Lib.hid hfin
      have HL := Lib.hid hZl
      have HB := Lib.hid hB
      clear hy hfin hZ hZl hB h64
      go_wp2_with (first
        | ((with_reducible refine wpList_store_r32 rfl 108 _ _ rfl (w.heap.size + 1) Z ?hx7 ?hy7 108 [0, 0, 0, 0, 0, 0, 0, 0] hOw (info8 HL.out) ?hl7 ?hm7); (case hx7 => rfl); (case hy7 => rw [HF.out]; rfl); (case hl7 => rw [HL.out]; rfl)
           intro w6 hg6 hX6 hs6))
      refine bodyPost_ret (v := .agg (regv Z)) ?_ ?_ ?_
      · exact results_cell_row Tryz.results94 _ _ (w.heap.size + 1) 108 _ (0, 0) _ rfl hX6.is Tryz.underlying108 rfl (info8 HL.out)
      · rfl
      · exact ⟨by rw [HZ.out], Below.grows (HB1.out.trans (HB.out.mono (by omega))) hg6 (by have := HB.out.size; omega) (by omega)⟩
end Go.Proofs.YtafmompplcaadaaGreatDoor

/- The walk over package sha's roundedBy: a register, rounded by all whole blocks of a slice. -/
namespace Go.Proofs.YtafmompplcaadaaGreatDoor
open Go.RowKit

theorem rounded_lit (x0 x1 x2 x3 x4 x5 x6 x7 : Int) (l : List Int) (b off cap : Nat) (w : World) (hK : KTab w) (hby : ∀ j, 0 ≤ l.getD j 0 ∧ l.getD j 0 < 256)
    (hc : ∀ j, j < 64 → w.cell? ⟨b, off + j, none⟩ = some (.int .u8 (l.getD j 0))) :
    Calls Tryz.prog 98 #[.agg #[.int .u32 x0, .int .u32 x1, .int .u32 x2, .int .u32 x3, .int .u32 x4, .int .u32 x5, .int .u32 x6, .int .u32 x7], .slice (some ⟨b, off, none⟩) 64 cap] w
      fun e w' => e = .returned (.agg (regv (roundedL [x0, x1, x2, x3, x4, x5, x6, x7] l))) ∧ Below w.heap.size w w' :=
  rounded_any [x0, x1, x2, x3, x4, x5, x6, x7] l b off cap w hK rfl hby hc

theorem blocks_length (r l : List Int) (hr : r.length = 8) (k : Nat) : (blocksL r l k).length = 8 := by
  induction k with
  | zero => exact hr
  | succ k ih => rw [blocksL]; exact rounded_length _ _ ih
set_option maxRecDepth 100000 in
set_option maxHeartbeats 1000000 in
theorem roundedBy_some (r l : List Int) (b off n cap : Nat) (w : World) (hK : KTab w) (hr : r.length = 8) (hB : Bts w (some ⟨b, off, none⟩) n cap l) :
    Calls Tryz.prog 90 #[.agg (regv r), .slice (some ⟨b, off, none⟩) n cap] w fun e w' => e = .returned (.agg (regv (blocksL r l (n / 64)))) ∧ Below w.heap.size w w' := by
  have HR := Lib.hid hr
  have hle := hB.le
  have hmx := hB.max
  unfold maxLen at hmx
  have HBT := Lib.hid hB
  clear hr hB
  go_enter Tryz.func90, Tryz.ntmps90
  go_wp2
  go_loopw [9] (fun i wr => ∃ k : Nat, k ≤ n / 64 ∧ i = .int .i64 k ∧ Row wr w.heap.size 108 (blocksL r l k) ∧ Row wr (w.heap.size + 1) 108 [0, 0, 0, 0, 0, 0, 0, 0] ∧ Below w.heap.size w wr)
    (fun i _ => n / 64 - (intOf i).toNat)
  case atStart => exact ⟨0, by omega, rfl, heap_alloc2_old w _ _, heap_alloc2_new w _ _, two_below w _ _⟩
  case round =>
    obtain ⟨k, hk, rfl, hX, hO, hB⟩ := hrel
    have hXl := blocks_length r l HR.out k
    by_cases hlt : (k : Int) < (n : Int) / 64
    · have hkn : 64 * k + 64 ≤ n := by omega
      have hK1 := hK.from hB
      obtain ⟨b', off', hA, hc⟩ := HBT.out.at_ (by omega)
      obtain ⟨rfl, rfl⟩ : b = b' ∧ off = off' := by
        injection hA with hA; injection hA with h1 h2 _
        exact ⟨h1, h2⟩
      have hbw : b < w.heap.size := block_lt_of_cell (hc 0 (by omega))
      have hcell : ∀ j, j < 64 → wr.cell? ⟨b, off + k * 64 + j, none⟩ = some (.int .u8 (((l.drop (64 * k)).take 64).getD j 0)) := fun j hj => by
        rw [getD_piece _ _ _ hj, Nat.add_assoc, Nat.mul_comm k 64]
        exact (hB.cell (p := ⟨b, off + (64 * k + j), none⟩) hbw).trans (hc (64 * k + j) (by omega))
      have hby := ok_piece l HBT.out.ok (64 * k) 64
      obtain ⟨m, hm⟩ : ∃ m, m = (l.drop (64 * k)).take 64 := ⟨_, rfl⟩
      rw [← hm] at hcell hby
      obtain ⟨x0, x1, x2, x3, x4, x5, x6, x7, hx⟩ := eight hXl
      have hnext : blocksL r l (k + 1) = roundedL [x0, x1, x2, x3, x4, x5, x6, x7] m := by
        rw [blocksL, hx, hm]
      rw [hx] at hX
      have hl8 : (roundedL [x0, x1, x2, x3, x4, x5, x6, x7] m).length = 8 := rounded_length _ _ rfl
      obtain ⟨R, hR⟩ : ∃ R, R = roundedL [x0, x1, x2, x3, x4, x5, x6, x7] m := ⟨_, rfl⟩
      rw [← hR] at hnext hl8
      obtain ⟨c0, c1, c2, c3, c4, c5, c6, c7⟩ := hX.eight
      have HN := Lib.hid hnext
      have HL := Lib.hid hl8
      have HRD := Lib.hid hR
      have HC := Lib.hid hcell
      have s1 : IntKind.i64.wrap ((k : Int) * 64) = (k : Int) * 64 := IntWalk.i64_in _ (by omega)
      have s2 : IntKind.i64.wrap ((k : Int) + 1) = (k : Int) + 1 := IntWalk.i64_in _ (by omega)
      have s3 : IntKind.i64.wrap (((k : Int) + 1) * 64) = ((k : Int) + 1) * 64 := IntWalk.i64_in _ (by omega)
      have n3 : (k + 1) * 64 - k * 64 = 64 := by omega
      have hcut := run_cut b off n cap (k * 64) ((k + 1) * 64) ((k : Int) * 64) (((k : Int) + 1) * 64) (by omega) (by omega) (by omega) (by omega) (by omega)
      rw [n3] at hcut
      clear hnext hl8 hR hcell hx hXl hm hc hA
      go_wp2
      go_still_tail 8, (by kernel_rfl)
      clear c0 c1 c2 c3 c4 c5 c6 c7 hcut s1 s2 s3 n3
      go_wp2_with (first
        | (go_at_call 98; refine (rounded_lit _ _ _ _ _ _ _ _ m _ _ _ _ (by exact hK1) (by exact hby) (by exact HC.out)).mono ?_; rintro e w4 ⟨he, hb4⟩
           rw [← HRD.out] at he
           subst he
           have hb4 := below_draw hb4
           have hX4 := hX.below hb4 hX.lt)
        | ((with_reducible refine wpList_store_r32 rfl 108 _ _ rfl w.heap.size R ?hx5 ?hy5 108 [x0, x1, x2, x3, x4, x5, x6, x7] hX4 (info8 HL.out) ?hl5 ?hm5); (case hx5 => rfl); (case hy5 => rfl); (case hl5 => rw [HL.out]; rfl)
           intro w5 hg5 hX5 hs5))
      go_roundw
      case rel =>
        refine ⟨k + 1, by omega, by go_num, ?_, ?_, ?_⟩
        · rw [HN.out]; exact hX5
        · exact (hO.below hb4 hO.lt).grown hg5 (ne_some (by omega))
        · exact Below.grows (hB.trans (hb4.mono hB.size)) hg5 (Nat.le_trans hB.size hb4.size) (Nat.le_refl _)
      case measure => simp [intOf]; omega
    · have hge : (n : Int) / 64 ≤ (k : Int) := by omega
      rw [show k = n / 64 by omega] at hX hXl
      obtain ⟨Z, hZ⟩ : ∃ Z, Z = blocksL r l (n / 64) := ⟨_, rfl⟩
      rw [← hZ] at hX hXl
      have HZ := Lib.hid hZ
      have HXL := Lib.hid hXl
      clear hlt hk hXl hZ
      go_wp2_with (first
        | ((with_reducible refine wpList_load_r32 rfl 108 107 8 _ rfl w.heap.size ?hx6 108 Z hX Tryz.underlying108 (info8 HXL.out) ?_); (case hx6 => rfl))
        | ((with_reducible refine wpList_store_r32 rfl 108 _ _ rfl (w.heap.size + 1) Z ?hx7 ?hy7 108 [0, 0, 0, 0, 0, 0, 0, 0] hO (info8 HXL.out) ?hl7 ?hm7); (case hx7 => rfl); (case hy7 => rfl); (case hl7 => rw [HXL.out]; rfl)
           intro w6 hg6 hX6 hs6))
      refine bodyPost_ret (v := .agg (regv Z)) ?_ ?_ ?_
      · exact results_cell_row Tryz.results90 _ _ (w.heap.size + 1) 108 _ (0, 0) _ rfl hX6.is Tryz.underlying108 rfl (info8 HXL.out)
      · rfl
      · exact ⟨by rw [HZ.out], Below.grows hB hg6 hB.size (by omega)⟩

set_option maxRecDepth 100000 in
set_option maxHeartbeats 1000000 in
/-- fewer than 64 bytes: no block -/
theorem roundedBy_few (r : List Int) (A : Option Addr) (n cap : Nat) (w : World) (hr : r.length = 8) (hn : n < 64) :
    Calls Tryz.prog 90 #[.agg (regv r), .slice A n cap] w fun e w' => e = .returned (.agg (regv r)) ∧ Below w.heap.size w w' := by
  have HR := Lib.hid hr
  have hq : (n : Int) / 64 = 0 := by omega
  clear hr
  go_enter Tryz.func90, Tryz.ntmps90
  go_wp2
  refine wp_loop_rounds 1 ?_
  rw [rounds_succ]
  have hX : ∀ o, Row ((w.alloc (.cells (regv r) 108)).alloc o) w.heap.size 108 r := fun o => heap_alloc2_old w _ _
  go_wp2_with (first
    | ((with_reducible refine wpList_load_r32 rfl 108 107 8 _ rfl w.heap.size ?hx6 108 r (hX _) Tryz.underlying108 (info8 HR.out) ?_); (case hx6 => rfl))
    | ((with_reducible refine wpList_store_r32 rfl 108 _ _ rfl (w.heap.size + 1) r ?hx7 ?hy7 108 [0, 0, 0, 0, 0, 0, 0, 0] ?hO (info8 HR.out) ?hl7 ?hm7); (case hx7 => rfl); (case hy7 => rfl); (case hO => exact heap_alloc2_new w _ _); (case hl7 => rw [HR.out]; rfl)
       intro w6 hg6 hX6 hs6))
  refine bodyPost_ret (v := .agg (regv r)) ?_ ?_ ?_
  · exact results_cell_row Tryz.results90 _ _ (w.heap.size + 1) 108 _ (0, 0) _ rfl hX6.is Tryz.underlying108 rfl (info8 HR.out)
  · rfl
  · exact ⟨rfl, Below.grows (two_below w _ _) hg6 (by simp; omega) (by omega)⟩

/-- whatever the slice is -/
theorem roundedBy_any (r l : List Int) (A : Option Addr) (n cap : Nat) (w : World) (hK : KTab w) (hr : r.length = 8) (hB : Bts w A n cap l) :
    Calls Tryz.prog 90 #[.agg (regv r), .slice A n cap] w fun e w' => e = .returned (.agg (regv (byBlocks r l))) ∧ Below w.heap.size w w' := by
  by_cases hn : n < 64
  · have h0 : byBlocks r l = r := by
      rw [byBlocks, hB.len, show n / 64 = 0 by omega]; rfl
    rw [h0]
    exact roundedBy_few r A n cap w hr hn
  · obtain ⟨b, off, rfl, _⟩ := hB.at_ (by omega)
    rw [byBlocks, hB.len]
    exact roundedBy_some r l b off n cap w hK hr hB
end Go.Proofs.YtafmompplcaadaaGreatDoor

/- The walks over package sha's join (two slices of bytes, one behind the other) and ending (what stands behind n bytes). -/
namespace Go.Proofs.YtafmompplcaadaaGreatDoor
open Go.RowKit

set_option maxHeartbeats 1000000 in
theorem join_any (l l2 : List Int) (A B : Option Addr) (n c m d : Nat) (w : World) (ha : Bts w A n c l) (hb : Bts w B m d l2) (hn : n ≤ 4194304) (hm : m ≤ 4194304) :
    Calls Tryz.prog 91 #[.slice A n c, .slice B m d] w fun e w' => ∃ v, e = .returned v ∧ Own w' w.heap.size v (l ++ l2) ∧ Below w.heap.size w w' := by
  have hla := ha.len
  have HLA := Lib.hid hla
  have hln : l.length ≤ 4194304 := by omega
  clear hla
  go_enter Tryz.func91, Tryz.ntmps91
  go_wp2_with (first
    | (at_make
       refine wpList_make_b rfl _ _ rfl w.heap.size ((n : Int) + (m : Int)) (n + m) rfl rfl (by omega) (by omega) (Nat.le_refl _) ?_
       intro v1 w1 hown1 hg1
       have hB1 : Below w.heap.size w w1 := (Below.refl _ _).grown hg1 (Nat.le_refl _) (fun k hk => by cases hk))
    | (at_builtin
       refine wpList_append_b rfl (.tmp 12) (.tmp 13) rfl w.heap.size v1 [] rfl hown1 A n c l rfl (ha.below hB1) (by simp only [List.length_nil]; omega) hB1.size ?_
       intro v2 w2 hown2 hg2
       have hB2 : Below w.heap.size w w2 := hB1.grown hg2 hB1.size (fun k hk => (hown1.size k hk).1)
       clear hg2 hg1)
    | (at_builtin
       refine wpList_append_b rfl (.tmp 15) (.tmp 16) rfl w.heap.size v2 ([] ++ l) rfl hown2 B m d l2 rfl (hb.below hB2) (by simp only [List.nil_append]; omega) hB2.size ?_
       intro v3 w3 hown3 hg3
       have hB3 : Below w.heap.size w w3 := hB2.grown hg3 hB2.size (fun k hk => (hown2.size k hk).1)))
  go_ret
  exact ⟨v3, rfl, hown3, hB3⟩

theorem ok_bits8 (n i : Nat) : 0 ≤ bits8 n i ∧ bits8 n i < 256 := by
  unfold bits8; omega
theorem ok_ending (n : Nat) : ∀ j, 0 ≤ (endingL n).getD j 0 ∧ (endingL n).getD j 0 < 256 := by
  unfold endingL
  exact ok_append (ok_append (ok_one1 128 (by omega) (by omega)) (ok_rep _)) (ok_map _ (ok_bits8 n) 8)
set_option maxHeartbeats 1000000 in
theorem ending_any (n : Nat) (w : World) (hn : n ≤ 1048576) :
    Calls Tryz.prog 92 #[.int .i64 n] w fun e w' => ∃ v, e = .returned v ∧ Own w' w.heap.size v (endingL n) ∧ Below w.heap.size w w' := by
  have hno : noughts n ≤ 63 := by unfold noughts; omega
  go_enter Tryz.func92, Tryz.ntmps92
  go_wp2
  go_loopw [3] (fun v wr => ∃ k : Nat, k ≤ noughts n ∧ Own wr w.heap.size v ([128] ++ List.replicate k 0) ∧ Below w.heap.size w wr) (fun v _ => 65 - lenV v)
  case atStart => exact ⟨0, by omega, one_own w 128, (Below.refl _ _).alloc (Nat.le_refl _) _⟩
  case round =>
    obtain ⟨k, hk, hown, hB⟩ := hrel
    obtain ⟨A, cap, rfl, hbt⟩ := hown.bts (ok_append (ok_one1 128 (by omega) (by omega)) (ok_rep k))
    have hlen : ([128] ++ List.replicate k (0 : Int)).length = k + 1 := by simp
    obtain ⟨L, hL⟩ : ∃ L, L = [128] ++ List.replicate k (0 : Int) := ⟨_, rfl⟩
    rw [← hL] at hown hbt hlen
    rw [← hL, hlen]
    rw [hlen] at hbt hown
    have HL := Lib.hid hL
    have HLN := Lib.hid hlen
    clear hL hlen
    by_cases hlt : k < noughts n
    · have ht : (((n : Int) + ((k : Int) + 1) + 8) % 64 != 0) = true := by
        rw [bne_iff_ne]; unfold noughts at hlt; omega
      have hsm : L.length + 1 ≤ 140737488355328 := by rw [HLN.out]; omega
      go_wp2_with (first
        | (at_builtin
           refine wpList_append_b rfl (.tmp 14) (.tmp 15) rfl w.heap.size (.slice A (k + 1) cap) L rfl (hown.more _) (some ⟨wr.heap.size, 0, none⟩) 1 1 [0] rfl (one_bts wr 0 (by omega) (by omega)) hsm (Nat.le_trans hB.size (size_le_alloc _ _)) ?_
           intro v' w' hown' hg'))
      go_roundw
      case rel =>
        refine ⟨k + 1, by omega, ?_, (hB.alloc hB.size _).grown hg' (Nat.le_trans hB.size (size_le_alloc _ _)) (fun g hg => (hown.size g hg).1)⟩
        rw [HL.out, List.append_assoc, ← List.replicate_succ'] at hown'
        exact hown'
      case measure =>
        obtain ⟨A', c', hv, _⟩ := hown'.bts (ok_append (HL.out ▸ ok_append (ok_one1 128 (by omega) (by omega)) (ok_rep k)) (ok_one1 0 (by omega) (by omega)))
        rw [hv]
        simp only [lenV, List.length_append, HLN.out, List.length_cons, List.length_nil]
        omega
    · have ht : (((n : Int) + ((k : Int) + 1) + 8) % 64 != 0) = false := by
        rw [bne_eq_false_iff_eq]; unfold noughts at hlt hk; omega
      have hk' : k = noughts n := by omega
      have HK := Lib.hid hk'
      clear hk' hlt
      go_wp2
      go_loopw [3, 20] (fun v i wr => ∃ k : Nat, k ≤ 8 ∧ i = .int .i64 k ∧ Own wr w.heap.size v (L ++ (List.range k).map (bits8 n)) ∧ Below w.heap.size w wr) (fun _ i _ => 8 - (intOf i).toNat)
      case atStart => exact ⟨0, by omega, rfl, by simpa using hown, hB⟩
      case round =>
        clear hown hB hbt
        obtain ⟨i, hi, rfl, hown, hB⟩ := hrel
        by_cases hlt : i < 8
        · have hlenM : (L ++ (List.range i).map (bits8 n)).length = k + 1 + i := by simp [HLN.out]
          have hnext : L ++ (List.range (i + 1)).map (bits8 n) = (L ++ (List.range i).map (bits8 n)) ++ [bits8 n i] := by
            rw [List.range_succ, List.map_append, List.append_assoc]; rfl
          have hval : 8 * (n : Int) / 2 ^ (56 - 8 * i) % 256 = bits8 n i := by
            rw [bits8]; simp
          have hb9 : 0 ≤ 8 * (n : Int) / 2 ^ (56 - 8 * i) % 256 ∧ 8 * (n : Int) / 2 ^ (56 - 8 * i) % 256 < 256 := by omega
          obtain ⟨M, hM⟩ : ∃ M, M = L ++ (List.range i).map (bits8 n) := ⟨_, rfl⟩
          rw [← hM] at hown hlenM hnext
          rw [← hval] at hnext
          have hsm : M.length + 1 ≤ 140737488355328 := by omega
          have HN := Lib.hid hnext
          clear hM hlenM hnext hval
          go_wp2_with (first
            | (at_builtin
               refine wpList_append_b rfl (.tmp 23) (.tmp 30) rfl w.heap.size _ M rfl (hown.more _) (some ⟨wr.heap.size, 0, none⟩) 1 1 [8 * (n : Int) / 2 ^ (56 - 8 * i) % 256] rfl (one_bts wr _ hb9.1 hb9.2) hsm (Nat.le_trans hB.size (size_le_alloc _ _)) ?_
               intro v' w' hown' hg'))
          go_roundw
          case rel =>
            refine ⟨i + 1, by omega, by go_num, by rw [HN.out]; exact hown', (hB.alloc hB.size _).grown hg' (Nat.le_trans hB.size (size_le_alloc _ _)) (fun g hg => (hown.size g hg).1)⟩
          case measure => simp [intOf]; omega
        · have h8 : i = 8 := by omega
          rw [h8] at hown
          have HOWN := Lib.hid hown
          have hge : 8 ≤ i := by omega
          clear hown hi h8 hlt
          go_wp2
          go_ret
          refine ⟨_, rfl, ?_, hB⟩
          have := HOWN.out
          rw [HL.out, HK.out] at this
          exact this
end Go.Proofs.YtafmompplcaadaaGreatDoor

/- The walk over package sha's spelt: the bytes of a register. Arrays of bytes that lie in a block of their own. -/
namespace Go.Proofs.YtafmompplcaadaaGreatDoor
open Go.RowKit

theorem info32 {l : List Int} (h : l.length = 32) : (Tryz.prog.info? 27).map (·.size) = some (idv l).size := by rw [idv_size, h]; kernel_rfl

set_option maxRecDepth 100000 in
set_option maxHeartbeats 1000000 in
theorem spelt_any (r : List Int) (w : World) (hr : r.length = 8) :
    Calls Tryz.prog 89 #[.agg (regv r)] w fun e w' => e = .returned (.agg (idv (speltL r))) ∧ Below w.heap.size w w' := by
  have HR := Lib.hid hr
  clear hr
  go_enter Tryz.func89, Tryz.ntmps89
  go_wp2
  go_loopw [5] (fun i wr => ∃ k : Nat, k ≤ 32 ∧ i = .int .i64 k ∧ Row wr w.heap.size 108 r ∧ RowB wr (w.heap.size + 1) 27 (List.replicate 32 0) ∧ RowB wr (w.heap.size + 2) 27 (fillTo (speltAt r) 32 k) ∧ Below w.heap.size w wr)
    (fun i _ => 32 - (intOf i).toNat)
  case atStart =>
    have h := two_rows w (.cells (regv r) 108) 27 _ _ (List.replicate 32 0) rfl rfl
    exact ⟨0, by omega, rfl, Row.more (heap_alloc2_old w _ _) _, h.1, h.2, three_below w _ _ _⟩
  case round =>
    obtain ⟨k, hk, rfl, hR, hO, hX, hB⟩ := hrel
    have hXl := fillTo_length (speltAt r) 32 k
    by_cases hlt : k < 32
    · have hRc := hR.cell (k / 4) (by rw [HR.out]; omega)
      have hXc := hX.cell k (by rw [hXl]; exact hlt)
      have hXf := hX.free k
      have hnext : fillTo (speltAt r) 32 (k + 1) = (fillTo (speltAt r) 32 k).set k (speltAt r k) := rfl
      obtain ⟨x, hx⟩ : ∃ x, x = r.getD (k / 4) 0 := ⟨_, rfl⟩
      rw [← hx] at hRc
      have hval : speltAt r k = x / 2 ^ (24 - 8 * (k % 4)) % 256 := by rw [speltAt, hx]
      rw [hval] at hnext
      have HN := Lib.hid hnext
      clear hx hnext hval hXl
      go_wp2
      go_roundw
      case rel =>
        refine ⟨k + 1, by omega, by go_num, ?_, ?_, ?_, ?_⟩
        · exact hR.draw1.far (a := ⟨w.heap.size + 2, k, none⟩) (by simp) _
        · exact hO.draw1.far (a := ⟨w.heap.size + 2, k, none⟩) (by simp) _
        · rw [HN.out]; exact hX.draw1.put k _
        · exact hB.setCell (p := ⟨w.heap.size + 2, k, none⟩) (by simp) _
      case measure => simp [intOf]; omega
    · have hge : 32 ≤ k := by omega
      rw [show k = 32 by omega] at hX hXl
      rw [fillTo_all] at hX hXl
      obtain ⟨Z, hZ⟩ : ∃ Z, Z = speltL r := ⟨_, rfl⟩
      have hX : RowB wr (w.heap.size + 2) 27 Z := by rw [hZ]; exact hX
      have hXl : Z.length = 32 := by rw [hZ]; exact hXl
      have HZ := Lib.hid hZ
      have HXL := Lib.hid hXl
      clear hlt hk hXl hZ hR
      go_wp2_with (first
        | ((with_reducible refine wpList_load_b rfl 27 _ _ rfl (w.heap.size + 2) ?hx6 27 Z hX Tryz.underlying27 ?hd6 (info32 HXL.out) ?_); (case hx6 => rfl); (case hd6 => rfl))
        | ((with_reducible refine wpList_store_b rfl 27 _ _ rfl (w.heap.size + 1) Z ?hx7 ?hy7 27 (List.replicate 32 0) hO (info32 HXL.out) ?hl7 ?hm7); (case hx7 => rfl); (case hy7 => rfl); (case hl7 => rw [HXL.out]; rfl)
           intro w6 hg6 hX6 hs6))
      refine bodyPost_ret (v := .agg (idv Z)) ?_ ?_ ?_
      · exact results_cell_row Tryz.results89 _ _ (w.heap.size + 1) 27 _ (0, 0) _ rfl hX6.is Tryz.underlying27 rfl (info32 HXL.out)
      · rfl
      · exact ⟨by rw [HZ.out], Below.grows hB hg6 hB.size (by omega)⟩
end Go.Proofs.YtafmompplcaadaaGreatDoor

/- The walks over package sha's New, May, End, Add and Sum. -/
namespace Go.Proofs.YtafmompplcaadaaGreatDoor
open Go.RowKit

/-- a state, as a value -/
abbrev hashV (x0 x1 x2 x3 x4 x5 x6 x7 : Int) (A : Option Addr) (n c : Nat) (len : Int) : Value :=
  .agg #[.int .u32 x0, .int .u32 x1, .int .u32 x2, .int .u32 x3, .int .u32 x4, .int .u32 x5, .int .u32 x6, .int .u32 x7, .slice A n c, .int .i64 len]

set_option maxHeartbeats 1000000 in
theorem new_any (w : World) :
    Calls Tryz.prog 77 #[] w fun e w' => e = .returned (hashV 1779033703 3144134277 1013904242 2773480762 1359893119 2600822924 528734635 1541459225 none 0 0 0) ∧ Below w.heap.size w w' := by
  go_enter Tryz.func77, Tryz.ntmps77
  go_wp2
  exact bodyPost_ret (v := hashV 1779033703 3144134277 1013904242 2773480762 1359893119 2600822924 528734635 1541459225 none 0 0 0) (by simp [results, Tryz.results77, go_sem]) rfl ⟨rfl, (Below.refl _ _).alloc (Nat.le_refl _) _⟩

/-- may a state be? -/
def mayB (n : Nat) (len : Int) : Bool := decide (0 ≤ len ∧ len ≤ 1048576 ∧ (n : Int) = len % 64)
theorem mayB_yes {n : Nat} {len : Int} (h : mayB n len = true) : 0 ≤ len ∧ len ≤ 1048576 ∧ (n : Int) = len % 64 := of_decide_eq_true h
theorem mayB_no {n : Nat} {len : Int} (h : mayB n len = false) : ¬ (0 ≤ len ∧ len ≤ 1048576 ∧ (n : Int) = len % 64) := of_decide_eq_false h

set_option maxHeartbeats 1000000 in
theorem may_any (x0 x1 x2 x3 x4 x5 x6 x7 : Int) (A : Option Addr) (n c : Nat) (len : Int) (w : World) :
    Calls Tryz.prog 88 #[hashV x0 x1 x2 x3 x4 x5 x6 x7 A n c len] w fun e w' => e = .returned (.bool (mayB n len)) ∧ w.alloc (.cells #[.int .u32 x0, .int .u32 x1, .int .u32 x2, .int .u32 x3, .int .u32 x4, .int .u32 x5, .int .u32 x6, .int .u32 x7, .slice A n c, .int .i64 len] 110) = w' := by
  have k1 : 0 ≤ len → len ≤ 1048576 → ((n : Int) == len % 64) = mayB n len := by
    intro h0 h1
    unfold mayB
    rw [Bool.eq_iff_iff]
    simp [h0, h1]
  have k2 : 0 ≤ len → 1048576 < len → false = mayB n len := by
    intro h0 h1
    unfold mayB
    rw [Bool.eq_iff_iff]
    simp; omega
  have k3 : len < 0 → false = mayB n len := by
    intro h0
    unfold mayB
    rw [Bool.eq_iff_iff]
    simp; omega
  have K1 := Lib.hid k1
  have K2 := Lib.hid k2
  have K3 := Lib.hid k3
  clear k1 k2 k3
  go_enter Tryz.func88, Tryz.ntmps88
  go_wp2
  · go_ret
    exact ⟨congrArg (fun b => Ending.returned (Value.bool b)) (K1.out (by assumption) (by assumption)), rfl⟩
  · go_ret
    exact ⟨congrArg (fun b => Ending.returned (Value.bool b)) (K2.out (by assumption) (by assumption)), rfl⟩
  · go_ret
    exact ⟨congrArg (fun b => Ending.returned (Value.bool b)) (K3.out (by assumption)), rfl⟩

end Go.Proofs.YtafmompplcaadaaGreatDoor

/- The walks over the plain answers' New and May. -/
namespace Go.Proofs.YtafmompplcaadaaGreatDoor
open Go.RowKit

theorem rnew_any (w : World) :
    Calls Tryz.prog 80 #[] w fun e w' => e = .returned (hashV 1779033703 3144134277 1013904242 2773480762 1359893119 2600822924 528734635 1541459225 none 0 0 0) ∧ Below w.heap.size w w' := by
  go_enter Tryz.func80, Tryz.ntmps80
  go_wp2
  exact bodyPost_ret (v := hashV 1779033703 3144134277 1013904242 2773480762 1359893119 2600822924 528734635 1541459225 none 0 0 0) (by simp [results, Tryz.results80, go_sem]) rfl ⟨rfl, (Below.refl _ _).alloc (Nat.le_refl _) _⟩

set_option maxHeartbeats 1000000 in
theorem rmay_any (x0 x1 x2 x3 x4 x5 x6 x7 : Int) (A : Option Addr) (n c : Nat) (len : Int) (w : World) :
    Calls Tryz.prog 93 #[hashV x0 x1 x2 x3 x4 x5 x6 x7 A n c len] w fun e w' => e = .returned (.bool (mayB n len)) ∧ w.alloc (.cells #[.int .u32 x0, .int .u32 x1, .int .u32 x2, .int .u32 x3, .int .u32 x4, .int .u32 x5, .int .u32 x6, .int .u32 x7, .slice A n c, .int .i64 len] 110) = w' := by
  have k1 : 0 ≤ len → len ≤ 1048576 → ((n : Int) == len % 64) = mayB n len := by
    intro h0 h1
    unfold mayB
    rw [Bool.eq_iff_iff]
    simp [h0, h1]
  have k2 : 0 ≤ len → 1048576 < len → false = mayB n len := by
    intro h0 h1
    unfold mayB
    rw [Bool.eq_iff_iff]
    simp; omega
  have k3 : len < 0 → false = mayB n len := by
    intro h0
    unfold mayB
    rw [Bool.eq_iff_iff]
    simp; omega
  have K1 := Lib.hid k1
  have K2 := Lib.hid k2
  have K3 := Lib.hid k3
  clear k1 k2 k3
  go_enter Tryz.func93, Tryz.ntmps93
  go_wp2
  · go_ret
    exact ⟨congrArg (fun b => Ending.returned (Value.bool b)) (K1.out (by assumption) (by assumption)), rfl⟩
  · go_ret
    exact ⟨congrArg (fun b => Ending.returned (Value.bool b)) (K2.out (by assumption) (by assumption)), rfl⟩
  · go_ret
    exact ⟨congrArg (fun b => Ending.returned (Value.bool b)) (K3.out (by assumption)), rfl⟩
end Go.Proofs.YtafmompplcaadaaGreatDoor

/- The walk over package sha's End: the sum of a state. -/
namespace Go.Proofs.YtafmompplcaadaaGreatDoor
open Go.RowKit

theorem roundedBy_lit (x0 x1 x2 x3 x4 x5 x6 x7 : Int) (l : List Int) (A : Option Addr) (n cap : Nat) (w : World) (hK : KTab w) (hB : Bts w A n cap l) :
    Calls Tryz.prog 90 #[.agg #[.int .u32 x0, .int .u32 x1, .int .u32 x2, .int .u32 x3, .int .u32 x4, .int .u32 x5, .int .u32 x6, .int .u32 x7], .slice A n cap] w
      fun e w' => e = .returned (.agg (regv (byBlocks [x0, x1, x2, x3, x4, x5, x6, x7] l))) ∧ Below w.heap.size w w' :=
  roundedBy_any [x0, x1, x2, x3, x4, x5, x6, x7] l A n cap w hK rfl hB
theorem byBlocks_length (r l : List Int) (hr : r.length = 8) : (byBlocks r l).length = 8 := blocks_length r l hr _
theorem ending_length (n : Nat) : (endingL n).length ≤ 100 := by
  have : noughts n ≤ 63 := by unfold noughts; omega
  simp only [endingL, List.length_append, List.length_cons, List.length_nil, List.length_replicate, List.length_map, List.length_range]
  omega
theorem spelt_length (r : List Int) : (speltL r).length = 32 := by simp [speltL]

theorem box_cells {W : World} {g : Nat} {t : TypeId} {v0 v1 v2 v3 v4 v5 v6 v7 v8 v9 : Value} (h : W.heap[g]? = some (.cells #[v0, v1, v2, v3, v4, v5, v6, v7, v8, v9] t (0, 0))) :
    W.cell? ⟨g, 0, none⟩ = some v0 ∧ W.cell? ⟨g, 1, none⟩ = some v1 ∧ W.cell? ⟨g, 2, none⟩ = some v2 ∧ W.cell? ⟨g, 3, none⟩ = some v3 ∧ W.cell? ⟨g, 4, none⟩ = some v4 ∧
    W.cell? ⟨g, 5, none⟩ = some v5 ∧ W.cell? ⟨g, 6, none⟩ = some v6 ∧ W.cell? ⟨g, 7, none⟩ = some v7 ∧ W.cell? ⟨g, 8, none⟩ = some v8 ∧ W.cell? ⟨g, 9, none⟩ = some v9 := by
  refine ⟨?_, ?_, ?_, ?_, ?_, ?_, ?_, ?_, ?_, ?_⟩ <;> exact (cell_of_row _ _ _ _ _ _ h).trans rfl

def BoxAt (w : World) (g : Nat) (x0 x1 x2 x3 x4 x5 x6 x7 : Int) (A : Option Addr) (n c : Nat) (len : Int) : Prop :=
  w.heap[g]? = some (.cells #[.int .u32 x0, .int .u32 x1, .int .u32 x2, .int .u32 x3, .int .u32 x4, .int .u32 x5, .int .u32 x6, .int .u32 x7, .slice A n c, .int .i64 len] 110 (0, 0))
theorem BoxAt.cells {W : World} {g : Nat} {x0 x1 x2 x3 x4 x5 x6 x7 : Int} {A : Option Addr} {n c : Nat} {len : Int} (h : BoxAt W g x0 x1 x2 x3 x4 x5 x6 x7 A n c len) :
    W.cell? ⟨g, 0, none⟩ = some (.int .u32 x0) ∧ W.cell? ⟨g, 1, none⟩ = some (.int .u32 x1) ∧ W.cell? ⟨g, 2, none⟩ = some (.int .u32 x2) ∧ W.cell? ⟨g, 3, none⟩ = some (.int .u32 x3) ∧ W.cell? ⟨g, 4, none⟩ = some (.int .u32 x4) ∧
    W.cell? ⟨g, 5, none⟩ = some (.int .u32 x5) ∧ W.cell? ⟨g, 6, none⟩ = some (.int .u32 x6) ∧ W.cell? ⟨g, 7, none⟩ = some (.int .u32 x7) ∧ W.cell? ⟨g, 8, none⟩ = some (.slice A n c) ∧ W.cell? ⟨g, 9, none⟩ = some (.int .i64 len) := box_cells h
theorem BoxAt.sets {w : World} {g k : Nat} {x0 x1 x2 x3 x4 x5 x6 x7 : Int} {A : Option Addr} {n c : Nat} {len : Int} (h : BoxAt w g x0 x1 x2 x3 x4 x5 x6 x7 A n c len) (hk : g ≠ k) (o : Nat) (vs : List Value) : BoxAt (w.setCells k o vs) g x0 x1 x2 x3 x4 x5 x6 x7 A n c len :=
  (setCells_off hk vs o w).trans h
theorem BoxAt.below {w W : World} {g : Nat} {x0 x1 x2 x3 x4 x5 x6 x7 : Int} {A : Option Addr} {n c : Nat} {len : Int} (h : BoxAt w g x0 x1 x2 x3 x4 x5 x6 x7 A n c len) (hb : Below w.heap.size w W) : BoxAt W g x0 x1 x2 x3 x4 x5 x6 x7 A n c len :=
  (hb.block g (Array.getElem?_eq_some_iff.1 h).1).trans h

set_option maxRecDepth 100000 in
set_option maxHeartbeats 1000000 in
theorem end_good (x0 x1 x2 x3 x4 x5 x6 x7 : Int) (A : Option Addr) (n c N : Nat) (rest : List Int) (w : World) (hK : KTab w) (hmay : mayB n N = true) (hb : Bts w A n c rest) :
    Calls Tryz.prog 75 #[hashV x0 x1 x2 x3 x4 x5 x6 x7 A n c N] w fun e w' => e = .returned (.agg (idv (endL [x0, x1, x2, x3, x4, x5, x6, x7] rest N))) ∧ Below w.heap.size w w' := by
  obtain ⟨_, hN, hn⟩ := mayB_yes hmay
  have hN : N ≤ 1048576 := by omega
  have hn64 : n < 64 := by omega
  have hel := ending_length N
  have hlen := byBlocks_length [x0, x1, x2, x3, x4, x5, x6, x7] (rest ++ endingL N) rfl
  obtain ⟨R, hR⟩ : ∃ R, R = byBlocks [x0, x1, x2, x3, x4, x5, x6, x7] (rest ++ endingL N) := ⟨_, rfl⟩
  obtain ⟨Z, hZ⟩ : ∃ Z, Z = speltL R := ⟨_, rfl⟩
  have hZl : Z.length = 32 := by rw [hZ]; exact spelt_length R
  have hfin : endL [x0, x1, x2, x3, x4, x5, x6, x7] rest N = Z := by rw [hZ, hR, endL]
  rw [← hR] at hlen
  rw [hfin]
  have HR := Lib.hid hR
  have HZ := Lib.hid hZ
  have HZL := Lib.hid hZl
  have HRL := Lib.hid hlen
  have HN := Lib.hid hn
  clear hR hZ hZl hlen hfin hn
  go_enter Tryz.func75, Tryz.ntmps75
  go_wp2_with (go_at_call 88; refine (may_any _ _ _ _ _ _ _ _ _ _ _ _ _).mono ?_; rintro e w0 ⟨rfl, rfl⟩)
  generalize hW : World.alloc _ _ = W
  obtain ⟨hB0, hz0, hX0, hO0⟩ := named_three hW
  obtain ⟨b0, b1, b2, b3, b4, b5, b6, b7, b8, b9⟩ := box_cells hX0
  have hO0 : RowB W (w.heap.size + 1) 27 (List.replicate 32 0) := hO0
  have hz0 : w.heap.size + 1 < W.heap.size := by omega
  have hbe : BoxAt W w.heap.size x0 x1 x2 x3 x4 x5 x6 x7 A n c N := hX0
  clear hW hX0 hmay b0 b1 b2 b3 b4 b5 b6 b7 b8 b9
  have hi32 : (Tryz.prog.info? 27).map (·.size) = some 32 := by kernel_rfl
  have hZ32 : (byv Z).length = 32 := by rw [byv_length, HZL.out]
  have hone := byv_one Z
  go_region_held3 (fun w' => w'.cell? ⟨w.heap.size, 0, none⟩ = some (.int .u32 x0) ∧ w'.cell? ⟨w.heap.size, 1, none⟩ = some (.int .u32 x1) ∧ w'.cell? ⟨w.heap.size, 2, none⟩ = some (.int .u32 x2) ∧ w'.cell? ⟨w.heap.size, 3, none⟩ = some (.int .u32 x3) ∧ w'.cell? ⟨w.heap.size, 4, none⟩ = some (.int .u32 x4) ∧ w'.cell? ⟨w.heap.size, 5, none⟩ = some (.int .u32 x5) ∧ w'.cell? ⟨w.heap.size, 6, none⟩ = some (.int .u32 x6) ∧ w'.cell? ⟨w.heap.size, 7, none⟩ = some (.int .u32 x7) ∧ w'.cell? ⟨w.heap.size, 8, none⟩ = some (.slice A n c) ∧ w'.cell? ⟨w.heap.size, 9, none⟩ = some (.int .i64 N))
    (first | exact BoxAt.cells hbe | exact BoxAt.cells hbx1 | exact BoxAt.cells hbx2 | exact BoxAt.cells hbx3 | exact BoxAt.cells hbx4 | exact BoxAt.cells (hbx4.sets (Nat.ne_of_lt (Nat.lt_succ_self _)) _ _))
    (first
    | (go_at_call 92; refine (ending_any N _ hN).mono ?_; rintro e w1 ⟨v1, rfl, hown1, hb1⟩
       obtain ⟨A1, n1, c1, rfl, hbt1⟩ := hown1.slice (ok_ending N)
       have hb1 := below_draw hb1
       have hO1 := hO0.below hb1 hO0.lt
       have hbx1 := hbe.below hb1
       have hB1 : Below w.heap.size w w1 := hB0.trans (hb1.mono hB0.size)
       have hn1 : n1 ≤ 100 := by rw [← hbt1.len]; exact hel
       clear hown1 hb1)
    | (go_at_call 91; refine (join_any rest (endingL N) A A1 n c n1 c1 w1 (hb.below hB1) hbt1 (by omega) (by omega)).mono ?_; rintro e w2 ⟨v2, rfl, hown2, hb2⟩
       obtain ⟨A2, n2, c2, rfl, hbt2⟩ := hown2.slice (ok_append hb.ok (ok_ending N))
       have hbx2 := hbx1.below hb2
       clear hown2)
    | (go_at_call 90; refine (roundedBy_lit _ _ _ _ _ _ _ _ (rest ++ endingL N) A2 n2 c2 w2 (hK.from (hB1.trans (hb2.mono hB1.size))) hbt2).mono ?_; rintro e w3 ⟨he, hb3⟩
       rw [← HR.out] at he
       subst he
       have hbx3 := hbx2.below hb3)
    | (go_at_call 89; refine (spelt_any R w3 HRL.out).mono ?_; rintro e w4 ⟨he, hb4⟩
       rw [← HZ.out] at he
       subst he
       have hbx4 := hbx3.below hb4
       have hO4 : RowB w4 (w.heap.size + 1) 27 (List.replicate 32 0) := by
         have h2 := hO1.below hb2 hO1.lt
         have h3 := h2.below hb3 h2.lt
         exact h3.below hb4 h3.lt
       have hT4 : w4.there (w.heap.size + 1) 0 32 := there_of hO4 (by rw [idv_size]; rfl)
       have hB4 : Below w.heap.size w w4 := ((hB1.trans (hb2.mono hB1.size)).trans (hb3.mono (Nat.le_trans hB1.size hb2.size))).trans (hb4.mono (Nat.le_trans (Nat.le_trans hB1.size hb2.size) hb3.size))))
  go_wp2
  refine bodyPost_ret (v := .agg (idv Z)) ?_ ?_ ?_
  · exact results_cell_row Tryz.results75 _ _ (w.heap.size + 1) 27 (idv Z) (0, 0) _ rfl (setCells_all hO4 (by rw [hZ32, byv_length]; rfl)) Tryz.underlying27 rfl (info32 HZL.out)
  · rfl
  · exact ⟨rfl, setCells_below (Nat.le_succ _) _ _ _ hB4⟩
end Go.Proofs.YtafmompplcaadaaGreatDoor

/- The walk over package sha's Add, where the state may be, and there is room for the bytes. -/
namespace Go.Proofs.YtafmompplcaadaaGreatDoor
open Go.RowKit

theorem BoxAt.free {w : World} {g : Nat} {x0 x1 x2 x3 x4 x5 x6 x7 : Int} {A : Option Addr} {n c : Nat} {len : Int} (h : BoxAt w g x0 x1 x2 x3 x4 x5 x6 x7 A n c len) :
    w.frozen? ⟨g, 0, none⟩ = false ∧ w.frozen? ⟨g, 1, none⟩ = false ∧ w.frozen? ⟨g, 2, none⟩ = false ∧ w.frozen? ⟨g, 3, none⟩ = false ∧ w.frozen? ⟨g, 4, none⟩ = false ∧
    w.frozen? ⟨g, 5, none⟩ = false ∧ w.frozen? ⟨g, 6, none⟩ = false ∧ w.frozen? ⟨g, 7, none⟩ = false ∧ w.frozen? ⟨g, 8, none⟩ = false ∧ w.frozen? ⟨g, 9, none⟩ = false := by
  refine ⟨?_, ?_, ?_, ?_, ?_, ?_, ?_, ?_, ?_, ?_⟩ <;> exact frozen_of_row _ _ _ _ _ h
/-- bytes do not lie in a state's block -/
theorem BoxAt.apart {w : World} {g : Nat} {x0 x1 x2 x3 x4 x5 x6 x7 : Int} {A : Option Addr} {n c : Nat} {len : Int} (h : BoxAt w g x0 x1 x2 x3 x4 x5 x6 x7 A n c len) {b i : Nat} {x : Int} (hc : w.cell? ⟨b, i, none⟩ = some (.int .u8 x)) : b ≠ g := by
  rintro rfl
  rw [cell_of_row _ _ _ _ _ _ h] at hc
  match i, hc with
  | 0, hc => simp at hc
  | 1, hc => simp at hc
  | 2, hc => simp at hc
  | 3, hc => simp at hc
  | 4, hc => simp at hc
  | 5, hc => simp at hc
  | 6, hc => simp at hc
  | 7, hc => simp at hc
  | 8, hc => simp at hc
  | 9, hc => simp at hc
  | i + 10, hc => simp at hc
theorem Bts.sets {w : World} {g : Nat} {x0 x1 x2 x3 x4 x5 x6 x7 : Int} {A B : Option Addr} {n c m d : Nat} {len : Int} {l : List Int} (hb : Bts w B m d l) (h : BoxAt w g x0 x1 x2 x3 x4 x5 x6 x7 A n c len) (o : Nat) (vs : List Value) : Bts (w.setCells g o vs) B m d l := by
  refine ⟨hb.len, hb.le, hb.max, hb.ok, hb.bare, fun hm => ?_⟩
  obtain ⟨b, off, hA, hc⟩ := hb.at_ hm
  refine ⟨b, off, hA, fun j hj => ?_⟩
  rw [World.cell?_of_block (w := w) (a := ⟨b, off + j, none⟩) (setCells_off (h.apart (hc j hj)) vs o w)]
  exact hc j hj

theorem BoxAt.put10 {w : World} {g k : Nat} {x0 x1 x2 x3 x4 x5 x6 x7 : Int} {A : Option Addr} {n c : Nat} {len : Int} (h : BoxAt w g x0 x1 x2 x3 x4 x5 x6 x7 A n c len) (hk : g ≠ k) (v0 v1 v2 v3 v4 v5 v6 v7 v8 v9 : Value) :
    BoxAt ((((((((((w.setCell ⟨k, 0, none⟩ v0).setCell ⟨k, 1, none⟩ v1).setCell ⟨k, 2, none⟩ v2).setCell ⟨k, 3, none⟩ v3).setCell ⟨k, 4, none⟩ v4).setCell ⟨k, 5, none⟩ v5).setCell ⟨k, 6, none⟩ v6).setCell ⟨k, 7, none⟩ v7).setCell ⟨k, 8, none⟩ v8).setCell ⟨k, 9, none⟩ v9) g x0 x1 x2 x3 x4 x5 x6 x7 A n c len := h.sets hk 0 [v0, v1, v2, v3, v4, v5, v6, v7, v8, v9]
theorem BoxAt.draw1 {w : World} {g : Nat} {x0 x1 x2 x3 x4 x5 x6 x7 : Int} {A : Option Addr} {n c : Nat} {len : Int} (h : BoxAt w g x0 x1 x2 x3 x4 x5 x6 x7 A n c len) : BoxAt w.drew g x0 x1 x2 x3 x4 x5 x6 x7 A n c len := h
theorem Bts.put10 {w : World} {k : Nat} {x0 x1 x2 x3 x4 x5 x6 x7 : Int} {A B : Option Addr} {n c m d : Nat} {len : Int} {l : List Int} (hb : Bts w B m d l) (h : BoxAt w k x0 x1 x2 x3 x4 x5 x6 x7 A n c len) (v0 v1 v2 v3 v4 v5 v6 v7 v8 v9 : Value) :
    Bts ((((((((((w.setCell ⟨k, 0, none⟩ v0).setCell ⟨k, 1, none⟩ v1).setCell ⟨k, 2, none⟩ v2).setCell ⟨k, 3, none⟩ v3).setCell ⟨k, 4, none⟩ v4).setCell ⟨k, 5, none⟩ v5).setCell ⟨k, 6, none⟩ v6).setCell ⟨k, 7, none⟩ v7).setCell ⟨k, 8, none⟩ v8).setCell ⟨k, 9, none⟩ v9) B m d l := hb.sets h 0 [v0, v1, v2, v3, v4, v5, v6, v7, v8, v9]
theorem below_put10 {B : Nat} {w0 w : World} {k : Nat} (hk : B ≤ k) (h : Below B w0 w) (v0 v1 v2 v3 v4 v5 v6 v7 v8 v9 : Value) : Below B w0 ((((((((((w.setCell ⟨k, 0, none⟩ v0).setCell ⟨k, 1, none⟩ v1).setCell ⟨k, 2, none⟩ v2).setCell ⟨k, 3, none⟩ v3).setCell ⟨k, 4, none⟩ v4).setCell ⟨k, 5, none⟩ v5).setCell ⟨k, 6, none⟩ v6).setCell ⟨k, 7, none⟩ v7).setCell ⟨k, 8, none⟩ v8).setCell ⟨k, 9, none⟩ v9) := setCells_below hk [v0, v1, v2, v3, v4, v5, v6, v7, v8, v9] 0 w h
theorem heap_put10 {w : World} {k : Nat} {x0 x1 x2 x3 x4 x5 x6 x7 : Int} {A : Option Addr} {n c : Nat} {len : Int} (h : BoxAt w k x0 x1 x2 x3 x4 x5 x6 x7 A n c len) (v0 v1 v2 v3 v4 v5 v6 v7 v8 v9 : Value) :
    ((((((((((w.setCell ⟨k, 0, none⟩ v0).setCell ⟨k, 1, none⟩ v1).setCell ⟨k, 2, none⟩ v2).setCell ⟨k, 3, none⟩ v3).setCell ⟨k, 4, none⟩ v4).setCell ⟨k, 5, none⟩ v5).setCell ⟨k, 6, none⟩ v6).setCell ⟨k, 7, none⟩ v7).setCell ⟨k, 8, none⟩ v8).setCell ⟨k, 9, none⟩ v9).heap[k]? = some (.cells #[v0, v1, v2, v3, v4, v5, v6, v7, v8, v9] 110 (0, 0)) := setCells_all (vs := [v0, v1, v2, v3, v4, v5, v6, v7, v8, v9]) h rfl

/-- so many of the bytes are whole blocks -/
def whole (l : List Int) : Nat := l.length / 64 * 64
def AddPost (w : World) (x all : List Int) (len : Int) (e : Ending) (w' : World) : Prop :=
  ∃ y0 y1 y2 y3 y4 y5 y6 y7 A n c, e = .returned (hashV y0 y1 y2 y3 y4 y5 y6 y7 A n c len) ∧ byBlocks x (all.take (whole all)) = [y0, y1, y2, y3, y4, y5, y6, y7] ∧ Bts w' A n c (all.drop (whole all)) ∧ Below w.heap.size w w'

set_option maxRecDepth 100000 in
set_option maxHeartbeats 1000000 in
theorem add_good (x0 x1 x2 x3 x4 x5 x6 x7 : Int) (A B : Option Addr) (n c N m d : Nat) (rest b : List Int) (w : World) (hK : KTab w) (hmay : mayB n N = true) (hroom : (m : Int) ≤ 1048576 - N) (ha : Bts w A n c rest) (hb : Bts w B m d b) :
    Calls Tryz.prog 76 #[hashV x0 x1 x2 x3 x4 x5 x6 x7 A n c N, .slice B m d] w (AddPost w [x0, x1, x2, x3, x4, x5, x6, x7] (rest ++ b) ((N : Int) + (m : Int))) := by
  obtain ⟨_, hN, hn⟩ := mayB_yes hmay
  have hN : N ≤ 1048576 := by omega
  have hn64 : n < 64 := by omega
  have hm : m ≤ 1048576 := by omega
  have hlen := byBlocks_length [x0, x1, x2, x3, x4, x5, x6, x7] ((rest ++ b).take (whole (rest ++ b))) rfl
  obtain ⟨y0, y1, y2, y3, y4, y5, y6, y7, hY⟩ := eight hlen
  have HY := Lib.hid hY
  clear hY hlen hn
  go_enter Tryz.func76, Tryz.ntmps76
  go_wp2_with (go_at_call 88; refine (may_any _ _ _ _ _ _ _ _ _ _ _ _ _).mono ?_; rintro e w0 ⟨rfl, rfl⟩)
  generalize hW : World.alloc _ _ = W
  obtain ⟨hB0, hz0, hX0, hO0⟩ := named_three hW
  have hbe : BoxAt W w.heap.size x0 x1 x2 x3 x4 x5 x6 x7 A n c N := hX0
  have hbo : BoxAt W (w.heap.size + 1) 0 0 0 0 0 0 0 0 none 0 0 0 := hO0
  clear hW hX0 hO0 hmay hz0
  refine (join_any rest b A B n c m d W (ha.below hB0) (hb.below hB0) (by omega) (by omega)).mono ?_
  rintro e w1 ⟨v1, rfl, hown1, hb1⟩
  obtain ⟨A1, n1, c1, rfl, hbt1⟩ := hown1.slice (ok_append ha.ok hb.ok)
  have hbe1 := hbe.below hb1
  have hbo1 := hbo.below hb1
  have hB1 := hB0.trans (hb1.mono hB0.size)
  have hn1 : n1 = n + m := by rw [← hbt1.len, List.length_append, ha.len, hb.len]
  have hn1' : n1 ≤ 1048700 := by omega
  have hwh : n1 / 64 * 64 = whole (rest ++ b) := by rw [whole, hbt1.len]
  obtain ⟨A2, hfrom, hbt2⟩ := run_from hbt1 ((n1 : Int) / 64 * 64) (lo := n1 / 64 * 64) (by omega) (by omega)
  obtain ⟨hto, hbt3⟩ := run_to hbt1 ((n1 : Int) / 64 * 64) (hi := n1 / 64 * 64) (by omega) (by omega)
  have hq1 : n1 - n1 / 64 * 64 ≤ 64 := by omega
  rw [hwh] at hbt2 hbt3
  rw [hwh] at hfrom hto hq1
  obtain ⟨L, hL⟩ : ∃ L, L = whole (rest ++ b) := ⟨_, rfl⟩
  rw [← hL] at hbt2 hbt3 hfrom hto hq1
  have HL := Lib.hid hL
  clear hn1 hwh hown1 hb1 hbe hbo hL
  go_wp2_with fail
  refine (join_any ((rest ++ b).drop L) [] A2 none (n1 - L) (c1 - L) 0 0 w1 hbt2 (Bts.nil w1) (by omega) (by omega)).mono ?_
  rintro e w2 ⟨v3, rfl, hown3, hb2⟩
  obtain ⟨A3, n3, c3, rfl, hbt4⟩ := hown3.slice (ok_append hbt2.ok (Bts.nil w1).ok)
  rw [List.append_nil] at hbt4
  have hbe2 := hbe1.below hb2
  have hbo2 := hbo1.below hb2
  have hB2 := hB1.trans (hb2.mono hB1.size)
  have hbt5 := hbt3.below hb2
  clear hown3 hb2 hbe1 hbo1 hbt2 hbt3 hbt1 hfrom
  have hsum : IntKind.i64.wrap ((N : Int) + (m : Int)) = (N : Int) + (m : Int) := IntWalk.i64_in _ (by omega)
  have hi26 : (Tryz.prog.info? 110).map (·.size) = some 10 := by kernel_rfl
  go_wp2
  go_region_held3 (fun w' => w'.cell? ⟨w.heap.size, 0, none⟩ = some (.int .u32 x0) ∧ w'.cell? ⟨w.heap.size, 1, none⟩ = some (.int .u32 x1) ∧ w'.cell? ⟨w.heap.size, 2, none⟩ = some (.int .u32 x2) ∧ w'.cell? ⟨w.heap.size, 3, none⟩ = some (.int .u32 x3) ∧ w'.cell? ⟨w.heap.size, 4, none⟩ = some (.int .u32 x4) ∧ w'.cell? ⟨w.heap.size, 5, none⟩ = some (.int .u32 x5) ∧ w'.cell? ⟨w.heap.size, 6, none⟩ = some (.int .u32 x6) ∧ w'.cell? ⟨w.heap.size, 7, none⟩ = some (.int .u32 x7) ∧ w'.cell? ⟨w.heap.size, 8, none⟩ = some (.slice A n c) ∧ w'.cell? ⟨w.heap.size, 9, none⟩ = some (.int .i64 N))
    (first | (with_reducible exact BoxAt.cells hbe2) | (with_reducible exact BoxAt.cells hbe2.draw1) | (with_reducible exact BoxAt.cells hbe3) | (with_reducible exact BoxAt.cells (hbe3.put10 (Nat.ne_of_lt (Nat.lt_succ_self _)) _ _ _ _ _ _ _ _ _ _)))
    (first
    | (go_at_call 90; refine (roundedBy_lit _ _ _ _ _ _ _ _ ((rest ++ b).take L) A1 L c1 _ (hK.from hB2.drew) hbt5.draw1).mono ?_; rintro e w3 ⟨he, hb3⟩
       have hb3 := below_draw hb3
       rw [HL.out, HY.out] at he
       simp only [regv, List.map_cons, List.map_nil] at he
       subst he
       have hbe3 := hbe2.below hb3
       have hbo3 := hbo2.below hb3
       have hB3 := hB2.trans (hb3.mono hB2.size)
       obtain ⟨o0, o1, o2, o3, o4, o5, o6, o7, o8, o9⟩ := BoxAt.cells hbo3
       obtain ⟨f0, f1, f2, f3, f4, f5, f6, f7, f8, f9⟩ := BoxAt.free hbo3
       have hbt6 := hbt4.below hb3))
  go_wp2
  refine bodyPost_ret (v := hashV y0 y1 y2 y3 y4 y5 y6 y7 A3 n3 c3 ((N : Int) + (m : Int))) ?_ ?_ ?_
  · exact results_cell_row Tryz.results76 _ _ (w.heap.size + 1) 110 _ (0, 0) _ rfl (heap_put10 hbo3 _ _ _ _ _ _ _ _ _ _) Tryz.underlying110 rfl hi26
  · rfl
  · refine ⟨y0, y1, y2, y3, y4, y5, y6, y7, A3, n3, c3, rfl, HY.out, ?_, below_put10 (Nat.le_succ _) hB3 _ _ _ _ _ _ _ _ _ _⟩
    rw [← HL.out]
    exact hbt6.put10 hbo3 _ _ _ _ _ _ _ _ _ _
end Go.Proofs.YtafmompplcaadaaGreatDoor

/- Blocks, part by part: plain facts on lists. -/
namespace Go.Proofs.YtafmompplcaadaaGreatDoor

theorem blocksL_same (r l m : List Int) (k : Nat) (h : ∀ i, i < k → (l.drop (64 * i)).take 64 = (m.drop (64 * i)).take 64) : blocksL r l k = blocksL r m k := by
  induction k with
  | zero => rfl
  | succ k ih => rw [blocksL, blocksL, ih (fun i hi => h i (by omega)), h k (by omega)]
theorem blocksL_add (r l : List Int) (i j : Nat) : blocksL r l (i + j) = blocksL (blocksL r l i) (l.drop (64 * i)) j := by
  induction j with
  | zero => rfl
  | succ j ih =>
    rw [← Nat.add_assoc, blocksL, blocksL, ih, List.drop_drop]
    congr 3
    omega
theorem piece_take (l : List Int) (w i : Nat) (h : 64 * i + 64 ≤ w) : ((l.take w).drop (64 * i)).take 64 = (l.drop (64 * i)).take 64 := by
  rw [List.drop_take, List.take_take, Nat.min_eq_left (by omega)]
theorem piece_append (l b : List Int) (i : Nat) (h : 64 * i + 64 ≤ l.length) : ((l ++ b).drop (64 * i)).take 64 = (l.drop (64 * i)).take 64 := by
  rw [List.drop_append_of_le_length (by omega), List.take_append_of_le_length (by rw [List.length_drop]; omega)]
theorem byBlocks_whole (x l : List Int) : byBlocks x (l.take (whole l)) = blocksL x l (l.length / 64) := by
  have hw : (l.take (whole l)).length = l.length / 64 * 64 := by rw [List.length_take, whole]; omega
  rw [byBlocks, hw, Nat.mul_div_cancel _ (by omega)]
  exact blocksL_same _ _ _ _ fun i hi => piece_take l _ i (by rw [whole]; omega)
theorem byBlocks_all (x l : List Int) : byBlocks x (l.take (whole l)) = byBlocks x l := by rw [byBlocks_whole, byBlocks]

/-- bytes in two parts -/
theorem parts (x l b : List Int) : byBlocks (byBlocks x (l.take (whole l))) ((l.drop (whole l) ++ b).take (whole (l.drop (whole l) ++ b))) = byBlocks x ((l ++ b).take (whole (l ++ b))) ∧
    (l.drop (whole l) ++ b).drop (whole (l.drop (whole l) ++ b)) = (l ++ b).drop (whole (l ++ b)) := by
  have hd : (l ++ b).drop (64 * (l.length / 64)) = l.drop (whole l) ++ b := by
    rw [List.drop_append_of_le_length (by omega), whole, Nat.mul_comm]
  have hl : (l.drop (whole l) ++ b).length = l.length - 64 * (l.length / 64) + b.length := by
    rw [List.length_append, List.length_drop, whole]; omega
  have hk : (l ++ b).length / 64 = l.length / 64 + (l.drop (whole l) ++ b).length / 64 := by
    rw [hl, List.length_append]; omega
  refine ⟨?_, ?_⟩
  · rw [byBlocks_whole, byBlocks_whole, byBlocks_whole, hk, blocksL_add, hd]
    congr 1
    exact (blocksL_same _ _ _ _ fun i hi => piece_append l b i (by omega)).symm
  · have e : 64 * (l.length / 64) + whole (l.drop (whole l) ++ b) = whole (l ++ b) := by
      simp only [whole] at hk ⊢
      omega
    rw [← hd, List.drop_drop, hd, e]
theorem whole_drop (l : List Int) : (l.drop (whole l)).length = l.length % 64 := by
  rw [List.length_drop, whole]; omega
end Go.Proofs.YtafmompplcaadaaGreatDoor

/- The walks over package sha's Add and End where they answer noughts, and over Sum. -/
namespace Go.Proofs.YtafmompplcaadaaGreatDoor
open Go.RowKit

theorem add_yes (x0 x1 x2 x3 x4 x5 x6 x7 len : Int) (A B : Option Addr) (n c m d : Nat) (rest b : List Int) (w : World) (hK : KTab w) (hmay : mayB n len = true) (hroom : (m : Int) ≤ 1048576 - len) (ha : Bts w A n c rest) (hb : Bts w B m d b) :
    Calls Tryz.prog 76 #[hashV x0 x1 x2 x3 x4 x5 x6 x7 A n c len, .slice B m d] w (AddPost w [x0, x1, x2, x3, x4, x5, x6, x7] (rest ++ b) (len + (m : Int))) := by
  obtain ⟨N, rfl⟩ := Int.eq_ofNat_of_zero_le (mayB_yes hmay).1
  exact add_good x0 x1 x2 x3 x4 x5 x6 x7 A B n c N m d rest b w hK hmay hroom ha hb
theorem end_yes (x0 x1 x2 x3 x4 x5 x6 x7 len : Int) (A : Option Addr) (n c : Nat) (rest : List Int) (w : World) (hK : KTab w) (hmay : mayB n len = true) (hb : Bts w A n c rest) :
    Calls Tryz.prog 75 #[hashV x0 x1 x2 x3 x4 x5 x6 x7 A n c len] w fun e w' => e = .returned (.agg (idv (endL [x0, x1, x2, x3, x4, x5, x6, x7] rest len.toNat))) ∧ Below w.heap.size w w' := by
  obtain ⟨N, rfl⟩ := Int.eq_ofNat_of_zero_le (mayB_yes hmay).1
  exact end_good x0 x1 x2 x3 x4 x5 x6 x7 A n c N rest w hK hmay hb

set_option maxHeartbeats 400000 in
theorem add_zero_may (x0 x1 x2 x3 x4 x5 x6 x7 len : Int) (A B : Option Addr) (n c m d : Nat) (w : World) (hmay : mayB n len = false) :
    Calls Tryz.prog 76 #[hashV x0 x1 x2 x3 x4 x5 x6 x7 A n c len, .slice B m d] w fun e w' => e = .returned (hashV 0 0 0 0 0 0 0 0 none 0 0 0) ∧ Below w.heap.size w w' := by
  have hi26 : (Tryz.prog.info? 110).map (·.size) = some 10 := by kernel_rfl
  go_enter Tryz.func76, Tryz.ntmps76
  go_wp2_with fail
  refine (may_any _ _ _ _ _ _ _ _ _ _ _ _ _).mono ?_
  rintro e w0 ⟨rfl, rfl⟩
  generalize hW : World.alloc _ _ = W
  obtain ⟨hB0, hz0, hX0, hO0⟩ := named_three hW
  have hbe : BoxAt W w.heap.size x0 x1 x2 x3 x4 x5 x6 x7 A n c len := hX0
  have hbo : BoxAt W (w.heap.size + 1) 0 0 0 0 0 0 0 0 none 0 0 0 := hO0
  obtain ⟨o0, o1, o2, o3, o4, o5, o6, o7, o8, o9⟩ := BoxAt.cells hbo
  obtain ⟨f0, f1, f2, f3, f4, f5, f6, f7, f8, f9⟩ := BoxAt.free hbo
  obtain ⟨_, _, _, _, _, _, _, _, _, e9⟩ := BoxAt.cells hbe
  clear hW hX0 hO0 hz0
  rw [hmay]
  go_wp2
  refine bodyPost_ret (v := hashV 0 0 0 0 0 0 0 0 none 0 0 0) ?_ ?_ ?_
  · exact results_cell_row Tryz.results76 _ _ (w.heap.size + 1) 110 _ (0, 0) _ rfl (heap_put10 hbo _ _ _ _ _ _ _ _ _ _) Tryz.underlying110 rfl hi26
  · rfl
  · exact ⟨rfl, below_put10 (Nat.le_succ _) hB0 _ _ _ _ _ _ _ _ _ _⟩

set_option maxHeartbeats 400000 in
theorem add_zero_room (x0 x1 x2 x3 x4 x5 x6 x7 len : Int) (A B : Option Addr) (n c m d : Nat) (w : World) (hmay : mayB n len = true) (_hm : m ≤ 9223372036854775807) (hroom : 1048576 - len < (m : Int)) :
    Calls Tryz.prog 76 #[hashV x0 x1 x2 x3 x4 x5 x6 x7 A n c len, .slice B m d] w fun e w' => e = .returned (hashV 0 0 0 0 0 0 0 0 none 0 0 0) ∧ Below w.heap.size w w' := by
  obtain ⟨h0, h1, h2⟩ := mayB_yes hmay
  have H2 := Lib.hid h2
  clear h2
  have hi26 : (Tryz.prog.info? 110).map (·.size) = some 10 := by kernel_rfl
  go_enter Tryz.func76, Tryz.ntmps76
  go_wp2_with fail
  refine (may_any _ _ _ _ _ _ _ _ _ _ _ _ _).mono ?_
  rintro e w0 ⟨rfl, rfl⟩
  generalize hW : World.alloc _ _ = W
  obtain ⟨hB0, hz0, hX0, hO0⟩ := named_three hW
  have hbe : BoxAt W w.heap.size x0 x1 x2 x3 x4 x5 x6 x7 A n c len := hX0
  have hbo : BoxAt W (w.heap.size + 1) 0 0 0 0 0 0 0 0 none 0 0 0 := hO0
  obtain ⟨o0, o1, o2, o3, o4, o5, o6, o7, o8, o9⟩ := BoxAt.cells hbo
  obtain ⟨f0, f1, f2, f3, f4, f5, f6, f7, f8, f9⟩ := BoxAt.free hbo
  obtain ⟨_, _, _, _, _, _, _, _, _, e9⟩ := BoxAt.cells hbe
  clear hW hX0 hO0 hz0
  rw [hmay]
  go_wp2
  refine bodyPost_ret (v := hashV 0 0 0 0 0 0 0 0 none 0 0 0) ?_ ?_ ?_
  · exact results_cell_row Tryz.results76 _ _ (w.heap.size + 1) 110 _ (0, 0) _ rfl (heap_put10 hbo _ _ _ _ _ _ _ _ _ _) Tryz.underlying110 rfl hi26
  · rfl
  · exact ⟨rfl, below_put10 (Nat.le_succ _) hB0 _ _ _ _ _ _ _ _ _ _⟩

set_option maxHeartbeats 400000 in
theorem end_zero (x0 x1 x2 x3 x4 x5 x6 x7 len : Int) (A : Option Addr) (n c : Nat) (w : World) (hmay : mayB n len = false) :
    Calls Tryz.prog 75 #[hashV x0 x1 x2 x3 x4 x5 x6 x7 A n c len] w fun e w' => e = .returned (.agg (idv (List.replicate 32 0))) ∧ Below w.heap.size w w' := by
  go_enter Tryz.func75, Tryz.ntmps75
  go_wp2_with fail
  refine (may_any _ _ _ _ _ _ _ _ _ _ _ _ _).mono ?_
  rintro e w0 ⟨rfl, rfl⟩
  generalize hW : World.alloc _ _ = W
  obtain ⟨hB0, hz0, hX0, hO0⟩ := named_three hW
  have hO0 : RowB W (w.heap.size + 1) 27 (List.replicate 32 0) := hO0
  clear hW hX0 hz0
  rw [hmay]
  go_wp2_with (first | ((with_reducible refine wpList_store_b rfl 27 _ _ rfl (w.heap.size + 1) (List.replicate 32 0) ?hx7 ?hy7 27 (List.replicate 32 0) hO0 (info32 rfl) ?hl7 ?hm7); (case hx7 => rfl); (case hy7 => rfl); (case hl7 => rfl); intro w6 hg6 hX6 hs6))
  refine bodyPost_ret (v := .agg (idv (List.replicate 32 0))) ?_ ?_ ?_
  · exact results_cell_row Tryz.results75 _ _ (w.heap.size + 1) 27 _ (0, 0) _ rfl hX6.is Tryz.underlying27 rfl (info32 rfl)
  · rfl
  · exact ⟨rfl, Below.grows hB0 hg6 hB0.size (by omega)⟩

theorem whole_le (l : List Int) : whole l ≤ l.length := by unfold whole; omega
theorem add_new (B : Option Addr) (m d : Nat) (l : List Int) (w : World) (hK : KTab w) (hm : m ≤ 1048576) (hb : Bts w B m d l) :
    Calls Tryz.prog 76 #[hashV 1779033703 3144134277 1013904242 2773480762 1359893119 2600822924 528734635 1541459225 none 0 0 0, .slice B m d] w (AddPost w iList l (m : Int)) := by
  have h := add_yes 1779033703 3144134277 1013904242 2773480762 1359893119 2600822924 528734635 1541459225 0 none B 0 0 m d [] l w hK (by decide) (by omega) (Bts.nil w) hb
  rw [Int.zero_add, List.nil_append] at h
  exact h

set_option maxHeartbeats 400000 in
theorem sum_yes (B : Option Addr) (m d : Nat) (l : List Int) (w : World) (hK : KTab w) (hm : m ≤ 1048576) (hb : Bts w B m d l) :
    Calls Tryz.prog 60 #[.slice B m d] w fun e w' => e = .returned (.agg (idv (sumL l))) ∧ Below w.heap.size w w' := by
  obtain ⟨Z, hZ⟩ : ∃ Z, Z = sumL l := ⟨_, rfl⟩
  have hZl : Z.length = 32 := by rw [hZ, sumL, endL]; exact spelt_length _
  rw [← hZ]
  have HZ := Lib.hid hZ
  have HZL := Lib.hid hZl
  clear hZ hZl
  go_enter Tryz.func60, Tryz.ntmps60
  go_wp2_with fail
  refine (new_any _).mono ?_
  rintro e w1 ⟨rfl, hb1⟩
  obtain ⟨hB1, hz1, hO1⟩ := after_one hb1
  have hO1 : RowB w1 w.heap.size 27 (List.replicate 32 0) := hO1
  clear hb1
  go_wp2_with fail
  refine (add_new B m d l w1 (hK.from hB1) hm (hb.below hB1)).mono ?_
  rintro e w2 ⟨y0, y1, y2, y3, y4, y5, y6, y7, A3, n3, c3, rfl, hY, hbt, hb2⟩
  have hO2 := hO1.below hb2 hO1.lt
  have hB2 := hB1.trans (hb2.mono hB1.size)
  have hmay : mayB n3 (m : Int) = true := by
    have h1 := hbt.len
    rw [List.length_drop, hb.len, whole, hb.len] at h1
    unfold mayB
    rw [decide_eq_true_eq]
    omega
  have hfin : endL [y0, y1, y2, y3, y4, y5, y6, y7] (l.drop (whole l)) ((m : Int)).toNat = Z := by
    rw [HZ.out, sumL, ← hY, Int.toNat_natCast, ← hb.len]
    rfl
  have HF := Lib.hid hfin
  have HMAY := Lib.hid hmay
  clear hfin hmay hY hb2
  go_wp2_with fail
  refine (end_yes y0 y1 y2 y3 y4 y5 y6 y7 (m : Int) A3 n3 c3 (l.drop (whole l)) w2 (hK.from hB2) HMAY.out hbt).mono ?_
  rintro e w3 ⟨he, hb3⟩
  rw [HF.out] at he
  subst he
  have hO3 := hO2.below hb3 hO2.lt
  have hB3 := hB2.trans (hb3.mono hB2.size)
  clear hb3
  go_wp2_with (first | ((with_reducible refine wpList_store_b rfl 27 _ _ rfl w.heap.size Z ?hx7 ?hy7 27 (List.replicate 32 0) hO3 (info32 HZL.out) ?hl7 ?hm7); (case hx7 => rfl); (case hy7 => rfl); (case hl7 => rw [HZL.out]; rfl); intro w6 hg6 hX6 hs6))
  refine bodyPost_ret (v := .agg (idv Z)) ?_ ?_ ?_
  · exact results_cell_row Tryz.results60 _ _ w.heap.size 27 _ (0, 0) _ rfl hX6.is Tryz.underlying27 rfl (info32 HZL.out)
  · rfl
  · exact ⟨rfl, Below.grows hB3 hg6 hB3.size (Nat.le_refl _)⟩
end Go.Proofs.YtafmompplcaadaaGreatDoor
