/- Joined texts: The walk over the plain answers' End: the sum of a state. The walks over the plain answers' Add and End, where they answer noughts. The walk over the plain answers' Sum. A list whose first bytes are turned. '==' between two arrays of numbers of one kind. A region that draws its order, walked by hand: one operation after another, taken first. Appends, and loads of arrays of bytes, inside regions that draw their order. -/
import Derived.Test.YtcfkpepohnjdfaaDoorUtJG
import Derived.Test.YtcfkpepohnjdfaaDoorUtJD
import Derived.Test.YtcfkpepohnjdfaaDoorUtJE
import Derived.Laws.StructEq
import Derived.Test.YtcfkpepohnjdfaaDoorUtJA
import Derived.Deep.MidRow
import Derived.Deep.RegionHeld3
/- The walk over the plain answers' End: the sum of a state. -/
namespace Go.Proofs.YtcfkpepohnjdfaaDoor
open Go.RowKit

theorem noughts_rest (n N : Nat) (_hn : n < 64) (h : (n : Int) = (N : Int) % 64) : (n + 1 + noughts N) % 64 = 56 := by
  unfold noughts
  omega
theorem noughts_first (n N k : Nat) (_hn : n < 64) (h : (n : Int) = (N : Int) % 64) (hk : k < noughts N) : (n + 1 + k) % 64 ≠ 56 := by
  unfold noughts at hk
  omega
theorem bits8_all (N : Nat) (hN : N ≤ 1048576) : (List.range 8).map (bits8 N) = [0, 0, 0, 0, 8 * (N : Int) / 16777216, 8 * (N : Int) / 65536 % 256, 8 * (N : Int) / 256 % 256, 8 * (N : Int) % 256] := by
  have e : List.range 8 = [0, 1, 2, 3, 4, 5, 6, 7] := rfl
  rw [e]
  simp only [List.map_cons, List.map_nil, bits8]
  simp only [List.cons.injEq, and_true]
  refine ⟨?_, ?_, ?_, ?_, ?_, ?_, ?_, ?_⟩ <;> omega

theorem Row.put8 {w : World} {k : Nat} {x0 x1 x2 x3 x4 x5 x6 x7 : Int} (h : Row w k 61 [x0, x1, x2, x3, x4, x5, x6, x7]) (z0 z1 z2 z3 z4 z5 z6 z7 : Int) :
    Row ((((((((w.setCell ⟨k, 0, none⟩ (.int .u32 z0)).setCell ⟨k, 1, none⟩ (.int .u32 z1)).setCell ⟨k, 2, none⟩ (.int .u32 z2)).setCell ⟨k, 3, none⟩ (.int .u32 z3)).setCell ⟨k, 4, none⟩ (.int .u32 z4)).setCell ⟨k, 5, none⟩ (.int .u32 z5)).setCell ⟨k, 6, none⟩ (.int .u32 z6)).setCell ⟨k, 7, none⟩ (.int .u32 z7)) k 61 [z0, z1, z2, z3, z4, z5, z6, z7] :=
  setCells_all (vs := [.int .u32 z0, .int .u32 z1, .int .u32 z2, .int .u32 z3, .int .u32 z4, .int .u32 z5, .int .u32 z6, .int .u32 z7]) (cs := [.int .u32 x0, .int .u32 x1, .int .u32 x2, .int .u32 x3, .int .u32 x4, .int .u32 x5, .int .u32 x6, .int .u32 x7]) h rfl
theorem rounded_range (r l : List Int) (hr : r.length = 8) (i : Nat) : 0 ≤ (roundedL r l).getD i 0 ∧ (roundedL r l).getD i 0 < 4294967296 := by
  obtain ⟨a, b, c, d, e, f, g, h, hx⟩ := eight (runs_length (spreadAll l) r hr 64)
  obtain ⟨r0, r1, r2, r3, r4, r5, r6, r7, rfl⟩ := eight hr
  rw [roundedL, hx]
  match i with
  | 0 => simp [addTo]; omega
  | 1 => simp [addTo]; omega
  | 2 => simp [addTo]; omega
  | 3 => simp [addTo]; omega
  | 4 => simp [addTo]; omega
  | 5 => simp [addTo]; omega
  | 6 => simp [addTo]; omega
  | 7 => simp [addTo]; omega
  | j + 8 => simp [addTo]

set_option maxRecDepth 100000 in
set_option maxHeartbeats 1000000 in
theorem rend_good (x0 x1 x2 x3 x4 x5 x6 x7 : Int) (A : Option Addr) (n c N : Nat) (rest : List Int) (w : World) (hmay : mayB n N = true) (hb : Bts w A n c rest) :
    Calls Tryd.prog 47 #[hashV x0 x1 x2 x3 x4 x5 x6 x7 A n c N] w fun e w' => e = .returned (.agg (idv (endL [x0, x1, x2, x3, x4, x5, x6, x7] rest N))) ∧ Below w.heap.size w w' := by
  obtain ⟨_, hN, hn⟩ := mayB_yes hmay
  have hN : N ≤ 1048576 := by omega
  have hn64 : n < 64 := by omega
  have hno : noughts N ≤ 63 := by unfold noughts; omega
  have hq : (n + 1 + noughts N) % 64 = 56 := noughts_rest n N hn64 hn
  have hq' : ∀ k, k < noughts N → (n + 1 + k) % 64 ≠ 56 := fun k hk => noughts_first n N k hn64 hn hk
  have hrl := hb.len
  have hro := hb.ok
  have hok1 : ∀ k, ∀ j, 0 ≤ (rest ++ [128] ++ List.replicate k 0).getD j 0 ∧ (rest ++ [128] ++ List.replicate k 0).getD j 0 < 256 := fun k => ok_append (ok_append hb.ok (ok_one1 128 (by omega) (by omega))) (ok_rep k)
  obtain ⟨Z, hZE⟩ : ∃ Z, Z = endL [x0, x1, x2, x3, x4, x5, x6, x7] rest N := ⟨_, rfl⟩
  rw [← hZE]
  have HZE := Lib.hid hZE
  have HQ := Lib.hid hq
  have HQ' := Lib.hid hq'
  have HRL := Lib.hid hrl
  have HRO := Lib.hid hro
  have HOK := Lib.hid hok1
  clear hn hq hq' hrl hro hok1 hZE
  go_enter Tryd.func47, Tryd.ntmps47
  go_wp2_with fail
  refine (rmay_any _ _ _ _ _ _ _ _ _ _ _ _ _).mono ?_
  rintro e w0 ⟨rfl, rfl⟩
  generalize hW : World.alloc _ _ = W
  obtain ⟨hB0, hz0, hX0, hO0⟩ := named_three hW
  have hbe : BoxAt W w.heap.size x0 x1 x2 x3 x4 x5 x6 x7 A n c N := hX0
  have hbo : RowB W (w.heap.size + 1) 30 (List.replicate 32 0) := hO0
  obtain ⟨e0, e1, e2, e3, e4, e5, e6, e7, e8, e9⟩ := BoxAt.cells hbe
  rw [hmay]
  clear hW hX0 hO0 hmay
  go_wp2_with (first
    | (at_builtin
       refine wpList_append_b rfl (.const (.slice none 0 0)) (.tmp 15) rfl W.heap.size (.slice none 0 0) [] rfl (Own.nil _ _) A n c rest rfl (hb.below hB0) (by simp only [List.length_nil]; omega) (Nat.le_refl _) ?_
       intro v4 w4 hown4 hg4
       rw [List.nil_append] at hown4
       have hC4 : Below W.heap.size W w4 := (Below.refl _ _).grown hg4 (Nat.le_refl _) (fun k hk => by cases hk)
       have hv4 := hown4.size
       clear hg4)
    | (at_builtin
       refine wpList_append_b rfl (.tmp 17) (.tmp 18) rfl W.heap.size v4 rest rfl (hown4.more _) (some ⟨w4.heap.size, 0, none⟩) 1 1 [128] rfl (one_bts w4 128 (by omega) (by omega)) (by rw [HRL.out]; omega) (Nat.le_trans hC4.size (size_le_alloc _ _)) ?_
       intro v5 w5 hown5 hg5
       have hC5 : Below W.heap.size W w5 := (hC4.alloc hC4.size _).grown hg5 (Nat.le_trans hC4.size (size_le_alloc _ _)) (fun k hk => (hv4 k hk).1)
       clear hg5 hown4 hv4))
  clear e0 e1 e2 e3 e4 e5 e6 e7 e8 e9
  go_loopw [4] (fun v wr => ∃ k : Nat, k ≤ noughts N ∧ Own wr W.heap.size v (rest ++ [128] ++ List.replicate k 0) ∧ Below W.heap.size W wr) (fun v _ => 200 - lenV v)
  case atStart => exact ⟨0, by omega, by simpa using hown5, hC5⟩
  case round =>
    clear hown5 hC5 hC4
    obtain ⟨k, hk, hown, hC⟩ := hrel
    obtain ⟨A', cap, rfl, hbt⟩ := hown.bts (HOK.out k)
    have hlen : (rest ++ [128] ++ List.replicate k (0 : Int)).length = n + 1 + k := by simp only [List.length_append, HRL.out, List.length_cons, List.length_nil, List.length_replicate]
    obtain ⟨L, hL⟩ : ∃ L, L = rest ++ [128] ++ List.replicate k (0 : Int) := ⟨_, rfl⟩
    rw [← hL] at hown hbt hlen
    rw [← hL, hlen]
    rw [hlen] at hown hbt
    have HL := Lib.hid hL
    have HLN := Lib.hid hlen
    clear hL hlen
    by_cases hlt : k < noughts N
    · have hne := HQ'.out k hlt
      have ht : (((n : Int) + 1 + (k : Int)) % 64 != 56) = true := by rw [bne_iff_ne]; omega
      have hsm : L.length + 1 ≤ 140737488355328 := by rw [HLN.out]; omega
      clear hne
      go_wp2_with (first
        | (at_builtin
           refine wpList_append_b rfl (.tmp 24) (.tmp 25) rfl W.heap.size (.slice A' (n + 1 + k) cap) L rfl (hown.more _) (some ⟨wr.heap.size, 0, none⟩) 1 1 [0] rfl (one_bts wr 0 (by omega) (by omega)) hsm (Nat.le_trans hC.size (size_le_alloc _ _)) ?_
           intro v' w' hown' hg'))
      go_roundw
      case rel =>
        refine ⟨k + 1, by omega, ?_, (hC.alloc hC.size _).grown hg' (Nat.le_trans hC.size (size_le_alloc _ _)) (fun g hg => (hown.size g hg).1)⟩
        rw [HL.out, List.append_assoc, ← List.replicate_succ'] at hown'
        exact hown'
      case measure =>
        obtain ⟨A'', c', hv, _⟩ := hown'.bts (HL.out ▸ ok_append (HOK.out k) (ok_one1 0 (by omega) (by omega)))
        rw [hv]
        simp only [lenV, List.length_append, HLN.out, List.length_cons, List.length_nil]
        omega
    · have hk' : k = noughts N := by omega
      have ht : (((n : Int) + 1 + (k : Int)) % 64 != 56) = false := by have := HQ.out; rw [bne_eq_false_iff_eq]; omega
      have hLo : ∀ j, 0 ≤ L.getD j 0 ∧ L.getD j 0 < 256 := by rw [HL.out]; exact HOK.out k
      have hsm : L.length ≤ 200 := by rw [HLN.out]; omega
      have hber := hbe.below hC
      have hbor := hbo.below hC
      obtain ⟨e0, e1, e2, e3, e4, e5, e6, e7, e8, e9⟩ := BoxAt.cells hber
      have hbits := bits8_all N hN
      have HK := Lib.hid hk'
      have HLO := Lib.hid hLo
      have HBITS := Lib.hid hbits
      have hN0 : 0 ≤ (N : Int) := by omega
      have hN1 : (N : Int) ≤ 1048576 := by omega
      clear hk' hlt hLo hbits
      obtain ⟨Q8, hQ8⟩ : ∃ Q8, Q8 = [0, 0, 0, 0, 8 * (N : Int) / 16777216, 8 * (N : Int) / 65536 % 256, 8 * (N : Int) / 256 % 256, 8 * (N : Int) % 256] := ⟨_, rfl⟩
      have hQo : ∀ j, 0 ≤ Q8.getD j 0 ∧ Q8.getD j 0 < 256 := by rw [hQ8, ← HBITS.out]; exact ok_map _ (ok_bits8 N) 8
      obtain ⟨F, hF⟩ : ∃ F, F = L ++ Q8 := ⟨_, rfl⟩
      have hFe : rest ++ endingL N = F := by rw [hF, HL.out, hQ8, ← HBITS.out, endingL, HK.out]; simp only [List.append_assoc]
      have hFl : F.length = n + 1 + k + 8 := by rw [hF, List.length_append, HLN.out, hQ8]; rfl
      have hFm : F.length % 64 = 0 := by have h1 := HQ.out; have h2 := HK.out; rw [hFl]; omega
      have hFo : ∀ j, 0 ≤ F.getD j 0 ∧ F.getD j 0 < 256 := by rw [hF]; exact ok_append HLO.out hQo
      have HQ8 := Lib.hid hQ8
      have HQO := Lib.hid hQo
      have HF := Lib.hid hF
      have HFE := Lib.hid hFe
      have HFL := Lib.hid hFl
      have HFM := Lib.hid hFm
      have HFO := Lib.hid hFo
      have hv7 := hown.size
      clear hQ8 hQo hF hFe hFl hFm hFo
      go_wp2_with (first
        | (at_builtin
           refine wpList_append_b rfl (.tmp 30) (.tmp 45) rfl W.heap.size _ L rfl (hown.more _) (some ⟨wr.heap.size, 0, none⟩) 8 8 Q8 rfl (lit_bts wr _ Q8 8 (by rw [HQ8.out]; rfl) (by rw [HQ8.out]; rfl) (by unfold maxLen; omega) HQO.out) (by omega) (Nat.le_trans hC.size (size_le_alloc _ _)) ?_
           intro v8 w8 hown8 hg8
           have hC8 : Below W.heap.size W w8 := (hC.alloc hC.size _).grown hg8 (Nat.le_trans hC.size (size_le_alloc _ _)) (fun k hk => (hv7 k hk).1)
           rw [← HF.out] at hown8
           obtain ⟨A8, n8, c8, rfl, hbt8⟩ := hown8.slice HFO.out
           have hbe8 : BoxAt w8 w.heap.size x0 x1 x2 x3 x4 x5 x6 x7 A n c N := hbe.below hC8
           have hbo8 := hbo.below hC8 hbo.lt
           obtain ⟨e0, e1, e2, e3, e4, e5, e6, e7, e8, e9⟩ := BoxAt.cells hbe8
           clear hg8 hown8))
      have hn8 : n8 = F.length := hbt8.len.symm
      have hB8 : Below w.heap.size w w8 := hB0.trans (hC8.mono hB0.size)
      have hz8 : w.heap.size + 3 ≤ w8.heap.size := by have := hC8.size; omega
      have HBO := Lib.hid hbo8
      have HB8 := Lib.hid hB8
      clear e0 e1 e2 e3 e4 e5 e6 e7 e8 e9 hbe8 hbo8 hB8 hC8 hown hC hbt hber hbor hv7
      go_loopw [4] (fun v wr => ∃ (j : Nat) (A' : Option Addr) (n' c' : Nat) (y0 y1 y2 y3 y4 y5 y6 y7 : Int), 64 * j + n' = F.length ∧ v = .slice A' n' c' ∧ Bts w8 A' n' c' (F.drop (64 * j)) ∧ blocksL [x0, x1, x2, x3, x4, x5, x6, x7] F j = [y0, y1, y2, y3, y4, y5, y6, y7] ∧
          Row wr w8.heap.size 61 [y0, y1, y2, y3, y4, y5, y6, y7] ∧ Below w8.heap.size w8 wr) (fun v _ => lenV v)
      case atStart => exact ⟨0, A8, n8, c8, x0, x1, x2, x3, x4, x5, x6, x7, by omega, rfl, by rw [Nat.mul_zero, List.drop_zero]; exact hbt8, rfl, heap_alloc_new w8 _, mac_one w8 _⟩
      case round =>
        clear hbt8 hn8
        obtain ⟨j, A', n', c', y0, y1, y2, y3, y4, y5, y6, y7, hjn, rfl, hbt, hY, hrow, hB⟩ := hrel
        by_cases hge : 0 < n'
        · have hge64 : 64 ≤ n' := by have := HFM.out; omega
          have hge' : (0 : Int) < n' := by omega
          obtain ⟨hto, hbtP⟩ := run_to hbt 64 (hi := 64) rfl hge64
          obtain ⟨A2, hfrom, hbt2⟩ := run_from hbt 64 (lo := 64) rfl hge64
          obtain ⟨bb, off, rfl, hcell⟩ := hbtP.at_ (by omega)
          have hblk := block_lt_of_cell (hcell 0 (by omega))
          have hok := hbtP.ok
          have hdrop : (F.drop (64 * j)).drop 64 = F.drop (64 * (j + 1)) := by rw [List.drop_drop]; congr 1
          rw [hdrop] at hbt2
          obtain ⟨P, hP⟩ : ∃ P, P = (F.drop (64 * j)).take 64 := ⟨_, rfl⟩
          rw [← hP] at hcell hok
          have hnext : blocksL [x0, x1, x2, x3, x4, x5, x6, x7] F (j + 1) = roundedL [y0, y1, y2, y3, y4, y5, y6, y7] P := by rw [blocksL, hY, hP]
          have hcr : ∀ k, k < 64 → wr.drew.cell? ⟨bb, off + k, none⟩ = some (.int .u8 (P.getD k 0)) := fun k hk => (hB.cell (p := ⟨bb, off + k, none⟩) hblk).trans (hcell k hk)
          obtain ⟨c0, c1, c2, c3, c4, c5, c6, c7⟩ := hrow.eight
          have HN := Lib.hid hnext
          have HCR := Lib.hid hcr
          have HB := Lib.hid hB
          have HBT2 := Lib.hid hbt2
          have HROW := Lib.hid hrow
          have HOK2 := Lib.hid hok
          clear hnext hcr hB hbt2 hrow hok hcell hP hdrop hbtP hbt hY
          go_wp2
          go_region_with
            (first
            | (go_at_call 57; refine (rround_lit y0 y1 y2 y3 y4 y5 y6 y7 P bb off c' _ HOK2.out HCR.out).mono ?_; rintro e w9 ⟨⟨z0, z1, z2, z3, z4, z5, z6, z7, hz, rfl⟩, hb9⟩
               have hb9 := below_draw hb9
               have hrow9 := HROW.out.below hb9 HROW.out.lt
               have hB9 : Below w8.heap.size w8 w9 := HB.out.trans (hb9.mono HB.out.size)
               obtain ⟨d0, d1, d2, d3, d4, d5, d6, d7⟩ := hrow9.eight
               have f0 := hrow9.free 0
               have f1 := hrow9.free 1
               have f2 := hrow9.free 2
               have f3 := hrow9.free 3
               have f4 := hrow9.free 4
               have f5 := hrow9.free 5
               have f6 := hrow9.free 6
               have f7 := hrow9.free 7))
          generalize hW9 : World.setCell _ _ _ = W9
          have hrowW : Row W9 w8.heap.size 61 [z0, z1, z2, z3, z4, z5, z6, z7] := by rw [← hW9]; exact hrow9.put8 _ _ _ _ _ _ _ _
          have hBW : Below w8.heap.size w8 W9 := by rw [← hW9]; exact below_put8 (Nat.le_refl _) hB9 _ _ _ _ _ _ _ _
          clear hW9 hB9 hrow9 d0 d1 d2 d3 d4 d5 d6 d7 f0 f1 f2 f3 f4 f5 f6 f7
          go_wp2
          go_roundw
          case rel => exact ⟨j + 1, A2, n' - 64, c' - 64, z0, z1, z2, z3, z4, z5, z6, z7, by omega, rfl, HBT2.out, by rw [HN.out, hz], hrowW, hBW⟩
          case measure => simp only [lenV]; omega
        · have hn0 : n' = 0 := by omega
          have hge' : ¬ ((0 : Int) < n') := by omega
          have hj : j = F.length / 64 := by omega
          have hj1 : 1 ≤ F.length / 64 := by have := HFL.out; have := HFM.out; omega
          have hY' : byBlocks [x0, x1, x2, x3, x4, x5, x6, x7] F = [y0, y1, y2, y3, y4, y5, y6, y7] := by rw [byBlocks, ← hj, hY]
          obtain ⟨R, hR⟩ : ∃ R, R = [y0, y1, y2, y3, y4, y5, y6, y7] := ⟨_, rfl⟩
          have hRl : R.length = 8 := by rw [hR]; rfl
          have hRr : ∀ i, 0 ≤ R.getD i 0 ∧ R.getD i 0 < 4294967296 := by
            obtain ⟨q, hq⟩ : ∃ q, F.length / 64 = q + 1 := ⟨F.length / 64 - 1, by omega⟩
            rw [hR, ← hY', byBlocks, hq, blocksL]
            exact fun i => rounded_range _ _ (blocks_length _ _ rfl _) i
          rw [← hR] at hY' hrow
          have HY := Lib.hid hY'
          have HRL2 := Lib.hid hRl
          have HRR := Lib.hid hRr
          have HROW := Lib.hid hrow
          have HB := Lib.hid hB
          have hz10 := hB.size
          have hrl10 := hrow.lt
          clear hY hY' hR hRl hRr hrow hB hbt hj hj1
          obtain ⟨w10, hw10⟩ : ∃ x, x = wr := ⟨wr, rfl⟩
          subst hw10
          go_wp2
          go_loopw [8] (fun i ws => ∃ q : Nat, q ≤ 8 ∧ i = .int .i64 q ∧ RowB ws w10.heap.size 30 (fillTo (speltAt R) 32 (4 * q)) ∧ Below w10.heap.size w10 ws) (fun i _ => 8 - (intOf i).toNat)
          case atStart => exact ⟨0, by omega, rfl, rowb_lit w10 30 _ _ rfl, mac_one w10 _⟩
          case round =>
            obtain ⟨q, hq, rfl, hX, hB3⟩ := hrel
            have hXl := fillTo_length (speltAt R) 32 (4 * q)
            by_cases hlt : q < 8
            · have hRc := (HROW.out.below hB3 hrl10).cell q (by rw [HRL2.out]; omega)
              have hyr := HRR.out q
              have x0' := hX.cell (4 * q) (by omega)
              have x1' := hX.cell (4 * q + 1) (by omega)
              have x2' := hX.cell (4 * q + 2) (by omega)
              have x3' := hX.cell (4 * q + 3) (by omega)
              have f0' := hX.free (4 * q)
              have f1' := hX.free (4 * q + 1)
              have f2' := hX.free (4 * q + 2)
              have f3' := hX.free (4 * q + 3)
              obtain ⟨y, hy⟩ : ∃ y, y = R.getD q 0 := ⟨_, rfl⟩
              rw [← hy] at hRc hyr
              obtain ⟨hy0, hy1⟩ := hyr
              have v0 : speltAt R (4 * q) = y / 16777216 := by
                rw [speltAt, show 4 * q / 4 = q by omega, show 4 * q % 4 = 0 by omega, ← hy]
                show y / 16777216 % 256 = y / 16777216
                omega
              have v1 : speltAt R (4 * q + 1) = y / 65536 % 256 := by
                rw [speltAt, show (4 * q + 1) / 4 = q by omega, show (4 * q + 1) % 4 = 1 by omega, ← hy]
                rfl
              have v2 : speltAt R (4 * q + 2) = y / 256 % 256 := by
                rw [speltAt, show (4 * q + 2) / 4 = q by omega, show (4 * q + 2) % 4 = 2 by omega, ← hy]
                rfl
              have v3 : speltAt R (4 * q + 3) = y % 256 := by
                rw [speltAt, show (4 * q + 3) / 4 = q by omega, show (4 * q + 3) % 4 = 3 by omega, ← hy]
                show y / 1 % 256 = y % 256
                rw [Int.ediv_one]
              have hnext : fillTo (speltAt R) 32 (4 * (q + 1)) = ((((fillTo (speltAt R) 32 (4 * q)).set (4 * q) (y / 16777216)).set (4 * q + 1) (y / 65536 % 256)).set (4 * q + 2) (y / 256 % 256)).set (4 * q + 3) (y % 256) := by
                rw [← v0, ← v1, ← v2, ← v3]
                rfl
              have HN := Lib.hid hnext
              have HXX := Lib.hid hX
              have HB3 := Lib.hid hB3
              clear hy v0 v1 v2 v3 hnext hX hB3 hXl
              go_wp2
              go_roundw
              case rel =>
                refine ⟨q + 1, by omega, by go_num, ?_, ?_⟩
                · rw [HN.out]
                  exact (((HXX.out.put _ _).put _ _).put _ _).put _ _
                · exact (((HB3.out.setCell (p := ⟨w10.heap.size, 4 * q, none⟩) (Nat.le_refl _) _).setCell (p := ⟨w10.heap.size, 4 * q + 1, none⟩) (Nat.le_refl _) _).setCell (p := ⟨w10.heap.size, 4 * q + 2, none⟩) (Nat.le_refl _) _).setCell (p := ⟨w10.heap.size, 4 * q + 3, none⟩) (Nat.le_refl _) _
              case measure => simp [intOf]; omega
            · have h8 : q = 8 := by omega
              have hge8 : 8 ≤ q := by omega
              have hX8 : RowB wr w10.heap.size 30 (fillTo (speltAt R) 32 32) := by rw [h8] at hX; exact hX
              rw [fillTo_all] at hX8
              have hZ : Z = speltL R := by rw [HZE.out, endL, HFE.out, HY.out]
              have hXZ : RowB wr w10.heap.size 30 Z := by rw [hZ]; exact hX8
              have hZl : Z.length = 32 := by rw [hZ]; exact spelt_length R
              have hO10 : RowB w10 (w.heap.size + 1) 30 (List.replicate 32 0) := HBO.out.below HB.out HBO.out.lt
              have hO : RowB wr (w.heap.size + 1) 30 (List.replicate 32 0) := hO10.below hB3 hO10.lt
              have hBr : Below w.heap.size w wr := (HB8.out.trans (HB.out.mono HB8.out.size)).trans (hB3.mono (by have := HB.out.size; have := HB8.out.size; omega))
              have HZL := Lib.hid hZl
              clear hX hX8 hZ hZl hlt hq h8 hXl hB3 hO10
              go_wp2_with (first
                | ((with_reducible refine wpList_load_b rfl 30 _ _ rfl w10.heap.size ?hx6 30 Z hXZ Tryd.underlying30 ?hd6 (info32 HZL.out) ?_); (case hx6 => rfl); (case hd6 => rfl))
                | ((with_reducible refine wpList_store_b rfl 30 _ _ rfl (w.heap.size + 1) Z ?hx7 ?hy7 30 (List.replicate 32 0) hO (info32 HZL.out) ?hl7 ?_); (case hx7 => rfl); (case hy7 => rfl); (case hl7 => rw [HZL.out]; rfl)
                   intro w6 hg6 hX6 hs6))
              refine bodyPost_ret (v := .agg (idv Z)) ?_ ?_ ?_
              · exact results_cell_row Tryd.results47 _ _ (w.heap.size + 1) 30 _ (0, 0) _ rfl hX6.is Tryd.underlying30 rfl (info32 HZL.out)
              · rfl
              · exact ⟨rfl, Below.grows hBr hg6 hBr.size (by omega)⟩
end Go.Proofs.YtcfkpepohnjdfaaDoor

/- The walks over the plain answers' Add and End, where they answer noughts. -/
namespace Go.Proofs.YtcfkpepohnjdfaaDoor
open Go.RowKit

set_option maxHeartbeats 400000 in
theorem radd_zero_may (x0 x1 x2 x3 x4 x5 x6 x7 len : Int) (A B : Option Addr) (n c m d : Nat) (w : World) (hmay : mayB n len = false) :
    Calls Tryd.prog 48 #[hashV x0 x1 x2 x3 x4 x5 x6 x7 A n c len, .slice B m d] w fun e w' => e = .returned (hashV 0 0 0 0 0 0 0 0 none 0 0 0) ∧ Below w.heap.size w w' := by
  have hi26 : (Tryd.prog.info? 63).map (·.size) = some 10 := by kernel_rfl
  go_enter Tryd.func48, Tryd.ntmps48
  go_wp2_with fail
  refine (rmay_any _ _ _ _ _ _ _ _ _ _ _ _ _).mono ?_
  rintro e w0 ⟨rfl, rfl⟩
  generalize hW : World.alloc _ _ = W
  obtain ⟨hB0, hz0, hX0, hO0⟩ := named_three hW
  have hbe : BoxAt W w.heap.size x0 x1 x2 x3 x4 x5 x6 x7 A n c len := hX0
  have hbo : BoxAt W (w.heap.size + 1) 0 0 0 0 0 0 0 0 none 0 0 0 := hO0
  obtain ⟨o0, o1, o2, o3, o4, o5, o6, o7, o8, o9⟩ := BoxAt.cells hbo
  obtain ⟨f0, f1, f2, f3, f4, f5, f6, f7, f8, f9⟩ := BoxAt.free hbo
  obtain ⟨_, _, _, _, _, _, _, _, _, e9⟩ := BoxAt.cells hbe
  clear hW hX0 hO0 hz0
  rw [hmay]
  go_wp2
  refine bodyPost_ret (v := hashV 0 0 0 0 0 0 0 0 none 0 0 0) ?_ ?_ ?_
  · exact results_cell_row Tryd.results48 _ _ (w.heap.size + 1) 63 _ (0, 0) _ rfl (heap_put10 hbo _ _ _ _ _ _ _ _ _ _) Tryd.underlying63 rfl hi26
  · rfl
  · exact ⟨rfl, below_put10 (Nat.le_succ _) hB0 _ _ _ _ _ _ _ _ _ _⟩

set_option maxHeartbeats 400000 in
theorem radd_zero_room (x0 x1 x2 x3 x4 x5 x6 x7 len : Int) (A B : Option Addr) (n c m d : Nat) (w : World) (hmay : mayB n len = true) (_hm : m ≤ 9223372036854775807) (hroom : 1048576 - len < (m : Int)) :
    Calls Tryd.prog 48 #[hashV x0 x1 x2 x3 x4 x5 x6 x7 A n c len, .slice B m d] w fun e w' => e = .returned (hashV 0 0 0 0 0 0 0 0 none 0 0 0) ∧ Below w.heap.size w w' := by
  obtain ⟨h0, h1, h2⟩ := mayB_yes hmay
  have H2 := Lib.hid h2
  clear h2
  have hi26 : (Tryd.prog.info? 63).map (·.size) = some 10 := by kernel_rfl
  go_enter Tryd.func48, Tryd.ntmps48
  go_wp2_with fail
  refine (rmay_any _ _ _ _ _ _ _ _ _ _ _ _ _).mono ?_
  rintro e w0 ⟨rfl, rfl⟩
  generalize hW : World.alloc _ _ = W
  obtain ⟨hB0, hz0, hX0, hO0⟩ := named_three hW
  have hbe : BoxAt W w.heap.size x0 x1 x2 x3 x4 x5 x6 x7 A n c len := hX0
  have hbo : BoxAt W (w.heap.size + 1) 0 0 0 0 0 0 0 0 none 0 0 0 := hO0
  obtain ⟨o0, o1, o2, o3, o4, o5, o6, o7, o8, o9⟩ := BoxAt.cells hbo
  obtain ⟨f0, f1, f2, f3, f4, f5, f6, f7, f8, f9⟩ := BoxAt.free hbo
  obtain ⟨_, _, _, _, _, _, _, _, _, e9⟩ := BoxAt.cells hbe
  clear hW hX0 hO0 hz0
  rw [hmay]
  go_wp2
  refine bodyPost_ret (v := hashV 0 0 0 0 0 0 0 0 none 0 0 0) ?_ ?_ ?_
  · exact results_cell_row Tryd.results48 _ _ (w.heap.size + 1) 63 _ (0, 0) _ rfl (heap_put10 hbo _ _ _ _ _ _ _ _ _ _) Tryd.underlying63 rfl hi26
  · rfl
  · exact ⟨rfl, below_put10 (Nat.le_succ _) hB0 _ _ _ _ _ _ _ _ _ _⟩

set_option maxHeartbeats 400000 in
theorem rend_zero (x0 x1 x2 x3 x4 x5 x6 x7 len : Int) (A : Option Addr) (n c : Nat) (w : World) (hmay : mayB n len = false) :
    Calls Tryd.prog 47 #[hashV x0 x1 x2 x3 x4 x5 x6 x7 A n c len] w fun e w' => e = .returned (.agg (idv (List.replicate 32 0))) ∧ Below w.heap.size w w' := by
  go_enter Tryd.func47, Tryd.ntmps47
  go_wp2_with fail
  refine (rmay_any _ _ _ _ _ _ _ _ _ _ _ _ _).mono ?_
  rintro e w0 ⟨rfl, rfl⟩
  generalize hW : World.alloc _ _ = W
  obtain ⟨hB0, hz0, hX0, hO0⟩ := named_three hW
  have hO0 : RowB W (w.heap.size + 1) 30 (List.replicate 32 0) := hO0
  clear hW hX0 hz0
  rw [hmay]
  go_wp2_with (first | ((with_reducible refine wpList_store_b rfl 30 _ _ rfl (w.heap.size + 1) (List.replicate 32 0) ?hx7 ?hy7 30 (List.replicate 32 0) hO0 (info32 rfl) ?hl7 ?hm7); (case hx7 => rfl); (case hy7 => rfl); (case hl7 => rfl); intro w6 hg6 hX6 hs6))
  refine bodyPost_ret (v := .agg (idv (List.replicate 32 0))) ?_ ?_ ?_
  · exact results_cell_row Tryd.results47 _ _ (w.heap.size + 1) 30 _ (0, 0) _ rfl hX6.is Tryd.underlying30 rfl (info32 rfl)
  · rfl
  · exact ⟨rfl, Below.grows hB0 hg6 hB0.size (by omega)⟩

end Go.Proofs.YtcfkpepohnjdfaaDoor

/- The walk over the plain answers' Sum. -/
namespace Go.Proofs.YtcfkpepohnjdfaaDoor
open Go.RowKit

theorem radd_yes (x0 x1 x2 x3 x4 x5 x6 x7 len : Int) (A B : Option Addr) (n c m d : Nat) (rest b : List Int) (w : World) (hmay : mayB n len = true) (hroom : (m : Int) ≤ 1048576 - len) (ha : Bts w A n c rest) (hb : Bts w B m d b) :
    Calls Tryd.prog 48 #[hashV x0 x1 x2 x3 x4 x5 x6 x7 A n c len, .slice B m d] w (AddPost w [x0, x1, x2, x3, x4, x5, x6, x7] (rest ++ b) (len + (m : Int))) := by
  obtain ⟨N, rfl⟩ := Int.eq_ofNat_of_zero_le (mayB_yes hmay).1
  exact radd_good x0 x1 x2 x3 x4 x5 x6 x7 A B n c N m d rest b w hmay hroom ha hb
theorem rend_yes (x0 x1 x2 x3 x4 x5 x6 x7 len : Int) (A : Option Addr) (n c : Nat) (rest : List Int) (w : World) (hmay : mayB n len = true) (hb : Bts w A n c rest) :
    Calls Tryd.prog 47 #[hashV x0 x1 x2 x3 x4 x5 x6 x7 A n c len] w fun e w' => e = .returned (.agg (idv (endL [x0, x1, x2, x3, x4, x5, x6, x7] rest len.toNat))) ∧ Below w.heap.size w w' := by
  obtain ⟨N, rfl⟩ := Int.eq_ofNat_of_zero_le (mayB_yes hmay).1
  exact rend_good x0 x1 x2 x3 x4 x5 x6 x7 A n c N rest w hmay hb

theorem radd_new (B : Option Addr) (m d : Nat) (l : List Int) (w : World) (hm : m ≤ 1048576) (hb : Bts w B m d l) :
    Calls Tryd.prog 48 #[hashV 1779033703 3144134277 1013904242 2773480762 1359893119 2600822924 528734635 1541459225 none 0 0 0, .slice B m d] w (AddPost w iList l (m : Int)) := by
  have h := radd_yes 1779033703 3144134277 1013904242 2773480762 1359893119 2600822924 528734635 1541459225 0 none B 0 0 m d [] l w (by decide) (by omega) (Bts.nil w) hb
  rw [Int.zero_add, List.nil_append] at h
  exact h

set_option maxHeartbeats 400000 in
theorem rsum_yes (B : Option Addr) (m d : Nat) (l : List Int) (w : World) (hm : m ≤ 1048576) (hb : Bts w B m d l) :
    Calls Tryd.prog 41 #[.slice B m d] w fun e w' => e = .returned (.agg (idv (sumL l))) ∧ Below w.heap.size w w' := by
  obtain ⟨Z, hZ⟩ : ∃ Z, Z = sumL l := ⟨_, rfl⟩
  have hZl : Z.length = 32 := by rw [hZ, sumL, endL]; exact spelt_length _
  rw [← hZ]
  have HZ := Lib.hid hZ
  have HZL := Lib.hid hZl
  clear hZ hZl
  go_enter Tryd.func41, Tryd.ntmps41
  go_wp2_with fail
  refine (rnew_any _).mono ?_
  rintro e w1 ⟨rfl, hb1⟩
  obtain ⟨hB1, hz1, hO1⟩ := after_one hb1
  have hO1 : RowB w1 w.heap.size 30 (List.replicate 32 0) := hO1
  clear hb1
  go_wp2_with fail
  refine (radd_new B m d l w1 hm (hb.below hB1)).mono ?_
  rintro e w2 ⟨y0, y1, y2, y3, y4, y5, y6, y7, A3, n3, c3, rfl, hY, hbt, hb2⟩
  have hO2 := hO1.below hb2 hO1.lt
  have hB2 := hB1.trans (hb2.mono hB1.size)
  have hmay : mayB n3 (m : Int) = true := by
    have h1 := hbt.len
    rw [List.length_drop, hb.len, whole, hb.len] at h1
    unfold mayB
    rw [decide_eq_true_eq]
    omega
  have hfin : endL [y0, y1, y2, y3, y4, y5, y6, y7] (l.drop (whole l)) ((m : Int)).toNat = Z := by
    rw [HZ.out, sumL, ← hY, Int.toNat_natCast, ← hb.len]
    rfl
  have HF := Lib.hid hfin
  have HMAY := Lib.hid hmay
  clear hfin hmay hY hb2
  go_wp2_with fail
  refine (rend_yes y0 y1 y2 y3 y4 y5 y6 y7 (m : Int) A3 n3 c3 (l.drop (whole l)) w2 HMAY.out hbt).mono ?_
  rintro e w3 ⟨he, hb3⟩
  rw [HF.out] at he
  subst he
  have hO3 := hO2.below hb3 hO2.lt
  have hB3 := hB2.trans (hb3.mono hB2.size)
  clear hb3
  go_wp2_with (first | ((with_reducible refine wpList_store_b rfl 30 _ _ rfl w.heap.size Z ?hx7 ?hy7 30 (List.replicate 32 0) hO3 (info32 HZL.out) ?hl7 ?hm7); (case hx7 => rfl); (case hy7 => rfl); (case hl7 => rw [HZL.out]; rfl); intro w6 hg6 hX6 hs6))
  refine bodyPost_ret (v := .agg (idv Z)) ?_ ?_ ?_
  · exact results_cell_row Tryd.results41 _ _ w.heap.size 30 _ (0, 0) _ rfl hX6.is Tryd.underlying30 rfl (info32 HZL.out)
  · rfl
  · exact ⟨rfl, Below.grows hB3 hg6 hB3.size (Nat.le_refl _)⟩
end Go.Proofs.YtcfkpepohnjdfaaDoor

/- A list whose first bytes are turned. -/
namespace Go.Proofs.YtcfkpepohnjdfaaDoor
open Go.RowKit

/-- a list whose first bytes are turned -/
def mixL (x : Int) (l : List Int) : Nat → List Int
  | 0 => l
  | k + 1 => (mixL x l k).set k (xorAt x l k)
theorem mixL_length (x : Int) (l : List Int) (k : Nat) : (mixL x l k).length = l.length := by
  induction k with
  | zero => rfl
  | succ k ih => simp [mixL, ih]
theorem mixL_eq (x : Int) (l : List Int) (k : Nat) (h : k ≤ l.length) : mixL x l k = (List.range k).map (xorAt x l) ++ l.drop k := by
  induction k with
  | zero => simp [mixL]
  | succ k ih =>
    rw [mixL, ih (by omega), List.range_succ, List.map_append, List.append_assoc]
    rw [List.set_append_right _ _ (by simp), List.length_map, List.length_range, Nat.sub_self, List.drop_eq_getElem_cons (show k < l.length by omega), List.set_cons_zero]
    rfl
theorem mixL_at (x : Int) (l : List Int) (k : Nat) (h : k < l.length) : (mixL x l k).getD k 0 = l.getD k 0 := by
  rw [mixL_eq x l k (by omega)]
  simp [List.getD_eq_getElem?_getD, List.getElem?_append_right]
theorem mixL_all (x : Int) (l : List Int) (h : l.length = 64) : mixL x l 64 = xorL x l := by
  rw [mixL_eq x l 64 (by omega), xorL, List.drop_eq_nil_of_le (by omega), List.append_nil]
end Go.Proofs.YtcfkpepohnjdfaaDoor

/- '==' between two arrays of numbers of one kind. -/
namespace Go.Proofs.YtcfkpepohnjdfaaDoor
open Go.RowKit

/-- two registers -/
theorem eq8 (a0 a1 a2 a3 a4 a5 a6 a7 b0 b1 b2 b3 b4 b5 b6 b7 : Int) (w : World) :
    (Op.equalIn 10000 61 (.agg #[.int .u32 a0, .int .u32 a1, .int .u32 a2, .int .u32 a3, .int .u32 a4, .int .u32 a5, .int .u32 a6, .int .u32 a7]) (.agg #[.int .u32 b0, .int .u32 b1, .int .u32 b2, .int .u32 b3, .int .u32 b4, .int .u32 b5, .int .u32 b6, .int .u32 b7])).run Tryd.prog w =
      .ok ([a0, a1, a2, a3, a4, a5, a6, a7] == [b0, b1, b2, b3, b4, b5, b6, b7]) w :=
  run_equalIn_ints w 9998 61 60 8 .u32 Tryd.underlying61 Tryd.underlying60 (size_of (by kernel_rfl)) [a0, a1, a2, a3, a4, a5, a6, a7] [b0, b1, b2, b3, b4, b5, b6, b7] rfl rfl
/-- two sums -/
theorem eq32 (x y : List Int) (hx : x.length = 32) (hy : y.length = 32) (w : World) :
    (Op.equalIn 10000 30 (.agg (idv x)) (.agg (idv y))).run Tryd.prog w = .ok (x == y) w :=
  run_equalIn_ints w 9998 30 5 32 .u8 Tryd.underlying30 Tryd.underlying5 (size_of (by kernel_rfl)) x y hx hy
end Go.Proofs.YtcfkpepohnjdfaaDoor

/- A region that draws its order, walked by hand: one operation after another, taken first. -/
namespace Go.Proofs.YtcfkpepohnjdfaaDoor
open Go.RowKit

section
variable {P : Program} {l : List Oper} {Q : Exit → Act → World → Prop} {md : Region.Mode} {S : World → Prop} {oi : Oper} {fuel : Nat} {listed : Array Bool} {a : Act} {w : World}
/-- one operation of a region that draws its order, taken first: what it yields hangs on no world -/
theorem take_run (i : Nat) (v : Value) (hi : l[i]? = some oi) (hs : Region.noSelect l.toArray = true) (hf : Region.free md l.toArray listed i = true) (hr : (Region.ready md l.toArray listed).contains i = true)
    (hQ : ∀ c a w, Q (.panic c) (a.put oi.dst v) w → Q (.panic c) a w) (hw : Region.wanted oi (yielded l.toArray a.tmps) = true) (hS : S w) (hrun : ∀ w, (execOp a.eval oi).run P w = .ok (.value v) w)
    (h : wpAnyH P md l.toArray Q S fuel (listed.setIfInBounds i true) (a.put oi.dst v) w) : wpAnyH P md l.toArray Q S (fuel + 1) listed a w :=
  wpAnyH_take (by simpa using hi) hs hf hr hQ (.inl ⟨hw, fun w _ => hrun w⟩) hS h
theorem take_move (i : Nat) (x : Operand) (v : Value) (hi : l[i]? = some oi) (ho : oi.op = .move x) (hv : a.eval x = v) (hs : Region.noSelect l.toArray = true) (hf : Region.free md l.toArray listed i = true) (hr : (Region.ready md l.toArray listed).contains i = true)
    (hQ : ∀ c a w, Q (.panic c) (a.put oi.dst v) w → Q (.panic c) a w) (hw : Region.wanted oi (yielded l.toArray a.tmps) = true) (hS : S w)
    (h : wpAnyH P md l.toArray Q S fuel (listed.setIfInBounds i true) (a.put oi.dst v) w) : wpAnyH P md l.toArray Q S (fuel + 1) listed a w :=
  take_run i v hi hs hf hr hQ hw hS (fun w => by unfold execOp; simp [ho, hv]) h
/-- one that a guard leaves out -/
theorem take_off (i : Nat) (hi : l[i]? = some oi) (hs : Region.noSelect l.toArray = true) (hf : Region.free md l.toArray listed i = true) (hr : (Region.ready md l.toArray listed).contains i = true)
    (hQ : ∀ c a w, Q (.panic c) (a.put oi.dst undef) w → Q (.panic c) a w) (hw : Region.wanted oi (yielded l.toArray a.tmps) = false) (hS : S w)
    (h : wpAnyH P md l.toArray Q S fuel (listed.setIfInBounds i true) (a.put oi.dst undef) w) : wpAnyH P md l.toArray Q S (fuel + 1) listed a w :=
  wpAnyH_take (by simpa using hi) hs hf hr hQ (.inr ⟨hw, rfl⟩) hS h
/-- a load of a long array -/
theorem take_long (i : Nat) (ty : TypeId) (x : Operand) (g : Nat) (cs : List Value) (d : TypeDesc) (hi : l[i]? = some oi) (ho : oi.op = .load ty x) (hx : a.eval x = .pointer (some ⟨g, 0, none⟩)) (hs : Region.noSelect l.toArray = true) (hf : Region.free md l.toArray listed i = true) (hr : (Region.ready md l.toArray listed).contains i = true)
    (hQ : ∀ c a w, Q (.panic c) (a.put oi.dst (.agg cs.toArray)) w → Q (.panic c) a w) (hw : Region.wanted oi (yielded l.toArray a.tmps) = true) (hS : S w) (hat : ∀ w, S w → w.rangeAt g 0 cs)
    (hu : P.underlying ty = some d) (hd : d.isRow = true) (hsz : (P.info? ty).map (·.size) = some cs.length)
    (h : wpAnyH P md l.toArray Q S fuel (listed.setIfInBounds i true) (a.put oi.dst (.agg cs.toArray)) w) : wpAnyH P md l.toArray Q S (fuel + 1) listed a w :=
  wpAnyH_take (by simpa using hi) hs hf hr hQ (yieldsIf_load_mid hw ty x ho g 0 hx cs d hat hu hd hsz) hS h
/-- the only one that may come up -/
theorem one_step (i : Nat) (hr : Region.ready md l.toArray listed = [i]) (hi : l[i]? = some oi)
    (h : ∀ K' : Act → World → Prop, Shut (∀ a w, S w → (S w → wpAnyH P md l.toArray Q S fuel (listed.setIfInBounds i true) a w) → K' a w) → if Region.wanted oi (yielded l.toArray a.tmps) = true then Oper.wp P oi a w K' Q else K' (a.put oi.dst undef) w) :
    wpAnyH P md l.toArray Q S (fuel + 1) listed a w :=
  wpAnyH_ready hr (by simp) (AllReadyH.cons (by simpa using hi) h AllReadyH.nil)
end
section
variable {P : Program} {l : List Oper} {Q : Exit → Act → World → Prop} {md : Region.Mode} {S S' : World → Prop} {oi : Oper} {fuel : Nat} {listed : Array Bool} {a : Act} {w : World}
theorem take_if (i : Nat) (v : Value) (hi : l[i]? = some oi) (hs : Region.noSelect l.toArray = true) (hf : Region.free md l.toArray listed i = true) (hr : (Region.ready md l.toArray listed).contains i = true)
    (hQ : ∀ c a w, Q (.panic c) (a.put oi.dst v) w → Q (.panic c) a w) (hw : Region.wanted oi (yielded l.toArray a.tmps) = true) (hS : S w) (hrun : ∀ w, S w → (execOp a.eval oi).run P w = .ok (.value v) w)
    (h : wpAnyH P md l.toArray Q S fuel (listed.setIfInBounds i true) (a.put oi.dst v) w) : wpAnyH P md l.toArray Q S (fuel + 1) listed a w :=
  wpAnyH_take (by simpa using hi) hs hf hr hQ (.inl ⟨hw, hrun⟩) hS h
theorem wpAnyH_mono {ops : Array Oper} (hSS : ∀ w, S' w → S w) : ∀ (fuel : Nat) {listed : Array Bool} {a : Act} {w : World}, wpAnyH P md ops Q S' fuel listed a w → wpAnyH P md ops Q S fuel listed a w
  | 0, _, _, _, h => h
  | fuel + 1, _, _, _, h => ⟨h.1, fun i hi => wpOp_mono (fun _ _ h' => ⟨hSS _ h'.1, wpAnyH_mono hSS fuel h'.2⟩) (h.2 i hi)⟩
end
section
variable {P : Program} {l : List Oper} {Q : Exit → Act → World → Prop} {md : Region.Mode} {S : World → Prop} {oi oj ok : Oper} {fuel : Nat} {listed : Array Bool} {a : Act} {w : World}
/-- two, or three, that may come up -/
theorem two_steps (i j : Nat) (hr : Region.ready md l.toArray listed = [i, j]) (hi : l[i]? = some oi) (hj : l[j]? = some oj)
    (h1 : ∀ K' : Act → World → Prop, Shut (∀ a w, S w → (S w → wpAnyH P md l.toArray Q S fuel (listed.setIfInBounds i true) a w) → K' a w) → if Region.wanted oi (yielded l.toArray a.tmps) = true then Oper.wp P oi a w K' Q else K' (a.put oi.dst undef) w)
    (h2 : ∀ K' : Act → World → Prop, Shut (∀ a w, S w → (S w → wpAnyH P md l.toArray Q S fuel (listed.setIfInBounds j true) a w) → K' a w) → if Region.wanted oj (yielded l.toArray a.tmps) = true then Oper.wp P oj a w K' Q else K' (a.put oj.dst undef) w) :
    wpAnyH P md l.toArray Q S (fuel + 1) listed a w :=
  wpAnyH_ready hr (by simp) (AllReadyH.cons (by simpa using hi) h1 (AllReadyH.cons (by simpa using hj) h2 AllReadyH.nil))
theorem three_steps (i j k : Nat) (hr : Region.ready md l.toArray listed = [i, j, k]) (hi : l[i]? = some oi) (hj : l[j]? = some oj) (hk : l[k]? = some ok)
    (h1 : ∀ K' : Act → World → Prop, Shut (∀ a w, S w → (S w → wpAnyH P md l.toArray Q S fuel (listed.setIfInBounds i true) a w) → K' a w) → if Region.wanted oi (yielded l.toArray a.tmps) = true then Oper.wp P oi a w K' Q else K' (a.put oi.dst undef) w)
    (h2 : ∀ K' : Act → World → Prop, Shut (∀ a w, S w → (S w → wpAnyH P md l.toArray Q S fuel (listed.setIfInBounds j true) a w) → K' a w) → if Region.wanted oj (yielded l.toArray a.tmps) = true then Oper.wp P oj a w K' Q else K' (a.put oj.dst undef) w)
    (h3 : ∀ K' : Act → World → Prop, Shut (∀ a w, S w → (S w → wpAnyH P md l.toArray Q S fuel (listed.setIfInBounds k true) a w) → K' a w) → if Region.wanted ok (yielded l.toArray a.tmps) = true then Oper.wp P ok a w K' Q else K' (a.put ok.dst undef) w) :
    wpAnyH P md l.toArray Q S (fuel + 1) listed a w :=
  wpAnyH_ready hr (by simp) (AllReadyH.cons (by simpa using hi) h1 (AllReadyH.cons (by simpa using hj) h2 (AllReadyH.cons (by simpa using hk) h3 AllReadyH.nil)))
end
end Go.Proofs.YtcfkpepohnjdfaaDoor

/- Appends, and loads of arrays of bytes, inside regions that draw their order. -/
namespace Go.Proofs.YtcfkpepohnjdfaaDoor
open Go.RowKit

theorem agg32 {l : List Int} (hl : l.length = 32) : (#[.int .u8 (l.getD 0 0), .int .u8 (l.getD 1 0), .int .u8 (l.getD 2 0), .int .u8 (l.getD 3 0), .int .u8 (l.getD 4 0), .int .u8 (l.getD 5 0), .int .u8 (l.getD 6 0), .int .u8 (l.getD 7 0), .int .u8 (l.getD 8 0), .int .u8 (l.getD 9 0), .int .u8 (l.getD 10 0), .int .u8 (l.getD 11 0), .int .u8 (l.getD 12 0), .int .u8 (l.getD 13 0), .int .u8 (l.getD 14 0), .int .u8 (l.getD 15 0), .int .u8 (l.getD 16 0), .int .u8 (l.getD 17 0), .int .u8 (l.getD 18 0), .int .u8 (l.getD 19 0), .int .u8 (l.getD 20 0), .int .u8 (l.getD 21 0), .int .u8 (l.getD 22 0), .int .u8 (l.getD 23 0), .int .u8 (l.getD 24 0), .int .u8 (l.getD 25 0), .int .u8 (l.getD 26 0), .int .u8 (l.getD 27 0), .int .u8 (l.getD 28 0), .int .u8 (l.getD 29 0), .int .u8 (l.getD 30 0), .int .u8 (l.getD 31 0)] : Array Value) = idv l := by
  match l, hl with
  | [x0, x1, x2, x3, x4, x5, x6, x7, x8, x9, x10, x11, x12, x13, x14, x15, x16, x17, x18, x19, x20, x21, x22, x23, x24, x25, x26, x27, x28, x29, x30, x31], _ => rfl
theorem RowB.cells32 {w : World} {g : Nat} {t : TypeId} {l : List Int} (h : RowB w g t l) (hl : l.length = 32) : w.cell? ⟨g, 0, none⟩ = some (.int .u8 (l.getD 0 0)) ∧ w.cell? ⟨g, 1, none⟩ = some (.int .u8 (l.getD 1 0)) ∧ w.cell? ⟨g, 2, none⟩ = some (.int .u8 (l.getD 2 0)) ∧ w.cell? ⟨g, 3, none⟩ = some (.int .u8 (l.getD 3 0)) ∧ w.cell? ⟨g, 4, none⟩ = some (.int .u8 (l.getD 4 0)) ∧ w.cell? ⟨g, 5, none⟩ = some (.int .u8 (l.getD 5 0)) ∧ w.cell? ⟨g, 6, none⟩ = some (.int .u8 (l.getD 6 0)) ∧ w.cell? ⟨g, 7, none⟩ = some (.int .u8 (l.getD 7 0)) ∧ w.cell? ⟨g, 8, none⟩ = some (.int .u8 (l.getD 8 0)) ∧ w.cell? ⟨g, 9, none⟩ = some (.int .u8 (l.getD 9 0)) ∧ w.cell? ⟨g, 10, none⟩ = some (.int .u8 (l.getD 10 0)) ∧ w.cell? ⟨g, 11, none⟩ = some (.int .u8 (l.getD 11 0)) ∧ w.cell? ⟨g, 12, none⟩ = some (.int .u8 (l.getD 12 0)) ∧ w.cell? ⟨g, 13, none⟩ = some (.int .u8 (l.getD 13 0)) ∧ w.cell? ⟨g, 14, none⟩ = some (.int .u8 (l.getD 14 0)) ∧ w.cell? ⟨g, 15, none⟩ = some (.int .u8 (l.getD 15 0)) ∧ w.cell? ⟨g, 16, none⟩ = some (.int .u8 (l.getD 16 0)) ∧ w.cell? ⟨g, 17, none⟩ = some (.int .u8 (l.getD 17 0)) ∧ w.cell? ⟨g, 18, none⟩ = some (.int .u8 (l.getD 18 0)) ∧ w.cell? ⟨g, 19, none⟩ = some (.int .u8 (l.getD 19 0)) ∧ w.cell? ⟨g, 20, none⟩ = some (.int .u8 (l.getD 20 0)) ∧ w.cell? ⟨g, 21, none⟩ = some (.int .u8 (l.getD 21 0)) ∧ w.cell? ⟨g, 22, none⟩ = some (.int .u8 (l.getD 22 0)) ∧ w.cell? ⟨g, 23, none⟩ = some (.int .u8 (l.getD 23 0)) ∧ w.cell? ⟨g, 24, none⟩ = some (.int .u8 (l.getD 24 0)) ∧ w.cell? ⟨g, 25, none⟩ = some (.int .u8 (l.getD 25 0)) ∧ w.cell? ⟨g, 26, none⟩ = some (.int .u8 (l.getD 26 0)) ∧ w.cell? ⟨g, 27, none⟩ = some (.int .u8 (l.getD 27 0)) ∧ w.cell? ⟨g, 28, none⟩ = some (.int .u8 (l.getD 28 0)) ∧ w.cell? ⟨g, 29, none⟩ = some (.int .u8 (l.getD 29 0)) ∧ w.cell? ⟨g, 30, none⟩ = some (.int .u8 (l.getD 30 0)) ∧ w.cell? ⟨g, 31, none⟩ = some (.int .u8 (l.getD 31 0)) :=
  ⟨h.cell 0 (by omega), h.cell 1 (by omega), h.cell 2 (by omega), h.cell 3 (by omega), h.cell 4 (by omega), h.cell 5 (by omega), h.cell 6 (by omega), h.cell 7 (by omega), h.cell 8 (by omega), h.cell 9 (by omega), h.cell 10 (by omega), h.cell 11 (by omega), h.cell 12 (by omega), h.cell 13 (by omega), h.cell 14 (by omega), h.cell 15 (by omega), h.cell 16 (by omega), h.cell 17 (by omega), h.cell 18 (by omega), h.cell 19 (by omega), h.cell 20 (by omega), h.cell 21 (by omega), h.cell 22 (by omega), h.cell 23 (by omega), h.cell 24 (by omega), h.cell 25 (by omega), h.cell 26 (by omega), h.cell 27 (by omega), h.cell 28 (by omega), h.cell 29 (by omega), h.cell 30 (by omega), h.cell 31 (by omega)⟩
theorem eq32l (x y : List Int) (hx : x.length = 32) (hy : y.length = 32) (w : World) :
    (Op.equalIn 10000 30 (.agg #[.int .u8 (x.getD 0 0), .int .u8 (x.getD 1 0), .int .u8 (x.getD 2 0), .int .u8 (x.getD 3 0), .int .u8 (x.getD 4 0), .int .u8 (x.getD 5 0), .int .u8 (x.getD 6 0), .int .u8 (x.getD 7 0), .int .u8 (x.getD 8 0), .int .u8 (x.getD 9 0), .int .u8 (x.getD 10 0), .int .u8 (x.getD 11 0), .int .u8 (x.getD 12 0), .int .u8 (x.getD 13 0), .int .u8 (x.getD 14 0), .int .u8 (x.getD 15 0), .int .u8 (x.getD 16 0), .int .u8 (x.getD 17 0), .int .u8 (x.getD 18 0), .int .u8 (x.getD 19 0), .int .u8 (x.getD 20 0), .int .u8 (x.getD 21 0), .int .u8 (x.getD 22 0), .int .u8 (x.getD 23 0), .int .u8 (x.getD 24 0), .int .u8 (x.getD 25 0), .int .u8 (x.getD 26 0), .int .u8 (x.getD 27 0), .int .u8 (x.getD 28 0), .int .u8 (x.getD 29 0), .int .u8 (x.getD 30 0), .int .u8 (x.getD 31 0)]) (.agg (idv y))).run Tryd.prog w = .ok (x == y) w := by
  rw [agg32 hx]
  exact eq32 x y hx hy w
theorem eq32z (w : World) : (Op.equalIn 10000 30 (.agg #[.int .u8 0, .int .u8 0, .int .u8 0, .int .u8 0, .int .u8 0, .int .u8 0, .int .u8 0, .int .u8 0, .int .u8 0, .int .u8 0, .int .u8 0, .int .u8 0, .int .u8 0, .int .u8 0, .int .u8 0, .int .u8 0, .int .u8 0, .int .u8 0, .int .u8 0, .int .u8 0, .int .u8 0, .int .u8 0, .int .u8 0, .int .u8 0, .int .u8 0, .int .u8 0, .int .u8 0, .int .u8 0, .int .u8 0, .int .u8 0, .int .u8 0, .int .u8 0]) (.agg #[.int .u8 0, .int .u8 0, .int .u8 0, .int .u8 0, .int .u8 0, .int .u8 0, .int .u8 0, .int .u8 0, .int .u8 0, .int .u8 0, .int .u8 0, .int .u8 0, .int .u8 0, .int .u8 0, .int .u8 0, .int .u8 0, .int .u8 0, .int .u8 0, .int .u8 0, .int .u8 0, .int .u8 0, .int .u8 0, .int .u8 0, .int .u8 0, .int .u8 0, .int .u8 0, .int .u8 0, .int .u8 0, .int .u8 0, .int .u8 0, .int .u8 0, .int .u8 0])).run Tryd.prog w = .ok true w :=
  eq32 (List.replicate 32 0) (List.replicate 32 0) rfl rfl w
theorem RowB.zero32 {w : World} {g : Nat} {t : TypeId} (h : RowB w g t (List.replicate 32 0)) : w.cell? ⟨g, 0, none⟩ = some (.int .u8 0) ∧ w.cell? ⟨g, 1, none⟩ = some (.int .u8 0) ∧ w.cell? ⟨g, 2, none⟩ = some (.int .u8 0) ∧ w.cell? ⟨g, 3, none⟩ = some (.int .u8 0) ∧ w.cell? ⟨g, 4, none⟩ = some (.int .u8 0) ∧ w.cell? ⟨g, 5, none⟩ = some (.int .u8 0) ∧ w.cell? ⟨g, 6, none⟩ = some (.int .u8 0) ∧ w.cell? ⟨g, 7, none⟩ = some (.int .u8 0) ∧ w.cell? ⟨g, 8, none⟩ = some (.int .u8 0) ∧ w.cell? ⟨g, 9, none⟩ = some (.int .u8 0) ∧ w.cell? ⟨g, 10, none⟩ = some (.int .u8 0) ∧ w.cell? ⟨g, 11, none⟩ = some (.int .u8 0) ∧ w.cell? ⟨g, 12, none⟩ = some (.int .u8 0) ∧ w.cell? ⟨g, 13, none⟩ = some (.int .u8 0) ∧ w.cell? ⟨g, 14, none⟩ = some (.int .u8 0) ∧ w.cell? ⟨g, 15, none⟩ = some (.int .u8 0) ∧ w.cell? ⟨g, 16, none⟩ = some (.int .u8 0) ∧ w.cell? ⟨g, 17, none⟩ = some (.int .u8 0) ∧ w.cell? ⟨g, 18, none⟩ = some (.int .u8 0) ∧ w.cell? ⟨g, 19, none⟩ = some (.int .u8 0) ∧ w.cell? ⟨g, 20, none⟩ = some (.int .u8 0) ∧ w.cell? ⟨g, 21, none⟩ = some (.int .u8 0) ∧ w.cell? ⟨g, 22, none⟩ = some (.int .u8 0) ∧ w.cell? ⟨g, 23, none⟩ = some (.int .u8 0) ∧ w.cell? ⟨g, 24, none⟩ = some (.int .u8 0) ∧ w.cell? ⟨g, 25, none⟩ = some (.int .u8 0) ∧ w.cell? ⟨g, 26, none⟩ = some (.int .u8 0) ∧ w.cell? ⟨g, 27, none⟩ = some (.int .u8 0) ∧ w.cell? ⟨g, 28, none⟩ = some (.int .u8 0) ∧ w.cell? ⟨g, 29, none⟩ = some (.int .u8 0) ∧ w.cell? ⟨g, 30, none⟩ = some (.int .u8 0) ∧ w.cell? ⟨g, 31, none⟩ = some (.int .u8 0) :=
  h.cells32 rfl

end Go.Proofs.YtcfkpepohnjdfaaDoor
