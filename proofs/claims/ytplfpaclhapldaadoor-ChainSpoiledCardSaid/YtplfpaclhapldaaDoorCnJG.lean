/- Joined texts: The walk over the plain answers' End: the sum of a state. The walks over the plain answers' Add and End, where they answer noughts. The walk over the plain answers' Sum. The walk over the document's Link: the head with one entry more. A region that draws its order, walked by hand: one operation after another, taken first. '==' between two entries; a load out of a slice of entries. The walk over the document's Head of entries. The first ones of a slice of entries. The walk over the document's Text of entries. -/
import Derived.Test.YtplfpaclhapldaaDoorCnJF
import Derived.Test.YtplfpaclhapldaaDoorCnJD
import Derived.Test.YtplfpaclhapldaaDoorCnJA
/- The walk over the plain answers' End: the sum of a state. -/
namespace Go.Proofs.YtplfpaclhapldaaDoor
open Go.RowKit

theorem noughts_rest (n N : Nat) (_hn : n < 64) (h : (n : Int) = (N : Int) % 64) : (n + 1 + noughts N) % 64 = 56 := by
  unfold noughts
  omega
theorem noughts_first (n N k : Nat) (_hn : n < 64) (h : (n : Int) = (N : Int) % 64) (hk : k < noughts N) : (n + 1 + k) % 64 ≠ 56 := by
  unfold noughts at hk
  omega
theorem bits8_all (N : Nat) (hN : N ≤ 1048576) : (List.range 8).map (bits8 N) = [0, 0, 0, 0, 8 * (N : Int) / 16777216, 8 * (N : Int) / 65536 % 256, 8 * (N : Int) / 256 % 256, 8 * (N : Int) % 256] := by
  have e : List.range 8 = [0, 1, 2, 3, 4, 5, 6, 7] := rfl
  rw [e]
  simp only [List.map_cons, List.map_nil, bits8]
  simp only [List.cons.injEq, and_true]
  refine ⟨?_, ?_, ?_, ?_, ?_, ?_, ?_, ?_⟩ <;> omega

theorem Row.put8 {w : World} {k : Nat} {x0 x1 x2 x3 x4 x5 x6 x7 : Int} (h : Row w k 62 [x0, x1, x2, x3, x4, x5, x6, x7]) (z0 z1 z2 z3 z4 z5 z6 z7 : Int) :
    Row ((((((((w.setCell ⟨k, 0, none⟩ (.int .u32 z0)).setCell ⟨k, 1, none⟩ (.int .u32 z1)).setCell ⟨k, 2, none⟩ (.int .u32 z2)).setCell ⟨k, 3, none⟩ (.int .u32 z3)).setCell ⟨k, 4, none⟩ (.int .u32 z4)).setCell ⟨k, 5, none⟩ (.int .u32 z5)).setCell ⟨k, 6, none⟩ (.int .u32 z6)).setCell ⟨k, 7, none⟩ (.int .u32 z7)) k 62 [z0, z1, z2, z3, z4, z5, z6, z7] :=
  setCells_all (vs := [.int .u32 z0, .int .u32 z1, .int .u32 z2, .int .u32 z3, .int .u32 z4, .int .u32 z5, .int .u32 z6, .int .u32 z7]) (cs := [.int .u32 x0, .int .u32 x1, .int .u32 x2, .int .u32 x3, .int .u32 x4, .int .u32 x5, .int .u32 x6, .int .u32 x7]) h rfl
theorem rounded_range (r l : List Int) (hr : r.length = 8) (i : Nat) : 0 ≤ (roundedL r l).getD i 0 ∧ (roundedL r l).getD i 0 < 4294967296 := by
  obtain ⟨a, b, c, d, e, f, g, h, hx⟩ := eight (runs_length (spreadAll l) r hr 64)
  obtain ⟨r0, r1, r2, r3, r4, r5, r6, r7, rfl⟩ := eight hr
  rw [roundedL, hx]
  match i with
  | 0 => simp [addTo]; omega
  | 1 => simp [addTo]; omega
  | 2 => simp [addTo]; omega
  | 3 => simp [addTo]; omega
  | 4 => simp [addTo]; omega
  | 5 => simp [addTo]; omega
  | 6 => simp [addTo]; omega
  | 7 => simp [addTo]; omega
  | j + 8 => simp [addTo]

set_option maxRecDepth 100000 in
set_option maxHeartbeats 1000000 in
theorem rend_good (x0 x1 x2 x3 x4 x5 x6 x7 : Int) (A : Option Addr) (n c N : Nat) (rest : List Int) (w : World) (hmay : mayB n N = true) (hb : Bts w A n c rest) :
    Calls Tryd.prog 45 #[hashV x0 x1 x2 x3 x4 x5 x6 x7 A n c N] w fun e w' => e = .returned (.agg (idv (endL [x0, x1, x2, x3, x4, x5, x6, x7] rest N))) ∧ Below w.heap.size w w' := by
  obtain ⟨_, hN, hn⟩ := mayB_yes hmay
  have hN : N ≤ 1048576 := by omega
  have hn64 : n < 64 := by omega
  have hno : noughts N ≤ 63 := by unfold noughts; omega
  have hq : (n + 1 + noughts N) % 64 = 56 := noughts_rest n N hn64 hn
  have hq' : ∀ k, k < noughts N → (n + 1 + k) % 64 ≠ 56 := fun k hk => noughts_first n N k hn64 hn hk
  have hrl := hb.len
  have hro := hb.ok
  have hok1 : ∀ k, ∀ j, 0 ≤ (rest ++ [128] ++ List.replicate k 0).getD j 0 ∧ (rest ++ [128] ++ List.replicate k 0).getD j 0 < 256 := fun k => ok_append (ok_append hb.ok (ok_one1 128 (by omega) (by omega))) (ok_rep k)
  obtain ⟨Z, hZE⟩ : ∃ Z, Z = endL [x0, x1, x2, x3, x4, x5, x6, x7] rest N := ⟨_, rfl⟩
  rw [← hZE]
  have HZE := Lib.hid hZE
  have HQ := Lib.hid hq
  have HQ' := Lib.hid hq'
  have HRL := Lib.hid hrl
  have HRO := Lib.hid hro
  have HOK := Lib.hid hok1
  clear hn hq hq' hrl hro hok1 hZE
  go_enter Tryd.func45, Tryd.ntmps45
  go_wp2_with fail
  refine (rmay_any _ _ _ _ _ _ _ _ _ _ _ _ _).mono ?_
  rintro e w0 ⟨rfl, rfl⟩
  generalize hW : World.alloc _ _ = W
  obtain ⟨hB0, hz0, hX0, hO0⟩ := named_three hW
  have hbe : BoxAt W w.heap.size x0 x1 x2 x3 x4 x5 x6 x7 A n c N := hX0
  have hbo : RowB W (w.heap.size + 1) 24 (List.replicate 32 0) := hO0
  obtain ⟨e0, e1, e2, e3, e4, e5, e6, e7, e8, e9⟩ := BoxAt.cells hbe
  rw [hmay]
  clear hW hX0 hO0 hmay
  go_wp2_with (first
    | (at_builtin
       refine wpList_append_b rfl (.const (.slice none 0 0)) (.tmp 15) rfl W.heap.size (.slice none 0 0) [] rfl (Own.nil _ _) A n c rest rfl (hb.below hB0) (by simp only [List.length_nil]; omega) (Nat.le_refl _) ?_
       intro v4 w4 hown4 hg4
       rw [List.nil_append] at hown4
       have hC4 : Below W.heap.size W w4 := (Below.refl _ _).grown hg4 (Nat.le_refl _) (fun k hk => by cases hk)
       have hv4 := hown4.size
       clear hg4)
    | (at_builtin
       refine wpList_append_b rfl (.tmp 17) (.tmp 18) rfl W.heap.size v4 rest rfl (hown4.more _) (some ⟨w4.heap.size, 0, none⟩) 1 1 [128] rfl (one_bts w4 128 (by omega) (by omega)) (by rw [HRL.out]; omega) (Nat.le_trans hC4.size (size_le_alloc _ _)) ?_
       intro v5 w5 hown5 hg5
       have hC5 : Below W.heap.size W w5 := (hC4.alloc hC4.size _).grown hg5 (Nat.le_trans hC4.size (size_le_alloc _ _)) (fun k hk => (hv4 k hk).1)
       clear hg5 hown4 hv4))
  clear e0 e1 e2 e3 e4 e5 e6 e7 e8 e9
  go_loopw [4] (fun v wr => ∃ k : Nat, k ≤ noughts N ∧ Own wr W.heap.size v (rest ++ [128] ++ List.replicate k 0) ∧ Below W.heap.size W wr) (fun v _ => 200 - lenV v)
  case atStart => exact ⟨0, by omega, by simpa using hown5, hC5⟩
  case round =>
    clear hown5 hC5 hC4
    obtain ⟨k, hk, hown, hC⟩ := hrel
    obtain ⟨A', cap, rfl, hbt⟩ := hown.bts (HOK.out k)
    have hlen : (rest ++ [128] ++ List.replicate k (0 : Int)).length = n + 1 + k := by simp only [List.length_append, HRL.out, List.length_cons, List.length_nil, List.length_replicate]
    obtain ⟨L, hL⟩ : ∃ L, L = rest ++ [128] ++ List.replicate k (0 : Int) := ⟨_, rfl⟩
    rw [← hL] at hown hbt hlen
    rw [← hL, hlen]
    rw [hlen] at hown hbt
    have HL := Lib.hid hL
    have HLN := Lib.hid hlen
    clear hL hlen
    by_cases hlt : k < noughts N
    · have hne := HQ'.out k hlt
      have ht : (((n : Int) + 1 + (k : Int)) % 64 != 56) = true := by rw [bne_iff_ne]; omega
      have hsm : L.length + 1 ≤ 140737488355328 := by rw [HLN.out]; omega
      clear hne
      go_wp2_with (first
        | (at_builtin
           refine wpList_append_b rfl (.tmp 24) (.tmp 25) rfl W.heap.size (.slice A' (n + 1 + k) cap) L rfl (hown.more _) (some ⟨wr.heap.size, 0, none⟩) 1 1 [0] rfl (one_bts wr 0 (by omega) (by omega)) hsm (Nat.le_trans hC.size (size_le_alloc _ _)) ?_
           intro v' w' hown' hg'))
      go_roundw
      case rel =>
        refine ⟨k + 1, by omega, ?_, (hC.alloc hC.size _).grown hg' (Nat.le_trans hC.size (size_le_alloc _ _)) (fun g hg => (hown.size g hg).1)⟩
        rw [HL.out, List.append_assoc, ← List.replicate_succ'] at hown'
        exact hown'
      case measure =>
        obtain ⟨A'', c', hv, _⟩ := hown'.bts (HL.out ▸ ok_append (HOK.out k) (ok_one1 0 (by omega) (by omega)))
        rw [hv]
        simp only [lenV, List.length_append, HLN.out, List.length_cons, List.length_nil]
        omega
    · have hk' : k = noughts N := by omega
      have ht : (((n : Int) + 1 + (k : Int)) % 64 != 56) = false := by have := HQ.out; rw [bne_eq_false_iff_eq]; omega
      have hLo : ∀ j, 0 ≤ L.getD j 0 ∧ L.getD j 0 < 256 := by rw [HL.out]; exact HOK.out k
      have hsm : L.length ≤ 200 := by rw [HLN.out]; omega
      have hber := hbe.below hC
      have hbor := hbo.below hC
      obtain ⟨e0, e1, e2, e3, e4, e5, e6, e7, e8, e9⟩ := BoxAt.cells hber
      have hbits := bits8_all N hN
      have HK := Lib.hid hk'
      have HLO := Lib.hid hLo
      have HBITS := Lib.hid hbits
      have hN0 : 0 ≤ (N : Int) := by omega
      have hN1 : (N : Int) ≤ 1048576 := by omega
      clear hk' hlt hLo hbits
      obtain ⟨Q8, hQ8⟩ : ∃ Q8, Q8 = [0, 0, 0, 0, 8 * (N : Int) / 16777216, 8 * (N : Int) / 65536 % 256, 8 * (N : Int) / 256 % 256, 8 * (N : Int) % 256] := ⟨_, rfl⟩
      have hQo : ∀ j, 0 ≤ Q8.getD j 0 ∧ Q8.getD j 0 < 256 := by rw [hQ8, ← HBITS.out]; exact ok_map _ (ok_bits8 N) 8
      obtain ⟨F, hF⟩ : ∃ F, F = L ++ Q8 := ⟨_, rfl⟩
      have hFe : rest ++ endingL N = F := by rw [hF, HL.out, hQ8, ← HBITS.out, endingL, HK.out]; simp only [List.append_assoc]
      have hFl : F.length = n + 1 + k + 8 := by rw [hF, List.length_append, HLN.out, hQ8]; rfl
      have hFm : F.length % 64 = 0 := by have h1 := HQ.out; have h2 := HK.out; rw [hFl]; omega
      have hFo : ∀ j, 0 ≤ F.getD j 0 ∧ F.getD j 0 < 256 := by rw [hF]; exact ok_append HLO.out hQo
      have HQ8 := Lib.hid hQ8
      have HQO := Lib.hid hQo
      have HF := Lib.hid hF
      have HFE := Lib.hid hFe
      have HFL := Lib.hid hFl
      have HFM := Lib.hid hFm
      have HFO := Lib.hid hFo
      have hv7 := hown.size
      clear hQ8 hQo hF hFe hFl hFm hFo
      go_wp2_with (first
        | (at_builtin
           refine wpList_append_b rfl (.tmp 30) (.tmp 45) rfl W.heap.size _ L rfl (hown.more _) (some ⟨wr.heap.size, 0, none⟩) 8 8 Q8 rfl (lit_bts wr _ Q8 8 (by rw [HQ8.out]; rfl) (by rw [HQ8.out]; rfl) (by unfold maxLen; omega) HQO.out) (by omega) (Nat.le_trans hC.size (size_le_alloc _ _)) ?_
           intro v8 w8 hown8 hg8
           have hC8 : Below W.heap.size W w8 := (hC.alloc hC.size _).grown hg8 (Nat.le_trans hC.size (size_le_alloc _ _)) (fun k hk => (hv7 k hk).1)
           rw [← HF.out] at hown8
           obtain ⟨A8, n8, c8, rfl, hbt8⟩ := hown8.slice HFO.out
           have hbe8 : BoxAt w8 w.heap.size x0 x1 x2 x3 x4 x5 x6 x7 A n c N := hbe.below hC8
           have hbo8 := hbo.below hC8 hbo.lt
           obtain ⟨e0, e1, e2, e3, e4, e5, e6, e7, e8, e9⟩ := BoxAt.cells hbe8
           clear hg8 hown8))
      have hn8 : n8 = F.length := hbt8.len.symm
      have hB8 : Below w.heap.size w w8 := hB0.trans (hC8.mono hB0.size)
      have hz8 : w.heap.size + 3 ≤ w8.heap.size := by have := hC8.size; omega
      have HBO := Lib.hid hbo8
      have HB8 := Lib.hid hB8
      clear e0 e1 e2 e3 e4 e5 e6 e7 e8 e9 hbe8 hbo8 hB8 hC8 hown hC hbt hber hbor hv7
      go_loopw [4] (fun v wr => ∃ (j : Nat) (A' : Option Addr) (n' c' : Nat) (y0 y1 y2 y3 y4 y5 y6 y7 : Int), 64 * j + n' = F.length ∧ v = .slice A' n' c' ∧ Bts w8 A' n' c' (F.drop (64 * j)) ∧ blocksL [x0, x1, x2, x3, x4, x5, x6, x7] F j = [y0, y1, y2, y3, y4, y5, y6, y7] ∧
          Row wr w8.heap.size 62 [y0, y1, y2, y3, y4, y5, y6, y7] ∧ Below w8.heap.size w8 wr) (fun v _ => lenV v)
      case atStart => exact ⟨0, A8, n8, c8, x0, x1, x2, x3, x4, x5, x6, x7, by omega, rfl, by rw [Nat.mul_zero, List.drop_zero]; exact hbt8, rfl, heap_alloc_new w8 _, mac_one w8 _⟩
      case round =>
        clear hbt8 hn8
        obtain ⟨j, A', n', c', y0, y1, y2, y3, y4, y5, y6, y7, hjn, rfl, hbt, hY, hrow, hB⟩ := hrel
        by_cases hge : 0 < n'
        · have hge64 : 64 ≤ n' := by have := HFM.out; omega
          have hge' : (0 : Int) < n' := by omega
          obtain ⟨hto, hbtP⟩ := run_to hbt 64 (hi := 64) rfl hge64
          obtain ⟨A2, hfrom, hbt2⟩ := run_from hbt 64 (lo := 64) rfl hge64
          obtain ⟨bb, off, rfl, hcell⟩ := hbtP.at_ (by omega)
          have hblk := block_lt_of_cell (hcell 0 (by omega))
          have hok := hbtP.ok
          have hdrop : (F.drop (64 * j)).drop 64 = F.drop (64 * (j + 1)) := by rw [List.drop_drop]; congr 1
          rw [hdrop] at hbt2
          obtain ⟨P, hP⟩ : ∃ P, P = (F.drop (64 * j)).take 64 := ⟨_, rfl⟩
          rw [← hP] at hcell hok
          have hnext : blocksL [x0, x1, x2, x3, x4, x5, x6, x7] F (j + 1) = roundedL [y0, y1, y2, y3, y4, y5, y6, y7] P := by rw [blocksL, hY, hP]
          have hcr : ∀ k, k < 64 → wr.drew.cell? ⟨bb, off + k, none⟩ = some (.int .u8 (P.getD k 0)) := fun k hk => (hB.cell (p := ⟨bb, off + k, none⟩) hblk).trans (hcell k hk)
          obtain ⟨c0, c1, c2, c3, c4, c5, c6, c7⟩ := hrow.eight
          have HN := Lib.hid hnext
          have HCR := Lib.hid hcr
          have HB := Lib.hid hB
          have HBT2 := Lib.hid hbt2
          have HROW := Lib.hid hrow
          have HOK2 := Lib.hid hok
          clear hnext hcr hB hbt2 hrow hok hcell hP hdrop hbtP hbt hY
          go_wp2
          go_region_with
            (first
            | (go_at_call 60; refine (rround_lit y0 y1 y2 y3 y4 y5 y6 y7 P bb off c' _ HOK2.out HCR.out).mono ?_; rintro e w9 ⟨⟨z0, z1, z2, z3, z4, z5, z6, z7, hz, rfl⟩, hb9⟩
               have hb9 := below_draw hb9
               have hrow9 := HROW.out.below hb9 HROW.out.lt
               have hB9 : Below w8.heap.size w8 w9 := HB.out.trans (hb9.mono HB.out.size)
               obtain ⟨d0, d1, d2, d3, d4, d5, d6, d7⟩ := hrow9.eight
               have f0 := hrow9.free 0
               have f1 := hrow9.free 1
               have f2 := hrow9.free 2
               have f3 := hrow9.free 3
               have f4 := hrow9.free 4
               have f5 := hrow9.free 5
               have f6 := hrow9.free 6
               have f7 := hrow9.free 7))
          generalize hW9 : World.setCell _ _ _ = W9
          have hrowW : Row W9 w8.heap.size 62 [z0, z1, z2, z3, z4, z5, z6, z7] := by rw [← hW9]; exact hrow9.put8 _ _ _ _ _ _ _ _
          have hBW : Below w8.heap.size w8 W9 := by rw [← hW9]; exact below_put8 (Nat.le_refl _) hB9 _ _ _ _ _ _ _ _
          clear hW9 hB9 hrow9 d0 d1 d2 d3 d4 d5 d6 d7 f0 f1 f2 f3 f4 f5 f6 f7
          go_wp2
          go_roundw
          case rel => exact ⟨j + 1, A2, n' - 64, c' - 64, z0, z1, z2, z3, z4, z5, z6, z7, by omega, rfl, HBT2.out, by rw [HN.out, hz], hrowW, hBW⟩
          case measure => simp only [lenV]; omega
        · have hn0 : n' = 0 := by omega
          have hge' : ¬ ((0 : Int) < n') := by omega
          have hj : j = F.length / 64 := by omega
          have hj1 : 1 ≤ F.length / 64 := by have := HFL.out; have := HFM.out; omega
          have hY' : byBlocks [x0, x1, x2, x3, x4, x5, x6, x7] F = [y0, y1, y2, y3, y4, y5, y6, y7] := by rw [byBlocks, ← hj, hY]
          obtain ⟨R, hR⟩ : ∃ R, R = [y0, y1, y2, y3, y4, y5, y6, y7] := ⟨_, rfl⟩
          have hRl : R.length = 8 := by rw [hR]; rfl
          have hRr : ∀ i, 0 ≤ R.getD i 0 ∧ R.getD i 0 < 4294967296 := by
            obtain ⟨q, hq⟩ : ∃ q, F.length / 64 = q + 1 := ⟨F.length / 64 - 1, by omega⟩
            rw [hR, ← hY', byBlocks, hq, blocksL]
            exact fun i => rounded_range _ _ (blocks_length _ _ rfl _) i
          rw [← hR] at hY' hrow
          have HY := Lib.hid hY'
          have HRL2 := Lib.hid hRl
          have HRR := Lib.hid hRr
          have HROW := Lib.hid hrow
          have HB := Lib.hid hB
          have hz10 := hB.size
          have hrl10 := hrow.lt
          clear hY hY' hR hRl hRr hrow hB hbt hj hj1
          obtain ⟨w10, hw10⟩ : ∃ x, x = wr := ⟨wr, rfl⟩
          subst hw10
          go_wp2
          go_loopw [8] (fun i ws => ∃ q : Nat, q ≤ 8 ∧ i = .int .i64 q ∧ RowB ws w10.heap.size 24 (fillTo (speltAt R) 32 (4 * q)) ∧ Below w10.heap.size w10 ws) (fun i _ => 8 - (intOf i).toNat)
          case atStart => exact ⟨0, by omega, rfl, rowb_lit w10 24 _ _ rfl, mac_one w10 _⟩
          case round =>
            obtain ⟨q, hq, rfl, hX, hB3⟩ := hrel
            have hXl := fillTo_length (speltAt R) 32 (4 * q)
            by_cases hlt : q < 8
            · have hRc := (HROW.out.below hB3 hrl10).cell q (by rw [HRL2.out]; omega)
              have hyr := HRR.out q
              have x0' := hX.cell (4 * q) (by omega)
              have x1' := hX.cell (4 * q + 1) (by omega)
              have x2' := hX.cell (4 * q + 2) (by omega)
              have x3' := hX.cell (4 * q + 3) (by omega)
              have f0' := hX.free (4 * q)
              have f1' := hX.free (4 * q + 1)
              have f2' := hX.free (4 * q + 2)
              have f3' := hX.free (4 * q + 3)
              obtain ⟨y, hy⟩ : ∃ y, y = R.getD q 0 := ⟨_, rfl⟩
              rw [← hy] at hRc hyr
              obtain ⟨hy0, hy1⟩ := hyr
              have v0 : speltAt R (4 * q) = y / 16777216 := by
                rw [speltAt, show 4 * q / 4 = q by omega, show 4 * q % 4 = 0 by omega, ← hy]
                show y / 16777216 % 256 = y / 16777216
                omega
              have v1 : speltAt R (4 * q + 1) = y / 65536 % 256 := by
                rw [speltAt, show (4 * q + 1) / 4 = q by omega, show (4 * q + 1) % 4 = 1 by omega, ← hy]
                rfl
              have v2 : speltAt R (4 * q + 2) = y / 256 % 256 := by
                rw [speltAt, show (4 * q + 2) / 4 = q by omega, show (4 * q + 2) % 4 = 2 by omega, ← hy]
                rfl
              have v3 : speltAt R (4 * q + 3) = y % 256 := by
                rw [speltAt, show (4 * q + 3) / 4 = q by omega, show (4 * q + 3) % 4 = 3 by omega, ← hy]
                show y / 1 % 256 = y % 256
                rw [Int.ediv_one]
              have hnext : fillTo (speltAt R) 32 (4 * (q + 1)) = ((((fillTo (speltAt R) 32 (4 * q)).set (4 * q) (y / 16777216)).set (4 * q + 1) (y / 65536 % 256)).set (4 * q + 2) (y / 256 % 256)).set (4 * q + 3) (y % 256) := by
                rw [← v0, ← v1, ← v2, ← v3]
                rfl
              have HN := Lib.hid hnext
              have HXX := Lib.hid hX
              have HB3 := Lib.hid hB3
              clear hy v0 v1 v2 v3 hnext hX hB3 hXl
              go_wp2
              go_roundw
              case rel =>
                refine ⟨q + 1, by omega, by go_num, ?_, ?_⟩
                · rw [HN.out]
                  exact (((HXX.out.put _ _).put _ _).put _ _).put _ _
                · exact (((HB3.out.setCell (p := ⟨w10.heap.size, 4 * q, none⟩) (Nat.le_refl _) _).setCell (p := ⟨w10.heap.size, 4 * q + 1, none⟩) (Nat.le_refl _) _).setCell (p := ⟨w10.heap.size, 4 * q + 2, none⟩) (Nat.le_refl _) _).setCell (p := ⟨w10.heap.size, 4 * q + 3, none⟩) (Nat.le_refl _) _
              case measure => simp [intOf]; omega
            · have h8 : q = 8 := by omega
              have hge8 : 8 ≤ q := by omega
              have hX8 : RowB wr w10.heap.size 24 (fillTo (speltAt R) 32 32) := by rw [h8] at hX; exact hX
              rw [fillTo_all] at hX8
              have hZ : Z = speltL R := by rw [HZE.out, endL, HFE.out, HY.out]
              have hXZ : RowB wr w10.heap.size 24 Z := by rw [hZ]; exact hX8
              have hZl : Z.length = 32 := by rw [hZ]; exact spelt_length R
              have hO10 : RowB w10 (w.heap.size + 1) 24 (List.replicate 32 0) := HBO.out.below HB.out HBO.out.lt
              have hO : RowB wr (w.heap.size + 1) 24 (List.replicate 32 0) := hO10.below hB3 hO10.lt
              have hBr : Below w.heap.size w wr := (HB8.out.trans (HB.out.mono HB8.out.size)).trans (hB3.mono (by have := HB.out.size; have := HB8.out.size; omega))
              have HZL := Lib.hid hZl
              clear hX hX8 hZ hZl hlt hq h8 hXl hB3 hO10
              go_wp2_with (first
                | ((with_reducible refine wpList_load_b rfl 24 _ _ rfl w10.heap.size ?hx6 24 Z hXZ Tryd.underlying24 ?hd6 (info32 HZL.out) ?_); (case hx6 => rfl); (case hd6 => rfl))
                | ((with_reducible refine wpList_store_b rfl 24 _ _ rfl (w.heap.size + 1) Z ?hx7 ?hy7 24 (List.replicate 32 0) hO (info32 HZL.out) ?hl7 ?_); (case hx7 => rfl); (case hy7 => rfl); (case hl7 => rw [HZL.out]; rfl)
                   intro w6 hg6 hX6 hs6))
              refine bodyPost_ret (v := .agg (idv Z)) ?_ ?_ ?_
              · exact results_cell_row Tryd.results45 _ _ (w.heap.size + 1) 24 _ (0, 0) _ rfl hX6.is Tryd.underlying24 rfl (info32 HZL.out)
              · rfl
              · exact ⟨rfl, Below.grows hBr hg6 hBr.size (by omega)⟩
end Go.Proofs.YtplfpaclhapldaaDoor

/- The walks over the plain answers' Add and End, where they answer noughts. -/
namespace Go.Proofs.YtplfpaclhapldaaDoor
open Go.RowKit

set_option maxHeartbeats 400000 in
theorem radd_zero_may (x0 x1 x2 x3 x4 x5 x6 x7 len : Int) (A B : Option Addr) (n c m d : Nat) (w : World) (hmay : mayB n len = false) :
    Calls Tryd.prog 46 #[hashV x0 x1 x2 x3 x4 x5 x6 x7 A n c len, .slice B m d] w fun e w' => e = .returned (hashV 0 0 0 0 0 0 0 0 none 0 0 0) ∧ Below w.heap.size w w' := by
  have hi26 : (Tryd.prog.info? 64).map (·.size) = some 10 := by kernel_rfl
  go_enter Tryd.func46, Tryd.ntmps46
  go_wp2_with fail
  refine (rmay_any _ _ _ _ _ _ _ _ _ _ _ _ _).mono ?_
  rintro e w0 ⟨rfl, rfl⟩
  generalize hW : World.alloc _ _ = W
  obtain ⟨hB0, hz0, hX0, hO0⟩ := named_three hW
  have hbe : BoxAt W w.heap.size x0 x1 x2 x3 x4 x5 x6 x7 A n c len := hX0
  have hbo : BoxAt W (w.heap.size + 1) 0 0 0 0 0 0 0 0 none 0 0 0 := hO0
  obtain ⟨o0, o1, o2, o3, o4, o5, o6, o7, o8, o9⟩ := BoxAt.cells hbo
  obtain ⟨f0, f1, f2, f3, f4, f5, f6, f7, f8, f9⟩ := BoxAt.free hbo
  obtain ⟨_, _, _, _, _, _, _, _, _, e9⟩ := BoxAt.cells hbe
  clear hW hX0 hO0 hz0
  rw [hmay]
  go_wp2
  refine bodyPost_ret (v := hashV 0 0 0 0 0 0 0 0 none 0 0 0) ?_ ?_ ?_
  · exact results_cell_row Tryd.results46 _ _ (w.heap.size + 1) 64 _ (0, 0) _ rfl (heap_put10 hbo _ _ _ _ _ _ _ _ _ _) Tryd.underlying64 rfl hi26
  · rfl
  · exact ⟨rfl, below_put10 (Nat.le_succ _) hB0 _ _ _ _ _ _ _ _ _ _⟩

set_option maxHeartbeats 400000 in
theorem radd_zero_room (x0 x1 x2 x3 x4 x5 x6 x7 len : Int) (A B : Option Addr) (n c m d : Nat) (w : World) (hmay : mayB n len = true) (_hm : m ≤ 9223372036854775807) (hroom : 1048576 - len < (m : Int)) :
    Calls Tryd.prog 46 #[hashV x0 x1 x2 x3 x4 x5 x6 x7 A n c len, .slice B m d] w fun e w' => e = .returned (hashV 0 0 0 0 0 0 0 0 none 0 0 0) ∧ Below w.heap.size w w' := by
  obtain ⟨h0, h1, h2⟩ := mayB_yes hmay
  have H2 := Lib.hid h2
  clear h2
  have hi26 : (Tryd.prog.info? 64).map (·.size) = some 10 := by kernel_rfl
  go_enter Tryd.func46, Tryd.ntmps46
  go_wp2_with fail
  refine (rmay_any _ _ _ _ _ _ _ _ _ _ _ _ _).mono ?_
  rintro e w0 ⟨rfl, rfl⟩
  generalize hW : World.alloc _ _ = W
  obtain ⟨hB0, hz0, hX0, hO0⟩ := named_three hW
  have hbe : BoxAt W w.heap.size x0 x1 x2 x3 x4 x5 x6 x7 A n c len := hX0
  have hbo : BoxAt W (w.heap.size + 1) 0 0 0 0 0 0 0 0 none 0 0 0 := hO0
  obtain ⟨o0, o1, o2, o3, o4, o5, o6, o7, o8, o9⟩ := BoxAt.cells hbo
  obtain ⟨f0, f1, f2, f3, f4, f5, f6, f7, f8, f9⟩ := BoxAt.free hbo
  obtain ⟨_, _, _, _, _, _, _, _, _, e9⟩ := BoxAt.cells hbe
  clear hW hX0 hO0 hz0
  rw [hmay]
  go_wp2
  refine bodyPost_ret (v := hashV 0 0 0 0 0 0 0 0 none 0 0 0) ?_ ?_ ?_
  · exact results_cell_row Tryd.results46 _ _ (w.heap.size + 1) 64 _ (0, 0) _ rfl (heap_put10 hbo _ _ _ _ _ _ _ _ _ _) Tryd.underlying64 rfl hi26
  · rfl
  · exact ⟨rfl, below_put10 (Nat.le_succ _) hB0 _ _ _ _ _ _ _ _ _ _⟩

set_option maxHeartbeats 400000 in
theorem rend_zero (x0 x1 x2 x3 x4 x5 x6 x7 len : Int) (A : Option Addr) (n c : Nat) (w : World) (hmay : mayB n len = false) :
    Calls Tryd.prog 45 #[hashV x0 x1 x2 x3 x4 x5 x6 x7 A n c len] w fun e w' => e = .returned (.agg (idv (List.replicate 32 0))) ∧ Below w.heap.size w w' := by
  go_enter Tryd.func45, Tryd.ntmps45
  go_wp2_with fail
  refine (rmay_any _ _ _ _ _ _ _ _ _ _ _ _ _).mono ?_
  rintro e w0 ⟨rfl, rfl⟩
  generalize hW : World.alloc _ _ = W
  obtain ⟨hB0, hz0, hX0, hO0⟩ := named_three hW
  have hO0 : RowB W (w.heap.size + 1) 24 (List.replicate 32 0) := hO0
  clear hW hX0 hz0
  rw [hmay]
  go_wp2_with (first | ((with_reducible refine wpList_store_b rfl 24 _ _ rfl (w.heap.size + 1) (List.replicate 32 0) ?hx7 ?hy7 24 (List.replicate 32 0) hO0 (info32 rfl) ?hl7 ?hm7); (case hx7 => rfl); (case hy7 => rfl); (case hl7 => rfl); intro w6 hg6 hX6 hs6))
  refine bodyPost_ret (v := .agg (idv (List.replicate 32 0))) ?_ ?_ ?_
  · exact results_cell_row Tryd.results45 _ _ (w.heap.size + 1) 24 _ (0, 0) _ rfl hX6.is Tryd.underlying24 rfl (info32 rfl)
  · rfl
  · exact ⟨rfl, Below.grows hB0 hg6 hB0.size (by omega)⟩

end Go.Proofs.YtplfpaclhapldaaDoor

/- The walk over the plain answers' Sum. -/
namespace Go.Proofs.YtplfpaclhapldaaDoor
open Go.RowKit

theorem radd_yes (x0 x1 x2 x3 x4 x5 x6 x7 len : Int) (A B : Option Addr) (n c m d : Nat) (rest b : List Int) (w : World) (hmay : mayB n len = true) (hroom : (m : Int) ≤ 1048576 - len) (ha : Bts w A n c rest) (hb : Bts w B m d b) :
    Calls Tryd.prog 46 #[hashV x0 x1 x2 x3 x4 x5 x6 x7 A n c len, .slice B m d] w (AddPost w [x0, x1, x2, x3, x4, x5, x6, x7] (rest ++ b) (len + (m : Int))) := by
  obtain ⟨N, rfl⟩ := Int.eq_ofNat_of_zero_le (mayB_yes hmay).1
  exact radd_good x0 x1 x2 x3 x4 x5 x6 x7 A B n c N m d rest b w hmay hroom ha hb
theorem rend_yes (x0 x1 x2 x3 x4 x5 x6 x7 len : Int) (A : Option Addr) (n c : Nat) (rest : List Int) (w : World) (hmay : mayB n len = true) (hb : Bts w A n c rest) :
    Calls Tryd.prog 45 #[hashV x0 x1 x2 x3 x4 x5 x6 x7 A n c len] w fun e w' => e = .returned (.agg (idv (endL [x0, x1, x2, x3, x4, x5, x6, x7] rest len.toNat))) ∧ Below w.heap.size w w' := by
  obtain ⟨N, rfl⟩ := Int.eq_ofNat_of_zero_le (mayB_yes hmay).1
  exact rend_good x0 x1 x2 x3 x4 x5 x6 x7 A n c N rest w hmay hb

theorem radd_new (B : Option Addr) (m d : Nat) (l : List Int) (w : World) (hm : m ≤ 1048576) (hb : Bts w B m d l) :
    Calls Tryd.prog 46 #[hashV 1779033703 3144134277 1013904242 2773480762 1359893119 2600822924 528734635 1541459225 none 0 0 0, .slice B m d] w (AddPost w iList l (m : Int)) := by
  have h := radd_yes 1779033703 3144134277 1013904242 2773480762 1359893119 2600822924 528734635 1541459225 0 none B 0 0 m d [] l w (by decide) (by omega) (Bts.nil w) hb
  rw [Int.zero_add, List.nil_append] at h
  exact h

set_option maxHeartbeats 400000 in
theorem rsum_yes (B : Option Addr) (m d : Nat) (l : List Int) (w : World) (hm : m ≤ 1048576) (hb : Bts w B m d l) :
    Calls Tryd.prog 29 #[.slice B m d] w fun e w' => e = .returned (.agg (idv (sumL l))) ∧ Below w.heap.size w w' := by
  obtain ⟨Z, hZ⟩ : ∃ Z, Z = sumL l := ⟨_, rfl⟩
  have hZl : Z.length = 32 := by rw [hZ, sumL, endL]; exact spelt_length _
  rw [← hZ]
  have HZ := Lib.hid hZ
  have HZL := Lib.hid hZl
  clear hZ hZl
  go_enter Tryd.func29, Tryd.ntmps29
  go_wp2_with fail
  refine (rnew_any _).mono ?_
  rintro e w1 ⟨rfl, hb1⟩
  obtain ⟨hB1, hz1, hO1⟩ := after_one hb1
  have hO1 : RowB w1 w.heap.size 24 (List.replicate 32 0) := hO1
  clear hb1
  go_wp2_with fail
  refine (radd_new B m d l w1 hm (hb.below hB1)).mono ?_
  rintro e w2 ⟨y0, y1, y2, y3, y4, y5, y6, y7, A3, n3, c3, rfl, hY, hbt, hb2⟩
  have hO2 := hO1.below hb2 hO1.lt
  have hB2 := hB1.trans (hb2.mono hB1.size)
  have hmay : mayB n3 (m : Int) = true := by
    have h1 := hbt.len
    rw [List.length_drop, hb.len, whole, hb.len] at h1
    unfold mayB
    rw [decide_eq_true_eq]
    omega
  have hfin : endL [y0, y1, y2, y3, y4, y5, y6, y7] (l.drop (whole l)) ((m : Int)).toNat = Z := by
    rw [HZ.out, sumL, ← hY, Int.toNat_natCast, ← hb.len]
    rfl
  have HF := Lib.hid hfin
  have HMAY := Lib.hid hmay
  clear hfin hmay hY hb2
  go_wp2_with fail
  refine (rend_yes y0 y1 y2 y3 y4 y5 y6 y7 (m : Int) A3 n3 c3 (l.drop (whole l)) w2 HMAY.out hbt).mono ?_
  rintro e w3 ⟨he, hb3⟩
  rw [HF.out] at he
  subst he
  have hO3 := hO2.below hb3 hO2.lt
  have hB3 := hB2.trans (hb3.mono hB2.size)
  clear hb3
  go_wp2_with (first | ((with_reducible refine wpList_store_b rfl 24 _ _ rfl w.heap.size Z ?hx7 ?hy7 24 (List.replicate 32 0) hO3 (info32 HZL.out) ?hl7 ?hm7); (case hx7 => rfl); (case hy7 => rfl); (case hl7 => rw [HZL.out]; rfl); intro w6 hg6 hX6 hs6))
  refine bodyPost_ret (v := .agg (idv Z)) ?_ ?_ ?_
  · exact results_cell_row Tryd.results29 _ _ w.heap.size 24 _ (0, 0) _ rfl hX6.is Tryd.underlying24 rfl (info32 HZL.out)
  · rfl
  · exact ⟨rfl, Below.grows hB3 hg6 hB3.size (Nat.le_refl _)⟩
end Go.Proofs.YtplfpaclhapldaaDoor

/- The walk over the document's Link: the head with one entry more. -/
namespace Go.Proofs.YtplfpaclhapldaaDoor
set_option maxRecDepth 100000
set_option linter.unusedVariables false
set_option linter.unusedSimpArgs false
open Go.RowKit

theorem run_all32 (a : Addr) (w : World) : (Instr.sliceAt 24 (.pointer (some a)) none none none).run Tryd.prog w = .ok (.slice (some a) 32 32) w := by
  have hs : (sizeOf 5).run Tryd.prog w = .ok 1 w := rfl
  simp [Instr.sliceAt, Instr.sureAddr, Instr.sliceBounds, run_underlying Tryd.underlying24, hs, Addr.add]
theorem after_three_c {w w1 : World} {o1 o2 o3 : Obj} (h : Below (((w.alloc o1).alloc o2).alloc o3).heap.size (((w.alloc o1).alloc o2).alloc o3) w1) :
    Below w.heap.size w w1 ∧ w1.heap[w.heap.size]? = some o1 ∧ w1.heap[w.heap.size + 1]? = some o2 ∧ w1.heap[w.heap.size + 2]? = some o3 := by
  obtain ⟨h1, h2, h3⟩ := after_one h
  have e : (w.alloc o1).heap.size = w.heap.size + 1 := by simp
  have e2 : ((w.alloc o1).alloc o2).heap.size = w.heap.size + 2 := by simp
  obtain ⟨h4, -, h5, h6⟩ := after_two h1
  rw [e2] at h3
  exact ⟨h4, h5, h6, h3⟩
theorem three_of_c (w : World) (o1 o2 o3 : Obj) : (((w.alloc o1).alloc o2).alloc o3).heap[w.heap.size + 1]? = some o2 :=
  (after_three_c (Below.refl _ _)).2.2.1
theorem noughts_ok : ∀ j, 0 ≤ (List.replicate 32 (0 : Int)).getD j 0 ∧ (List.replicate 32 (0 : Int)).getD j 0 < 256 := by
  intro j
  rw [List.getD_eq_getElem?_getD, List.getElem?_replicate]
  split <;> simp
theorem ok_linkT {h : List Int} {u : En} (hb : ∀ j, 0 ≤ h.getD j 0 ∧ h.getD j 0 < 256) : ∀ j, 0 ≤ (linkT h u).getD j 0 ∧ (linkT h u).getD j 0 < 256 := by
  have e : linkT h u = ([1] ++ h) ++ putE u := rfl
  rw [e]
  exact ok_append (ok_append (by intro j; match j with | 0 => simp | j + 1 => simp) hb) (put_ok u)
set_option maxRecDepth 100000 in
set_option maxHeartbeats 2000000 in
theorem rlink_yes (h : List Int) (u : En) (w : World) (hh : h.length = 32) (hb : ∀ j, 0 ≤ h.getD j 0 ∧ h.getD j 0 < 256) (hm : mayE u = true) (ho : u.ok) :
    Calls Tryd.prog 13 #[.agg (idv h), enV u] w fun e w' => e = .returned (.tuple #[.agg (idv (linkC h u)), .bool true]) ∧ Below w.heap.size w w' := by
  have HPE := Lib.hid (fun W => rput_yes' u W hm ho)
  have HOK := Lib.hid (ok_linkT (u := u) hb)
  have HSL := Lib.hid (csum_len (linkT h u))
  have HHB := Lib.hid hb
  have HHL := Lib.hid hh
  have hal := run_all32
  unfold enV at HPE ⊢
  obtain ⟨Y, hY⟩ : ∃ Y, linkC h u = Y := ⟨_, rfl⟩
  have hYL : Y.length = 32 := by rw [← hY]; exact csum_len _
  have HYL := Lib.hid hYL
  have HSM := Lib.hid (show ∀ (A : Option Addr) (m d : Nat) (W : World), m ≤ 1048576 → Bts W A m d (linkT h u) → Calls Tryd.prog 29 #[.slice A m d] W (fun e w' => e = .returned (.agg (idv Y)) ∧ Below W.heap.size W w') from fun A m d W h1 h2 => by rw [← hY]; exact rsum_yes A m d _ W h1 h2)
  rw [hY]
  clear hh hb hm ho hY hYL
  go_enter Tryd.func13, Tryd.ntmps13
  go_wp2_with (first
    | ((with_reducible refine wpList_load_blk 28 _ rfl (w.heap.size + 1) ?hx1 28 (enA u) (0, 0) _ (three_of_c _ _ _ _) Tryd.underlying28 ?hd1 (info_en (enA_size _)) ?_ ?hw1); (case hx1 => rfl); (case hd1 => rfl); (case hw1 => rfl))
    | (go_at_call 27; (with_reducible refine (HPE.out _).mono ?_); rintro e w1 ⟨A1, m1, c1, rfl, hbt1, hb1⟩
       obtain ⟨hb0, hH1, -, hZ1⟩ := after_three_c hb1
       have hH1 : RowB w1 w.heap.size 24 h := hH1
       have hZ1 : RowB w1 (w.heap.size + 2) 24 (List.replicate 32 0) := hZ1
       have HB1 := Lib.hid hb0
       have HLT := Lib.hid hZ1.lt
       clear hb1 hb0)
    | (at_builtin
       refine wpList_append_b rfl _ _ rfl w1.heap.size _ [1] rfl (one_own w1 1) (some ⟨w.heap.size, 0, none⟩) 32 32 h rfl ((hH1.more _).btsAt HHL.out (by unfold maxLen; omega) HHB.out) (by simp) (by simp) ?_
       intro v2 w2 hown2 hg2
       have hb2 : Below w1.heap.size w1 w2 := (one_alloc w1 (.cells #[.int .u8 1] 5)).grown hg2 (size_le_alloc _ _) (fun g e => ((one_own w1 1).size g e).1)
       have hown2 : Own w2 w1.heap.size v2 ([1] ++ h) := hown2
       have hH2 := hH1.keep hb2
       have hZ2 := hZ1.keep hb2
       have hbt2 := hbt1.below hb2
       have HB2 := Lib.hid (HB1.out.trans (hb2.mono HB1.out.size))
       have HS2 := Lib.hid hb2.size
       clear hg2 hb2 hH1 hZ1 hbt1)
    | (at_builtin
       refine wpList_append_b rfl _ _ rfl w1.heap.size v2 ([1] ++ h) rfl hown2 A1 m1 c1 (putE u) rfl hbt2 (by have := hbt2.len; rw [put_len] at this; have := HHL.out; simp; omega) HS2.out ?_
       intro v3 w3 hown3 hg3
       have hb3 : Below w1.heap.size w2 w3 := (Below.refl w1.heap.size w2).grown hg3 HS2.out (fun g e => (hown2.size g e).1)
       obtain ⟨A3, m3, c3, rfl, hbt3⟩ := (show Own w3 w1.heap.size v3 (linkT h u) from hown3).slice HOK.out
       have hZ3 := hZ2.below hb3 HLT.out
       have hm3 : m3 ≤ 1048576 := by
         have h1 := hbt3.len
         have h2 := HHL.out
         rw [linkT, List.length_cons, List.length_append, put_len] at h1
         omega
       have HB3 := Lib.hid (HB2.out.trans (hb3.mono HB1.out.size))
       clear hg3 hb3 hZ2 hH2 hbt2 hown2 hown3)
    | (go_at_call 29; (with_reducible refine (HSM.out _ _ _ _ hm3 hbt3).mono ?_); rintro e w4 ⟨rfl, hb4⟩
       have hZ4 := hZ3.keep hb4
       have HB4 := Lib.hid (HB3.out.trans (hb4.mono HB3.out.size))
       clear hb4 hZ3)
    | ((with_reducible refine wpList_store_blk rfl 24 _ _ rfl (w.heap.size + 2) (idv Y) ?hx7 ?hy7 24 _ hZ4.is (info32 HYL.out) ?hs7 (idv_one _) ?_); (case hx7 => rfl); (case hy7 => rfl); (case hs7 => rw [idv_size, idv_size, HYL.out]; rfl)
       intro w6 hg6 hX6 hs6
       clear hZ4))
  refine bodyPost_ret (v := .tuple #[.agg (idv Y), .bool true]) ?_ rfl ⟨rfl, ?_⟩
  · exact results_blk_tmp Tryd.results13 _ _ _ (w.heap.size + 2) 24 _ (0, 0) _ rfl hX6 Tryd.underlying24 rfl (info32 HYL.out) _ rfl
  · exact HB4.out.grown hg6 HB4.out.size (fun k e => by cases e; omega)
theorem build_zero_id (w : World) : (Instr.build 24 #[]).run Tryd.prog w = .ok (.agg (idv noughtsC)) w :=
  run_build w _ _ _ (built_none (z := .agg (idv noughtsC)) Tryd.underlying24 (by kernel_rfl) (by kernel_rfl))
set_option maxRecDepth 100000 in
set_option maxHeartbeats 2000000 in
theorem rlink_no (h : List Int) (u : En) (w : World) (hm : mayE u = false) :
    Calls Tryd.prog 13 #[.agg (idv h), enV u] w fun e w' => e = .returned (.tuple #[.agg (idv noughtsC), .bool false]) ∧ Below w.heap.size w w' := by
  have HPE := Lib.hid (fun W => rput_no' u W hm)
  unfold enV at HPE ⊢
  have hNL : noughtsC.length = 32 := rfl
  have HNL := Lib.hid hNL
  clear hm hNL
  go_enter Tryd.func13, Tryd.ntmps13
  go_wp2_with (first
    | ((with_reducible refine wpList_load_blk 28 _ rfl (w.heap.size + 1) ?hx1 28 (enA u) (0, 0) _ (three_of_c _ _ _ _) Tryd.underlying28 ?hd1 (info_en (enA_size _)) ?_ ?hw1); (case hx1 => rfl); (case hd1 => rfl); (case hw1 => rfl))
    | (go_at_call 27; (with_reducible refine (HPE.out _).mono ?_); rintro e w1 ⟨rfl, hb1⟩
       obtain ⟨hb0, -, -, hZ1⟩ := after_three_c hb1
       have hZ1 : RowB w1 (w.heap.size + 2) 24 noughtsC := hZ1
       have HB1 := Lib.hid hb0
       clear hb1 hb0)
    | ((with_reducible refine wpList_store_blk rfl 24 _ _ rfl (w.heap.size + 2) (idv noughtsC) ?hx7 ?hy7 24 _ hZ1.is (info32 HNL.out) ?hs7 (idv_one _) ?_); (case hx7 => rfl); (case hy7 => rfl); (case hs7 => rfl)
       intro w6 hg6 hX6 hs6
       clear hZ1))
  refine bodyPost_ret (v := .tuple #[.agg (idv noughtsC), .bool false]) ?_ rfl ⟨rfl, ?_⟩
  · exact results_blk_tmp Tryd.results13 _ _ _ (w.heap.size + 2) 24 _ (0, 0) _ rfl hX6 Tryd.underlying24 rfl (info32 HNL.out) _ rfl
  · exact HB1.out.grown hg6 HB1.out.size (fun k e => by cases e; omega)
def linkP (h : List Int) (u : En) : List Int := if mayE u then linkC h u else noughtsC
theorem linkP_len (h : List Int) (u : En) : (linkP h u).length = 32 := by unfold linkP; split; exact csum_len _; rfl
theorem linkP_byte (h : List Int) (u : En) : ∀ j, 0 ≤ (linkP h u).getD j 0 ∧ (linkP h u).getD j 0 < 256 := by unfold linkP; split; exact csum_byte _; exact noughts_ok
theorem rlink_any (h : List Int) (u : En) (w : World) (hh : h.length = 32) (hb : ∀ j, 0 ≤ h.getD j 0 ∧ h.getD j 0 < 256) (ho : u.ok) :
    Calls Tryd.prog 13 #[.agg (idv h), enV u] w fun e w' => e = .returned (.tuple #[.agg (idv (linkP h u)), .bool (mayE u)]) ∧ Below w.heap.size w w' := by
  cases hm : mayE u with
  | false => rw [show linkP h u = noughtsC by rw [linkP, hm]; rfl]; exact rlink_no h u w hm
  | true => rw [show linkP h u = linkC h u by rw [linkP, hm]; rfl]; exact rlink_yes h u w hh hb hm ho
end Go.Proofs.YtplfpaclhapldaaDoor

/- A region that draws its order, walked by hand: one operation after another, taken first. -/
namespace Go.Proofs.YtplfpaclhapldaaDoor
open Go.RowKit

section
variable {P : Program} {l : List Oper} {Q : Exit → Act → World → Prop} {md : Region.Mode} {S : World → Prop} {oi : Oper} {fuel : Nat} {listed : Array Bool} {a : Act} {w : World}
/-- one operation of a region that draws its order, taken first: what it yields hangs on no world -/
theorem take_run (i : Nat) (v : Value) (hi : l[i]? = some oi) (hs : Region.noSelect l.toArray = true) (hf : Region.free md l.toArray listed i = true) (hr : (Region.ready md l.toArray listed).contains i = true)
    (hQ : ∀ c a w, Q (.panic c) (a.put oi.dst v) w → Q (.panic c) a w) (hw : Region.wanted oi (yielded l.toArray a.tmps) = true) (hS : S w) (hrun : ∀ w, (execOp a.eval oi).run P w = .ok (.value v) w)
    (h : wpAnyH P md l.toArray Q S fuel (listed.setIfInBounds i true) (a.put oi.dst v) w) : wpAnyH P md l.toArray Q S (fuel + 1) listed a w :=
  wpAnyH_take (by simpa using hi) hs hf hr hQ (.inl ⟨hw, fun w _ => hrun w⟩) hS h
theorem take_move (i : Nat) (x : Operand) (v : Value) (hi : l[i]? = some oi) (ho : oi.op = .move x) (hv : a.eval x = v) (hs : Region.noSelect l.toArray = true) (hf : Region.free md l.toArray listed i = true) (hr : (Region.ready md l.toArray listed).contains i = true)
    (hQ : ∀ c a w, Q (.panic c) (a.put oi.dst v) w → Q (.panic c) a w) (hw : Region.wanted oi (yielded l.toArray a.tmps) = true) (hS : S w)
    (h : wpAnyH P md l.toArray Q S fuel (listed.setIfInBounds i true) (a.put oi.dst v) w) : wpAnyH P md l.toArray Q S (fuel + 1) listed a w :=
  take_run i v hi hs hf hr hQ hw hS (fun w => by unfold execOp; simp [ho, hv]) h
/-- one that a guard leaves out -/
theorem take_off (i : Nat) (hi : l[i]? = some oi) (hs : Region.noSelect l.toArray = true) (hf : Region.free md l.toArray listed i = true) (hr : (Region.ready md l.toArray listed).contains i = true)
    (hQ : ∀ c a w, Q (.panic c) (a.put oi.dst undef) w → Q (.panic c) a w) (hw : Region.wanted oi (yielded l.toArray a.tmps) = false) (hS : S w)
    (h : wpAnyH P md l.toArray Q S fuel (listed.setIfInBounds i true) (a.put oi.dst undef) w) : wpAnyH P md l.toArray Q S (fuel + 1) listed a w :=
  wpAnyH_take (by simpa using hi) hs hf hr hQ (.inr ⟨hw, rfl⟩) hS h
/-- a load of a long array -/
theorem take_long (i : Nat) (ty : TypeId) (x : Operand) (g : Nat) (cs : List Value) (d : TypeDesc) (hi : l[i]? = some oi) (ho : oi.op = .load ty x) (hx : a.eval x = .pointer (some ⟨g, 0, none⟩)) (hs : Region.noSelect l.toArray = true) (hf : Region.free md l.toArray listed i = true) (hr : (Region.ready md l.toArray listed).contains i = true)
    (hQ : ∀ c a w, Q (.panic c) (a.put oi.dst (.agg cs.toArray)) w → Q (.panic c) a w) (hw : Region.wanted oi (yielded l.toArray a.tmps) = true) (hS : S w) (hat : ∀ w, S w → w.rangeAt g 0 cs)
    (hu : P.underlying ty = some d) (hd : d.isRow = true) (hsz : (P.info? ty).map (·.size) = some cs.length)
    (h : wpAnyH P md l.toArray Q S fuel (listed.setIfInBounds i true) (a.put oi.dst (.agg cs.toArray)) w) : wpAnyH P md l.toArray Q S (fuel + 1) listed a w :=
  wpAnyH_take (by simpa using hi) hs hf hr hQ (yieldsIf_load_mid hw ty x ho g 0 hx cs d hat hu hd hsz) hS h
/-- the only one that may come up -/
theorem one_step (i : Nat) (hr : Region.ready md l.toArray listed = [i]) (hi : l[i]? = some oi)
    (h : ∀ K' : Act → World → Prop, Shut (∀ a w, S w → (S w → wpAnyH P md l.toArray Q S fuel (listed.setIfInBounds i true) a w) → K' a w) → if Region.wanted oi (yielded l.toArray a.tmps) = true then Oper.wp P oi a w K' Q else K' (a.put oi.dst undef) w) :
    wpAnyH P md l.toArray Q S (fuel + 1) listed a w :=
  wpAnyH_ready hr (by simp) (AllReadyH.cons (by simpa using hi) h AllReadyH.nil)
end
section
variable {P : Program} {l : List Oper} {Q : Exit → Act → World → Prop} {md : Region.Mode} {S S' : World → Prop} {oi : Oper} {fuel : Nat} {listed : Array Bool} {a : Act} {w : World}
theorem take_if (i : Nat) (v : Value) (hi : l[i]? = some oi) (hs : Region.noSelect l.toArray = true) (hf : Region.free md l.toArray listed i = true) (hr : (Region.ready md l.toArray listed).contains i = true)
    (hQ : ∀ c a w, Q (.panic c) (a.put oi.dst v) w → Q (.panic c) a w) (hw : Region.wanted oi (yielded l.toArray a.tmps) = true) (hS : S w) (hrun : ∀ w, S w → (execOp a.eval oi).run P w = .ok (.value v) w)
    (h : wpAnyH P md l.toArray Q S fuel (listed.setIfInBounds i true) (a.put oi.dst v) w) : wpAnyH P md l.toArray Q S (fuel + 1) listed a w :=
  wpAnyH_take (by simpa using hi) hs hf hr hQ (.inl ⟨hw, hrun⟩) hS h
theorem wpAnyH_mono {ops : Array Oper} (hSS : ∀ w, S' w → S w) : ∀ (fuel : Nat) {listed : Array Bool} {a : Act} {w : World}, wpAnyH P md ops Q S' fuel listed a w → wpAnyH P md ops Q S fuel listed a w
  | 0, _, _, _, h => h
  | fuel + 1, _, _, _, h => ⟨h.1, fun i hi => wpOp_mono (fun _ _ h' => ⟨hSS _ h'.1, wpAnyH_mono hSS fuel h'.2⟩) (h.2 i hi)⟩
end
section
variable {P : Program} {l : List Oper} {Q : Exit → Act → World → Prop} {md : Region.Mode} {S : World → Prop} {oi oj ok : Oper} {fuel : Nat} {listed : Array Bool} {a : Act} {w : World}
/-- two, or three, that may come up -/
theorem two_steps (i j : Nat) (hr : Region.ready md l.toArray listed = [i, j]) (hi : l[i]? = some oi) (hj : l[j]? = some oj)
    (h1 : ∀ K' : Act → World → Prop, Shut (∀ a w, S w → (S w → wpAnyH P md l.toArray Q S fuel (listed.setIfInBounds i true) a w) → K' a w) → if Region.wanted oi (yielded l.toArray a.tmps) = true then Oper.wp P oi a w K' Q else K' (a.put oi.dst undef) w)
    (h2 : ∀ K' : Act → World → Prop, Shut (∀ a w, S w → (S w → wpAnyH P md l.toArray Q S fuel (listed.setIfInBounds j true) a w) → K' a w) → if Region.wanted oj (yielded l.toArray a.tmps) = true then Oper.wp P oj a w K' Q else K' (a.put oj.dst undef) w) :
    wpAnyH P md l.toArray Q S (fuel + 1) listed a w :=
  wpAnyH_ready hr (by simp) (AllReadyH.cons (by simpa using hi) h1 (AllReadyH.cons (by simpa using hj) h2 AllReadyH.nil))
theorem three_steps (i j k : Nat) (hr : Region.ready md l.toArray listed = [i, j, k]) (hi : l[i]? = some oi) (hj : l[j]? = some oj) (hk : l[k]? = some ok)
    (h1 : ∀ K' : Act → World → Prop, Shut (∀ a w, S w → (S w → wpAnyH P md l.toArray Q S fuel (listed.setIfInBounds i true) a w) → K' a w) → if Region.wanted oi (yielded l.toArray a.tmps) = true then Oper.wp P oi a w K' Q else K' (a.put oi.dst undef) w)
    (h2 : ∀ K' : Act → World → Prop, Shut (∀ a w, S w → (S w → wpAnyH P md l.toArray Q S fuel (listed.setIfInBounds j true) a w) → K' a w) → if Region.wanted oj (yielded l.toArray a.tmps) = true then Oper.wp P oj a w K' Q else K' (a.put oj.dst undef) w)
    (h3 : ∀ K' : Act → World → Prop, Shut (∀ a w, S w → (S w → wpAnyH P md l.toArray Q S fuel (listed.setIfInBounds k true) a w) → K' a w) → if Region.wanted ok (yielded l.toArray a.tmps) = true then Oper.wp P ok a w K' Q else K' (a.put ok.dst undef) w) :
    wpAnyH P md l.toArray Q S (fuel + 1) listed a w :=
  wpAnyH_ready hr (by simp) (AllReadyH.cons (by simpa using hi) h1 (AllReadyH.cons (by simpa using hj) h2 (AllReadyH.cons (by simpa using hk) h3 AllReadyH.nil)))
end
end Go.Proofs.YtplfpaclhapldaaDoor

/- '==' between two entries; a load out of a slice of entries. -/
namespace Go.Proofs.YtplfpaclhapldaaDoor
set_option maxRecDepth 100000
set_option linter.unusedVariables false
set_option linter.unusedSimpArgs false
open Go.RowKit

theorem ent_part {P : Program} (t : TypeId) (k : IntKind) (cs : Array Value) (off : Nat) (v : Value) (h : P.underlying t = some (.int k)) (hv : cs[off]? = some v) (w : World) : (part t cs off).run P w = .ok v w := by
  simp [part, isAgg, run_underlying h, hv, go_sem]
theorem ent_fields {P : Program} {d : Nat} {xs ys : Array Value} {f : Field} {fs : List Field} {a b : Value} {r : Bool} {w : World} (hn : f.name ≠ "_") (ha : (part f.type xs f.offset).run P w = .ok a w) (hb : (part f.type ys f.offset).run P w = .ok b w) (he : (Op.equalIn d f.type a b).run P w = .ok r w) :
    (Op.eqFields d xs ys (f :: fs)).run P w = if r then (Op.eqFields d xs ys fs).run P w else .ok false w := by
  simp only [Op.eqFields, if_pos hn, Sem.run_bind, ha, hb, he, Result.andThen_ok]
  cases r <;> simp
theorem ent_if (r s : Bool) (w : World) : (if r then (Result.ok s w : Result Bool) else .ok false w) = .ok (r && s) w := by cases r <;> rfl
set_option maxHeartbeats 2000000 in
theorem eq_ens (f g : En) (w : World) : (Op.equalIn 10000 28 (.agg (enA f)) (.agg (enA g))).run Tryd.prog w = .ok (decide (f = g)) w := by
  rw [run_equalIn_struct w 9999 28 _ _ (by kernel_rfl) (by kernel_rfl)]
  unfold Program.fieldsOf
  rw [Tryd.underlying28]
  have p := hasE f
  have q := hasE g
  have i3 := Tryd.underlying3
  have i22 := Tryd.underlying25
  have i23 := Tryd.underlying26
  dsimp only
  have hd : decide (f = g) = (f.kind == g.kind && (f.tick == g.tick && (f.epoch == g.epoch && (f.user == g.user && (f.sess == g.sess && (f.count == g.count && (f.cmd == g.cmd && (f.arg == g.arg && f.code == g.code)))))))) := by
    rcases f with ⟨a0, a1, a2, a3, a4, a5, a6, a7, a8⟩
    rcases g with ⟨b0, b1, b2, b3, b4, b5, b6, b7, b8⟩
    rw [Bool.eq_iff_iff]
    simp
  rw [hd]
  obtain ⟨X, hX⟩ : ∃ X, X = enA f := ⟨_, rfl⟩
  obtain ⟨Y, hY⟩ : ∃ Y, Y = enA g := ⟨_, rfl⟩
  rw [← hX] at p ⊢
  rw [← hY] at q ⊢
  rw [ent_fields (by decide) (ent_part _ _ _ _ _ i3 p.d0 w) (ent_part _ _ _ _ _ i3 q.d0 w) (run_equalIn_int w 9998 _ _ _ _ _ i3),
    ent_fields (by decide) (ent_part _ _ _ _ _ i3 p.d1 w) (ent_part _ _ _ _ _ i3 q.d1 w) (run_equalIn_int w 9998 _ _ _ _ _ i3),
    ent_fields (by decide) (ent_part _ _ _ _ _ i3 p.d2 w) (ent_part _ _ _ _ _ i3 q.d2 w) (run_equalIn_int w 9998 _ _ _ _ _ i3),
    ent_fields (by decide) (ent_part _ _ _ _ _ i3 p.d3 w) (ent_part _ _ _ _ _ i3 q.d3 w) (run_equalIn_int w 9998 _ _ _ _ _ i3),
    ent_fields (by decide) (ent_part _ _ _ _ _ i22 p.d4 w) (ent_part _ _ _ _ _ i22 q.d4 w) (run_equalIn_int w 9998 _ _ _ _ _ i22),
    ent_fields (by decide) (ent_part _ _ _ _ _ i22 p.d5 w) (ent_part _ _ _ _ _ i22 q.d5 w) (run_equalIn_int w 9998 _ _ _ _ _ i22),
    ent_fields (by decide) (ent_part _ _ _ _ _ i3 p.d6 w) (ent_part _ _ _ _ _ i3 q.d6 w) (run_equalIn_int w 9998 _ _ _ _ _ i3),
    ent_fields (by decide) (ent_part _ _ _ _ _ i3 p.d7 w) (ent_part _ _ _ _ _ i3 q.d7 w) (run_equalIn_int w 9998 _ _ _ _ _ i3),
    ent_fields (by decide) (ent_part _ _ _ _ _ i23 p.d8 w) (ent_part _ _ _ _ _ i23 q.d8 w) (run_equalIn_int w 9998 _ _ _ _ _ i23)]
  simp only [Op.eqFields, Sem.run_pure, ent_if, Bool.and_true]
theorem run_eq_en {op : BinOp} {ρ : Operand → Value} {o : Oper} {x y : Operand} {xs ys : Array Value} {E r : Bool} {w : World} (ho : o.op = .binOp op 28 x y 28) (hx : ρ x = .agg xs) (hy : ρ y = .agg ys) (hr : op = .eql ∧ r = E ∨ op = .neq ∧ r = !E)
    (h : (Op.equalIn 10000 28 (.agg xs) (.agg ys)).run Tryd.prog w = .ok E w) : (execOp ρ o).run Tryd.prog w = .ok (.value (.bool r)) w := by
  unfold execOp
  rw [ho]
  have hm : Tryd.prog.eqGuardType Tryd.prog.depth 28 = false := by kernel_rfl
  rcases hr with ⟨rfl, rfl⟩ | ⟨rfl, rfl⟩
  · simp only [hx, hy, Sem.run_bind, run_eqGuard_agg (hm := hm), run_eql_struct, h, Result.andThen_ok, Sem.run_pure, Sem.run_map]
  · simp only [hx, hy, Sem.run_bind, run_eqGuard_agg (hm := hm), run_neq_struct, h, Result.andThen_ok, Sem.run_pure, Sem.run_map]
theorem wpList_eq_en {ops : Array Oper} {rest : List Oper} {o : Oper} {a : Act} {w : World} {Q : Exit → Act → World → Prop} (op : BinOp) (x y : Operand) (ho : o.op = .binOp op 28 x y 28) (xs ys : Array Value) (hx : a.eval x = .agg xs) (hy : a.eval y = .agg ys) (E r : Bool) (hr : op = .eql ∧ r = E ∨ op = .neq ∧ r = !E)
    (hE : ∀ w, (Op.equalIn 10000 28 (.agg xs) (.agg ys)).run Tryd.prog w = .ok E w) (h : wpList Tryd.prog ops Q rest (a.put o.dst (.bool r)) w) (hw : Region.wanted o (yielded ops a.tmps) = true) : wpList Tryd.prog ops Q (o :: rest) a w :=
  wpList_step fun K hK => by
    rw [if_pos hw]
    unfold Oper.wp
    rw [run_eq_en ho hx hy hr (hE w)]
    exact hK _ _ h
theorem run_load_en {ρ : Operand → Value} {o : Oper} {x : Operand} {b off : Nat} {u : En} {w : World} (ho : o.op = .load 28 x) (hx : ρ x = .pointer (some ⟨b, off, none⟩)) (hc : w.rangeAt b off u.row) : (execOp ρ o).run Tryd.prog w = .ok (.value (.agg (enA u))) w := by
  unfold execOp
  have hi : (Tryd.prog.info? 28).map (·.size) = some u.row.length := by rw [erow_len]; kernel_rfl
  simp only [ho, hx, Instr.loadAt, Instr.sureAddr, Sem.run_bind, Sem.run_pure, Result.andThen_ok, run_loadVar_mid w b off 28 u.row _ hc Tryd.underlying28 rfl hi]
  rfl
theorem rangeAt_below {w w' : World} {b o : Nat} {cs : List Value} (h : w.rangeAt b o cs) (hb : Below w.heap.size w w') : w'.rangeAt b o cs := fun j v hv => (hb.cell (p := ⟨b, o + j, none⟩) (block_lt_of_cell (h j v hv))).trans (h j v hv)
/-- one of them, as it lies -/
theorem Ens.range {w : World} {A : Option Addr} {n c : Nat} {l : List En} (h : Ens w A n c l) (j : Nat) (hj : j < n) : ∃ b off u, A = some ⟨b, off, none⟩ ∧ l[j]? = some u ∧ w.rangeAt b (off + j * 9) u.row := by
  obtain ⟨b, off, hA, hc⟩ := h.rws.at_ (by omega)
  have hl : j < l.length := by rw [h.len]; exact hj
  have hr : (l.map En.row).getD j [] = l[j].row := by simp [List.getD_eq_getElem?_getD, hl]
  refine ⟨b, off, l[j], hA, by simp [hl], fun i v hv => ?_⟩
  have hi : i < 9 := (List.getElem?_eq_some_iff.1 hv).1
  have := hc j hj i hi
  rw [hr, List.getD_eq_getElem?_getD, hv] at this
  exact this
end Go.Proofs.YtplfpaclhapldaaDoor

/- The walk over the document's Head of entries. -/
namespace Go.Proofs.YtplfpaclhapldaaDoor
set_option maxRecDepth 100000
set_option linter.unusedVariables false
set_option linter.unusedSimpArgs false
open Go.RowKit

theorem head_take {l : List En} {k : Nat} {u : En} (h : l[k]? = some u) : headC (l.take (k + 1)) = linkC (headC (l.take k)) u := by rw [etake_more h, headC_snoc]
theorem may_mem {l : List En} (hm : mayC l = true) {k : Nat} {u : En} (h : l[k]? = some u) : mayE u = true := List.all_eq_true.1 hm _ (List.mem_of_getElem? h)
theorem rowb_grown {w w' : World} {g g' : Nat} {t : TypeId} {l : List Int} (h : RowB w g t l) (hg : w.grownBy w' (some g')) (hne : g ≠ g') : RowB w' g t l := h.grown hg (fun e => hne (by injection e))
set_option maxRecDepth 100000 in
set_option maxHeartbeats 4000000 in
theorem rheadc_any (A : Option Addr) (n c : Nat) (l : List En) (w : World) (hl : Ens w A n c l) (hm : mayC l = true) (ho : ∀ u ∈ l, u.ok) :
    Calls Tryd.prog 22 #[.slice A n c] w fun e w' => e = .returned (.agg (idv (headC l))) ∧ Below w.heap.size w w' := by
  have hn := hl.small
  have HL := Lib.hid hl
  have HLL := Lib.hid hl.len
  have HM := Lib.hid hm
  have HO := Lib.hid ho
  have hal := run_all32
  have HS0 := Lib.hid (show ∀ (W : World) (g : Nat), W.heap.size = g → Calls Tryd.prog 29 #[.slice (some ⟨g, 0, none⟩) 1 1] (W.alloc (.cells #[.int .u8 0] 5)) (fun e w' => e = .returned (.agg (idv startC)) ∧ Below W.heap.size W w') from fun W g hg => by
    subst hg
    refine (rsum_yes _ 1 1 [0] _ (by omega) (lit_bts W _ [0] 1 rfl rfl (by unfold maxLen; omega) (by intro j; match j with | 0 => simp | j + 1 => simp))).mono ?_
    rintro e w' ⟨rfl, hb⟩
    exact ⟨rfl, (after_one hb).1⟩)
  have HSL := Lib.hid (show startC.length = 32 from csum_len [0])
  obtain ⟨Z, hZ⟩ : ∃ Z, headC l = Z := ⟨_, rfl⟩
  have HZL := Lib.hid (show Z.length = 32 by rw [← hZ]; exact headC_len _)
  have HZ := Lib.hid hZ
  rw [hZ]
  clear hl hm ho hZ
  go_enter Tryd.func22, Tryd.ntmps22
  go_wp2_with (first
    | (go_at_call 29; (with_reducible refine (HS0.out _ _ (by simp)).mono ?_); rintro e w1 ⟨rfl, hb1⟩
       obtain ⟨hb0, -, hz1⟩ := after_one hb1
       have hz1 : RowB w1 w.heap.size 24 noughtsC := hz1
       have HB1 := Lib.hid hb0
       clear hb1 hb0)
    | ((with_reducible refine wpList_store_blk rfl 24 _ _ rfl w1.heap.size (idv startC) ?hx2 ?hy2 24 _ (heap_alloc_new w1 _) (info32 HSL.out) ?hs2 (idv_one _) ?_); (case hx2 => rfl); (case hy2 => rfl); (case hs2 => rw [idv_size, HSL.out]; rfl)
       intro w2 hg2 hX2 hs2
       have hb2 : Below w1.heap.size w1 w2 := Below.grows (one_alloc w1 _) hg2 (size_le_alloc _ _) (Nat.le_refl _)
       have hz2 := hz1.keep hb2
       have hX2 : RowB w2 w1.heap.size 24 startC := hX2
       have HB2 := Lib.hid (HB1.out.trans (hb2.mono HB1.out.size))
       clear hb2 hg2 hs2))
  have hg3 : w.heap.size < w1.heap.size := hz1.lt
  clear hz1
  go_loopw [4, 5, 6, 7] (fun i x y z wr => ∃ k : Nat, k ≤ n ∧ i = .int .i64 k ∧ RowB wr w1.heap.size 24 (headC (l.take k)) ∧ RowB wr w.heap.size 24 noughtsC ∧ Below w.heap.size w wr) (fun i _ _ _ _ => n - (intOf i).toNat)
  case atStart => exact ⟨0, by omega, rfl, hX2, hz2, HB2.out⟩
  case round =>
    clear hX2 hz2
    obtain ⟨k, hk, rfl, hX, hz, hB⟩ := hrel
    by_cases hlt : k < n
    · obtain ⟨b, off, u, rfl, hu, hr⟩ := (HL.out.below hB).range k hlt
      have hmu := may_mem HM.out hu
      have hou := HO.out u (List.mem_of_getElem? hu)
      have HPE := Lib.hid (fun W => rput_yes' u W hmu hou)
      have HNX := Lib.hid (head_take hu)
      obtain ⟨h, hh⟩ : ∃ h, headC (l.take k) = h := ⟨_, rfl⟩
      have hhl : h.length = 32 := by rw [← hh]; exact headC_len _
      have hhb : ∀ j, 0 ≤ h.getD j 0 ∧ h.getD j 0 < 256 := by rw [← hh]; exact headC_byte _
      rw [hh] at hX
      have HNX := Lib.hid (show headC (l.take (k + 1)) = linkC h u by rw [HNX.out, hh])
      have HOK := Lib.hid (ok_linkT (u := u) hhb)
      have HHB := Lib.hid hhb
      have HHL := Lib.hid hhl
      obtain ⟨Y, hY⟩ : ∃ Y, linkC h u = Y := ⟨_, rfl⟩
      have HYL := Lib.hid (show Y.length = 32 by rw [← hY]; exact csum_len _)
      have HSM := Lib.hid (show ∀ (A : Option Addr) (m d : Nat) (W : World), m ≤ 1048576 → Bts W A m d (linkT h u) → Calls Tryd.prog 29 #[.slice A m d] W (fun e w' => e = .returned (.agg (idv Y)) ∧ Below W.heap.size W w') from fun A m d W h1 h2 => by rw [← hY]; exact rsum_yes A m d _ W h1 h2)
      have HNX := Lib.hid (HNX.out.trans hY)
      unfold enV at HPE
      have q0 : 0 ≤ (k : Int) := by omega
      have q1 : (k : Int) < n := by omega
      have HBr := Lib.hid hB
      have HLT1 := Lib.hid hX.lt
      clear hu hmu hou hh hhl hhb hY hB
      go_wp2_with (first
        | ((with_reducible refine wpList_load_on 28 _ rfl b (off + k * 9) ?hx1 u.row (enA u) ?ht1 _ hr Tryd.underlying28 ?hd1 ?hi1 ?_ ?hw1); (case hx1 => rfl); (case ht1 => rfl); (case hd1 => rfl); (case hi1 => exact info_en (enA_size u)); (case hw1 => rfl))
        | (go_at_call 27; (with_reducible refine (HPE.out _).mono ?_); rintro e w3 ⟨A1, m1, c1, rfl, hbt1, hb1⟩
           have hX1 := hX.keep hb1
           have hz1 := hz.keep hb1
           have HB1 := Lib.hid (HBr.out.trans (hb1.mono HBr.out.size))
           have HLT := Lib.hid hX1.lt
           clear hb1 hX hz hr)
        | (at_builtin
           refine wpList_append_b rfl _ _ rfl w3.heap.size _ [1] rfl (one_own w3 1) (some ⟨w1.heap.size, 0, none⟩) 32 32 h rfl ((hX1.more _).btsAt HHL.out (by unfold maxLen; omega) HHB.out) (by simp) (by simp) ?_
           intro v2 w4 hown2 hg2
           have hb2 : Below w3.heap.size w3 w4 := (one_alloc w3 (.cells #[.int .u8 1] 5)).grown hg2 (size_le_alloc _ _) (fun g e => ((one_own w3 1).size g e).1)
           have hown2 : Own w4 w3.heap.size v2 ([1] ++ h) := hown2
           have hX2 := hX1.keep hb2
           have hz2 := hz1.keep hb2
           have hbt2 := hbt1.below hb2
           have HB2 := Lib.hid (HB1.out.trans (hb2.mono HB1.out.size))
           have HS2 := Lib.hid hb2.size
           clear hg2 hb2 hX1 hz1 hbt1)
        | (at_builtin
           refine wpList_append_b rfl _ _ rfl w3.heap.size v2 ([1] ++ h) rfl hown2 A1 m1 c1 (putE u) rfl hbt2 (by have := hbt2.len; rw [put_len] at this; have := HHL.out; simp; omega) HS2.out ?_
           intro v3 w5 hown3 hg4
           have hb3 : Below w3.heap.size w4 w5 := (Below.refl w3.heap.size w4).grown hg4 HS2.out (fun g e => (hown2.size g e).1)
           obtain ⟨A3, m3, c3, rfl, hbt3⟩ := (show Own w5 w3.heap.size v3 (linkT h u) from hown3).slice HOK.out
           have hX3 := hX2.below hb3 HLT.out
           have hz3 := hz2.below hb3 (Nat.lt_trans hg3 HLT.out)
           have hm3 : m3 ≤ 1048576 := by
             have h1 := hbt3.len
             have h2 := HHL.out
             rw [linkT, List.length_cons, List.length_append, put_len] at h1
             omega
           have HB3 := Lib.hid (HB2.out.trans (hb3.mono HB1.out.size))
           clear hg4 hb3 hX2 hz2 hbt2 hown2 hown3)
        | (go_at_call 29; (with_reducible refine (HSM.out _ _ _ _ hm3 hbt3).mono ?_); rintro e w6 ⟨rfl, hb4⟩
           have hX4 := hX3.keep hb4
           have hz4 := hz3.keep hb4
           have HB4 := Lib.hid (HB3.out.trans (hb4.mono HB3.out.size))
           clear hb4 hX3 hz3)
        | ((with_reducible refine wpList_store_blk rfl 24 _ _ rfl w1.heap.size (idv Y) ?hx7 ?hy7 24 _ hX4.is (info32 HYL.out) ?hs7 (idv_one _) ?_); (case hx7 => rfl); (case hy7 => rfl); (case hs7 => rw [idv_size, idv_size, HYL.out, HHL.out])
           intro w7 hg7 hX7 hs7
           have hX7 : RowB w7 w1.heap.size 24 Y := hX7
           have hz7 := rowb_grown hz4 hg7 (by omega)
           have HB7 := Lib.hid (HB4.out.grown hg7 HB4.out.size (fun k e => by cases e; omega))
           clear hX4 hz4 hg7 hs7))
      go_roundw
      case rel => exact ⟨k + 1, by omega, by go_num, by rw [HNX.out]; exact hX7, hz7, HB7.out⟩
      case measure => simp [intOf]; omega
    · have hkn : k = n := by omega
      rw [hkn, List.take_of_length_le (by rw [HLL.out]; exact Nat.le_refl _)] at hX
      rw [HZ.out] at hX
      have HHL := HZL
      have HBr := Lib.hid hB
      clear hB
      go_wp2_with (first
        | ((with_reducible refine wpList_load_blk 24 _ rfl w1.heap.size ?hx8 24 (idv Z) (0, 0) _ hX.is Tryd.underlying24 ?hd8 (info32 HHL.out) ?_ ?hw8); (case hx8 => rfl); (case hd8 => rfl); (case hw8 => rfl))
        | ((with_reducible refine wpList_store_blk rfl 24 _ _ rfl w.heap.size (idv Z) ?hx9 ?hy9 24 _ hz.is (info32 HHL.out) ?hs9 (idv_one _) ?_); (case hx9 => rfl); (case hy9 => rfl); (case hs9 => rw [idv_size, idv_size, HHL.out]; rfl)
           intro w7 hg7 hX7 hs7
           clear hz))
      refine bodyPost_ret (v := .agg (idv Z)) ?_ rfl ⟨rfl, ?_⟩
      · exact results_cell_row Tryd.results22 _ _ w.heap.size 24 _ (0, 0) _ rfl hX7 Tryd.underlying24 rfl (info32 HHL.out)
      · exact HBr.out.grown hg7 HBr.out.size (fun k e => by cases e; exact Nat.le_refl _)
end Go.Proofs.YtplfpaclhapldaaDoor

/- The first ones of a slice of entries. -/
namespace Go.Proofs.YtplfpaclhapldaaDoor
set_option maxRecDepth 100000
set_option linter.unusedVariables false
set_option linter.unusedSimpArgs false
open Go.RowKit

theorem size_entry (w : World) : (sizeOf (Tryd.prog.elem 22)).run Tryd.prog w = .ok 9 w := rfl
theorem Ens.upto {w : World} {A : Option Addr} {n c : Nat} {l : List En} (h : Ens w A n c l) (k : Nat) (x : Int) (hx : x = k) (hk : k ≤ n) :
    (∀ w' : World, (Instr.slice 22 (.slice A n c) none (some (.int .i64 x)) none).run Tryd.prog w' = .ok (.slice A k c) w') ∧ Ens w A k c (l.take k) := by
  have hn := h.small
  have hle := h.rws.le
  refine ⟨fun w' => ?_, ⟨⟨by rw [List.length_map, List.length_take, h.len]; omega, ?_, ?_, by omega, h.rws.max, h.rws.bare, fun h0 => ?_⟩⟩⟩
  · subst hx
    rw [run_slice_h (P := Tryd.prog) w' 22 A n c (by kernel_rfl) .i64 k (by omega) (by omega), size_entry]
    simp only [Result.andThen_ok, sliced, Int.toNat_natCast, Nat.zero_mul, Nat.sub_zero]
    have e : A.map (fun x => x.add 0) = A := by
      cases A with
      | none => rfl
      | some a => simp [Addr.add]
    rw [e]
    simp
  · intro r hr
    obtain ⟨u, _, rfl⟩ := List.mem_map.1 hr
    rfl
  · intro r hr v hv
    obtain ⟨u, _, rfl⟩ := List.mem_map.1 hr
    exact row_one9 u v hv
  · obtain ⟨b, off, hA, hc⟩ := h.rws.at_ (by omega)
    refine ⟨b, off, hA, fun j hj i hi => ?_⟩
    rw [hc j (by omega) i hi]
    simp [List.getD_eq_getElem?_getD, List.getElem?_take, hj]
end Go.Proofs.YtplfpaclhapldaaDoor

/- The walk over the document's Text of entries. -/
namespace Go.Proofs.YtplfpaclhapldaaDoor
set_option maxRecDepth 100000
set_option linter.unusedVariables false
set_option linter.unusedSimpArgs false
open Go.RowKit

/-- gives bytes -/
def GT (L : List Int) (w : World) (e : Ending) (w' : World) : Prop := ∃ A m c, e = .returned (.slice A m c) ∧ Bts w' A m c L ∧ Below w.heap.size w w'
theorem text_byte (l : List En) : ∀ j, 0 ≤ (textC l).getD j 0 ∧ (textC l).getD j 0 < 256 := by
  rcases List.eq_nil_or_concat l with rfl | ⟨m, u, rfl⟩
  · intro j; match j with | 0 => simp [textC] | j + 1 => simp [textC]
  · rw [List.concat_eq_append, textC_snoc]; exact ok_linkT (headC_byte _)
theorem text_len (l : List En) : (textC l).length ≤ 63 := by
  rcases List.eq_nil_or_concat l with rfl | ⟨m, u, rfl⟩
  · simp [textC]
  · rw [List.concat_eq_append, textC_snoc, linkT, List.length_cons, List.length_append, headC_len, put_len]; omega
theorem text_last {l : List En} {k : Nat} {u : En} (hl : l.length = k + 1) (h : l[k]? = some u) : textC l = linkT (headC (l.take k)) u := by
  have := (text_take h).1
  rwa [List.take_of_length_le (by omega)] at this
theorem mayC_take {l : List En} (h : mayC l = true) (k : Nat) : mayC (l.take k) = true := by
  cases e : mayC (l.take k) with
  | true => rfl
  | false => rw [mayC_part e] at h; exact h
set_option maxRecDepth 100000 in
set_option maxHeartbeats 4000000 in
theorem rtextc_any (A : Option Addr) (n c : Nat) (l : List En) (w : World) (hl : Ens w A n c l) (hm : mayC l = true) (ho : ∀ u ∈ l, u.ok) :
    Calls Tryd.prog 34 #[.slice A n c] w (GT (textC l) w) := by
  have hn := hl.small
  have hll := hl.len
  cases n with
  | zero =>
    have hl0 : l = [] := List.eq_nil_of_length_eq_zero hll
    subst hl0
    go_enter Tryd.func34, Tryd.ntmps34
    go_wp2
    go_ret
    exact ⟨_, 1, 1, rfl, lit_bts w _ [0] 1 rfl rfl (by unfold maxLen; omega) (text_byte []), one_alloc w _⟩
  | succ k =>
    obtain ⟨hsl, hup⟩ := hl.upto k (k : Int) rfl (by omega)
    obtain ⟨b, off, u, rfl, hu, hr⟩ := hl.range k (by omega)
    have hmu := may_mem hm hu
    have hou := ho u (List.mem_of_getElem? hu)
    have HPE := Lib.hid (fun W => rput_yes' u W hmu hou)
    rw [text_last hll hu]
    obtain ⟨h, hh⟩ : ∃ h, headC (l.take k) = h := ⟨_, rfl⟩
    have hhl : h.length = 32 := by rw [← hh]; exact headC_len _
    have hhb : ∀ j, 0 ≤ h.getD j 0 ∧ h.getD j 0 < 256 := by rw [← hh]; exact headC_byte _
    have HHE := Lib.hid (show ∀ W, Below w.heap.size w W → Calls Tryd.prog 22 #[.slice (some ⟨b, off, none⟩) k c] W (fun e w' => e = .returned (.agg (idv h)) ∧ Below W.heap.size W w') from fun W hW => by rw [← hh]; exact rheadc_any _ k c (l.take k) W (hup.below hW) (mayC_take hm k) (fun u hu => ho u (List.mem_of_mem_take hu)))
    rw [hh]
    have HR := Lib.hid hr
    have HOK := Lib.hid (ok_linkT (u := u) hhb)
    have HHB := Lib.hid hhb
    have HHL := Lib.hid hhl
    have hal := run_all32
    unfold enV at HPE
    have e2 : ((k : Int) + 1 == 0) = false := by rw [beq_eq_false_iff_ne]; omega
    have q0 : 0 ≤ (k : Int) := by omega
    have q1 : (k : Int) < (k : Int) + 1 := by omega
    clear hl hm ho hup hu hr hmu hou hh hhl hhb
    go_enter Tryd.func34, Tryd.ntmps34
    go_wp2_with (first
      | (go_at_call 22; (with_reducible refine (HHE.out w (Below.refl _ _)).mono ?_); rintro e w1 ⟨rfl, hb1⟩
         have HB1 := Lib.hid hb1
         clear hb1)
      | ((with_reducible refine wpList_store_blk rfl 24 _ _ rfl w1.heap.size (idv h) ?hx2 ?hy2 24 _ (heap_alloc_new w1 _) (info32 HHL.out) ?hs2 (idv_one _) ?_); (case hx2 => rfl); (case hy2 => rfl); (case hs2 => rw [idv_size, HHL.out]; rfl)
         intro w2 hg2 hX2 hs2
         have hb2 : Below w1.heap.size w1 w2 := Below.grows (one_alloc w1 _) hg2 (size_le_alloc _ _) (Nat.le_refl _)
         have hX2 : RowB w2 w1.heap.size 24 h := hX2
         have HB2 := Lib.hid (HB1.out.trans (hb2.mono HB1.out.size))
         have hr2 := rangeAt_below HR.out HB2.out
         clear hb2 hg2 hs2)
      | ((with_reducible refine wpList_load_on 28 _ rfl b (off + k * 9) ?hx1 u.row (enA u) ?ht1 _ hr2 Tryd.underlying28 ?hd1 ?hi1 ?_ ?hw1); (case hx1 => rfl); (case ht1 => rfl); (case hd1 => rfl); (case hi1 => exact info_en (enA_size u)); (case hw1 => rfl))
      | (go_at_call 27; (with_reducible refine (HPE.out _).mono ?_); rintro e w3 ⟨A1, m1, c1, rfl, hbt1, hb1⟩
         have hX1 := hX2.keep hb1
         have HB3 := Lib.hid (HB2.out.trans (hb1.mono HB2.out.size))
         clear hb1 hX2 hr2)
      | (at_builtin
         refine wpList_append_b rfl _ _ rfl w3.heap.size _ [1] rfl (one_own w3 1) (some ⟨w1.heap.size, 0, none⟩) 32 32 h rfl ((hX1.more _).btsAt HHL.out (by unfold maxLen; omega) HHB.out) (by simp) (by simp) ?_
         intro v2 w4 hown2 hg2
         have hb2 : Below w3.heap.size w3 w4 := (one_alloc w3 (.cells #[.int .u8 1] 5)).grown hg2 (size_le_alloc _ _) (fun g e => ((one_own w3 1).size g e).1)
         have hown2 : Own w4 w3.heap.size v2 ([1] ++ h) := hown2
         have hbt2 := hbt1.below hb2
         have HB4 := Lib.hid (HB3.out.trans (hb2.mono HB3.out.size))
         have HS2 := Lib.hid hb2.size
         clear hg2 hb2 hX1 hbt1)
      | (at_builtin
         refine wpList_append_b rfl _ _ rfl w3.heap.size v2 ([1] ++ h) rfl hown2 A1 m1 c1 (putE u) rfl hbt2 (by have := hbt2.len; rw [put_len] at this; have := HHL.out; simp; omega) HS2.out ?_
         intro v3 w5 hown3 hg4
         have hb3 : Below w3.heap.size w4 w5 := (Below.refl w3.heap.size w4).grown hg4 HS2.out (fun g e => (hown2.size g e).1)
         obtain ⟨A3, m3, c3, rfl, hbt3⟩ := (show Own w5 w3.heap.size v3 (linkT h u) from hown3).slice HOK.out
         have HBT := Lib.hid hbt3
         have HB5 := Lib.hid (HB4.out.trans (hb3.mono HB3.out.size))
         clear hg4 hb3 hbt2 hown2 hown3 hbt3))
    go_ret
    exact ⟨A3, m3, c3, rfl, HBT.out, HB5.out⟩
end Go.Proofs.YtplfpaclhapldaaDoor
