/- The walk over the plain answers' End: the sum of a state. -/
import Derived.Test.YtomfnnhdihbpfaaDoorRefAdd
namespace Go.Proofs.YtomfnnhdihbpfaaDoor
open Go.RowKit

theorem noughts_rest (n N : Nat) (_hn : n < 64) (h : (n : Int) = (N : Int) % 64) : (n + 1 + noughts N) % 64 = 56 := by
  unfold noughts
  omega
theorem noughts_first (n N k : Nat) (_hn : n < 64) (h : (n : Int) = (N : Int) % 64) (hk : k < noughts N) : (n + 1 + k) % 64 ≠ 56 := by
  unfold noughts at hk
  omega
theorem bits8_all (N : Nat) (hN : N ≤ 1048576) : (List.range 8).map (bits8 N) = [0, 0, 0, 0, 8 * (N : Int) / 16777216, 8 * (N : Int) / 65536 % 256, 8 * (N : Int) / 256 % 256, 8 * (N : Int) % 256] := by
  have e : List.range 8 = [0, 1, 2, 3, 4, 5, 6, 7] := rfl
  rw [e]
  simp only [List.map_cons, List.map_nil, bits8]
  simp only [List.cons.injEq, and_true]
  refine ⟨?_, ?_, ?_, ?_, ?_, ?_, ?_, ?_⟩ <;> omega

theorem lit_bts (w : World) (cs : Array Value) (l : List Int) (n : Nat) (hcs : cs = idv l) (hl : l.length = n) (hm : n ≤ maxLen) (hok : ∀ j, 0 ≤ l.getD j 0 ∧ l.getD j 0 < 256) :
    Bts (w.alloc (.cells cs 5)) (some ⟨w.heap.size, 0, none⟩) n n l := by
  subst hcs
  refine ⟨hl, Nat.le_refl _, hm, hok, (fun e => by cases e), fun _ => ⟨w.heap.size, 0, rfl, fun j hj => ?_⟩⟩
  rw [Nat.zero_add, cell_of_row _ _ _ _ _ _ (heap_alloc_new w _), idv_get l j (by omega)]
theorem Row.put8 {w : World} {k : Nat} {x0 x1 x2 x3 x4 x5 x6 x7 : Int} (h : Row w k 23 [x0, x1, x2, x3, x4, x5, x6, x7]) (z0 z1 z2 z3 z4 z5 z6 z7 : Int) :
    Row ((((((((w.setCell ⟨k, 0, none⟩ (.int .u32 z0)).setCell ⟨k, 1, none⟩ (.int .u32 z1)).setCell ⟨k, 2, none⟩ (.int .u32 z2)).setCell ⟨k, 3, none⟩ (.int .u32 z3)).setCell ⟨k, 4, none⟩ (.int .u32 z4)).setCell ⟨k, 5, none⟩ (.int .u32 z5)).setCell ⟨k, 6, none⟩ (.int .u32 z6)).setCell ⟨k, 7, none⟩ (.int .u32 z7)) k 23 [z0, z1, z2, z3, z4, z5, z6, z7] :=
  setCells_all (vs := [.int .u32 z0, .int .u32 z1, .int .u32 z2, .int .u32 z3, .int .u32 z4, .int .u32 z5, .int .u32 z6, .int .u32 z7]) (cs := [.int .u32 x0, .int .u32 x1, .int .u32 x2, .int .u32 x3, .int .u32 x4, .int .u32 x5, .int .u32 x6, .int .u32 x7]) h rfl
theorem rounded_range (r l : List Int) (hr : r.length = 8) (i : Nat) : 0 ≤ (roundedL r l).getD i 0 ∧ (roundedL r l).getD i 0 < 4294967296 := by
  obtain ⟨a, b, c, d, e, f, g, h, hx⟩ := eight (runs_length (spreadAll l) r hr 64)
  obtain ⟨r0, r1, r2, r3, r4, r5, r6, r7, rfl⟩ := eight hr
  rw [roundedL, hx]
  match i with
  | 0 => simp [addTo]; omega
  | 1 => simp [addTo]; omega
  | 2 => simp [addTo]; omega
  | 3 => simp [addTo]; omega
  | 4 => simp [addTo]; omega
  | 5 => simp [addTo]; omega
  | 6 => simp [addTo]; omega
  | 7 => simp [addTo]; omega
  | j + 8 => simp [addTo]

set_option maxRecDepth 100000 in
set_option maxHeartbeats 1000000 in
theorem rend_good (x0 x1 x2 x3 x4 x5 x6 x7 : Int) (A : Option Addr) (n c N : Nat) (rest : List Int) (w : World) (hmay : mayB n N = true) (hb : Bts w A n c rest) :
    Calls Tryd.prog 25 #[hashV x0 x1 x2 x3 x4 x5 x6 x7 A n c N] w fun e w' => e = .returned (.agg (idv (endL [x0, x1, x2, x3, x4, x5, x6, x7] rest N))) ∧ Below w.heap.size w w' := by
  obtain ⟨_, hN, hn⟩ := mayB_yes hmay
  have hN : N ≤ 1048576 := by omega
  have hn64 : n < 64 := by omega
  have hno : noughts N ≤ 63 := by unfold noughts; omega
  have hq : (n + 1 + noughts N) % 64 = 56 := noughts_rest n N hn64 hn
  have hq' : ∀ k, k < noughts N → (n + 1 + k) % 64 ≠ 56 := fun k hk => noughts_first n N k hn64 hn hk
  have hrl := hb.len
  have hro := hb.ok
  have hok1 : ∀ k, ∀ j, 0 ≤ (rest ++ [128] ++ List.replicate k 0).getD j 0 ∧ (rest ++ [128] ++ List.replicate k 0).getD j 0 < 256 := fun k => ok_append (ok_append hb.ok (ok_one1 128 (by omega) (by omega))) (ok_rep k)
  obtain ⟨Z, hZE⟩ : ∃ Z, Z = endL [x0, x1, x2, x3, x4, x5, x6, x7] rest N := ⟨_, rfl⟩
  rw [← hZE]
  have HZE := Lib.hid hZE
  have HQ := Lib.hid hq
  have HQ' := Lib.hid hq'
  have HRL := Lib.hid hrl
  have HRO := Lib.hid hro
  have HOK := Lib.hid hok1
  clear hn hq hq' hrl hro hok1 hZE
  go_enter Tryd.func25, Tryd.ntmps25
  go_wp2_with fail
  refine (rmay_any _ _ _ _ _ _ _ _ _ _ _ _ _).mono ?_
  rintro e w0 ⟨rfl, rfl⟩
  generalize hW : World.alloc _ _ = W
  obtain ⟨hB0, hz0, hX0, hO0⟩ := named_three hW
  have hbe : BoxAt W w.heap.size x0 x1 x2 x3 x4 x5 x6 x7 A n c N := hX0
  have hbo : RowB W (w.heap.size + 1) 33 (List.replicate 32 0) := hO0
  obtain ⟨e0, e1, e2, e3, e4, e5, e6, e7, e8, e9⟩ := BoxAt.cells hbe
  rw [hmay]
  clear hW hX0 hO0 hmay
  go_wp2_with (first
    | (at_builtin
       refine wpList_append_b rfl (.const (.slice none 0 0)) (.tmp 15) rfl W.heap.size (.slice none 0 0) [] rfl (Own.nil _ _) A n c rest rfl (hb.below hB0) (by simp only [List.length_nil]; omega) (Nat.le_refl _) ?_
       intro v4 w4 hown4 hg4
       rw [List.nil_append] at hown4
       have hC4 : Below W.heap.size W w4 := (Below.refl _ _).grown hg4 (Nat.le_refl _) (fun k hk => by cases hk)
       have hv4 := hown4.size
       clear hg4)
    | (at_builtin
       refine wpList_append_b rfl (.tmp 17) (.tmp 18) rfl W.heap.size v4 rest rfl (hown4.more _) (some ⟨w4.heap.size, 0, none⟩) 1 1 [128] rfl (one_bts w4 128 (by omega) (by omega)) (by rw [HRL.out]; omega) (Nat.le_trans hC4.size (size_le_alloc _ _)) ?_
       intro v5 w5 hown5 hg5
       have hC5 : Below W.heap.size W w5 := (hC4.alloc hC4.size _).grown hg5 (Nat.le_trans hC4.size (size_le_alloc _ _)) (fun k hk => (hv4 k hk).1)
       clear hg5 hown4 hv4))
  clear e0 e1 e2 e3 e4 e5 e6 e7 e8 e9
  go_loopw [4] (fun v wr => ∃ k : Nat, k ≤ noughts N ∧ Own wr W.heap.size v (rest ++ [128] ++ List.replicate k 0) ∧ Below W.heap.size W wr) (fun v _ => 200 - lenV v)
  case atStart => exact ⟨0, by omega, by simpa using hown5, hC5⟩
  case round =>
    clear hown5 hC5 hC4
    obtain ⟨k, hk, hown, hC⟩ := hrel
    obtain ⟨A', cap, rfl, hbt⟩ := hown.bts (HOK.out k)
    have hlen : (rest ++ [128] ++ List.replicate k (0 : Int)).length = n + 1 + k := by simp only [List.length_append, HRL.out, List.length_cons, List.length_nil, List.length_replicate]
    obtain ⟨L, hL⟩ : ∃ L, L = rest ++ [128] ++ List.replicate k (0 : Int) := ⟨_, rfl⟩
    rw [← hL] at hown hbt hlen
    rw [← hL, hlen]
    rw [hlen] at hown hbt
    have HL := Lib.hid hL
    have HLN := Lib.hid hlen
    clear hL hlen
    by_cases hlt : k < noughts N
    · have hne := HQ'.out k hlt
      have ht : (((n : Int) + 1 + (k : Int)) % 64 != 56) = true := by rw [bne_iff_ne]; omega
      have hsm : L.length + 1 ≤ 140737488355328 := by rw [HLN.out]; omega
      clear hne
      go_wp2_with (first
        | (at_builtin
           refine wpList_append_b rfl (.tmp 24) (.tmp 25) rfl W.heap.size (.slice A' (n + 1 + k) cap) L rfl (hown.more _) (some ⟨wr.heap.size, 0, none⟩) 1 1 [0] rfl (one_bts wr 0 (by omega) (by omega)) hsm (Nat.le_trans hC.size (size_le_alloc _ _)) ?_
           intro v' w' hown' hg'))
      go_roundw
      case rel =>
        refine ⟨k + 1, by omega, ?_, (hC.alloc hC.size _).grown hg' (Nat.le_trans hC.size (size_le_alloc _ _)) (fun g hg => (hown.size g hg).1)⟩
        rw [HL.out, List.append_assoc, ← List.replicate_succ'] at hown'
        exact hown'
      case measure =>
        obtain ⟨A'', c', hv, _⟩ := hown'.bts (HL.out ▸ ok_append (HOK.out k) (ok_one1 0 (by omega) (by omega)))
        rw [hv]
        simp only [lenV, List.length_append, HLN.out, List.length_cons, List.length_nil]
        omega
    · have hk' : k = noughts N := by omega
      have ht : (((n : Int) + 1 + (k : Int)) % 64 != 56) = false := by have := HQ.out; rw [bne_eq_false_iff_eq]; omega
      have hLo : ∀ j, 0 ≤ L.getD j 0 ∧ L.getD j 0 < 256 := by rw [HL.out]; exact HOK.out k
      have hsm : L.length ≤ 200 := by rw [HLN.out]; omega
      have hber := hbe.below hC
      have hbor := hbo.below hC
      obtain ⟨e0, e1, e2, e3, e4, e5, e6, e7, e8, e9⟩ := BoxAt.cells hber
      have hbits := bits8_all N hN
      have HK := Lib.hid hk'
      have HLO := Lib.hid hLo
      have HBITS := Lib.hid hbits
      have hN0 : 0 ≤ (N : Int) := by omega
      have hN1 : (N : Int) ≤ 1048576 := by omega
      clear hk' hlt hLo hbits
      obtain ⟨Q8, hQ8⟩ : ∃ Q8, Q8 = [0, 0, 0, 0, 8 * (N : Int) / 16777216, 8 * (N : Int) / 65536 % 256, 8 * (N : Int) / 256 % 256, 8 * (N : Int) % 256] := ⟨_, rfl⟩
      have hQo : ∀ j, 0 ≤ Q8.getD j 0 ∧ Q8.getD j 0 < 256 := by rw [hQ8, ← HBITS.out]; exact ok_map _ (ok_bits8 N) 8
      obtain ⟨F, hF⟩ : ∃ F, F = L ++ Q8 := ⟨_, rfl⟩
      have hFe : rest ++ endingL N = F := by rw [hF, HL.out, hQ8, ← HBITS.out, endingL, HK.out]; simp only [List.append_assoc]
      have hFl : F.length = n + 1 + k + 8 := by rw [hF, List.length_append, HLN.out, hQ8]; rfl
      have hFm : F.length % 64 = 0 := by have h1 := HQ.out; have h2 := HK.out; rw [hFl]; omega
      have hFo : ∀ j, 0 ≤ F.getD j 0 ∧ F.getD j 0 < 256 := by rw [hF]; exact ok_append HLO.out hQo
      have HQ8 := Lib.hid hQ8
      have HQO := Lib.hid hQo
      have HF := Lib.hid hF
      have HFE := Lib.hid hFe
      have HFL := Lib.hid hFl
      have HFM := Lib.hid hFm
      have HFO := Lib.hid hFo
      have hv7 := hown.size
      clear hQ8 hQo hF hFe hFl hFm hFo
      go_wp2_with (first
        | (at_builtin
           refine wpList_append_b rfl (.tmp 30) (.tmp 45) rfl W.heap.size _ L rfl (hown.more _) (some ⟨wr.heap.size, 0, none⟩) 8 8 Q8 rfl (lit_bts wr _ Q8 8 (by rw [HQ8.out]; rfl) (by rw [HQ8.out]; rfl) (by unfold maxLen; omega) HQO.out) (by omega) (Nat.le_trans hC.size (size_le_alloc _ _)) ?_
           intro v8 w8 hown8 hg8
           have hC8 : Below W.heap.size W w8 := (hC.alloc hC.size _).grown hg8 (Nat.le_trans hC.size (size_le_alloc _ _)) (fun k hk => (hv7 k hk).1)
           rw [← HF.out] at hown8
           obtain ⟨A8, n8, c8, rfl, hbt8⟩ := hown8.slice HFO.out
           have hbe8 : BoxAt w8 w.heap.size x0 x1 x2 x3 x4 x5 x6 x7 A n c N := hbe.below hC8
           have hbo8 := hbo.below hC8 hbo.lt
           obtain ⟨e0, e1, e2, e3, e4, e5, e6, e7, e8, e9⟩ := BoxAt.cells hbe8
           clear hg8 hown8))
      have hn8 : n8 = F.length := hbt8.len.symm
      have hB8 : Below w.heap.size w w8 := hB0.trans (hC8.mono hB0.size)
      have hz8 : w.heap.size + 3 ≤ w8.heap.size := by have := hC8.size; omega
      have HBO := Lib.hid hbo8
      have HB8 := Lib.hid hB8
      clear e0 e1 e2 e3 e4 e5 e6 e7 e8 e9 hbe8 hbo8 hB8 hC8 hown hC hbt hber hbor hv7
      go_loopw [4] (fun v wr => ∃ (j : Nat) (A' : Option Addr) (n' c' : Nat) (y0 y1 y2 y3 y4 y5 y6 y7 : Int), 64 * j + n' = F.length ∧ v = .slice A' n' c' ∧ Bts w8 A' n' c' (F.drop (64 * j)) ∧ blocksL [x0, x1, x2, x3, x4, x5, x6, x7] F j = [y0, y1, y2, y3, y4, y5, y6, y7] ∧
          Row wr w8.heap.size 23 [y0, y1, y2, y3, y4, y5, y6, y7] ∧ Below w8.heap.size w8 wr) (fun v _ => lenV v)
      case atStart => exact ⟨0, A8, n8, c8, x0, x1, x2, x3, x4, x5, x6, x7, by omega, rfl, by rw [Nat.mul_zero, List.drop_zero]; exact hbt8, rfl, heap_alloc_new w8 _, mac_one w8 _⟩
      case round =>
        clear hbt8 hn8
        obtain ⟨j, A', n', c', y0, y1, y2, y3, y4, y5, y6, y7, hjn, rfl, hbt, hY, hrow, hB⟩ := hrel
        by_cases hge : 0 < n'
        · have hge64 : 64 ≤ n' := by have := HFM.out; omega
          have hge' : (0 : Int) < n' := by omega
          obtain ⟨hto, hbtP⟩ := run_to hbt 64 (hi := 64) rfl hge64
          obtain ⟨A2, hfrom, hbt2⟩ := run_from hbt 64 (lo := 64) rfl hge64
          obtain ⟨bb, off, rfl, hcell⟩ := hbtP.at_ (by omega)
          have hblk := block_lt_of_cell (hcell 0 (by omega))
          have hok := hbtP.ok
          have hdrop : (F.drop (64 * j)).drop 64 = F.drop (64 * (j + 1)) := by rw [List.drop_drop]; congr 1
          rw [hdrop] at hbt2
          obtain ⟨P, hP⟩ : ∃ P, P = (F.drop (64 * j)).take 64 := ⟨_, rfl⟩
          rw [← hP] at hcell hok
          have hnext : blocksL [x0, x1, x2, x3, x4, x5, x6, x7] F (j + 1) = roundedL [y0, y1, y2, y3, y4, y5, y6, y7] P := by rw [blocksL, hY, hP]
          have hcr : ∀ k, k < 64 → wr.drew.cell? ⟨bb, off + k, none⟩ = some (.int .u8 (P.getD k 0)) := fun k hk => (hB.cell (p := ⟨bb, off + k, none⟩) hblk).trans (hcell k hk)
          obtain ⟨c0, c1, c2, c3, c4, c5, c6, c7⟩ := hrow.eight
          have HN := Lib.hid hnext
          have HCR := Lib.hid hcr
          have HB := Lib.hid hB
          have HBT2 := Lib.hid hbt2
          have HROW := Lib.hid hrow
          have HOK2 := Lib.hid hok
          clear hnext hcr hB hbt2 hrow hok hcell hP hdrop hbtP hbt hY
          go_wp2
          go_region_with
            (first
            | (go_at_call 39; refine (rround_lit y0 y1 y2 y3 y4 y5 y6 y7 P bb off c' _ HOK2.out HCR.out).mono ?_; rintro e w9 ⟨⟨z0, z1, z2, z3, z4, z5, z6, z7, hz, rfl⟩, hb9⟩
               have hb9 := below_draw hb9
               have hrow9 := HROW.out.below hb9 HROW.out.lt
               have hB9 : Below w8.heap.size w8 w9 := HB.out.trans (hb9.mono HB.out.size)
               obtain ⟨d0, d1, d2, d3, d4, d5, d6, d7⟩ := hrow9.eight
               have f0 := hrow9.free 0
               have f1 := hrow9.free 1
               have f2 := hrow9.free 2
               have f3 := hrow9.free 3
               have f4 := hrow9.free 4
               have f5 := hrow9.free 5
               have f6 := hrow9.free 6
               have f7 := hrow9.free 7))
          generalize hW9 : World.setCell _ _ _ = W9
          have hrowW : Row W9 w8.heap.size 23 [z0, z1, z2, z3, z4, z5, z6, z7] := by rw [← hW9]; exact hrow9.put8 _ _ _ _ _ _ _ _
          have hBW : Below w8.heap.size w8 W9 := by rw [← hW9]; exact below_put8 (Nat.le_refl _) hB9 _ _ _ _ _ _ _ _
          clear hW9 hB9 hrow9 d0 d1 d2 d3 d4 d5 d6 d7 f0 f1 f2 f3 f4 f5 f6 f7
          go_wp2
          go_roundw
          case rel => exact ⟨j + 1, A2, n' - 64, c' - 64, z0, z1, z2, z3, z4, z5, z6, z7, by omega, rfl, HBT2.out, by rw [HN.out, hz], hrowW, hBW⟩
          case measure => simp only [lenV]; omega
        · have hn0 : n' = 0 := by omega
          have hge' : ¬ ((0 : Int) < n') := by omega
          have hj : j = F.length / 64 := by omega
          have hj1 : 1 ≤ F.length / 64 := by have := HFL.out; have := HFM.out; omega
          have hY' : byBlocks [x0, x1, x2, x3, x4, x5, x6, x7] F = [y0, y1, y2, y3, y4, y5, y6, y7] := by rw [byBlocks, ← hj, hY]
          obtain ⟨R, hR⟩ : ∃ R, R = [y0, y1, y2, y3, y4, y5, y6, y7] := ⟨_, rfl⟩
          have hRl : R.length = 8 := by rw [hR]; rfl
          have hRr : ∀ i, 0 ≤ R.getD i 0 ∧ R.getD i 0 < 4294967296 := by
            obtain ⟨q, hq⟩ : ∃ q, F.length / 64 = q + 1 := ⟨F.length / 64 - 1, by omega⟩
            rw [hR, ← hY', byBlocks, hq, blocksL]
            exact fun i => rounded_range _ _ (blocks_length _ _ rfl _) i
          rw [← hR] at hY' hrow
          have HY := Lib.hid hY'
          have HRL2 := Lib.hid hRl
          have HRR := Lib.hid hRr
          have HROW := Lib.hid hrow
          have HB := Lib.hid hB
          have hz10 := hB.size
          have hrl10 := hrow.lt
          clear hY hY' hR hRl hRr hrow hB hbt hj hj1
          obtain ⟨w10, hw10⟩ : ∃ x, x = wr := ⟨wr, rfl⟩
          subst hw10
          go_wp2
          go_loopw [8] (fun i ws => ∃ q : Nat, q ≤ 8 ∧ i = .int .i64 q ∧ RowB ws w10.heap.size 33 (fillTo (speltAt R) 32 (4 * q)) ∧ Below w10.heap.size w10 ws) (fun i _ => 8 - (intOf i).toNat)
          case atStart => exact ⟨0, by omega, rfl, rowb_lit w10 33 _ _ rfl, mac_one w10 _⟩
          case round =>
            obtain ⟨q, hq, rfl, hX, hB3⟩ := hrel
            have hXl := fillTo_length (speltAt R) 32 (4 * q)
            by_cases hlt : q < 8
            · have hRc := (HROW.out.below hB3 hrl10).cell q (by rw [HRL2.out]; omega)
              have hyr := HRR.out q
              have x0' := hX.cell (4 * q) (by omega)
              have x1' := hX.cell (4 * q + 1) (by omega)
              have x2' := hX.cell (4 * q + 2) (by omega)
              have x3' := hX.cell (4 * q + 3) (by omega)
              have f0' := hX.free (4 * q)
              have f1' := hX.free (4 * q + 1)
              have f2' := hX.free (4 * q + 2)
              have f3' := hX.free (4 * q + 3)
              obtain ⟨y, hy⟩ : ∃ y, y = R.getD q 0 := ⟨_, rfl⟩
              rw [← hy] at hRc hyr
              obtain ⟨hy0, hy1⟩ := hyr
              have v0 : speltAt R (4 * q) = y / 16777216 := by
                rw [speltAt, show 4 * q / 4 = q by omega, show 4 * q % 4 = 0 by omega, ← hy]
                show y / 16777216 % 256 = y / 16777216
                omega
              have v1 : speltAt R (4 * q + 1) = y / 65536 % 256 := by
                rw [speltAt, show (4 * q + 1) / 4 = q by omega, show (4 * q + 1) % 4 = 1 by omega, ← hy]
                rfl
              have v2 : speltAt R (4 * q + 2) = y / 256 % 256 := by
                rw [speltAt, show (4 * q + 2) / 4 = q by omega, show (4 * q + 2) % 4 = 2 by omega, ← hy]
                rfl
              have v3 : speltAt R (4 * q + 3) = y % 256 := by
                rw [speltAt, show (4 * q + 3) / 4 = q by omega, show (4 * q + 3) % 4 = 3 by omega, ← hy]
                show y / 1 % 256 = y % 256
                rw [Int.ediv_one]
              have hnext : fillTo (speltAt R) 32 (4 * (q + 1)) = ((((fillTo (speltAt R) 32 (4 * q)).set (4 * q) (y / 16777216)).set (4 * q + 1) (y / 65536 % 256)).set (4 * q + 2) (y / 256 % 256)).set (4 * q + 3) (y % 256) := by
                rw [← v0, ← v1, ← v2, ← v3]
                rfl
              have HN := Lib.hid hnext
              have HXX := Lib.hid hX
              have HB3 := Lib.hid hB3
              clear hy v0 v1 v2 v3 hnext hX hB3 hXl
              go_wp2
              go_roundw
              case rel =>
                refine ⟨q + 1, by omega, by go_num, ?_, ?_⟩
                · rw [HN.out]
                  exact (((HXX.out.put _ _).put _ _).put _ _).put _ _
                · exact (((HB3.out.setCell (p := ⟨w10.heap.size, 4 * q, none⟩) (Nat.le_refl _) _).setCell (p := ⟨w10.heap.size, 4 * q + 1, none⟩) (Nat.le_refl _) _).setCell (p := ⟨w10.heap.size, 4 * q + 2, none⟩) (Nat.le_refl _) _).setCell (p := ⟨w10.heap.size, 4 * q + 3, none⟩) (Nat.le_refl _) _
              case measure => simp [intOf]; omega
            · have h8 : q = 8 := by omega
              have hge8 : 8 ≤ q := by omega
              have hX8 : RowB wr w10.heap.size 33 (fillTo (speltAt R) 32 32) := by rw [h8] at hX; exact hX
              rw [fillTo_all] at hX8
              have hZ : Z = speltL R := by rw [HZE.out, endL, HFE.out, HY.out]
              have hXZ : RowB wr w10.heap.size 33 Z := by rw [hZ]; exact hX8
              have hZl : Z.length = 32 := by rw [hZ]; exact spelt_length R
              have hO10 : RowB w10 (w.heap.size + 1) 33 (List.replicate 32 0) := HBO.out.below HB.out HBO.out.lt
              have hO : RowB wr (w.heap.size + 1) 33 (List.replicate 32 0) := hO10.below hB3 hO10.lt
              have hBr : Below w.heap.size w wr := (HB8.out.trans (HB.out.mono HB8.out.size)).trans (hB3.mono (by have := HB.out.size; have := HB8.out.size; omega))
              have HZL := Lib.hid hZl
              clear hX hX8 hZ hZl hlt hq h8 hXl hB3 hO10
              go_wp2_with (first
                | ((with_reducible refine wpList_load_b rfl 33 _ _ rfl w10.heap.size ?hx6 33 Z hXZ Tryd.underlying33 ?hd6 (info32 HZL.out) ?_); (case hx6 => rfl); (case hd6 => rfl))
                | ((with_reducible refine wpList_store_b rfl 33 _ _ rfl (w.heap.size + 1) Z ?hx7 ?hy7 33 (List.replicate 32 0) hO (info32 HZL.out) ?hl7 ?_); (case hx7 => rfl); (case hy7 => rfl); (case hl7 => rw [HZL.out]; rfl)
                   intro w6 hg6 hX6 hs6))
              refine bodyPost_ret (v := .agg (idv Z)) ?_ ?_ ?_
              · exact results_cell_row Tryd.results25 _ _ (w.heap.size + 1) 33 _ (0, 0) _ rfl hX6.is Tryd.underlying33 rfl (info32 HZL.out)
              · rfl
              · exact ⟨rfl, Below.grows hBr hg6 hBr.size (by omega)⟩
end Go.Proofs.YtomfnnhdihbpfaaDoor
