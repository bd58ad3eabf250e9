/- Joined texts: The walk over the plain answers' Add, where the state may be, and there is room for the bytes. The walk over the plain answers' End: the sum of a state. The walks over the plain answers' Add and End, where they answer noughts. The walk over the plain answers' Sum. The walk over the document's Link: the head with one entry more. The walk over package entry's Get. Pieces of a slice of bytes; what a step of reading a chain meets. What the laws on chains ask, plainly. -/
import Derived.Test.YtafmompplcaadaaGreatDoorAuJF
import Derived.Test.YtafmompplcaadaaGreatDoorAuJD
import Derived.Test.YtafmompplcaadaaGreatDoorAuJE
/- The walk over the plain answers' Add, where the state may be, and there is room for the bytes. -/
namespace Go.Proofs.YtafmompplcaadaaGreatDoor
open Go.RowKit

theorem rround_lit (y0 y1 y2 y3 y4 y5 y6 y7 : Int) (l : List Int) (b off cap : Nat) (w : World) (hby : ∀ j, 0 ≤ l.getD j 0 ∧ l.getD j 0 < 256) (hc : ∀ j, j < 64 → w.cell? ⟨b, off + j, none⟩ = some (.int .u8 (l.getD j 0))) :
    Calls Tryz.prog 94 #[.agg #[.int .u32 y0, .int .u32 y1, .int .u32 y2, .int .u32 y3, .int .u32 y4, .int .u32 y5, .int .u32 y6, .int .u32 y7], .slice (some ⟨b, off, none⟩) 64 cap] w
      fun e w' => (∃ z0 z1 z2 z3 z4 z5 z6 z7 : Int, roundedL [y0, y1, y2, y3, y4, y5, y6, y7] l = [z0, z1, z2, z3, z4, z5, z6, z7] ∧ e = .returned (.agg #[.int .u32 z0, .int .u32 z1, .int .u32 z2, .int .u32 z3, .int .u32 z4, .int .u32 z5, .int .u32 z6, .int .u32 z7])) ∧ Below w.heap.size w w' := by
  refine (rround_any [y0, y1, y2, y3, y4, y5, y6, y7] l b off cap w rfl hby hc).mono ?_
  rintro e w' ⟨he, hb⟩
  obtain ⟨z0, z1, z2, z3, z4, z5, z6, z7, hz⟩ := eight (rounded_length [y0, y1, y2, y3, y4, y5, y6, y7] l rfl)
  rw [hz] at he
  exact ⟨⟨z0, z1, z2, z3, z4, z5, z6, z7, hz, he⟩, hb⟩
/-- a state's register, overwritten -/
theorem BoxAt.put8 {w : World} {k : Nat} {x0 x1 x2 x3 x4 x5 x6 x7 : Int} {A : Option Addr} {n c : Nat} {len : Int} (h : BoxAt w k x0 x1 x2 x3 x4 x5 x6 x7 A n c len) (z0 z1 z2 z3 z4 z5 z6 z7 : Int) :
    BoxAt ((((((((w.setCell ⟨k, 0, none⟩ (.int .u32 z0)).setCell ⟨k, 1, none⟩ (.int .u32 z1)).setCell ⟨k, 2, none⟩ (.int .u32 z2)).setCell ⟨k, 3, none⟩ (.int .u32 z3)).setCell ⟨k, 4, none⟩ (.int .u32 z4)).setCell ⟨k, 5, none⟩ (.int .u32 z5)).setCell ⟨k, 6, none⟩ (.int .u32 z6)).setCell ⟨k, 7, none⟩ (.int .u32 z7)) k z0 z1 z2 z3 z4 z5 z6 z7 A n c len := by
  have := setCells_heap k 110 [.int .u32 z0, .int .u32 z1, .int .u32 z2, .int .u32 z3, .int .u32 z4, .int .u32 z5, .int .u32 z6, .int .u32 z7] 0 w [.int .u32 x0, .int .u32 x1, .int .u32 x2, .int .u32 x3, .int .u32 x4, .int .u32 x5, .int .u32 x6, .int .u32 x7, .slice A n c, .int .i64 len] h (by simp)
  exact this
theorem below_put8 {B : Nat} {w0 w : World} {k : Nat} (hk : B ≤ k) (h : Below B w0 w) (v0 v1 v2 v3 v4 v5 v6 v7 : Value) : Below B w0 ((((((((w.setCell ⟨k, 0, none⟩ v0).setCell ⟨k, 1, none⟩ v1).setCell ⟨k, 2, none⟩ v2).setCell ⟨k, 3, none⟩ v3).setCell ⟨k, 4, none⟩ v4).setCell ⟨k, 5, none⟩ v5).setCell ⟨k, 6, none⟩ v6).setCell ⟨k, 7, none⟩ v7) :=
  setCells_below hk [v0, v1, v2, v3, v4, v5, v6, v7] 0 w h
theorem BoxAt.rest {w : World} {k : Nat} {x0 x1 x2 x3 x4 x5 x6 x7 : Int} {A A' : Option Addr} {n c n' c' : Nat} {len : Int} (h : BoxAt w k x0 x1 x2 x3 x4 x5 x6 x7 A n c len) : BoxAt (w.setCell ⟨k, 8, none⟩ (.slice A' n' c')) k x0 x1 x2 x3 x4 x5 x6 x7 A' n' c' len := by
  have := setCells_heap k 110 [.slice A' n' c'] 8 w [.int .u32 x0, .int .u32 x1, .int .u32 x2, .int .u32 x3, .int .u32 x4, .int .u32 x5, .int .u32 x6, .int .u32 x7, .slice A n c, .int .i64 len] h (by simp)
  exact this

set_option maxRecDepth 100000 in
set_option maxHeartbeats 1000000 in
theorem radd_good (x0 x1 x2 x3 x4 x5 x6 x7 : Int) (A B : Option Addr) (n c N m d : Nat) (rest b : List Int) (w : World) (hmay : mayB n N = true) (hroom : (m : Int) ≤ 1048576 - N) (ha : Bts w A n c rest) (hb : Bts w B m d b) :
    Calls Tryz.prog 79 #[hashV x0 x1 x2 x3 x4 x5 x6 x7 A n c N, .slice B m d] w (AddPost w [x0, x1, x2, x3, x4, x5, x6, x7] (rest ++ b) ((N : Int) + (m : Int))) := by
  obtain ⟨_, hN, hn⟩ := mayB_yes hmay
  have hN : N ≤ 1048576 := by omega
  have hn64 : n < 64 := by omega
  have hm : m ≤ 1048576 := by omega
  obtain ⟨L, hL⟩ : ∃ L, L = rest ++ b := ⟨_, rfl⟩
  have hLl : L.length = n + m := by rw [hL, List.length_append, ha.len, hb.len]
  have hLo : ∀ j, 0 ≤ L.getD j 0 ∧ L.getD j 0 < 256 := by rw [hL]; exact ok_append ha.ok hb.ok
  rw [← hL]
  have hal := ha.len
  have hsum : IntKind.i64.wrap ((N : Int) + (m : Int)) = (N : Int) + (m : Int) := IntWalk.i64_in _ (by omega)
  have HL := Lib.hid hL
  have HLL := Lib.hid hLl
  have HLO := Lib.hid hLo
  have HAL := Lib.hid hal
  clear hL hLl hLo hn hal
  go_enter Tryz.func79, Tryz.ntmps79
  go_wp2_with fail
  refine (rmay_any _ _ _ _ _ _ _ _ _ _ _ _ _).mono ?_
  rintro e w0 ⟨rfl, rfl⟩
  generalize hW : World.alloc _ _ = W
  obtain ⟨hB0, hz0, hX0, hO0⟩ := named_three hW
  have hbe : BoxAt W w.heap.size x0 x1 x2 x3 x4 x5 x6 x7 A n c N := hX0
  have hbo : BoxAt W (w.heap.size + 1) 0 0 0 0 0 0 0 0 none 0 0 0 := hO0
  obtain ⟨e0, e1, e2, e3, e4, e5, e6, e7, e8, e9⟩ := BoxAt.cells hbe
  rw [hmay]
  clear hW hX0 hO0 hmay
  go_wp2_with (first
    | (at_builtin
       refine wpList_append_b rfl (.const (.slice none 0 0)) (.tmp 22) rfl W.heap.size (.slice none 0 0) [] rfl (Own.nil _ _) A n c rest rfl (ha.below hB0) (by simp only [List.length_nil]; omega) (Nat.le_refl _) ?_
       intro v4 w4 hown4 hg4
       rw [List.nil_append] at hown4
       have hC4 : Below W.heap.size W w4 := (Below.refl _ _).grown hg4 (Nat.le_refl _) (fun k hk => by cases hk)
       have hv4 := hown4.size
       clear hg4)
    | (at_builtin
       refine wpList_append_b rfl (.tmp 24) (.tmp 25) rfl W.heap.size v4 rest rfl hown4 B m d b rfl ((hb.below hB0).below hC4) (by rw [HAL.out]; omega) hC4.size ?_
       intro v5 w5 hown5 hg5
       have hC5 : Below W.heap.size W w5 := hC4.grown hg5 hC4.size (fun k hk => (hv4 k hk).1)
       rw [← HL.out] at hown5
       obtain ⟨A5, n5, c5, rfl, hbt5⟩ := hown5.slice HLO.out
       have hbe5 : BoxAt w5 w.heap.size x0 x1 x2 x3 x4 x5 x6 x7 A n c N := hbe.below hC5
       obtain ⟨e0, e1, e2, e3, e4, e5, e6, e7, e8, e9⟩ := BoxAt.cells hbe5
       clear hg5 hown5 hown4 hv4))
  have hn5 : n5 = n + m := by have h1 := hbt5.len; rw [HLL.out] at h1; omega
  have hbo5 : BoxAt w5 (w.heap.size + 1) 0 0 0 0 0 0 0 0 none 0 0 0 := hbo.below hC5
  have hB5 : Below w.heap.size w w5 := hB0.trans (hC5.mono hB0.size)
  have hz5 : w.heap.size + 3 ≤ w5.heap.size := by have := hC5.size; omega
  have HBE := Lib.hid hbo5
  have HB5 := Lib.hid hB5
  have HC5 := Lib.hid hC5
  clear e0 e1 e2 e3 e4 e5 e6 e7 e8 e9 hbe hbe5 hbo hbo5 hB5 hC5 hC4 hB0 ha hb
  go_loopw [6] (fun v wr => ∃ (j : Nat) (A' : Option Addr) (n' c' : Nat) (y0 y1 y2 y3 y4 y5 y6 y7 : Int), 64 * j + n' = n + m ∧ v = .slice A' n' c' ∧ Bts w5 A' n' c' (L.drop (64 * j)) ∧ blocksL [x0, x1, x2, x3, x4, x5, x6, x7] L j = [y0, y1, y2, y3, y4, y5, y6, y7] ∧
      BoxAt wr w5.heap.size y0 y1 y2 y3 y4 y5 y6 y7 none 0 0 ((N : Int) + (m : Int)) ∧ Below w5.heap.size w5 wr) (fun v _ => lenV v)
  case atStart => exact ⟨0, A5, n5, c5, x0, x1, x2, x3, x4, x5, x6, x7, by omega, rfl, by rw [Nat.mul_zero, List.drop_zero]; exact hbt5, rfl, heap_alloc_new w5 _, mac_one w5 _⟩
  case round =>
    clear hbt5 hn5
    obtain ⟨j, A', n', c', y0, y1, y2, y3, y4, y5, y6, y7, hjn, rfl, hbt, hY, hbox, hB⟩ := hrel
    by_cases hge : 64 ≤ n'
    · have hge' : (64 : Int) ≤ n' := by omega
      obtain ⟨hto, hbtP⟩ := run_to hbt 64 (hi := 64) rfl hge
      obtain ⟨A2, hfrom, hbt2⟩ := run_from hbt 64 (lo := 64) rfl hge
      obtain ⟨bb, off, rfl, hcell⟩ := hbtP.at_ (by omega)
      have hblk := block_lt_of_cell (hcell 0 (by omega))
      have hok := hbtP.ok
      have hdrop : (L.drop (64 * j)).drop 64 = L.drop (64 * (j + 1)) := by rw [List.drop_drop]; congr 1
      rw [hdrop] at hbt2
      obtain ⟨P, hP⟩ : ∃ P, P = (L.drop (64 * j)).take 64 := ⟨_, rfl⟩
      rw [← hP] at hcell hok
      have hnext : blocksL [x0, x1, x2, x3, x4, x5, x6, x7] L (j + 1) = roundedL [y0, y1, y2, y3, y4, y5, y6, y7] P := by rw [blocksL, hY, hP]
      have hcr : ∀ k, k < 64 → wr.drew.cell? ⟨bb, off + k, none⟩ = some (.int .u8 (P.getD k 0)) := fun k hk => (hB.cell (p := ⟨bb, off + k, none⟩) hblk).trans (hcell k hk)
      have HN := Lib.hid hnext
      have HCR := Lib.hid hcr
      have HB := Lib.hid hB
      have HBT2 := Lib.hid hbt2
      have HBOX := Lib.hid hbox
      have HOK := Lib.hid hok
      clear hnext hcr hB hbt2 hbox hok hcell hP hdrop hbtP hbt hY
      obtain ⟨c0, c1, c2, c3, c4, c5, c6, c7, _, _⟩ := BoxAt.cells HBOX.out
      go_wp2
      go_region_with
        (first
        | (go_at_call 94; refine (rround_lit y0 y1 y2 y3 y4 y5 y6 y7 P bb off c' _ HOK.out HCR.out).mono ?_; rintro e w7 ⟨⟨z0, z1, z2, z3, z4, z5, z6, z7, hz, rfl⟩, hb7⟩
           have hb7 := below_draw hb7
           have hbox7 := HBOX.out.below hb7
           have hB7 : Below w5.heap.size w5 w7 := HB.out.trans (hb7.mono HB.out.size)
           obtain ⟨d0, d1, d2, d3, d4, d5, d6, d7, _, _⟩ := BoxAt.cells hbox7
           obtain ⟨f0, f1, f2, f3, f4, f5, f6, f7, _, _⟩ := BoxAt.free hbox7))
      generalize hW7 : World.setCell _ _ _ = W7
      have hboxW : BoxAt W7 w5.heap.size z0 z1 z2 z3 z4 z5 z6 z7 none 0 0 ((N : Int) + (m : Int)) := by rw [← hW7]; exact hbox7.put8 _ _ _ _ _ _ _ _
      have hBW : Below w5.heap.size w5 W7 := by rw [← hW7]; exact below_put8 (Nat.le_refl _) hB7 _ _ _ _ _ _ _ _
      clear hW7 hB7 hbox7 d0 d1 d2 d3 d4 d5 d6 d7 f0 f1 f2 f3 f4 f5 f6 f7
      go_wp2
      go_roundw
      case rel => exact ⟨j + 1, A2, n' - 64, c' - 64, z0, z1, z2, z3, z4, z5, z6, z7, by omega, rfl, HBT2.out, by rw [HN.out, hz], hboxW, hBW⟩
      case measure => simp only [lenV]; omega
    · have hlt' : (n' : Int) < 64 := by omega
      have hj : j = L.length / 64 := by rw [HLL.out]; omega
      have hw : 64 * j = whole L := by rw [whole, hj, Nat.mul_comm]
      have hY' : byBlocks [x0, x1, x2, x3, x4, x5, x6, x7] (L.take (whole L)) = [y0, y1, y2, y3, y4, y5, y6, y7] := by rw [byBlocks_whole, ← hj, hY]
      rw [hw] at hbt
      have hbtr := hbt.below hB
      have hbor := HBE.out.below hB
      obtain ⟨c0, c1, c2, c3, c4, c5, c6, c7, c8, c9⟩ := BoxAt.cells hbox
      obtain ⟨f0, f1, f2, f3, f4, f5, f6, f7, f8, f9⟩ := BoxAt.free hbox
      obtain ⟨o0, o1, o2, o3, o4, o5, o6, o7, o8, o9⟩ := BoxAt.cells hbor
      obtain ⟨g0, g1, g2, g3, g4, g5, g6, g7, g8, g9⟩ := BoxAt.free hbor
      have HY := Lib.hid hY'
      have HBOX := Lib.hid hbox
      have HBT := Lib.hid hbtr
      have HBO := Lib.hid hbor
      have HB := Lib.hid hB
      clear hY hY' hbox hbtr hbor hB hbt hw hj
      have hi26 : (Tryz.prog.info? 110).map (·.size) = some 10 := by kernel_rfl
      go_wp2
      have hbo8 : BoxAt (wr.setCell ⟨w5.heap.size, 8, none⟩ (.slice A' n' c')) (w.heap.size + 1) 0 0 0 0 0 0 0 0 none 0 0 0 := HBO.out.sets (by omega) 8 [.slice A' n' c']
      have hbt8 : Bts (wr.setCell ⟨w5.heap.size, 8, none⟩ (.slice A' n' c')) A' n' c' (L.drop (whole L)) := HBT.out.sets HBOX.out 8 [.slice A' n' c']
      have hB8 : Below w.heap.size w (wr.setCell ⟨w5.heap.size, 8, none⟩ (.slice A' n' c')) := (HB5.out.trans (HB.out.mono HB5.out.size)).setCell (p := ⟨w5.heap.size, 8, none⟩) HB5.out.size _
      refine bodyPost_ret (v := hashV y0 y1 y2 y3 y4 y5 y6 y7 A' n' c' ((N : Int) + (m : Int))) ?_ ?_ ?_
      · exact results_cell_row Tryz.results79 _ _ (w.heap.size + 1) 110 _ (0, 0) _ rfl (heap_put10 hbo8 _ _ _ _ _ _ _ _ _ _) Tryz.underlying110 rfl hi26
      · rfl
      · exact ⟨y0, y1, y2, y3, y4, y5, y6, y7, A', n', c', rfl, HY.out, hbt8.put10 hbo8 _ _ _ _ _ _ _ _ _ _, below_put10 (Nat.le_succ _) hB8 _ _ _ _ _ _ _ _ _ _⟩
end Go.Proofs.YtafmompplcaadaaGreatDoor

/- The walk over the plain answers' End: the sum of a state. -/
namespace Go.Proofs.YtafmompplcaadaaGreatDoor
open Go.RowKit

theorem noughts_rest (n N : Nat) (_hn : n < 64) (h : (n : Int) = (N : Int) % 64) : (n + 1 + noughts N) % 64 = 56 := by
  unfold noughts
  omega
theorem noughts_first (n N k : Nat) (_hn : n < 64) (h : (n : Int) = (N : Int) % 64) (hk : k < noughts N) : (n + 1 + k) % 64 ≠ 56 := by
  unfold noughts at hk
  omega
theorem bits8_all (N : Nat) (hN : N ≤ 1048576) : (List.range 8).map (bits8 N) = [0, 0, 0, 0, 8 * (N : Int) / 16777216, 8 * (N : Int) / 65536 % 256, 8 * (N : Int) / 256 % 256, 8 * (N : Int) % 256] := by
  have e : List.range 8 = [0, 1, 2, 3, 4, 5, 6, 7] := rfl
  rw [e]
  simp only [List.map_cons, List.map_nil, bits8]
  simp only [List.cons.injEq, and_true]
  refine ⟨?_, ?_, ?_, ?_, ?_, ?_, ?_, ?_⟩ <;> omega

theorem Row.put8 {w : World} {k : Nat} {x0 x1 x2 x3 x4 x5 x6 x7 : Int} (h : Row w k 108 [x0, x1, x2, x3, x4, x5, x6, x7]) (z0 z1 z2 z3 z4 z5 z6 z7 : Int) :
    Row ((((((((w.setCell ⟨k, 0, none⟩ (.int .u32 z0)).setCell ⟨k, 1, none⟩ (.int .u32 z1)).setCell ⟨k, 2, none⟩ (.int .u32 z2)).setCell ⟨k, 3, none⟩ (.int .u32 z3)).setCell ⟨k, 4, none⟩ (.int .u32 z4)).setCell ⟨k, 5, none⟩ (.int .u32 z5)).setCell ⟨k, 6, none⟩ (.int .u32 z6)).setCell ⟨k, 7, none⟩ (.int .u32 z7)) k 108 [z0, z1, z2, z3, z4, z5, z6, z7] :=
  setCells_all (vs := [.int .u32 z0, .int .u32 z1, .int .u32 z2, .int .u32 z3, .int .u32 z4, .int .u32 z5, .int .u32 z6, .int .u32 z7]) (cs := [.int .u32 x0, .int .u32 x1, .int .u32 x2, .int .u32 x3, .int .u32 x4, .int .u32 x5, .int .u32 x6, .int .u32 x7]) h rfl
theorem rounded_range (r l : List Int) (hr : r.length = 8) (i : Nat) : 0 ≤ (roundedL r l).getD i 0 ∧ (roundedL r l).getD i 0 < 4294967296 := by
  obtain ⟨a, b, c, d, e, f, g, h, hx⟩ := eight (runs_length (spreadAll l) r hr 64)
  obtain ⟨r0, r1, r2, r3, r4, r5, r6, r7, rfl⟩ := eight hr
  rw [roundedL, hx]
  match i with
  | 0 => simp [addTo]; omega
  | 1 => simp [addTo]; omega
  | 2 => simp [addTo]; omega
  | 3 => simp [addTo]; omega
  | 4 => simp [addTo]; omega
  | 5 => simp [addTo]; omega
  | 6 => simp [addTo]; omega
  | 7 => simp [addTo]; omega
  | j + 8 => simp [addTo]

set_option maxRecDepth 100000 in
set_option maxHeartbeats 1000000 in
theorem rend_good (x0 x1 x2 x3 x4 x5 x6 x7 : Int) (A : Option Addr) (n c N : Nat) (rest : List Int) (w : World) (hmay : mayB n N = true) (hb : Bts w A n c rest) :
    Calls Tryz.prog 78 #[hashV x0 x1 x2 x3 x4 x5 x6 x7 A n c N] w fun e w' => e = .returned (.agg (idv (endL [x0, x1, x2, x3, x4, x5, x6, x7] rest N))) ∧ Below w.heap.size w w' := by
  obtain ⟨_, hN, hn⟩ := mayB_yes hmay
  have hN : N ≤ 1048576 := by omega
  have hn64 : n < 64 := by omega
  have hno : noughts N ≤ 63 := by unfold noughts; omega
  have hq : (n + 1 + noughts N) % 64 = 56 := noughts_rest n N hn64 hn
  have hq' : ∀ k, k < noughts N → (n + 1 + k) % 64 ≠ 56 := fun k hk => noughts_first n N k hn64 hn hk
  have hrl := hb.len
  have hro := hb.ok
  have hok1 : ∀ k, ∀ j, 0 ≤ (rest ++ [128] ++ List.replicate k 0).getD j 0 ∧ (rest ++ [128] ++ List.replicate k 0).getD j 0 < 256 := fun k => ok_append (ok_append hb.ok (ok_one1 128 (by omega) (by omega))) (ok_rep k)
  obtain ⟨Z, hZE⟩ : ∃ Z, Z = endL [x0, x1, x2, x3, x4, x5, x6, x7] rest N := ⟨_, rfl⟩
  rw [← hZE]
  have HZE := Lib.hid hZE
  have HQ := Lib.hid hq
  have HQ' := Lib.hid hq'
  have HRL := Lib.hid hrl
  have HRO := Lib.hid hro
  have HOK := Lib.hid hok1
  clear hn hq hq' hrl hro hok1 hZE
  go_enter Tryz.func78, Tryz.ntmps78
  go_wp2_with fail
  refine (rmay_any _ _ _ _ _ _ _ _ _ _ _ _ _).mono ?_
  rintro e w0 ⟨rfl, rfl⟩
  generalize hW : World.alloc _ _ = W
  obtain ⟨hB0, hz0, hX0, hO0⟩ := named_three hW
  have hbe : BoxAt W w.heap.size x0 x1 x2 x3 x4 x5 x6 x7 A n c N := hX0
  have hbo : RowB W (w.heap.size + 1) 27 (List.replicate 32 0) := hO0
  obtain ⟨e0, e1, e2, e3, e4, e5, e6, e7, e8, e9⟩ := BoxAt.cells hbe
  rw [hmay]
  clear hW hX0 hO0 hmay
  go_wp2_with (first
    | (at_builtin
       refine wpList_append_b rfl (.const (.slice none 0 0)) (.tmp 15) rfl W.heap.size (.slice none 0 0) [] rfl (Own.nil _ _) A n c rest rfl (hb.below hB0) (by simp only [List.length_nil]; omega) (Nat.le_refl _) ?_
       intro v4 w4 hown4 hg4
       rw [List.nil_append] at hown4
       have hC4 : Below W.heap.size W w4 := (Below.refl _ _).grown hg4 (Nat.le_refl _) (fun k hk => by cases hk)
       have hv4 := hown4.size
       clear hg4)
    | (at_builtin
       refine wpList_append_b rfl (.tmp 17) (.tmp 18) rfl W.heap.size v4 rest rfl (hown4.more _) (some ⟨w4.heap.size, 0, none⟩) 1 1 [128] rfl (one_bts w4 128 (by omega) (by omega)) (by rw [HRL.out]; omega) (Nat.le_trans hC4.size (size_le_alloc _ _)) ?_
       intro v5 w5 hown5 hg5
       have hC5 : Below W.heap.size W w5 := (hC4.alloc hC4.size _).grown hg5 (Nat.le_trans hC4.size (size_le_alloc _ _)) (fun k hk => (hv4 k hk).1)
       clear hg5 hown4 hv4))
  clear e0 e1 e2 e3 e4 e5 e6 e7 e8 e9
  go_loopw [4] (fun v wr => ∃ k : Nat, k ≤ noughts N ∧ Own wr W.heap.size v (rest ++ [128] ++ List.replicate k 0) ∧ Below W.heap.size W wr) (fun v _ => 200 - lenV v)
  case atStart => exact ⟨0, by omega, by simpa using hown5, hC5⟩
  case round =>
    clear hown5 hC5 hC4
    obtain ⟨k, hk, hown, hC⟩ := hrel
    obtain ⟨A', cap, rfl, hbt⟩ := hown.bts (HOK.out k)
    have hlen : (rest ++ [128] ++ List.replicate k (0 : Int)).length = n + 1 + k := by simp only [List.length_append, HRL.out, List.length_cons, List.length_nil, List.length_replicate]
    obtain ⟨L, hL⟩ : ∃ L, L = rest ++ [128] ++ List.replicate k (0 : Int) := ⟨_, rfl⟩
    rw [← hL] at hown hbt hlen
    rw [← hL, hlen]
    rw [hlen] at hown hbt
    have HL := Lib.hid hL
    have HLN := Lib.hid hlen
    clear hL hlen
    by_cases hlt : k < noughts N
    · have hne := HQ'.out k hlt
      have ht : (((n : Int) + 1 + (k : Int)) % 64 != 56) = true := by rw [bne_iff_ne]; omega
      have hsm : L.length + 1 ≤ 140737488355328 := by rw [HLN.out]; omega
      clear hne
      go_wp2_with (first
        | (at_builtin
           refine wpList_append_b rfl (.tmp 24) (.tmp 25) rfl W.heap.size (.slice A' (n + 1 + k) cap) L rfl (hown.more _) (some ⟨wr.heap.size, 0, none⟩) 1 1 [0] rfl (one_bts wr 0 (by omega) (by omega)) hsm (Nat.le_trans hC.size (size_le_alloc _ _)) ?_
           intro v' w' hown' hg'))
      go_roundw
      case rel =>
        refine ⟨k + 1, by omega, ?_, (hC.alloc hC.size _).grown hg' (Nat.le_trans hC.size (size_le_alloc _ _)) (fun g hg => (hown.size g hg).1)⟩
        rw [HL.out, List.append_assoc, ← List.replicate_succ'] at hown'
        exact hown'
      case measure =>
        obtain ⟨A'', c', hv, _⟩ := hown'.bts (HL.out ▸ ok_append (HOK.out k) (ok_one1 0 (by omega) (by omega)))
        rw [hv]
        simp only [lenV, List.length_append, HLN.out, List.length_cons, List.length_nil]
        omega
    · have hk' : k = noughts N := by omega
      have ht : (((n : Int) + 1 + (k : Int)) % 64 != 56) = false := by have := HQ.out; rw [bne_eq_false_iff_eq]; omega
      have hLo : ∀ j, 0 ≤ L.getD j 0 ∧ L.getD j 0 < 256 := by rw [HL.out]; exact HOK.out k
      have hsm : L.length ≤ 200 := by rw [HLN.out]; omega
      have hber := hbe.below hC
      have hbor := hbo.below hC
      obtain ⟨e0, e1, e2, e3, e4, e5, e6, e7, e8, e9⟩ := BoxAt.cells hber
      have hbits := bits8_all N hN
      have HK := Lib.hid hk'
      have HLO := Lib.hid hLo
      have HBITS := Lib.hid hbits
      have hN0 : 0 ≤ (N : Int) := by omega
      have hN1 : (N : Int) ≤ 1048576 := by omega
      clear hk' hlt hLo hbits
      obtain ⟨Q8, hQ8⟩ : ∃ Q8, Q8 = [0, 0, 0, 0, 8 * (N : Int) / 16777216, 8 * (N : Int) / 65536 % 256, 8 * (N : Int) / 256 % 256, 8 * (N : Int) % 256] := ⟨_, rfl⟩
      have hQo : ∀ j, 0 ≤ Q8.getD j 0 ∧ Q8.getD j 0 < 256 := by rw [hQ8, ← HBITS.out]; exact ok_map _ (ok_bits8 N) 8
      obtain ⟨F, hF⟩ : ∃ F, F = L ++ Q8 := ⟨_, rfl⟩
      have hFe : rest ++ endingL N = F := by rw [hF, HL.out, hQ8, ← HBITS.out, endingL, HK.out]; simp only [List.append_assoc]
      have hFl : F.length = n + 1 + k + 8 := by rw [hF, List.length_append, HLN.out, hQ8]; rfl
      have hFm : F.length % 64 = 0 := by have h1 := HQ.out; have h2 := HK.out; rw [hFl]; omega
      have hFo : ∀ j, 0 ≤ F.getD j 0 ∧ F.getD j 0 < 256 := by rw [hF]; exact ok_append HLO.out hQo
      have HQ8 := Lib.hid hQ8
      have HQO := Lib.hid hQo
      have HF := Lib.hid hF
      have HFE := Lib.hid hFe
      have HFL := Lib.hid hFl
      have HFM := Lib.hid hFm
      have HFO := Lib.hid hFo
      have hv7 := hown.size
      clear hQ8 hQo hF hFe hFl hFm hFo
      go_wp2_with (first
        | (at_builtin
           refine wpList_append_b rfl (.tmp 30) (.tmp 45) rfl W.heap.size _ L rfl (hown.more _) (some ⟨wr.heap.size, 0, none⟩) 8 8 Q8 rfl (lit_bts wr _ Q8 8 (by rw [HQ8.out]; rfl) (by rw [HQ8.out]; rfl) (by unfold maxLen; omega) HQO.out) (by omega) (Nat.le_trans hC.size (size_le_alloc _ _)) ?_
           intro v8 w8 hown8 hg8
           have hC8 : Below W.heap.size W w8 := (hC.alloc hC.size _).grown hg8 (Nat.le_trans hC.size (size_le_alloc _ _)) (fun k hk => (hv7 k hk).1)
           rw [← HF.out] at hown8
           obtain ⟨A8, n8, c8, rfl, hbt8⟩ := hown8.slice HFO.out
           have hbe8 : BoxAt w8 w.heap.size x0 x1 x2 x3 x4 x5 x6 x7 A n c N := hbe.below hC8
           have hbo8 := hbo.below hC8 hbo.lt
           obtain ⟨e0, e1, e2, e3, e4, e5, e6, e7, e8, e9⟩ := BoxAt.cells hbe8
           clear hg8 hown8))
      have hn8 : n8 = F.length := hbt8.len.symm
      have hB8 : Below w.heap.size w w8 := hB0.trans (hC8.mono hB0.size)
      have hz8 : w.heap.size + 3 ≤ w8.heap.size := by have := hC8.size; omega
      have HBO := Lib.hid hbo8
      have HB8 := Lib.hid hB8
      clear e0 e1 e2 e3 e4 e5 e6 e7 e8 e9 hbe8 hbo8 hB8 hC8 hown hC hbt hber hbor hv7
      go_loopw [4] (fun v wr => ∃ (j : Nat) (A' : Option Addr) (n' c' : Nat) (y0 y1 y2 y3 y4 y5 y6 y7 : Int), 64 * j + n' = F.length ∧ v = .slice A' n' c' ∧ Bts w8 A' n' c' (F.drop (64 * j)) ∧ blocksL [x0, x1, x2, x3, x4, x5, x6, x7] F j = [y0, y1, y2, y3, y4, y5, y6, y7] ∧
          Row wr w8.heap.size 108 [y0, y1, y2, y3, y4, y5, y6, y7] ∧ Below w8.heap.size w8 wr) (fun v _ => lenV v)
      case atStart => exact ⟨0, A8, n8, c8, x0, x1, x2, x3, x4, x5, x6, x7, by omega, rfl, by rw [Nat.mul_zero, List.drop_zero]; exact hbt8, rfl, heap_alloc_new w8 _, mac_one w8 _⟩
      case round =>
        clear hbt8 hn8
        obtain ⟨j, A', n', c', y0, y1, y2, y3, y4, y5, y6, y7, hjn, rfl, hbt, hY, hrow, hB⟩ := hrel
        by_cases hge : 0 < n'
        · have hge64 : 64 ≤ n' := by have := HFM.out; omega
          have hge' : (0 : Int) < n' := by omega
          obtain ⟨hto, hbtP⟩ := run_to hbt 64 (hi := 64) rfl hge64
          obtain ⟨A2, hfrom, hbt2⟩ := run_from hbt 64 (lo := 64) rfl hge64
          obtain ⟨bb, off, rfl, hcell⟩ := hbtP.at_ (by omega)
          have hblk := block_lt_of_cell (hcell 0 (by omega))
          have hok := hbtP.ok
          have hdrop : (F.drop (64 * j)).drop 64 = F.drop (64 * (j + 1)) := by rw [List.drop_drop]; congr 1
          rw [hdrop] at hbt2
          obtain ⟨P, hP⟩ : ∃ P, P = (F.drop (64 * j)).take 64 := ⟨_, rfl⟩
          rw [← hP] at hcell hok
          have hnext : blocksL [x0, x1, x2, x3, x4, x5, x6, x7] F (j + 1) = roundedL [y0, y1, y2, y3, y4, y5, y6, y7] P := by rw [blocksL, hY, hP]
          have hcr : ∀ k, k < 64 → wr.drew.cell? ⟨bb, off + k, none⟩ = some (.int .u8 (P.getD k 0)) := fun k hk => (hB.cell (p := ⟨bb, off + k, none⟩) hblk).trans (hcell k hk)
          obtain ⟨c0, c1, c2, c3, c4, c5, c6, c7⟩ := hrow.eight
          have HN := Lib.hid hnext
          have HCR := Lib.hid hcr
          have HB := Lib.hid hB
          have HBT2 := Lib.hid hbt2
          have HROW := Lib.hid hrow
          have HOK2 := Lib.hid hok
          clear hnext hcr hB hbt2 hrow hok hcell hP hdrop hbtP hbt hY
          go_wp2
          go_region_with
            (first
            | (go_at_call 94; refine (rround_lit y0 y1 y2 y3 y4 y5 y6 y7 P bb off c' _ HOK2.out HCR.out).mono ?_; rintro e w9 ⟨⟨z0, z1, z2, z3, z4, z5, z6, z7, hz, rfl⟩, hb9⟩
               have hb9 := below_draw hb9
               have hrow9 := HROW.out.below hb9 HROW.out.lt
               have hB9 : Below w8.heap.size w8 w9 := HB.out.trans (hb9.mono HB.out.size)
               obtain ⟨d0, d1, d2, d3, d4, d5, d6, d7⟩ := hrow9.eight
               have f0 := hrow9.free 0
               have f1 := hrow9.free 1
               have f2 := hrow9.free 2
               have f3 := hrow9.free 3
               have f4 := hrow9.free 4
               have f5 := hrow9.free 5
               have f6 := hrow9.free 6
               have f7 := hrow9.free 7))
          generalize hW9 : World.setCell _ _ _ = W9
          have hrowW : Row W9 w8.heap.size 108 [z0, z1, z2, z3, z4, z5, z6, z7] := by rw [← hW9]; exact hrow9.put8 _ _ _ _ _ _ _ _
          have hBW : Below w8.heap.size w8 W9 := by rw [← hW9]; exact below_put8 (Nat.le_refl _) hB9 _ _ _ _ _ _ _ _
          clear hW9 hB9 hrow9 d0 d1 d2 d3 d4 d5 d6 d7 f0 f1 f2 f3 f4 f5 f6 f7
          go_wp2
          go_roundw
          case rel => exact ⟨j + 1, A2, n' - 64, c' - 64, z0, z1, z2, z3, z4, z5, z6, z7, by omega, rfl, HBT2.out, by rw [HN.out, hz], hrowW, hBW⟩
          case measure => simp only [lenV]; omega
        · have hn0 : n' = 0 := by omega
          have hge' : ¬ ((0 : Int) < n') := by omega
          have hj : j = F.length / 64 := by omega
          have hj1 : 1 ≤ F.length / 64 := by have := HFL.out; have := HFM.out; omega
          have hY' : byBlocks [x0, x1, x2, x3, x4, x5, x6, x7] F = [y0, y1, y2, y3, y4, y5, y6, y7] := by rw [byBlocks, ← hj, hY]
          obtain ⟨R, hR⟩ : ∃ R, R = [y0, y1, y2, y3, y4, y5, y6, y7] := ⟨_, rfl⟩
          have hRl : R.length = 8 := by rw [hR]; rfl
          have hRr : ∀ i, 0 ≤ R.getD i 0 ∧ R.getD i 0 < 4294967296 := by
            obtain ⟨q, hq⟩ : ∃ q, F.length / 64 = q + 1 := ⟨F.length / 64 - 1, by omega⟩
            rw [hR, ← hY', byBlocks, hq, blocksL]
            exact fun i => rounded_range _ _ (blocks_length _ _ rfl _) i
          rw [← hR] at hY' hrow
          have HY := Lib.hid hY'
          have HRL2 := Lib.hid hRl
          have HRR := Lib.hid hRr
          have HROW := Lib.hid hrow
          have HB := Lib.hid hB
          have hz10 := hB.size
          have hrl10 := hrow.lt
          clear hY hY' hR hRl hRr hrow hB hbt hj hj1
          obtain ⟨w10, hw10⟩ : ∃ x, x = wr := ⟨wr, rfl⟩
          subst hw10
          go_wp2
          go_loopw [8] (fun i ws => ∃ q : Nat, q ≤ 8 ∧ i = .int .i64 q ∧ RowB ws w10.heap.size 27 (fillTo (speltAt R) 32 (4 * q)) ∧ Below w10.heap.size w10 ws) (fun i _ => 8 - (intOf i).toNat)
          case atStart => exact ⟨0, by omega, rfl, rowb_lit w10 27 _ _ rfl, mac_one w10 _⟩
          case round =>
            obtain ⟨q, hq, rfl, hX, hB3⟩ := hrel
            have hXl := fillTo_length (speltAt R) 32 (4 * q)
            by_cases hlt : q < 8
            · have hRc := (HROW.out.below hB3 hrl10).cell q (by rw [HRL2.out]; omega)
              have hyr := HRR.out q
              have x0' := hX.cell (4 * q) (by omega)
              have x1' := hX.cell (4 * q + 1) (by omega)
              have x2' := hX.cell (4 * q + 2) (by omega)
              have x3' := hX.cell (4 * q + 3) (by omega)
              have f0' := hX.free (4 * q)
              have f1' := hX.free (4 * q + 1)
              have f2' := hX.free (4 * q + 2)
              have f3' := hX.free (4 * q + 3)
              obtain ⟨y, hy⟩ : ∃ y, y = R.getD q 0 := ⟨_, rfl⟩
              rw [← hy] at hRc hyr
              obtain ⟨hy0, hy1⟩ := hyr
              have v0 : speltAt R (4 * q) = y / 16777216 := by
                rw [speltAt, show 4 * q / 4 = q by omega, show 4 * q % 4 = 0 by omega, ← hy]
                show y / 16777216 % 256 = y / 16777216
                omega
              have v1 : speltAt R (4 * q + 1) = y / 65536 % 256 := by
                rw [speltAt, show (4 * q + 1) / 4 = q by omega, show (4 * q + 1) % 4 = 1 by omega, ← hy]
                rfl
              have v2 : speltAt R (4 * q + 2) = y / 256 % 256 := by
                rw [speltAt, show (4 * q + 2) / 4 = q by omega, show (4 * q + 2) % 4 = 2 by omega, ← hy]
                rfl
              have v3 : speltAt R (4 * q + 3) = y % 256 := by
                rw [speltAt, show (4 * q + 3) / 4 = q by omega, show (4 * q + 3) % 4 = 3 by omega, ← hy]
                show y / 1 % 256 = y % 256
                rw [Int.ediv_one]
              have hnext : fillTo (speltAt R) 32 (4 * (q + 1)) = ((((fillTo (speltAt R) 32 (4 * q)).set (4 * q) (y / 16777216)).set (4 * q + 1) (y / 65536 % 256)).set (4 * q + 2) (y / 256 % 256)).set (4 * q + 3) (y % 256) := by
                rw [← v0, ← v1, ← v2, ← v3]
                rfl
              have HN := Lib.hid hnext
              have HXX := Lib.hid hX
              have HB3 := Lib.hid hB3
              clear hy v0 v1 v2 v3 hnext hX hB3 hXl
              go_wp2
              go_roundw
              case rel =>
                refine ⟨q + 1, by omega, by go_num, ?_, ?_⟩
                · rw [HN.out]
                  exact (((HXX.out.put _ _).put _ _).put _ _).put _ _
                · exact (((HB3.out.setCell (p := ⟨w10.heap.size, 4 * q, none⟩) (Nat.le_refl _) _).setCell (p := ⟨w10.heap.size, 4 * q + 1, none⟩) (Nat.le_refl _) _).setCell (p := ⟨w10.heap.size, 4 * q + 2, none⟩) (Nat.le_refl _) _).setCell (p := ⟨w10.heap.size, 4 * q + 3, none⟩) (Nat.le_refl _) _
              case measure => simp [intOf]; omega
            · have h8 : q = 8 := by omega
              have hge8 : 8 ≤ q := by omega
              have hX8 : RowB wr w10.heap.size 27 (fillTo (speltAt R) 32 32) := by rw [h8] at hX; exact hX
              rw [fillTo_all] at hX8
              have hZ : Z = speltL R := by rw [HZE.out, endL, HFE.out, HY.out]
              have hXZ : RowB wr w10.heap.size 27 Z := by rw [hZ]; exact hX8
              have hZl : Z.length = 32 := by rw [hZ]; exact spelt_length R
              have hO10 : RowB w10 (w.heap.size + 1) 27 (List.replicate 32 0) := HBO.out.below HB.out HBO.out.lt
              have hO : RowB wr (w.heap.size + 1) 27 (List.replicate 32 0) := hO10.below hB3 hO10.lt
              have hBr : Below w.heap.size w wr := (HB8.out.trans (HB.out.mono HB8.out.size)).trans (hB3.mono (by have := HB.out.size; have := HB8.out.size; omega))
              have HZL := Lib.hid hZl
              clear hX hX8 hZ hZl hlt hq h8 hXl hB3 hO10
              go_wp2_with (first
                | ((with_reducible refine wpList_load_b rfl 27 _ _ rfl w10.heap.size ?hx6 27 Z hXZ Tryz.underlying27 ?hd6 (info32 HZL.out) ?_); (case hx6 => rfl); (case hd6 => rfl))
                | ((with_reducible refine wpList_store_b rfl 27 _ _ rfl (w.heap.size + 1) Z ?hx7 ?hy7 27 (List.replicate 32 0) hO (info32 HZL.out) ?hl7 ?_); (case hx7 => rfl); (case hy7 => rfl); (case hl7 => rw [HZL.out]; rfl)
                   intro w6 hg6 hX6 hs6))
              refine bodyPost_ret (v := .agg (idv Z)) ?_ ?_ ?_
              · exact results_cell_row Tryz.results78 _ _ (w.heap.size + 1) 27 _ (0, 0) _ rfl hX6.is Tryz.underlying27 rfl (info32 HZL.out)
              · rfl
              · exact ⟨rfl, Below.grows hBr hg6 hBr.size (by omega)⟩
end Go.Proofs.YtafmompplcaadaaGreatDoor

/- The walks over the plain answers' Add and End, where they answer noughts. -/
namespace Go.Proofs.YtafmompplcaadaaGreatDoor
open Go.RowKit

set_option maxHeartbeats 400000 in
theorem radd_zero_may (x0 x1 x2 x3 x4 x5 x6 x7 len : Int) (A B : Option Addr) (n c m d : Nat) (w : World) (hmay : mayB n len = false) :
    Calls Tryz.prog 79 #[hashV x0 x1 x2 x3 x4 x5 x6 x7 A n c len, .slice B m d] w fun e w' => e = .returned (hashV 0 0 0 0 0 0 0 0 none 0 0 0) ∧ Below w.heap.size w w' := by
  have hi26 : (Tryz.prog.info? 110).map (·.size) = some 10 := by kernel_rfl
  go_enter Tryz.func79, Tryz.ntmps79
  go_wp2_with fail
  refine (rmay_any _ _ _ _ _ _ _ _ _ _ _ _ _).mono ?_
  rintro e w0 ⟨rfl, rfl⟩
  generalize hW : World.alloc _ _ = W
  obtain ⟨hB0, hz0, hX0, hO0⟩ := named_three hW
  have hbe : BoxAt W w.heap.size x0 x1 x2 x3 x4 x5 x6 x7 A n c len := hX0
  have hbo : BoxAt W (w.heap.size + 1) 0 0 0 0 0 0 0 0 none 0 0 0 := hO0
  obtain ⟨o0, o1, o2, o3, o4, o5, o6, o7, o8, o9⟩ := BoxAt.cells hbo
  obtain ⟨f0, f1, f2, f3, f4, f5, f6, f7, f8, f9⟩ := BoxAt.free hbo
  obtain ⟨_, _, _, _, _, _, _, _, _, e9⟩ := BoxAt.cells hbe
  clear hW hX0 hO0 hz0
  rw [hmay]
  go_wp2
  refine bodyPost_ret (v := hashV 0 0 0 0 0 0 0 0 none 0 0 0) ?_ ?_ ?_
  · exact results_cell_row Tryz.results79 _ _ (w.heap.size + 1) 110 _ (0, 0) _ rfl (heap_put10 hbo _ _ _ _ _ _ _ _ _ _) Tryz.underlying110 rfl hi26
  · rfl
  · exact ⟨rfl, below_put10 (Nat.le_succ _) hB0 _ _ _ _ _ _ _ _ _ _⟩

set_option maxHeartbeats 400000 in
theorem radd_zero_room (x0 x1 x2 x3 x4 x5 x6 x7 len : Int) (A B : Option Addr) (n c m d : Nat) (w : World) (hmay : mayB n len = true) (_hm : m ≤ 9223372036854775807) (hroom : 1048576 - len < (m : Int)) :
    Calls Tryz.prog 79 #[hashV x0 x1 x2 x3 x4 x5 x6 x7 A n c len, .slice B m d] w fun e w' => e = .returned (hashV 0 0 0 0 0 0 0 0 none 0 0 0) ∧ Below w.heap.size w w' := by
  obtain ⟨h0, h1, h2⟩ := mayB_yes hmay
  have H2 := Lib.hid h2
  clear h2
  have hi26 : (Tryz.prog.info? 110).map (·.size) = some 10 := by kernel_rfl
  go_enter Tryz.func79, Tryz.ntmps79
  go_wp2_with fail
  refine (rmay_any _ _ _ _ _ _ _ _ _ _ _ _ _).mono ?_
  rintro e w0 ⟨rfl, rfl⟩
  generalize hW : World.alloc _ _ = W
  obtain ⟨hB0, hz0, hX0, hO0⟩ := named_three hW
  have hbe : BoxAt W w.heap.size x0 x1 x2 x3 x4 x5 x6 x7 A n c len := hX0
  have hbo : BoxAt W (w.heap.size + 1) 0 0 0 0 0 0 0 0 none 0 0 0 := hO0
  obtain ⟨o0, o1, o2, o3, o4, o5, o6, o7, o8, o9⟩ := BoxAt.cells hbo
  obtain ⟨f0, f1, f2, f3, f4, f5, f6, f7, f8, f9⟩ := BoxAt.free hbo
  obtain ⟨_, _, _, _, _, _, _, _, _, e9⟩ := BoxAt.cells hbe
  clear hW hX0 hO0 hz0
  rw [hmay]
  go_wp2
  refine bodyPost_ret (v := hashV 0 0 0 0 0 0 0 0 none 0 0 0) ?_ ?_ ?_
  · exact results_cell_row Tryz.results79 _ _ (w.heap.size + 1) 110 _ (0, 0) _ rfl (heap_put10 hbo _ _ _ _ _ _ _ _ _ _) Tryz.underlying110 rfl hi26
  · rfl
  · exact ⟨rfl, below_put10 (Nat.le_succ _) hB0 _ _ _ _ _ _ _ _ _ _⟩

set_option maxHeartbeats 400000 in
theorem rend_zero (x0 x1 x2 x3 x4 x5 x6 x7 len : Int) (A : Option Addr) (n c : Nat) (w : World) (hmay : mayB n len = false) :
    Calls Tryz.prog 78 #[hashV x0 x1 x2 x3 x4 x5 x6 x7 A n c len] w fun e w' => e = .returned (.agg (idv (List.replicate 32 0))) ∧ Below w.heap.size w w' := by
  go_enter Tryz.func78, Tryz.ntmps78
  go_wp2_with fail
  refine (rmay_any _ _ _ _ _ _ _ _ _ _ _ _ _).mono ?_
  rintro e w0 ⟨rfl, rfl⟩
  generalize hW : World.alloc _ _ = W
  obtain ⟨hB0, hz0, hX0, hO0⟩ := named_three hW
  have hO0 : RowB W (w.heap.size + 1) 27 (List.replicate 32 0) := hO0
  clear hW hX0 hz0
  rw [hmay]
  go_wp2_with (first | ((with_reducible refine wpList_store_b rfl 27 _ _ rfl (w.heap.size + 1) (List.replicate 32 0) ?hx7 ?hy7 27 (List.replicate 32 0) hO0 (info32 rfl) ?hl7 ?hm7); (case hx7 => rfl); (case hy7 => rfl); (case hl7 => rfl); intro w6 hg6 hX6 hs6))
  refine bodyPost_ret (v := .agg (idv (List.replicate 32 0))) ?_ ?_ ?_
  · exact results_cell_row Tryz.results78 _ _ (w.heap.size + 1) 27 _ (0, 0) _ rfl hX6.is Tryz.underlying27 rfl (info32 rfl)
  · rfl
  · exact ⟨rfl, Below.grows hB0 hg6 hB0.size (by omega)⟩

end Go.Proofs.YtafmompplcaadaaGreatDoor

/- The walk over the plain answers' Sum. -/
namespace Go.Proofs.YtafmompplcaadaaGreatDoor
open Go.RowKit

theorem radd_yes (x0 x1 x2 x3 x4 x5 x6 x7 len : Int) (A B : Option Addr) (n c m d : Nat) (rest b : List Int) (w : World) (hmay : mayB n len = true) (hroom : (m : Int) ≤ 1048576 - len) (ha : Bts w A n c rest) (hb : Bts w B m d b) :
    Calls Tryz.prog 79 #[hashV x0 x1 x2 x3 x4 x5 x6 x7 A n c len, .slice B m d] w (AddPost w [x0, x1, x2, x3, x4, x5, x6, x7] (rest ++ b) (len + (m : Int))) := by
  obtain ⟨N, rfl⟩ := Int.eq_ofNat_of_zero_le (mayB_yes hmay).1
  exact radd_good x0 x1 x2 x3 x4 x5 x6 x7 A B n c N m d rest b w hmay hroom ha hb
theorem rend_yes (x0 x1 x2 x3 x4 x5 x6 x7 len : Int) (A : Option Addr) (n c : Nat) (rest : List Int) (w : World) (hmay : mayB n len = true) (hb : Bts w A n c rest) :
    Calls Tryz.prog 78 #[hashV x0 x1 x2 x3 x4 x5 x6 x7 A n c len] w fun e w' => e = .returned (.agg (idv (endL [x0, x1, x2, x3, x4, x5, x6, x7] rest len.toNat))) ∧ Below w.heap.size w w' := by
  obtain ⟨N, rfl⟩ := Int.eq_ofNat_of_zero_le (mayB_yes hmay).1
  exact rend_good x0 x1 x2 x3 x4 x5 x6 x7 A n c N rest w hmay hb

theorem radd_new (B : Option Addr) (m d : Nat) (l : List Int) (w : World) (hm : m ≤ 1048576) (hb : Bts w B m d l) :
    Calls Tryz.prog 79 #[hashV 1779033703 3144134277 1013904242 2773480762 1359893119 2600822924 528734635 1541459225 none 0 0 0, .slice B m d] w (AddPost w iList l (m : Int)) := by
  have h := radd_yes 1779033703 3144134277 1013904242 2773480762 1359893119 2600822924 528734635 1541459225 0 none B 0 0 m d [] l w (by decide) (by omega) (Bts.nil w) hb
  rw [Int.zero_add, List.nil_append] at h
  exact h

set_option maxHeartbeats 400000 in
theorem rsum_yes (B : Option Addr) (m d : Nat) (l : List Int) (w : World) (hm : m ≤ 1048576) (hb : Bts w B m d l) :
    Calls Tryz.prog 61 #[.slice B m d] w fun e w' => e = .returned (.agg (idv (sumL l))) ∧ Below w.heap.size w w' := by
  obtain ⟨Z, hZ⟩ : ∃ Z, Z = sumL l := ⟨_, rfl⟩
  have hZl : Z.length = 32 := by rw [hZ, sumL, endL]; exact spelt_length _
  rw [← hZ]
  have HZ := Lib.hid hZ
  have HZL := Lib.hid hZl
  clear hZ hZl
  go_enter Tryz.func61, Tryz.ntmps61
  go_wp2_with fail
  refine (rnew_any _).mono ?_
  rintro e w1 ⟨rfl, hb1⟩
  obtain ⟨hB1, hz1, hO1⟩ := after_one hb1
  have hO1 : RowB w1 w.heap.size 27 (List.replicate 32 0) := hO1
  clear hb1
  go_wp2_with fail
  refine (radd_new B m d l w1 hm (hb.below hB1)).mono ?_
  rintro e w2 ⟨y0, y1, y2, y3, y4, y5, y6, y7, A3, n3, c3, rfl, hY, hbt, hb2⟩
  have hO2 := hO1.below hb2 hO1.lt
  have hB2 := hB1.trans (hb2.mono hB1.size)
  have hmay : mayB n3 (m : Int) = true := by
    have h1 := hbt.len
    rw [List.length_drop, hb.len, whole, hb.len] at h1
    unfold mayB
    rw [decide_eq_true_eq]
    omega
  have hfin : endL [y0, y1, y2, y3, y4, y5, y6, y7] (l.drop (whole l)) ((m : Int)).toNat = Z := by
    rw [HZ.out, sumL, ← hY, Int.toNat_natCast, ← hb.len]
    rfl
  have HF := Lib.hid hfin
  have HMAY := Lib.hid hmay
  clear hfin hmay hY hb2
  go_wp2_with fail
  refine (rend_yes y0 y1 y2 y3 y4 y5 y6 y7 (m : Int) A3 n3 c3 (l.drop (whole l)) w2 HMAY.out hbt).mono ?_
  rintro e w3 ⟨he, hb3⟩
  rw [HF.out] at he
  subst he
  have hO3 := hO2.below hb3 hO2.lt
  have hB3 := hB2.trans (hb3.mono hB2.size)
  clear hb3
  go_wp2_with (first | ((with_reducible refine wpList_store_b rfl 27 _ _ rfl w.heap.size Z ?hx7 ?hy7 27 (List.replicate 32 0) hO3 (info32 HZL.out) ?hl7 ?hm7); (case hx7 => rfl); (case hy7 => rfl); (case hl7 => rw [HZL.out]; rfl); intro w6 hg6 hX6 hs6))
  refine bodyPost_ret (v := .agg (idv Z)) ?_ ?_ ?_
  · exact results_cell_row Tryz.results61 _ _ w.heap.size 27 _ (0, 0) _ rfl hX6.is Tryz.underlying27 rfl (info32 HZL.out)
  · rfl
  · exact ⟨rfl, Below.grows hB3 hg6 hB3.size (Nat.le_refl _)⟩
end Go.Proofs.YtafmompplcaadaaGreatDoor

/- The walk over the document's Link: the head with one entry more. -/
namespace Go.Proofs.YtafmompplcaadaaGreatDoor
set_option maxRecDepth 100000
set_option linter.unusedVariables false
set_option linter.unusedSimpArgs false
open Go.RowKit

theorem run_all32 (a : Addr) (w : World) : (Instr.sliceAt 27 (.pointer (some a)) none none none).run Tryz.prog w = .ok (.slice (some a) 32 32) w := by
  have hs : (sizeOf 5).run Tryz.prog w = .ok 1 w := rfl
  simp [Instr.sliceAt, Instr.sureAddr, Instr.sliceBounds, run_underlying Tryz.underlying27, hs, Addr.add]
theorem after_three_c {w w1 : World} {o1 o2 o3 : Obj} (h : Below (((w.alloc o1).alloc o2).alloc o3).heap.size (((w.alloc o1).alloc o2).alloc o3) w1) :
    Below w.heap.size w w1 ∧ w1.heap[w.heap.size]? = some o1 ∧ w1.heap[w.heap.size + 1]? = some o2 ∧ w1.heap[w.heap.size + 2]? = some o3 := by
  obtain ⟨h1, h2, h3⟩ := after_one h
  have e : (w.alloc o1).heap.size = w.heap.size + 1 := by simp
  have e2 : ((w.alloc o1).alloc o2).heap.size = w.heap.size + 2 := by simp
  obtain ⟨h4, -, h5, h6⟩ := after_two h1
  rw [e2] at h3
  exact ⟨h4, h5, h6, h3⟩
theorem three_of_c (w : World) (o1 o2 o3 : Obj) : (((w.alloc o1).alloc o2).alloc o3).heap[w.heap.size + 1]? = some o2 :=
  (after_three_c (Below.refl _ _)).2.2.1
theorem noughts_ok : ∀ j, 0 ≤ (List.replicate 32 (0 : Int)).getD j 0 ∧ (List.replicate 32 (0 : Int)).getD j 0 < 256 := by
  intro j
  rw [List.getD_eq_getElem?_getD, List.getElem?_replicate]
  split <;> simp
theorem ok_linkT {h : List Int} {u : En} (hb : ∀ j, 0 ≤ h.getD j 0 ∧ h.getD j 0 < 256) : ∀ j, 0 ≤ (linkT h u).getD j 0 ∧ (linkT h u).getD j 0 < 256 := by
  have e : linkT h u = ([1] ++ h) ++ putE u := rfl
  rw [e]
  exact ok_append (ok_append (by intro j; match j with | 0 => simp | j + 1 => simp) hb) (put_ok u)
set_option maxRecDepth 100000 in
set_option maxHeartbeats 2000000 in
theorem rlink_yes (h : List Int) (u : En) (w : World) (hh : h.length = 32) (hb : ∀ j, 0 ≤ h.getD j 0 ∧ h.getD j 0 < 256) (hm : mayE u = true) (ho : u.ok) :
    Calls Tryz.prog 56 #[.agg (idv h), enV u] w fun e w' => e = .returned (.tuple #[.agg (idv (linkC h u)), .bool true]) ∧ Below w.heap.size w w' := by
  have HPE := Lib.hid (fun W => rput_yes' u W hm ho)
  have HOK := Lib.hid (ok_linkT (u := u) hb)
  have HSL := Lib.hid (csum_len (linkT h u))
  have HHB := Lib.hid hb
  have HHL := Lib.hid hh
  have hal := run_all32
  unfold enV at HPE ⊢
  obtain ⟨Y, hY⟩ : ∃ Y, linkC h u = Y := ⟨_, rfl⟩
  have hYL : Y.length = 32 := by rw [← hY]; exact csum_len _
  have HYL := Lib.hid hYL
  have HSM := Lib.hid (show ∀ (A : Option Addr) (m d : Nat) (W : World), m ≤ 1048576 → Bts W A m d (linkT h u) → Calls Tryz.prog 61 #[.slice A m d] W (fun e w' => e = .returned (.agg (idv Y)) ∧ Below W.heap.size W w') from fun A m d W h1 h2 => by rw [← hY]; exact rsum_yes A m d _ W h1 h2)
  rw [hY]
  clear hh hb hm ho hY hYL
  go_enter Tryz.func56, Tryz.ntmps56
  go_wp2_with (first
    | ((with_reducible refine wpList_load_blk 33 _ rfl (w.heap.size + 1) ?hx1 33 (enA u) (0, 0) _ (three_of_c _ _ _ _) Tryz.underlying33 ?hd1 (info_en (enA_size _)) ?_ ?hw1); (case hx1 => rfl); (case hd1 => rfl); (case hw1 => rfl))
    | (go_at_call 55; (with_reducible refine (HPE.out _).mono ?_); rintro e w1 ⟨A1, m1, c1, rfl, hbt1, hb1⟩
       obtain ⟨hb0, hH1, -, hZ1⟩ := after_three_c hb1
       have hH1 : RowB w1 w.heap.size 27 h := hH1
       have hZ1 : RowB w1 (w.heap.size + 2) 27 (List.replicate 32 0) := hZ1
       have HB1 := Lib.hid hb0
       have HLT := Lib.hid hZ1.lt
       clear hb1 hb0)
    | (at_builtin
       refine wpList_append_b rfl _ _ rfl w1.heap.size _ [1] rfl (one_own w1 1) (some ⟨w.heap.size, 0, none⟩) 32 32 h rfl ((hH1.more _).btsAt HHL.out (by unfold maxLen; omega) HHB.out) (by simp) (by simp) ?_
       intro v2 w2 hown2 hg2
       have hb2 : Below w1.heap.size w1 w2 := (one_alloc w1 (.cells #[.int .u8 1] 5)).grown hg2 (size_le_alloc _ _) (fun g e => ((one_own w1 1).size g e).1)
       have hown2 : Own w2 w1.heap.size v2 ([1] ++ h) := hown2
       have hH2 := hH1.keep hb2
       have hZ2 := hZ1.keep hb2
       have hbt2 := hbt1.below hb2
       have HB2 := Lib.hid (HB1.out.trans (hb2.mono HB1.out.size))
       have HS2 := Lib.hid hb2.size
       clear hg2 hb2 hH1 hZ1 hbt1)
    | (at_builtin
       refine wpList_append_b rfl _ _ rfl w1.heap.size v2 ([1] ++ h) rfl hown2 A1 m1 c1 (putE u) rfl hbt2 (by have := hbt2.len; rw [put_len] at this; have := HHL.out; simp; omega) HS2.out ?_
       intro v3 w3 hown3 hg3
       have hb3 : Below w1.heap.size w2 w3 := (Below.refl w1.heap.size w2).grown hg3 HS2.out (fun g e => (hown2.size g e).1)
       obtain ⟨A3, m3, c3, rfl, hbt3⟩ := (show Own w3 w1.heap.size v3 (linkT h u) from hown3).slice HOK.out
       have hZ3 := hZ2.below hb3 HLT.out
       have hm3 : m3 ≤ 1048576 := by
         have h1 := hbt3.len
         have h2 := HHL.out
         rw [linkT, List.length_cons, List.length_append, put_len] at h1
         omega
       have HB3 := Lib.hid (HB2.out.trans (hb3.mono HB1.out.size))
       clear hg3 hb3 hZ2 hH2 hbt2 hown2 hown3)
    | (go_at_call 61; (with_reducible refine (HSM.out _ _ _ _ hm3 hbt3).mono ?_); rintro e w4 ⟨rfl, hb4⟩
       have hZ4 := hZ3.keep hb4
       have HB4 := Lib.hid (HB3.out.trans (hb4.mono HB3.out.size))
       clear hb4 hZ3)
    | ((with_reducible refine wpList_store_blk rfl 27 _ _ rfl (w.heap.size + 2) (idv Y) ?hx7 ?hy7 27 _ hZ4.is (info32 HYL.out) ?hs7 (idv_one _) ?_); (case hx7 => rfl); (case hy7 => rfl); (case hs7 => rw [idv_size, idv_size, HYL.out]; rfl)
       intro w6 hg6 hX6 hs6
       clear hZ4))
  refine bodyPost_ret (v := .tuple #[.agg (idv Y), .bool true]) ?_ rfl ⟨rfl, ?_⟩
  · exact results_blk_tmp Tryz.results56 _ _ _ (w.heap.size + 2) 27 _ (0, 0) _ rfl hX6 Tryz.underlying27 rfl (info32 HYL.out) _ rfl
  · exact HB4.out.grown hg6 HB4.out.size (fun k e => by cases e; omega)
theorem build_zero_id (w : World) : (Instr.build 27 #[]).run Tryz.prog w = .ok (.agg (idv noughtsC)) w :=
  run_build w _ _ _ (built_none (z := .agg (idv noughtsC)) Tryz.underlying27 (by kernel_rfl) (by kernel_rfl))
set_option maxRecDepth 100000 in
set_option maxHeartbeats 2000000 in
theorem rlink_no (h : List Int) (u : En) (w : World) (hm : mayE u = false) :
    Calls Tryz.prog 56 #[.agg (idv h), enV u] w fun e w' => e = .returned (.tuple #[.agg (idv noughtsC), .bool false]) ∧ Below w.heap.size w w' := by
  have HPE := Lib.hid (fun W => rput_no' u W hm)
  unfold enV at HPE ⊢
  have hNL : noughtsC.length = 32 := rfl
  have HNL := Lib.hid hNL
  clear hm hNL
  go_enter Tryz.func56, Tryz.ntmps56
  go_wp2_with (first
    | ((with_reducible refine wpList_load_blk 33 _ rfl (w.heap.size + 1) ?hx1 33 (enA u) (0, 0) _ (three_of_c _ _ _ _) Tryz.underlying33 ?hd1 (info_en (enA_size _)) ?_ ?hw1); (case hx1 => rfl); (case hd1 => rfl); (case hw1 => rfl))
    | (go_at_call 55; (with_reducible refine (HPE.out _).mono ?_); rintro e w1 ⟨rfl, hb1⟩
       obtain ⟨hb0, -, -, hZ1⟩ := after_three_c hb1
       have hZ1 : RowB w1 (w.heap.size + 2) 27 noughtsC := hZ1
       have HB1 := Lib.hid hb0
       clear hb1 hb0)
    | ((with_reducible refine wpList_store_blk rfl 27 _ _ rfl (w.heap.size + 2) (idv noughtsC) ?hx7 ?hy7 27 _ hZ1.is (info32 HNL.out) ?hs7 (idv_one _) ?_); (case hx7 => rfl); (case hy7 => rfl); (case hs7 => rfl)
       intro w6 hg6 hX6 hs6
       clear hZ1))
  refine bodyPost_ret (v := .tuple #[.agg (idv noughtsC), .bool false]) ?_ rfl ⟨rfl, ?_⟩
  · exact results_blk_tmp Tryz.results56 _ _ _ (w.heap.size + 2) 27 _ (0, 0) _ rfl hX6 Tryz.underlying27 rfl (info32 HNL.out) _ rfl
  · exact HB1.out.grown hg6 HB1.out.size (fun k e => by cases e; omega)
def linkP (h : List Int) (u : En) : List Int := if mayE u then linkC h u else noughtsC
theorem linkP_len (h : List Int) (u : En) : (linkP h u).length = 32 := by unfold linkP; split; exact csum_len _; rfl
theorem linkP_byte (h : List Int) (u : En) : ∀ j, 0 ≤ (linkP h u).getD j 0 ∧ (linkP h u).getD j 0 < 256 := by unfold linkP; split; exact csum_byte _; exact noughts_ok
theorem rlink_any (h : List Int) (u : En) (w : World) (hh : h.length = 32) (hb : ∀ j, 0 ≤ h.getD j 0 ∧ h.getD j 0 < 256) (ho : u.ok) :
    Calls Tryz.prog 56 #[.agg (idv h), enV u] w fun e w' => e = .returned (.tuple #[.agg (idv (linkP h u)), .bool (mayE u)]) ∧ Below w.heap.size w w' := by
  cases hm : mayE u with
  | false => rw [show linkP h u = noughtsC by rw [linkP, hm]; rfl]; exact rlink_no h u w hm
  | true => rw [show linkP h u = linkC h u by rw [linkP, hm]; rfl]; exact rlink_yes h u w hh hb hm ho
end Go.Proofs.YtafmompplcaadaaGreatDoor

/- The walk over package entry's Get. -/
namespace Go.Proofs.YtafmompplcaadaaGreatDoor
set_option maxRecDepth 100000
set_option linter.unusedVariables false
set_option linter.unusedSimpArgs false
open Go.RowKit

theorem build_zero_e (w : World) : (Instr.build 33 #[]).run Tryz.prog w = .ok (.agg (enA En.zero)) w :=
  run_build w _ _ _ (built_of (z := .agg (enA En.zero)) (places := [(0, 1), (1, 1), (2, 1), (3, 1), (4, 1), (5, 1), (6, 1), (7, 1), (8, 1)]) Tryz.underlying33 (by kernel_rfl) (by kernel_rfl) rfl)
theorem run_all9 (a : Addr) (w : World) : (Instr.sliceAt 86 (.pointer (some a)) none none none).run Tryz.prog w = .ok (.slice (some a) 9 9) w := by
  have hs : (sizeOf 3).run Tryz.prog w = .ok 1 w := rfl
  simp [Instr.sliceAt, Instr.sureAddr, Instr.sliceBounds, run_underlying Tryz.underlying86, hs, Addr.add]
theorem run_arr9 (A : Option Addr) (c : Nat) (w : World) : (Instr.arrayAt 89 (.slice A 9 c)).run Tryz.prog w = .ok (.pointer A) w := by
  simp [Instr.arrayAt, run_underlying Tryz.underlying89]
theorem its_sizes {w : World} {g : Nat} (h : RowZ w g) : Its .i64 w (some ⟨g, 0, none⟩) 9 9 szI :=
  ⟨rfl, Nat.le_refl _, by unfold maxLen; omega, (fun e => by cases e), fun _ => ⟨g, 0, rfl, fun j hj => by rw [Nat.zero_add]; exact h.at_ j hj⟩⟩
theorem cut_not {n : Nat} (h : n ≠ 30) : cutB szI n = false := by
  have e : szI.sum = 30 := rfl
  rw [cutB, e, Bool.and_eq_false_iff]
  right
  rw [decide_eq_false_iff_not]
  omega
theorem got_short {b : List Int} (h : b.length ≠ 30) : gotB b = false := by rw [gotB, decide_eq_false h, Bool.false_and]
theorem get_not {b : List Int} (h : gotB b = false) : getE b = En.zero := by rw [getE, h]; rfl
set_option maxRecDepth 100000 in
set_option maxHeartbeats 2000000 in
theorem eget_short (A : Option Addr) (n c : Nat) (b : List Int) (w : World) (hb : Bts w A n c b) (h : n ≠ 30) :
    Calls Tryz.prog 73 #[.slice A n c] w (GE En.zero false w) := by
  have HCUT := Lib.hid (show ∀ (W : World) (g : Nat), Below w.heap.size w W → RowZ W g → Calls Tryz.prog 85 #[.slice A n c, .slice (some ⟨g, 0, none⟩) 9 9] W _ from fun W g hW hg => cut_no A _ n c 9 9 b szI W (hb.below hW) (its_sizes hg) (cut_not h))
  have HSZ := Lib.hid esizes_any
  have hal := run_all9
  have hz : enV En.zero = .agg (enA En.zero) := rfl
  unfold GE
  rw [hz]
  clear hb h hz
  go_enter Tryz.func73, Tryz.ntmps73
  go_wp2_with (first
    | (go_at_call 65; refine (HSZ.out _).mono ?_; rintro e w1 ⟨rfl, hb1⟩
       unfold szV
       have hE1 := after_alloc hb1
       have hB1 := (after_one hb1).1
       clear hb1)
    | (go_at_call 85; refine (HCUT.out _ _ (hB1.alloc hB1.size _) ⟨heap_alloc_new _ _⟩).mono ?_; rintro e w2 ⟨rfl, rfl⟩
       have hE2 := in_alloc hE1 (.cells szC 86)
       have hB2 := hB1.alloc hB1.size (.cells szC 86)
       unfold szC at hE2 hB2)
    | ((with_reducible refine wpList_store_blk rfl 33 _ _ rfl w.heap.size (enA En.zero) ?hx2 ?hy2 33 _ hE2 (info_en rfl) ?hs2 (enA_one _) ?_); (case hx2 => rfl); (case hy2 => rfl); (case hs2 => rfl)
       intro w6 hg6 hX6 hs6
       clear hE2))
  refine bodyPost_ret (v := .tuple #[.agg (enA En.zero), .bool false]) ?_ rfl ⟨rfl, ?_⟩
  · exact results_blk_tmp Tryz.results73 _ _ _ w.heap.size 33 _ (0, 0) _ rfl hX6 Tryz.underlying33 rfl (info_en rfl) _ rfl
  · exact hB2.grown hg6 hB2.size (fun k e => by cases e; exact Nat.le_refl _)
theorem cut_range {b : List Int} {w : World} {A : Option Addr} {m c : Nat} (h : Its .u64 w A m c (ints (cutL szN b))) : ∃ B off, A = some ⟨B, off, none⟩ ∧ m = 9 ∧ w.rangeAt B off ((ints (cutL szN b)).map (Value.int .u64)) := by
  have hl : m = 9 := by rw [← h.len, ints_length, cutL_length]; rfl
  obtain ⟨B, off, hA, hc⟩ := h.at_ (by omega)
  refine ⟨B, off, hA, hl, fun j v hv => ?_⟩
  rw [List.getElem?_map] at hv
  cases he : (ints (cutL szN b))[j]? with
  | none => rw [he] at hv; cases hv
  | some x =>
    rw [he] at hv
    have hj := (List.getElem?_eq_some_iff.1 he).1
    rw [h.len] at hj
    rw [hc j hj, List.getD_eq_getElem?_getD, he]
    exact hv
theorem cut_small {b : List Int} (hb : ∀ x ∈ b, 0 ≤ x ∧ x < 256) (h : b.length = 30) {a0 a1 a2 a3 a4 a5 a6 a7 a8 : Nat} (hc : cutL szN b = [a0, a1, a2, a3, a4, a5, a6, a7, a8]) :
    a0 < 9223372036854775808 ∧ a1 < 9223372036854775808 ∧ a2 < 9223372036854775808 ∧ a3 < 9223372036854775808 ∧ a4 < 18446744073709551616 ∧ a5 < 18446744073709551616 ∧ a6 < 9223372036854775808 ∧ a7 < 9223372036854775808 ∧ a8 < 9223372036854775808 := by
  have h1 := fits_cut szN b hb (by rw [h]; rfl)
  rw [hc] at h1
  have k0 := h1 (a0, 1) (by simp [szN])
  have k1 := h1 (a1, 4) (by simp [szN])
  have k2 := h1 (a2, 4) (by simp [szN])
  have k3 := h1 (a3, 1) (by simp [szN])
  have k4 := h1 (a4, 8) (by simp [szN])
  have k5 := h1 (a5, 8) (by simp [szN])
  have k6 := h1 (a6, 1) (by simp [szN])
  have k7 := h1 (a7, 2) (by simp [szN])
  have k8 := h1 (a8, 1) (by simp [szN])
  simp only [Nat.reducePow] at k0 k1 k2 k3 k4 k5 k6 k7 k8
  omega
theorem bytes_mem {b : List Int} (h : ∀ j, 0 ≤ b.getD j 0 ∧ b.getD j 0 < 256) : ∀ x ∈ b, 0 ≤ x ∧ x < 256 := by
  intro x hx
  obtain ⟨j, hj, rfl⟩ := List.getElem_of_mem hx
  have := h j
  simpa [List.getD_eq_getElem?_getD, hj] using this
set_option maxRecDepth 100000 in
set_option maxHeartbeats 4000000 in
theorem eget_long (A : Option Addr) (c : Nat) (b : List Int) (w : World) (hb : Bts w A 30 c b) :
    Calls Tryz.prog 73 #[.slice A 30 c] w (GE (if mayE (seemsE b) then seemsE b else En.zero) (mayE (seemsE b)) w) := by
  have hbm := bytes_mem hb.ok
  obtain ⟨a0, a1, a2, a3, a4, a5, a6, a7, a8, hc⟩ := cut_nine b
  obtain ⟨k0, k1, k2, k3, k4, k5, k6, k7, k8⟩ := cut_small hbm hb.len hc
  have hse : seemsE b = enOf [a0, a1, a2, a3, a4, a5, a6, a7, a8] := by rw [seemsE, hc]
  have HCUT := Lib.hid (show ∀ (W : World) (g : Nat), Below w.heap.size w W → RowZ W g → Calls Tryz.prog 85 #[.slice A 30 c, .slice (some ⟨g, 0, none⟩) 9 9] W (fun e w' => ∃ B off c2, e = .returned (.tuple #[.slice (some ⟨B, off, none⟩) 9 c2, .bool true]) ∧ w'.rangeAt B off [.int .u64 a0, .int .u64 a1, .int .u64 a2, .int .u64 a3, .int .u64 a4, .int .u64 a5, .int .u64 a6, .int .u64 a7, .int .u64 a8] ∧ Below W.heap.size W w') from fun W g hW hg => by
    refine (cut_yes A _ 30 c 9 9 b szN W (hb.below hW) (its_sizes hg) (by intro k hk; simp [szN] at hk; omega) (by decide) rfl).mono ?_
    rintro e w' ⟨v, rfl, hv, hB⟩
    obtain ⟨A2, m, c2, rfl, hi⟩ := hv.its
    obtain ⟨B, off, rfl, rfl, hr⟩ := cut_range hi
    rw [hc] at hr
    exact ⟨B, off, c2, rfl, hr, hB⟩)
  have HOF := Lib.hid (show ∀ W : World, Calls Tryz.prog 86 #[.agg #[.int .u64 a0, .int .u64 a1, .int .u64 a2, .int .u64 a3, .int .u64 a4, .int .u64 a5, .int .u64 a6, .int .u64 a7, .int .u64 a8]] W _ from fun W => entry_of a0 a1 a2 a3 a4 a5 a6 a7 a8 W k0 k1 k2 k3 k6 k7 k8 k4 k5)
  rw [← hse] at HOF
  have HMC := Lib.hid (fun w => emay_any (seemsE b) w)
  have HSZ := Lib.hid esizes_any
  have hal := run_all9
  have har := run_arr9
  obtain ⟨u, hu⟩ : ∃ u, seemsE b = u := ⟨_, rfl⟩
  rw [hu] at HOF HMC ⊢
  obtain ⟨M, hM⟩ : ∃ M, mayE u = M := ⟨_, rfl⟩
  rw [hM] at HMC ⊢
  unfold GE enV
  unfold enV at HOF HMC
  obtain ⟨X, hX⟩ : ∃ X, X = enA u := ⟨_, rfl⟩
  have hXs : X.size = 9 := by rw [hX]; rfl
  have hX1 : X.all (·.oneCell') = true := by rw [hX]; exact enA_one _
  have hout : enA (if M = true then u else En.zero) = if M then X else enA En.zero := by cases M <;> simp [hX]
  rw [← hX] at HOF HMC
  rw [hout]
  have HS := Lib.hid hXs
  have H1 := Lib.hid hX1
  clear hb hbm hc k0 k1 k2 k3 k4 k5 k6 k7 k8 hse hu hM hX hXs hX1 hout
  cases M
  all_goals
    simp only [if_true, Bool.false_eq_true, if_false]
    go_enter Tryz.func73, Tryz.ntmps73
    go_wp2_with (first
      | (go_at_call 65; refine (HSZ.out _).mono ?_; rintro e w1 ⟨rfl, hb1⟩
         unfold szV
         have hE1 := after_alloc hb1
         have hB1 := (after_one hb1).1
         clear hb1)
      | (go_at_call 85; refine (HCUT.out _ _ (hB1.alloc hB1.size _) ⟨heap_alloc_new _ _⟩).mono ?_; rintro e w2 ⟨B, off, c2, rfl, hr2, hb2⟩
         have hE2 := (hb2.block _ (Nat.lt_succ_of_lt (Array.getElem?_eq_some_iff.1 hE1).1 |> (by simpa using ·))).trans (in_alloc hE1 _)
         have hB2 := hB1.trans ((after_one hb2).1.mono hB1.size)
         clear hb2 hE1 hB1)
      | ((with_reducible refine wpList_load_on 89 _ rfl B off ?hx3 [.int .u64 a0, .int .u64 a1, .int .u64 a2, .int .u64 a3, .int .u64 a4, .int .u64 a5, .int .u64 a6, .int .u64 a7, .int .u64 a8] #[.int .u64 a0, .int .u64 a1, .int .u64 a2, .int .u64 a3, .int .u64 a4, .int .u64 a5, .int .u64 a6, .int .u64 a7, .int .u64 a8] ?ht3 _ hr2 Tryz.underlying89 ?hd3 ?hi3 ?_ ?hw3); (case hx3 => rfl); (case ht3 => rfl); (case hd3 => rfl); (case hi3 => kernel_rfl); (case hw3 => rfl))
      | (go_at_call 86; refine (HOF.out _).mono ?_; rintro e w3 ⟨rfl, hb3⟩
         have hE3 := (hb3.block _ (Array.getElem?_eq_some_iff.1 hE2).1).trans hE2
         have hB3 := hB2.trans (hb3.mono hB2.size)
         clear hb3 hE2 hB2 hr2)
      | ((with_reducible refine wpList_store_blk rfl 33 _ _ rfl w3.heap.size X ?hx4 ?hy4 33 _ (heap_alloc_new w3 _) (info_en HS.out) ?hs4 H1.out ?_); (case hx4 => rfl); (case hy4 => rfl); (case hs4 => rw [HS.out]; rfl)
         intro w4 hg4 hX4 hs4
         have hE4 := (hg4.block w.heap.size (by have := (Array.getElem?_eq_some_iff.1 hE3).1; simp; omega) (fun e => by injection e with e; have := (Array.getElem?_eq_some_iff.1 hE3).1; omega)).trans (in_alloc hE3 _)
         have hB4 := (hB3.alloc hB3.size _).grown hg4 (by have := hB3.size; simp; omega) (fun k e => by cases e; exact hB3.size)
         clear hg4 hE3 hB3 hs4)
      | ((with_reducible refine wpList_load_blk 33 _ rfl w3.heap.size ?hx5 33 X (0, 0) _ hX4 Tryz.underlying33 ?hd5 (info_en HS.out) ?_ ?hw5); (case hx5 => rfl); (case hd5 => rfl); (case hw5 => rfl))
      | (go_at_call 64; refine (HMC.out _).mono ?_; rintro e w5 ⟨rfl, hb5⟩
         have hX5 := (hb5.block _ (Array.getElem?_eq_some_iff.1 hX4).1).trans hX4
         have hE5 := (hb5.block _ (Array.getElem?_eq_some_iff.1 hE4).1).trans hE4
         have hB5 := hB4.trans (hb5.mono hB4.size)
         clear hb5 hX4 hE4 hB4)
      | ((with_reducible refine wpList_load_blk 33 _ rfl w3.heap.size ?hx6 33 X (0, 0) _ hX5 Tryz.underlying33 ?hd6 (info_en HS.out) ?_ ?hw6); (case hx6 => rfl); (case hd6 => rfl); (case hw6 => rfl))
      | ((with_reducible refine wpList_store_blk rfl 33 _ _ rfl w.heap.size X ?hx7 ?hy7 33 _ hE5 (info_en HS.out) ?hs7 H1.out ?_); (case hx7 => rfl); (case hy7 => rfl); (case hs7 => rw [HS.out]; rfl)
         intro w6 hg6 hX6 hs6
         clear hE5)
      | ((with_reducible refine wpList_store_blk rfl 33 _ _ rfl w.heap.size (enA En.zero) ?hx8 ?hy8 33 _ hE5 (info_en rfl) ?hs8 (enA_one _) ?_); (case hx8 => rfl); (case hy8 => rfl); (case hs8 => rfl)
         intro w6 hg6 hX6 hs6
         clear hE5))
  all_goals
    first
    | (refine bodyPost_ret (v := .tuple #[.agg (enA En.zero), .bool false]) ?_ rfl ⟨rfl, ?_⟩
       · exact results_blk_tmp Tryz.results73 _ _ _ w.heap.size 33 _ (0, 0) _ rfl hX6 Tryz.underlying33 rfl (info_en rfl) _ rfl
       · exact hB5.grown hg6 hB5.size (fun k e => by cases e; exact Nat.le_refl _))
    | (refine bodyPost_ret (v := .tuple #[.agg X, .bool true]) ?_ rfl ⟨rfl, ?_⟩
       · exact results_blk_tmp Tryz.results73 _ _ _ w.heap.size 33 _ (0, 0) _ rfl hX6 Tryz.underlying33 rfl (info_en HS.out) _ rfl
       · exact hB5.grown hg6 hB5.size (fun k e => by cases e; exact Nat.le_refl _))
theorem eget_any (A : Option Addr) (n c : Nat) (b : List Int) (w : World) (hb : Bts w A n c b) :
    Calls Tryz.prog 73 #[.slice A n c] w (GE (getE b) (gotB b) w) := by
  by_cases h : n = 30
  · subst h
    have := eget_long A c b w hb
    rw [getE, gotB, hb.len, decide_eq_true rfl, Bool.true_and]
    exact this
  · have h2 : gotB b = false := got_short (by rw [hb.len]; exact h)
    rw [get_not h2, h2]
    exact eget_short A n c b w hb h
end Go.Proofs.YtafmompplcaadaaGreatDoor

/- Pieces of a slice of bytes; what a step of reading a chain meets. -/
namespace Go.Proofs.YtafmompplcaadaaGreatDoor
set_option maxRecDepth 100000
set_option linter.unusedVariables false
set_option linter.unusedSimpArgs false
open Go.RowKit

/-- a piece that is not empty -/
theorem cut_any {w : World} {A : Option Addr} {n c : Nat} {l : List Int} (h : Bts w A n c l) (lo k : Nat) (h1 : 0 < k) (h2 : lo + k ≤ n) :
    ∃ b off, A = some ⟨b, off, none⟩ ∧ Bts w (some ⟨b, off + lo, none⟩) k (c - lo) ((l.drop lo).take k) ∧
      ∀ (x y : Int) (w' : World), x = lo → y = lo + k → (Instr.slice 22 (.slice A n c) (some (.int .i64 x)) (some (.int .i64 y)) none).run Tryz.prog w' = .ok (.slice (some ⟨b, off + lo, none⟩) k (c - lo)) w' := by
  have hle := h.le
  have hmx := h.max
  obtain ⟨b, off, rfl, hc⟩ := h.at_ (by omega)
  refine ⟨b, off, rfl, ⟨by rw [List.length_take, List.length_drop, h.len]; omega, by omega, by omega, ok_piece l h.ok lo k, (fun e => by cases e), fun _ => ⟨b, off + lo, rfl, fun j hj => ?_⟩⟩, fun x y w' hx hy => ?_⟩
  · rw [Nat.add_assoc, hc (lo + j) (by omega)]
    simp [List.getD_eq_getElem?_getD, List.getElem?_take, List.getElem?_drop, hj]
  · have := run_cut b off n c lo (lo + k) x y hx (by rw [hy]; omega) (by omega) (by omega) (by omega) w'
    rw [this, Nat.add_sub_cancel_left]
theorem gete_ok {b : List Int} (hb : ∀ x ∈ b, 0 ≤ x ∧ x < 256) : (getE b).ok := by
  cases h : gotB b with
  | false => rw [get_not h]; exact ⟨⟨by decide, by decide⟩, ⟨by decide, by decide⟩⟩
  | true =>
    rw [getE, h, if_pos rfl]
    rw [gotB, Bool.and_eq_true, decide_eq_true_eq] at h
    exact seems_ok hb h.1
theorem cbeq_dec (x y : List Int) : (x == y) = decide (x = y) := by
  by_cases e : x = y
  · rw [e, decide_eq_true rfl, beq_self_eq_true]
  · rw [decide_eq_false e, beq_eq_false_iff_ne]; exact e
/-- whether a whole record lies there, by its parts -/
theorem whole_eq {h b : List Int} {k : Nat} (hr : 62 * k + 62 ≤ b.length) : wholeC h (b.drop (62 * k)) = (gotB ((b.drop (62 * k)).take 30) && decide (linkP h (getE ((b.drop (62 * k)).take 30)) = (b.drop (62 * k + 30)).take 32)) := by
  rw [wholeC, List.drop_drop, decide_eq_true (by rw [List.length_drop]; omega), Bool.true_and]
  cases hg : gotB ((b.drop (62 * k)).take 30) with
  | false => rfl
  | true =>
    have hm := hg
    rw [gotB, Bool.and_eq_true] at hm
    rw [getE, hg, if_pos rfl, linkP, hm.2, if_pos rfl]
    exact cbeq_dec _ _
theorem read_step {b : List Int} {k : Nat} (hk : k ≤ (readC b).length) :
    (k < (readC b).length → wholeC (headC ((readC b).take k)) (b.drop (62 * k)) = true ∧ (readC b)[k]? = some (seemsE ((b.drop (62 * k)).take 30))) ∧
    (k = (readC b).length → k < 264 → wholeC (headC ((readC b).take k)) (b.drop (62 * k)) = false) := readF_at 264 startC b k hk
/-- where a whole record lies, it is read -/
theorem read_on {b : List Int} {k : Nat} {h : List Int} (hk : k ≤ (readC b).length) (h264 : k < 264) (hr : 62 * k + 62 ≤ b.length) (hh : headC ((readC b).take k) = h)
    (hg : gotB ((b.drop (62 * k)).take 30) = true) (hx : linkP h (getE ((b.drop (62 * k)).take 30)) = (b.drop (62 * k + 30)).take 32) :
    k + 1 ≤ (readC b).length ∧ (readC b)[k]? = some (getE ((b.drop (62 * k)).take 30)) ∧ headC ((readC b).take (k + 1)) = linkP h (getE ((b.drop (62 * k)).take 30)) := by
  obtain ⟨h1, h2⟩ := read_step hk
  have hw : wholeC (headC ((readC b).take k)) (b.drop (62 * k)) = true := by rw [hh, whole_eq hr, hg, hx, decide_eq_true rfl]; rfl
  by_cases hlt : k < (readC b).length
  · have h3 := (h1 hlt).2
    have he : getE ((b.drop (62 * k)).take 30) = seemsE ((b.drop (62 * k)).take 30) := by rw [getE, hg, if_pos rfl]
    have hm := hg
    rw [gotB, Bool.and_eq_true] at hm
    refine ⟨hlt, by rw [he]; exact h3, ?_⟩
    rw [(text_take h3).2, hh, he, linkP, hm.2, if_pos rfl]
  · rw [h2 (by omega) h264] at hw
    cases hw
/-- where none lies, all is read -/
theorem read_off {b : List Int} {k : Nat} {h : List Int} (hk : k ≤ (readC b).length) (hr : 62 * k + 62 ≤ b.length) (hh : headC ((readC b).take k) = h)
    (hx : ¬ (gotB ((b.drop (62 * k)).take 30) = true ∧ linkP h (getE ((b.drop (62 * k)).take 30)) = (b.drop (62 * k + 30)).take 32)) : k = (readC b).length := by
  obtain ⟨h1, -⟩ := read_step hk
  by_cases hlt : k < (readC b).length
  · have h3 := (h1 hlt).1
    rw [hh, whole_eq hr, Bool.and_eq_true, decide_eq_true_eq] at h3
    exact absurd h3 hx
  · omega
theorem read_end {b : List Int} {k : Nat} (hk : k ≤ (readC b).length) (h : ¬ (k < 264 ∧ 62 * k + 62 ≤ b.length)) : k = (readC b).length := by
  have h1 := readC_le b
  have h2 := readC_room b
  omega
/-- what the comparing of two pieces of bytes says -/
theorem bstr_same {x y : List Int} (hx : ∀ j, 0 ≤ x.getD j 0 ∧ x.getD j 0 < 256) (hy : ∀ j, 0 ≤ y.getD j 0 ∧ y.getD j 0 < 256) : ((bstr x).toList == (bstr y).toList) = decide (x = y) := by
  by_cases e : x = y
  · rw [e, decide_eq_true rfl, beq_self_eq_true]
  · rw [decide_eq_false e, beq_eq_false_iff_ne]
    exact fun h => e (bstr_inj hx hy h)
end Go.Proofs.YtafmompplcaadaaGreatDoor

/- What the laws on chains ask, plainly. -/
namespace Go.Proofs.YtafmompplcaadaaGreatDoor
set_option linter.unusedVariables false
set_option linter.unusedSimpArgs false
open Go

theorem verC_len (b : List Int) : (verC b).length = 32 := by
  unfold verC
  by_cases h : errC b = 0
  · rw [if_pos h]; exact headC_len _
  · rw [if_neg h]; rfl
/-- records cut off anywhere: what is read, its head, what is wrong -/
theorem torn_all {l : List En} (hm : mayC l = true) (ho : ∀ u ∈ l, u.ok) (h264 : l.length ≤ 264) {k : Nat} (hk : k ≤ 62 * l.length) :
    k / 62 ≤ l.length ∧ readC ((recsC l).take k) = l.take (k / 62) ∧ (readC ((recsC l).take k)).length = k / 62 ∧ errC ((recsC l).take k) = (if k % 62 = 0 then 0 else 4) := by
  have hb : k / 62 ≤ l.length := by omega
  have hr := torn_read hm ho h264 k hk
  have hl : (readC ((recsC l).take k)).length = k / 62 := by rw [hr, List.length_take]; omega
  have hbl : ((recsC l).take k).length = k := by rw [List.length_take, recsC, recsF_len]; omega
  refine ⟨hb, hr, hl, ?_⟩
  unfold errC
  rw [hl, hbl]
  by_cases h0 : k % 62 = 0
  · rw [if_pos h0, if_pos (by omega)]
  · rw [if_neg h0, if_neg (by omega), if_pos (by omega)]
theorem torn_ver {l : List En} (hm : mayC l = true) (ho : ∀ u ∈ l, u.ok) (h264 : l.length ≤ 264) {k : Nat} (hk : k ≤ 62 * l.length) (h0 : k % 62 = 0) :
    verC ((recsC l).take k) = headC (l.take (k / 62)) := by
  obtain ⟨_, hr, _, he⟩ := torn_all hm ho h264 hk
  rw [if_pos h0] at he
  rw [verC, if_pos he, hr]
theorem putC_take {l : List En} (h : putC l = true) (k : Nat) : putC (l.take k) = true := by
  rw [putC, Bool.and_eq_true, decide_eq_true_eq] at h ⊢
  refine ⟨by rw [List.length_take]; omega, ?_⟩
  cases e : mayC (l.take k) with
  | true => rfl
  | false => rw [mayC_part e] at h; exact h.2
theorem putC_few {l : List En} (h : l.length ≤ 264) : putC l = mayC l := by rw [putC, decide_eq_true h, Bool.true_and]
/-- what is read is put as what was read -/
theorem reads_all {b : List Int} (hb : ∀ x ∈ b, 0 ≤ x ∧ x < 256) : putC (readC b) = true ∧ recsC (readC b) = b.take (62 * (readC b).length) ∧ 62 * (readC b).length ≤ b.length ∧ (∀ u ∈ readC b, u.ok) := by
  obtain ⟨h1, h2, h3⟩ := readC_put hb
  exact ⟨by rw [putC_few (readC_le b)]; exact h1, h3, readC_room b, h2⟩
theorem reads_ver {b : List Int} : (errC b = 0 ↔ 62 * (readC b).length = b.length) ∧ (errC b = 0 → verC b = headC (readC b)) := ⟨err_ok b, fun h => by rw [verC, if_pos h]⟩
/-- one entry more -/
theorem more_all {l : List En} {e : En} (h : l.length ≤ 263) : putC (l ++ [e]) = (putC l && mayE e) ∧ recsC (l ++ [e]) = recsC l ++ putE e ++ linkC (headC l) e ∧ headC (l ++ [e]) = linkC (headC l) e := by
  refine ⟨?_, by rw [recsC_snoc, List.append_assoc], headC_snoc _ _⟩
  rw [putC_few (by rw [List.length_append]; simp only [List.length_cons, List.length_nil]; omega), putC_few (by omega), mayC_snoc]
/-- a record overwritten: a copy of 30 bytes over its own -/
theorem spoil_at {l : List En} {i : Nat} {u e : En} (h : l[i]? = some u) :
    (recsC l).take (62 * i) ++ putE e ++ (recsC l).drop (62 * i + 30) = recsC (l.take i) ++ (putE e ++ (linkC (headC (l.take i)) u ++ recsF (linkC (headC (l.take i)) u) (l.drop (i + 1)))) := by
  obtain ⟨hi, _⟩ := List.getElem?_eq_some_iff.1 h
  have hl : (recsC (l.take i)).length = 62 * i := by rw [recsC, recsF_len, List.length_take]; omega
  rw [recs_about h, List.take_left' hl, ← List.drop_drop, List.drop_left' hl, List.drop_left' (put_len u), List.append_assoc]
end Go.Proofs.YtafmompplcaadaaGreatDoor
