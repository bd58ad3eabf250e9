/- The walk over the plain answers' Add, where the state may be, and there is room for the bytes. -/
import Derived.Test.YtomfnnhdihbpfaaDoorRefRoundW
import Derived.Test.YtomfnnhdihbpfaaDoorRefTop
import Derived.Test.YtomfnnhdihbpfaaDoorShaPlain
import Derived.Test.YtomfnnhdihbpfaaDoorShaSum
namespace Go.Proofs.YtomfnnhdihbpfaaDoor
open Go.RowKit

theorem mac_one (w : World) (o : Obj) : Below w.heap.size w (w.alloc o) := (Below.refl _ w).alloc (Nat.le_refl _) o
theorem rround_lit (y0 y1 y2 y3 y4 y5 y6 y7 : Int) (l : List Int) (b off cap : Nat) (w : World) (hby : ∀ j, 0 ≤ l.getD j 0 ∧ l.getD j 0 < 256) (hc : ∀ j, j < 64 → w.cell? ⟨b, off + j, none⟩ = some (.int .u8 (l.getD j 0))) :
    Calls Tryd.prog 39 #[.agg #[.int .u32 y0, .int .u32 y1, .int .u32 y2, .int .u32 y3, .int .u32 y4, .int .u32 y5, .int .u32 y6, .int .u32 y7], .slice (some ⟨b, off, none⟩) 64 cap] w
      fun e w' => (∃ z0 z1 z2 z3 z4 z5 z6 z7 : Int, roundedL [y0, y1, y2, y3, y4, y5, y6, y7] l = [z0, z1, z2, z3, z4, z5, z6, z7] ∧ e = .returned (.agg #[.int .u32 z0, .int .u32 z1, .int .u32 z2, .int .u32 z3, .int .u32 z4, .int .u32 z5, .int .u32 z6, .int .u32 z7])) ∧ Below w.heap.size w w' := by
  refine (rround_any [y0, y1, y2, y3, y4, y5, y6, y7] l b off cap w rfl hby hc).mono ?_
  rintro e w' ⟨he, hb⟩
  obtain ⟨z0, z1, z2, z3, z4, z5, z6, z7, hz⟩ := eight (rounded_length [y0, y1, y2, y3, y4, y5, y6, y7] l rfl)
  rw [hz] at he
  exact ⟨⟨z0, z1, z2, z3, z4, z5, z6, z7, hz, he⟩, hb⟩
/-- a state's register, overwritten -/
theorem BoxAt.put8 {w : World} {k : Nat} {x0 x1 x2 x3 x4 x5 x6 x7 : Int} {A : Option Addr} {n c : Nat} {len : Int} (h : BoxAt w k x0 x1 x2 x3 x4 x5 x6 x7 A n c len) (z0 z1 z2 z3 z4 z5 z6 z7 : Int) :
    BoxAt ((((((((w.setCell ⟨k, 0, none⟩ (.int .u32 z0)).setCell ⟨k, 1, none⟩ (.int .u32 z1)).setCell ⟨k, 2, none⟩ (.int .u32 z2)).setCell ⟨k, 3, none⟩ (.int .u32 z3)).setCell ⟨k, 4, none⟩ (.int .u32 z4)).setCell ⟨k, 5, none⟩ (.int .u32 z5)).setCell ⟨k, 6, none⟩ (.int .u32 z6)).setCell ⟨k, 7, none⟩ (.int .u32 z7)) k z0 z1 z2 z3 z4 z5 z6 z7 A n c len := by
  have := setCells_heap k 26 [.int .u32 z0, .int .u32 z1, .int .u32 z2, .int .u32 z3, .int .u32 z4, .int .u32 z5, .int .u32 z6, .int .u32 z7] 0 w [.int .u32 x0, .int .u32 x1, .int .u32 x2, .int .u32 x3, .int .u32 x4, .int .u32 x5, .int .u32 x6, .int .u32 x7, .slice A n c, .int .i64 len] h (by simp)
  exact this
theorem below_put8 {B : Nat} {w0 w : World} {k : Nat} (hk : B ≤ k) (h : Below B w0 w) (v0 v1 v2 v3 v4 v5 v6 v7 : Value) : Below B w0 ((((((((w.setCell ⟨k, 0, none⟩ v0).setCell ⟨k, 1, none⟩ v1).setCell ⟨k, 2, none⟩ v2).setCell ⟨k, 3, none⟩ v3).setCell ⟨k, 4, none⟩ v4).setCell ⟨k, 5, none⟩ v5).setCell ⟨k, 6, none⟩ v6).setCell ⟨k, 7, none⟩ v7) :=
  setCells_below hk [v0, v1, v2, v3, v4, v5, v6, v7] 0 w h
theorem BoxAt.rest {w : World} {k : Nat} {x0 x1 x2 x3 x4 x5 x6 x7 : Int} {A A' : Option Addr} {n c n' c' : Nat} {len : Int} (h : BoxAt w k x0 x1 x2 x3 x4 x5 x6 x7 A n c len) : BoxAt (w.setCell ⟨k, 8, none⟩ (.slice A' n' c')) k x0 x1 x2 x3 x4 x5 x6 x7 A' n' c' len := by
  have := setCells_heap k 26 [.slice A' n' c'] 8 w [.int .u32 x0, .int .u32 x1, .int .u32 x2, .int .u32 x3, .int .u32 x4, .int .u32 x5, .int .u32 x6, .int .u32 x7, .slice A n c, .int .i64 len] h (by simp)
  exact this

set_option maxRecDepth 100000 in
set_option maxHeartbeats 1000000 in
theorem radd_good (x0 x1 x2 x3 x4 x5 x6 x7 : Int) (A B : Option Addr) (n c N m d : Nat) (rest b : List Int) (w : World) (hmay : mayB n N = true) (hroom : (m : Int) ≤ 1048576 - N) (ha : Bts w A n c rest) (hb : Bts w B m d b) :
    Calls Tryd.prog 20 #[hashV x0 x1 x2 x3 x4 x5 x6 x7 A n c N, .slice B m d] w (AddPost w [x0, x1, x2, x3, x4, x5, x6, x7] (rest ++ b) ((N : Int) + (m : Int))) := by
  obtain ⟨_, hN, hn⟩ := mayB_yes hmay
  have hN : N ≤ 1048576 := by omega
  have hn64 : n < 64 := by omega
  have hm : m ≤ 1048576 := by omega
  obtain ⟨L, hL⟩ : ∃ L, L = rest ++ b := ⟨_, rfl⟩
  have hLl : L.length = n + m := by rw [hL, List.length_append, ha.len, hb.len]
  have hLo : ∀ j, 0 ≤ L.getD j 0 ∧ L.getD j 0 < 256 := by rw [hL]; exact ok_append ha.ok hb.ok
  rw [← hL]
  have hal := ha.len
  have hsum : IntKind.i64.wrap ((N : Int) + (m : Int)) = (N : Int) + (m : Int) := IntWalk.i64_in _ (by omega)
  have HL := Lib.hid hL
  have HLL := Lib.hid hLl
  have HLO := Lib.hid hLo
  have HAL := Lib.hid hal
  clear hL hLl hLo hn hal
  go_enter Tryd.func20, Tryd.ntmps20
  go_wp2_with fail
  refine (rmay_any _ _ _ _ _ _ _ _ _ _ _ _ _).mono ?_
  rintro e w0 ⟨rfl, rfl⟩
  generalize hW : World.alloc _ _ = W
  obtain ⟨hB0, hz0, hX0, hO0⟩ := named_three hW
  have hbe : BoxAt W w.heap.size x0 x1 x2 x3 x4 x5 x6 x7 A n c N := hX0
  have hbo : BoxAt W (w.heap.size + 1) 0 0 0 0 0 0 0 0 none 0 0 0 := hO0
  obtain ⟨e0, e1, e2, e3, e4, e5, e6, e7, e8, e9⟩ := BoxAt.cells hbe
  rw [hmay]
  clear hW hX0 hO0 hmay
  go_wp2_with (first
    | (at_builtin
       refine wpList_append_b rfl (.const (.slice none 0 0)) (.tmp 22) rfl W.heap.size (.slice none 0 0) [] rfl (Own.nil _ _) A n c rest rfl (ha.below hB0) (by simp only [List.length_nil]; omega) (Nat.le_refl _) ?_
       intro v4 w4 hown4 hg4
       rw [List.nil_append] at hown4
       have hC4 : Below W.heap.size W w4 := (Below.refl _ _).grown hg4 (Nat.le_refl _) (fun k hk => by cases hk)
       have hv4 := hown4.size
       clear hg4)
    | (at_builtin
       refine wpList_append_b rfl (.tmp 24) (.tmp 25) rfl W.heap.size v4 rest rfl hown4 B m d b rfl ((hb.below hB0).below hC4) (by rw [HAL.out]; omega) hC4.size ?_
       intro v5 w5 hown5 hg5
       have hC5 : Below W.heap.size W w5 := hC4.grown hg5 hC4.size (fun k hk => (hv4 k hk).1)
       rw [← HL.out] at hown5
       obtain ⟨A5, n5, c5, rfl, hbt5⟩ := hown5.slice HLO.out
       have hbe5 : BoxAt w5 w.heap.size x0 x1 x2 x3 x4 x5 x6 x7 A n c N := hbe.below hC5
       obtain ⟨e0, e1, e2, e3, e4, e5, e6, e7, e8, e9⟩ := BoxAt.cells hbe5
       clear hg5 hown5 hown4 hv4))
  have hn5 : n5 = n + m := by have h1 := hbt5.len; rw [HLL.out] at h1; omega
  have hbo5 : BoxAt w5 (w.heap.size + 1) 0 0 0 0 0 0 0 0 none 0 0 0 := hbo.below hC5
  have hB5 : Below w.heap.size w w5 := hB0.trans (hC5.mono hB0.size)
  have hz5 : w.heap.size + 3 ≤ w5.heap.size := by have := hC5.size; omega
  have HBE := Lib.hid hbo5
  have HB5 := Lib.hid hB5
  have HC5 := Lib.hid hC5
  clear e0 e1 e2 e3 e4 e5 e6 e7 e8 e9 hbe hbe5 hbo hbo5 hB5 hC5 hC4 hB0 ha hb
  go_loopw [6] (fun v wr => ∃ (j : Nat) (A' : Option Addr) (n' c' : Nat) (y0 y1 y2 y3 y4 y5 y6 y7 : Int), 64 * j + n' = n + m ∧ v = .slice A' n' c' ∧ Bts w5 A' n' c' (L.drop (64 * j)) ∧ blocksL [x0, x1, x2, x3, x4, x5, x6, x7] L j = [y0, y1, y2, y3, y4, y5, y6, y7] ∧
      BoxAt wr w5.heap.size y0 y1 y2 y3 y4 y5 y6 y7 none 0 0 ((N : Int) + (m : Int)) ∧ Below w5.heap.size w5 wr) (fun v _ => lenV v)
  case atStart => exact ⟨0, A5, n5, c5, x0, x1, x2, x3, x4, x5, x6, x7, by omega, rfl, by rw [Nat.mul_zero, List.drop_zero]; exact hbt5, rfl, heap_alloc_new w5 _, mac_one w5 _⟩
  case round =>
    clear hbt5 hn5
    obtain ⟨j, A', n', c', y0, y1, y2, y3, y4, y5, y6, y7, hjn, rfl, hbt, hY, hbox, hB⟩ := hrel
    by_cases hge : 64 ≤ n'
    · have hge' : (64 : Int) ≤ n' := by omega
      obtain ⟨hto, hbtP⟩ := run_to hbt 64 (hi := 64) rfl hge
      obtain ⟨A2, hfrom, hbt2⟩ := run_from hbt 64 (lo := 64) rfl hge
      obtain ⟨bb, off, rfl, hcell⟩ := hbtP.at_ (by omega)
      have hblk := block_lt_of_cell (hcell 0 (by omega))
      have hok := hbtP.ok
      have hdrop : (L.drop (64 * j)).drop 64 = L.drop (64 * (j + 1)) := by rw [List.drop_drop]; congr 1
      rw [hdrop] at hbt2
      obtain ⟨P, hP⟩ : ∃ P, P = (L.drop (64 * j)).take 64 := ⟨_, rfl⟩
      rw [← hP] at hcell hok
      have hnext : blocksL [x0, x1, x2, x3, x4, x5, x6, x7] L (j + 1) = roundedL [y0, y1, y2, y3, y4, y5, y6, y7] P := by rw [blocksL, hY, hP]
      have hcr : ∀ k, k < 64 → wr.drew.cell? ⟨bb, off + k, none⟩ = some (.int .u8 (P.getD k 0)) := fun k hk => (hB.cell (p := ⟨bb, off + k, none⟩) hblk).trans (hcell k hk)
      have HN := Lib.hid hnext
      have HCR := Lib.hid hcr
      have HB := Lib.hid hB
      have HBT2 := Lib.hid hbt2
      have HBOX := Lib.hid hbox
      have HOK := Lib.hid hok
      clear hnext hcr hB hbt2 hbox hok hcell hP hdrop hbtP hbt hY
      obtain ⟨c0, c1, c2, c3, c4, c5, c6, c7, _, _⟩ := BoxAt.cells HBOX.out
      go_wp2
      go_region_with
        (first
        | (go_at_call 39; refine (rround_lit y0 y1 y2 y3 y4 y5 y6 y7 P bb off c' _ HOK.out HCR.out).mono ?_; rintro e w7 ⟨⟨z0, z1, z2, z3, z4, z5, z6, z7, hz, rfl⟩, hb7⟩
           have hb7 := below_draw hb7
           have hbox7 := HBOX.out.below hb7
           have hB7 : Below w5.heap.size w5 w7 := HB.out.trans (hb7.mono HB.out.size)
           obtain ⟨d0, d1, d2, d3, d4, d5, d6, d7, _, _⟩ := BoxAt.cells hbox7
           obtain ⟨f0, f1, f2, f3, f4, f5, f6, f7, _, _⟩ := BoxAt.free hbox7))
      generalize hW7 : World.setCell _ _ _ = W7
      have hboxW : BoxAt W7 w5.heap.size z0 z1 z2 z3 z4 z5 z6 z7 none 0 0 ((N : Int) + (m : Int)) := by rw [← hW7]; exact hbox7.put8 _ _ _ _ _ _ _ _
      have hBW : Below w5.heap.size w5 W7 := by rw [← hW7]; exact below_put8 (Nat.le_refl _) hB7 _ _ _ _ _ _ _ _
      clear hW7 hB7 hbox7 d0 d1 d2 d3 d4 d5 d6 d7 f0 f1 f2 f3 f4 f5 f6 f7
      go_wp2
      go_roundw
      case rel => exact ⟨j + 1, A2, n' - 64, c' - 64, z0, z1, z2, z3, z4, z5, z6, z7, by omega, rfl, HBT2.out, by rw [HN.out, hz], hboxW, hBW⟩
      case measure => simp only [lenV]; omega
    · have hlt' : (n' : Int) < 64 := by omega
      have hj : j = L.length / 64 := by rw [HLL.out]; omega
      have hw : 64 * j = whole L := by rw [whole, hj, Nat.mul_comm]
      have hY' : byBlocks [x0, x1, x2, x3, x4, x5, x6, x7] (L.take (whole L)) = [y0, y1, y2, y3, y4, y5, y6, y7] := by rw [byBlocks_whole, ← hj, hY]
      rw [hw] at hbt
      have hbtr := hbt.below hB
      have hbor := HBE.out.below hB
      obtain ⟨c0, c1, c2, c3, c4, c5, c6, c7, c8, c9⟩ := BoxAt.cells hbox
      obtain ⟨f0, f1, f2, f3, f4, f5, f6, f7, f8, f9⟩ := BoxAt.free hbox
      obtain ⟨o0, o1, o2, o3, o4, o5, o6, o7, o8, o9⟩ := BoxAt.cells hbor
      obtain ⟨g0, g1, g2, g3, g4, g5, g6, g7, g8, g9⟩ := BoxAt.free hbor
      have HY := Lib.hid hY'
      have HBOX := Lib.hid hbox
      have HBT := Lib.hid hbtr
      have HBO := Lib.hid hbor
      have HB := Lib.hid hB
      clear hY hY' hbox hbtr hbor hB hbt hw hj
      have hi26 : (Tryd.prog.info? 26).map (·.size) = some 10 := by kernel_rfl
      go_wp2
      have hbo8 : BoxAt (wr.setCell ⟨w5.heap.size, 8, none⟩ (.slice A' n' c')) (w.heap.size + 1) 0 0 0 0 0 0 0 0 none 0 0 0 := HBO.out.sets (by omega) 8 [.slice A' n' c']
      have hbt8 : Bts (wr.setCell ⟨w5.heap.size, 8, none⟩ (.slice A' n' c')) A' n' c' (L.drop (whole L)) := HBT.out.sets HBOX.out 8 [.slice A' n' c']
      have hB8 : Below w.heap.size w (wr.setCell ⟨w5.heap.size, 8, none⟩ (.slice A' n' c')) := (HB5.out.trans (HB.out.mono HB5.out.size)).setCell (p := ⟨w5.heap.size, 8, none⟩) HB5.out.size _
      refine bodyPost_ret (v := hashV y0 y1 y2 y3 y4 y5 y6 y7 A' n' c' ((N : Int) + (m : Int))) ?_ ?_ ?_
      · exact results_cell_row Tryd.results20 _ _ (w.heap.size + 1) 26 _ (0, 0) _ rfl (heap_put10 hbo8 _ _ _ _ _ _ _ _ _ _) Tryd.underlying26 rfl hi26
      · rfl
      · exact ⟨y0, y1, y2, y3, y4, y5, y6, y7, A', n', c', rfl, HY.out, hbt8.put10 hbo8 _ _ _ _ _ _ _ _ _ _, below_put10 (Nat.le_succ _) hB8 _ _ _ _ _ _ _ _ _ _⟩
end Go.Proofs.YtomfnnhdihbpfaaDoor
