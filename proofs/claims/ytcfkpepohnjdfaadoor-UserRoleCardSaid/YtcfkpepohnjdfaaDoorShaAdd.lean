/- The walk over package sha's Add, where the state may be, and there is room for the bytes. -/
import Derived.Test.YtcfkpepohnjdfaaDoorShaEnd
namespace Go.Proofs.YtcfkpepohnjdfaaDoor
open Go.RowKit

theorem BoxAt.free {w : World} {g : Nat} {x0 x1 x2 x3 x4 x5 x6 x7 : Int} {A : Option Addr} {n c : Nat} {len : Int} (h : BoxAt w g x0 x1 x2 x3 x4 x5 x6 x7 A n c len) :
    w.frozen? ⟨g, 0, none⟩ = false ∧ w.frozen? ⟨g, 1, none⟩ = false ∧ w.frozen? ⟨g, 2, none⟩ = false ∧ w.frozen? ⟨g, 3, none⟩ = false ∧ w.frozen? ⟨g, 4, none⟩ = false ∧
    w.frozen? ⟨g, 5, none⟩ = false ∧ w.frozen? ⟨g, 6, none⟩ = false ∧ w.frozen? ⟨g, 7, none⟩ = false ∧ w.frozen? ⟨g, 8, none⟩ = false ∧ w.frozen? ⟨g, 9, none⟩ = false := by
  refine ⟨?_, ?_, ?_, ?_, ?_, ?_, ?_, ?_, ?_, ?_⟩ <;> exact frozen_of_row _ _ _ _ _ h
/-- bytes do not lie in a state's block -/
theorem BoxAt.apart {w : World} {g : Nat} {x0 x1 x2 x3 x4 x5 x6 x7 : Int} {A : Option Addr} {n c : Nat} {len : Int} (h : BoxAt w g x0 x1 x2 x3 x4 x5 x6 x7 A n c len) {b i : Nat} {x : Int} (hc : w.cell? ⟨b, i, none⟩ = some (.int .u8 x)) : b ≠ g := by
  rintro rfl
  rw [cell_of_row _ _ _ _ _ _ h] at hc
  match i, hc with
  | 0, hc => simp at hc
  | 1, hc => simp at hc
  | 2, hc => simp at hc
  | 3, hc => simp at hc
  | 4, hc => simp at hc
  | 5, hc => simp at hc
  | 6, hc => simp at hc
  | 7, hc => simp at hc
  | 8, hc => simp at hc
  | 9, hc => simp at hc
  | i + 10, hc => simp at hc
theorem Bts.sets {w : World} {g : Nat} {x0 x1 x2 x3 x4 x5 x6 x7 : Int} {A B : Option Addr} {n c m d : Nat} {len : Int} {l : List Int} (hb : Bts w B m d l) (h : BoxAt w g x0 x1 x2 x3 x4 x5 x6 x7 A n c len) (o : Nat) (vs : List Value) : Bts (w.setCells g o vs) B m d l := by
  refine ⟨hb.len, hb.le, hb.max, hb.ok, hb.bare, fun hm => ?_⟩
  obtain ⟨b, off, hA, hc⟩ := hb.at_ hm
  refine ⟨b, off, hA, fun j hj => ?_⟩
  rw [World.cell?_of_block (w := w) (a := ⟨b, off + j, none⟩) (setCells_off (h.apart (hc j hj)) vs o w)]
  exact hc j hj

theorem BoxAt.put10 {w : World} {g k : Nat} {x0 x1 x2 x3 x4 x5 x6 x7 : Int} {A : Option Addr} {n c : Nat} {len : Int} (h : BoxAt w g x0 x1 x2 x3 x4 x5 x6 x7 A n c len) (hk : g ≠ k) (v0 v1 v2 v3 v4 v5 v6 v7 v8 v9 : Value) :
    BoxAt ((((((((((w.setCell ⟨k, 0, none⟩ v0).setCell ⟨k, 1, none⟩ v1).setCell ⟨k, 2, none⟩ v2).setCell ⟨k, 3, none⟩ v3).setCell ⟨k, 4, none⟩ v4).setCell ⟨k, 5, none⟩ v5).setCell ⟨k, 6, none⟩ v6).setCell ⟨k, 7, none⟩ v7).setCell ⟨k, 8, none⟩ v8).setCell ⟨k, 9, none⟩ v9) g x0 x1 x2 x3 x4 x5 x6 x7 A n c len := h.sets hk 0 [v0, v1, v2, v3, v4, v5, v6, v7, v8, v9]
theorem BoxAt.draw1 {w : World} {g : Nat} {x0 x1 x2 x3 x4 x5 x6 x7 : Int} {A : Option Addr} {n c : Nat} {len : Int} (h : BoxAt w g x0 x1 x2 x3 x4 x5 x6 x7 A n c len) : BoxAt w.drew g x0 x1 x2 x3 x4 x5 x6 x7 A n c len := h
theorem Bts.put10 {w : World} {k : Nat} {x0 x1 x2 x3 x4 x5 x6 x7 : Int} {A B : Option Addr} {n c m d : Nat} {len : Int} {l : List Int} (hb : Bts w B m d l) (h : BoxAt w k x0 x1 x2 x3 x4 x5 x6 x7 A n c len) (v0 v1 v2 v3 v4 v5 v6 v7 v8 v9 : Value) :
    Bts ((((((((((w.setCell ⟨k, 0, none⟩ v0).setCell ⟨k, 1, none⟩ v1).setCell ⟨k, 2, none⟩ v2).setCell ⟨k, 3, none⟩ v3).setCell ⟨k, 4, none⟩ v4).setCell ⟨k, 5, none⟩ v5).setCell ⟨k, 6, none⟩ v6).setCell ⟨k, 7, none⟩ v7).setCell ⟨k, 8, none⟩ v8).setCell ⟨k, 9, none⟩ v9) B m d l := hb.sets h 0 [v0, v1, v2, v3, v4, v5, v6, v7, v8, v9]
theorem below_put10 {B : Nat} {w0 w : World} {k : Nat} (hk : B ≤ k) (h : Below B w0 w) (v0 v1 v2 v3 v4 v5 v6 v7 v8 v9 : Value) : Below B w0 ((((((((((w.setCell ⟨k, 0, none⟩ v0).setCell ⟨k, 1, none⟩ v1).setCell ⟨k, 2, none⟩ v2).setCell ⟨k, 3, none⟩ v3).setCell ⟨k, 4, none⟩ v4).setCell ⟨k, 5, none⟩ v5).setCell ⟨k, 6, none⟩ v6).setCell ⟨k, 7, none⟩ v7).setCell ⟨k, 8, none⟩ v8).setCell ⟨k, 9, none⟩ v9) := setCells_below hk [v0, v1, v2, v3, v4, v5, v6, v7, v8, v9] 0 w h
theorem heap_put10 {w : World} {k : Nat} {x0 x1 x2 x3 x4 x5 x6 x7 : Int} {A : Option Addr} {n c : Nat} {len : Int} (h : BoxAt w k x0 x1 x2 x3 x4 x5 x6 x7 A n c len) (v0 v1 v2 v3 v4 v5 v6 v7 v8 v9 : Value) :
    ((((((((((w.setCell ⟨k, 0, none⟩ v0).setCell ⟨k, 1, none⟩ v1).setCell ⟨k, 2, none⟩ v2).setCell ⟨k, 3, none⟩ v3).setCell ⟨k, 4, none⟩ v4).setCell ⟨k, 5, none⟩ v5).setCell ⟨k, 6, none⟩ v6).setCell ⟨k, 7, none⟩ v7).setCell ⟨k, 8, none⟩ v8).setCell ⟨k, 9, none⟩ v9).heap[k]? = some (.cells #[v0, v1, v2, v3, v4, v5, v6, v7, v8, v9] 63 (0, 0)) := setCells_all (vs := [v0, v1, v2, v3, v4, v5, v6, v7, v8, v9]) h rfl

/-- so many of the bytes are whole blocks -/
def whole (l : List Int) : Nat := l.length / 64 * 64
def AddPost (w : World) (x all : List Int) (len : Int) (e : Ending) (w' : World) : Prop :=
  ∃ y0 y1 y2 y3 y4 y5 y6 y7 A n c, e = .returned (hashV y0 y1 y2 y3 y4 y5 y6 y7 A n c len) ∧ byBlocks x (all.take (whole all)) = [y0, y1, y2, y3, y4, y5, y6, y7] ∧ Bts w' A n c (all.drop (whole all)) ∧ Below w.heap.size w w'

set_option maxRecDepth 100000 in
set_option maxHeartbeats 1000000 in
theorem add_good (x0 x1 x2 x3 x4 x5 x6 x7 : Int) (A B : Option Addr) (n c N m d : Nat) (rest b : List Int) (w : World) (hK : KTab w) (hmay : mayB n N = true) (hroom : (m : Int) ≤ 1048576 - N) (ha : Bts w A n c rest) (hb : Bts w B m d b) :
    Calls Tryd.prog 45 #[hashV x0 x1 x2 x3 x4 x5 x6 x7 A n c N, .slice B m d] w (AddPost w [x0, x1, x2, x3, x4, x5, x6, x7] (rest ++ b) ((N : Int) + (m : Int))) := by
  obtain ⟨_, hN, hn⟩ := mayB_yes hmay
  have hN : N ≤ 1048576 := by omega
  have hn64 : n < 64 := by omega
  have hm : m ≤ 1048576 := by omega
  have hlen := byBlocks_length [x0, x1, x2, x3, x4, x5, x6, x7] ((rest ++ b).take (whole (rest ++ b))) rfl
  obtain ⟨y0, y1, y2, y3, y4, y5, y6, y7, hY⟩ := eight hlen
  have HY := Lib.hid hY
  clear hY hlen hn
  go_enter Tryd.func45, Tryd.ntmps45
  go_wp2_with (go_at_call 51; refine (may_any _ _ _ _ _ _ _ _ _ _ _ _ _).mono ?_; rintro e w0 ⟨rfl, rfl⟩)
  generalize hW : World.alloc _ _ = W
  obtain ⟨hB0, hz0, hX0, hO0⟩ := named_three hW
  have hbe : BoxAt W w.heap.size x0 x1 x2 x3 x4 x5 x6 x7 A n c N := hX0
  have hbo : BoxAt W (w.heap.size + 1) 0 0 0 0 0 0 0 0 none 0 0 0 := hO0
  clear hW hX0 hO0 hmay hz0
  refine (join_any rest b A B n c m d W (ha.below hB0) (hb.below hB0) (by omega) (by omega)).mono ?_
  rintro e w1 ⟨v1, rfl, hown1, hb1⟩
  obtain ⟨A1, n1, c1, rfl, hbt1⟩ := hown1.slice (ok_append ha.ok hb.ok)
  have hbe1 := hbe.below hb1
  have hbo1 := hbo.below hb1
  have hB1 := hB0.trans (hb1.mono hB0.size)
  have hn1 : n1 = n + m := by rw [← hbt1.len, List.length_append, ha.len, hb.len]
  have hn1' : n1 ≤ 1048700 := by omega
  have hwh : n1 / 64 * 64 = whole (rest ++ b) := by rw [whole, hbt1.len]
  obtain ⟨A2, hfrom, hbt2⟩ := run_from hbt1 ((n1 : Int) / 64 * 64) (lo := n1 / 64 * 64) (by omega) (by omega)
  obtain ⟨hto, hbt3⟩ := run_to hbt1 ((n1 : Int) / 64 * 64) (hi := n1 / 64 * 64) (by omega) (by omega)
  have hq1 : n1 - n1 / 64 * 64 ≤ 64 := by omega
  rw [hwh] at hbt2 hbt3
  rw [hwh] at hfrom hto hq1
  obtain ⟨L, hL⟩ : ∃ L, L = whole (rest ++ b) := ⟨_, rfl⟩
  rw [← hL] at hbt2 hbt3 hfrom hto hq1
  have HL := Lib.hid hL
  clear hn1 hwh hown1 hb1 hbe hbo hL
  go_wp2_with fail
  refine (join_any ((rest ++ b).drop L) [] A2 none (n1 - L) (c1 - L) 0 0 w1 hbt2 (Bts.nil w1) (by omega) (by omega)).mono ?_
  rintro e w2 ⟨v3, rfl, hown3, hb2⟩
  obtain ⟨A3, n3, c3, rfl, hbt4⟩ := hown3.slice (ok_append hbt2.ok (Bts.nil w1).ok)
  rw [List.append_nil] at hbt4
  have hbe2 := hbe1.below hb2
  have hbo2 := hbo1.below hb2
  have hB2 := hB1.trans (hb2.mono hB1.size)
  have hbt5 := hbt3.below hb2
  clear hown3 hb2 hbe1 hbo1 hbt2 hbt3 hbt1 hfrom
  have hsum : IntKind.i64.wrap ((N : Int) + (m : Int)) = (N : Int) + (m : Int) := IntWalk.i64_in _ (by omega)
  have hi26 : (Tryd.prog.info? 63).map (·.size) = some 10 := by kernel_rfl
  go_wp2
  go_region_held3 (fun w' => w'.cell? ⟨w.heap.size, 0, none⟩ = some (.int .u32 x0) ∧ w'.cell? ⟨w.heap.size, 1, none⟩ = some (.int .u32 x1) ∧ w'.cell? ⟨w.heap.size, 2, none⟩ = some (.int .u32 x2) ∧ w'.cell? ⟨w.heap.size, 3, none⟩ = some (.int .u32 x3) ∧ w'.cell? ⟨w.heap.size, 4, none⟩ = some (.int .u32 x4) ∧ w'.cell? ⟨w.heap.size, 5, none⟩ = some (.int .u32 x5) ∧ w'.cell? ⟨w.heap.size, 6, none⟩ = some (.int .u32 x6) ∧ w'.cell? ⟨w.heap.size, 7, none⟩ = some (.int .u32 x7) ∧ w'.cell? ⟨w.heap.size, 8, none⟩ = some (.slice A n c) ∧ w'.cell? ⟨w.heap.size, 9, none⟩ = some (.int .i64 N))
    (first | (with_reducible exact BoxAt.cells hbe2) | (with_reducible exact BoxAt.cells hbe2.draw1) | (with_reducible exact BoxAt.cells hbe3) | (with_reducible exact BoxAt.cells (hbe3.put10 (Nat.ne_of_lt (Nat.lt_succ_self _)) _ _ _ _ _ _ _ _ _ _)))
    (first
    | (go_at_call 53; refine (roundedBy_lit _ _ _ _ _ _ _ _ ((rest ++ b).take L) A1 L c1 _ (hK.from hB2.drew) hbt5.draw1).mono ?_; rintro e w3 ⟨he, hb3⟩
       have hb3 := below_draw hb3
       rw [HL.out, HY.out] at he
       simp only [regv, List.map_cons, List.map_nil] at he
       subst he
       have hbe3 := hbe2.below hb3
       have hbo3 := hbo2.below hb3
       have hB3 := hB2.trans (hb3.mono hB2.size)
       obtain ⟨o0, o1, o2, o3, o4, o5, o6, o7, o8, o9⟩ := BoxAt.cells hbo3
       obtain ⟨f0, f1, f2, f3, f4, f5, f6, f7, f8, f9⟩ := BoxAt.free hbo3
       have hbt6 := hbt4.below hb3))
  go_wp2
  refine bodyPost_ret (v := hashV y0 y1 y2 y3 y4 y5 y6 y7 A3 n3 c3 ((N : Int) + (m : Int))) ?_ ?_ ?_
  · exact results_cell_row Tryd.results45 _ _ (w.heap.size + 1) 63 _ (0, 0) _ rfl (heap_put10 hbo3 _ _ _ _ _ _ _ _ _ _) Tryd.underlying63 rfl hi26
  · rfl
  · refine ⟨y0, y1, y2, y3, y4, y5, y6, y7, A3, n3, c3, rfl, HY.out, ?_, below_put10 (Nat.le_succ _) hB3 _ _ _ _ _ _ _ _ _ _⟩
    rw [← HL.out]
    exact hbt6.put10 hbo3 _ _ _ _ _ _ _ _ _ _
end Go.Proofs.YtcfkpepohnjdfaaDoor
