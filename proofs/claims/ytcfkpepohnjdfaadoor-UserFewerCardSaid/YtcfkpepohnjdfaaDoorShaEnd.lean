/- The walk over package sha's End: the sum of a state. -/
import Derived.Test.YtcfkpepohnjdfaaDoorShaTop
import Derived.Deep.MidRow
namespace Go.Proofs.YtcfkpepohnjdfaaDoor
open Go.RowKit

theorem roundedBy_lit (x0 x1 x2 x3 x4 x5 x6 x7 : Int) (l : List Int) (A : Option Addr) (n cap : Nat) (w : World) (hK : KTab w) (hB : Bts w A n cap l) :
    Calls Tryd.prog 53 #[.agg #[.int .u32 x0, .int .u32 x1, .int .u32 x2, .int .u32 x3, .int .u32 x4, .int .u32 x5, .int .u32 x6, .int .u32 x7], .slice A n cap] w
      fun e w' => e = .returned (.agg (regv (byBlocks [x0, x1, x2, x3, x4, x5, x6, x7] l))) ∧ Below w.heap.size w w' :=
  roundedBy_any [x0, x1, x2, x3, x4, x5, x6, x7] l A n cap w hK rfl hB
theorem byBlocks_length (r l : List Int) (hr : r.length = 8) : (byBlocks r l).length = 8 := blocks_length r l hr _
theorem ending_length (n : Nat) : (endingL n).length ≤ 100 := by
  have : noughts n ≤ 63 := by unfold noughts; omega
  simp only [endingL, List.length_append, List.length_cons, List.length_nil, List.length_replicate, List.length_map, List.length_range]
  omega
theorem spelt_length (r : List Int) : (speltL r).length = 32 := by simp [speltL]

theorem box_cells {W : World} {g : Nat} {t : TypeId} {v0 v1 v2 v3 v4 v5 v6 v7 v8 v9 : Value} (h : W.heap[g]? = some (.cells #[v0, v1, v2, v3, v4, v5, v6, v7, v8, v9] t (0, 0))) :
    W.cell? ⟨g, 0, none⟩ = some v0 ∧ W.cell? ⟨g, 1, none⟩ = some v1 ∧ W.cell? ⟨g, 2, none⟩ = some v2 ∧ W.cell? ⟨g, 3, none⟩ = some v3 ∧ W.cell? ⟨g, 4, none⟩ = some v4 ∧
    W.cell? ⟨g, 5, none⟩ = some v5 ∧ W.cell? ⟨g, 6, none⟩ = some v6 ∧ W.cell? ⟨g, 7, none⟩ = some v7 ∧ W.cell? ⟨g, 8, none⟩ = some v8 ∧ W.cell? ⟨g, 9, none⟩ = some v9 := by
  refine ⟨?_, ?_, ?_, ?_, ?_, ?_, ?_, ?_, ?_, ?_⟩ <;> exact (cell_of_row _ _ _ _ _ _ h).trans rfl

def BoxAt (w : World) (g : Nat) (x0 x1 x2 x3 x4 x5 x6 x7 : Int) (A : Option Addr) (n c : Nat) (len : Int) : Prop :=
  w.heap[g]? = some (.cells #[.int .u32 x0, .int .u32 x1, .int .u32 x2, .int .u32 x3, .int .u32 x4, .int .u32 x5, .int .u32 x6, .int .u32 x7, .slice A n c, .int .i64 len] 63 (0, 0))
theorem BoxAt.cells {W : World} {g : Nat} {x0 x1 x2 x3 x4 x5 x6 x7 : Int} {A : Option Addr} {n c : Nat} {len : Int} (h : BoxAt W g x0 x1 x2 x3 x4 x5 x6 x7 A n c len) :
    W.cell? ⟨g, 0, none⟩ = some (.int .u32 x0) ∧ W.cell? ⟨g, 1, none⟩ = some (.int .u32 x1) ∧ W.cell? ⟨g, 2, none⟩ = some (.int .u32 x2) ∧ W.cell? ⟨g, 3, none⟩ = some (.int .u32 x3) ∧ W.cell? ⟨g, 4, none⟩ = some (.int .u32 x4) ∧
    W.cell? ⟨g, 5, none⟩ = some (.int .u32 x5) ∧ W.cell? ⟨g, 6, none⟩ = some (.int .u32 x6) ∧ W.cell? ⟨g, 7, none⟩ = some (.int .u32 x7) ∧ W.cell? ⟨g, 8, none⟩ = some (.slice A n c) ∧ W.cell? ⟨g, 9, none⟩ = some (.int .i64 len) := box_cells h
theorem BoxAt.sets {w : World} {g k : Nat} {x0 x1 x2 x3 x4 x5 x6 x7 : Int} {A : Option Addr} {n c : Nat} {len : Int} (h : BoxAt w g x0 x1 x2 x3 x4 x5 x6 x7 A n c len) (hk : g ≠ k) (o : Nat) (vs : List Value) : BoxAt (w.setCells k o vs) g x0 x1 x2 x3 x4 x5 x6 x7 A n c len :=
  (setCells_off hk vs o w).trans h
theorem BoxAt.below {w W : World} {g : Nat} {x0 x1 x2 x3 x4 x5 x6 x7 : Int} {A : Option Addr} {n c : Nat} {len : Int} (h : BoxAt w g x0 x1 x2 x3 x4 x5 x6 x7 A n c len) (hb : Below w.heap.size w W) : BoxAt W g x0 x1 x2 x3 x4 x5 x6 x7 A n c len :=
  (hb.block g (Array.getElem?_eq_some_iff.1 h).1).trans h

set_option maxRecDepth 100000 in
set_option maxHeartbeats 1000000 in
theorem end_good (x0 x1 x2 x3 x4 x5 x6 x7 : Int) (A : Option Addr) (n c N : Nat) (rest : List Int) (w : World) (hK : KTab w) (hmay : mayB n N = true) (hb : Bts w A n c rest) :
    Calls Tryd.prog 44 #[hashV x0 x1 x2 x3 x4 x5 x6 x7 A n c N] w fun e w' => e = .returned (.agg (idv (endL [x0, x1, x2, x3, x4, x5, x6, x7] rest N))) ∧ Below w.heap.size w w' := by
  obtain ⟨_, hN, hn⟩ := mayB_yes hmay
  have hN : N ≤ 1048576 := by omega
  have hn64 : n < 64 := by omega
  have hel := ending_length N
  have hlen := byBlocks_length [x0, x1, x2, x3, x4, x5, x6, x7] (rest ++ endingL N) rfl
  obtain ⟨R, hR⟩ : ∃ R, R = byBlocks [x0, x1, x2, x3, x4, x5, x6, x7] (rest ++ endingL N) := ⟨_, rfl⟩
  obtain ⟨Z, hZ⟩ : ∃ Z, Z = speltL R := ⟨_, rfl⟩
  have hZl : Z.length = 32 := by rw [hZ]; exact spelt_length R
  have hfin : endL [x0, x1, x2, x3, x4, x5, x6, x7] rest N = Z := by rw [hZ, hR, endL]
  rw [← hR] at hlen
  rw [hfin]
  have HR := Lib.hid hR
  have HZ := Lib.hid hZ
  have HZL := Lib.hid hZl
  have HRL := Lib.hid hlen
  have HN := Lib.hid hn
  clear hR hZ hZl hlen hfin hn
  go_enter Tryd.func44, Tryd.ntmps44
  go_wp2_with (go_at_call 51; refine (may_any _ _ _ _ _ _ _ _ _ _ _ _ _).mono ?_; rintro e w0 ⟨rfl, rfl⟩)
  generalize hW : World.alloc _ _ = W
  obtain ⟨hB0, hz0, hX0, hO0⟩ := named_three hW
  obtain ⟨b0, b1, b2, b3, b4, b5, b6, b7, b8, b9⟩ := box_cells hX0
  have hO0 : RowB W (w.heap.size + 1) 30 (List.replicate 32 0) := hO0
  have hz0 : w.heap.size + 1 < W.heap.size := by omega
  have hbe : BoxAt W w.heap.size x0 x1 x2 x3 x4 x5 x6 x7 A n c N := hX0
  clear hW hX0 hmay b0 b1 b2 b3 b4 b5 b6 b7 b8 b9
  have hi32 : (Tryd.prog.info? 30).map (·.size) = some 32 := by kernel_rfl
  have hZ32 : (byv Z).length = 32 := by rw [byv_length, HZL.out]
  have hone := byv_one Z
  go_region_held3 (fun w' => w'.cell? ⟨w.heap.size, 0, none⟩ = some (.int .u32 x0) ∧ w'.cell? ⟨w.heap.size, 1, none⟩ = some (.int .u32 x1) ∧ w'.cell? ⟨w.heap.size, 2, none⟩ = some (.int .u32 x2) ∧ w'.cell? ⟨w.heap.size, 3, none⟩ = some (.int .u32 x3) ∧ w'.cell? ⟨w.heap.size, 4, none⟩ = some (.int .u32 x4) ∧ w'.cell? ⟨w.heap.size, 5, none⟩ = some (.int .u32 x5) ∧ w'.cell? ⟨w.heap.size, 6, none⟩ = some (.int .u32 x6) ∧ w'.cell? ⟨w.heap.size, 7, none⟩ = some (.int .u32 x7) ∧ w'.cell? ⟨w.heap.size, 8, none⟩ = some (.slice A n c) ∧ w'.cell? ⟨w.heap.size, 9, none⟩ = some (.int .i64 N))
    (first | exact BoxAt.cells hbe | exact BoxAt.cells hbx1 | exact BoxAt.cells hbx2 | exact BoxAt.cells hbx3 | exact BoxAt.cells hbx4 | exact BoxAt.cells (hbx4.sets (Nat.ne_of_lt (Nat.lt_succ_self _)) _ _))
    (first
    | (go_at_call 55; refine (ending_any N _ hN).mono ?_; rintro e w1 ⟨v1, rfl, hown1, hb1⟩
       obtain ⟨A1, n1, c1, rfl, hbt1⟩ := hown1.slice (ok_ending N)
       have hb1 := below_draw hb1
       have hO1 := hO0.below hb1 hO0.lt
       have hbx1 := hbe.below hb1
       have hB1 : Below w.heap.size w w1 := hB0.trans (hb1.mono hB0.size)
       have hn1 : n1 ≤ 100 := by rw [← hbt1.len]; exact hel
       clear hown1 hb1)
    | (go_at_call 54; refine (join_any rest (endingL N) A A1 n c n1 c1 w1 (hb.below hB1) hbt1 (by omega) (by omega)).mono ?_; rintro e w2 ⟨v2, rfl, hown2, hb2⟩
       obtain ⟨A2, n2, c2, rfl, hbt2⟩ := hown2.slice (ok_append hb.ok (ok_ending N))
       have hbx2 := hbx1.below hb2
       clear hown2)
    | (go_at_call 53; refine (roundedBy_lit _ _ _ _ _ _ _ _ (rest ++ endingL N) A2 n2 c2 w2 (hK.from (hB1.trans (hb2.mono hB1.size))) hbt2).mono ?_; rintro e w3 ⟨he, hb3⟩
       rw [← HR.out] at he
       subst he
       have hbx3 := hbx2.below hb3)
    | (go_at_call 52; refine (spelt_any R w3 HRL.out).mono ?_; rintro e w4 ⟨he, hb4⟩
       rw [← HZ.out] at he
       subst he
       have hbx4 := hbx3.below hb4
       have hO4 : RowB w4 (w.heap.size + 1) 30 (List.replicate 32 0) := by
         have h2 := hO1.below hb2 hO1.lt
         have h3 := h2.below hb3 h2.lt
         exact h3.below hb4 h3.lt
       have hT4 : w4.there (w.heap.size + 1) 0 32 := there_of hO4 (by rw [idv_size]; rfl)
       have hB4 : Below w.heap.size w w4 := ((hB1.trans (hb2.mono hB1.size)).trans (hb3.mono (Nat.le_trans hB1.size hb2.size))).trans (hb4.mono (Nat.le_trans (Nat.le_trans hB1.size hb2.size) hb3.size))))
  go_wp2
  refine bodyPost_ret (v := .agg (idv Z)) ?_ ?_ ?_
  · exact results_cell_row Tryd.results44 _ _ (w.heap.size + 1) 30 (idv Z) (0, 0) _ rfl (setCells_all hO4 (by rw [hZ32, byv_length]; rfl)) Tryd.underlying30 rfl (info32 HZL.out)
  · rfl
  · exact ⟨rfl, setCells_below (Nat.le_succ _) _ _ _ hB4⟩
end Go.Proofs.YtcfkpepohnjdfaaDoor
