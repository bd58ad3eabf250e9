/- The walk over package sha's End: the sum of a state. -/
import Derived.Test.YtomfnnhdihbpfaaDoorShaTop
import Derived.Deep.MidRow
namespace Go.Proofs.YtomfnnhdihbpfaaDoor
open Go.RowKit

theorem Own.slice {w : World} {base : Nat} {v : Value} {l : List Int} (h : Own w base v l) (hok : ∀ j, 0 ≤ l.getD j 0 ∧ l.getD j 0 < 256) : ∃ A n cap, v = .slice A n cap ∧ Bts w A n cap l := by
  obtain ⟨A, cap, hv, hb⟩ := h.bts hok
  exact ⟨A, l.length, cap, hv, hb⟩
theorem roundedBy_lit (x0 x1 x2 x3 x4 x5 x6 x7 : Int) (l : List Int) (A : Option Addr) (n cap : Nat) (w : World) (hK : KTab w) (hB : Bts w A n cap l) :
    Calls Tryd.prog 38 #[.agg #[.int .u32 x0, .int .u32 x1, .int .u32 x2, .int .u32 x3, .int .u32 x4, .int .u32 x5, .int .u32 x6, .int .u32 x7], .slice A n cap] w
      fun e w' => e = .returned (.agg (regv (byBlocks [x0, x1, x2, x3, x4, x5, x6, x7] l))) ∧ Below w.heap.size w w' :=
  roundedBy_any [x0, x1, x2, x3, x4, x5, x6, x7] l A n cap w hK rfl hB
theorem byBlocks_length (r l : List Int) (hr : r.length = 8) : (byBlocks r l).length = 8 := blocks_length r l hr _
theorem ending_length (n : Nat) : (endingL n).length ≤ 100 := by
  have : noughts n ≤ 63 := by unfold noughts; omega
  simp only [endingL, List.length_append, List.length_cons, List.length_nil, List.length_replicate, List.length_map, List.length_range]
  omega
theorem spelt_length (r : List Int) : (speltL r).length = 32 := by simp [speltL]

/-- a world of three new blocks, under a name -/
theorem named_three {w W : World} {o1 o2 o3 : Obj} (h : ((w.alloc o1).alloc o2).alloc o3 = W) :
    Below w.heap.size w W ∧ w.heap.size + 3 = W.heap.size ∧ W.heap[w.heap.size]? = some o1 ∧ W.heap[w.heap.size + 1]? = some o2 := by
  subst h
  have hs2 : ((w.alloc o1).alloc o2).heap.size = w.heap.size + 2 := by simp
  refine ⟨three_below w o1 o2 o3, by simp, ?_, ?_⟩
  · exact (Below.heap_alloc _ _ _ (by omega)).trans (heap_alloc2_old w _ _)
  · exact (Below.heap_alloc _ _ _ (by omega)).trans (heap_alloc2_new w _ _)
/-- whole cells of a block, overwritten -/
theorem setCells_heap (g : Nat) (t : TypeId) : ∀ (vs : List Value) (o : Nat) (w : World) (cs : List Value), w.heap[g]? = some (.cells cs.toArray t (0, 0)) → o + vs.length ≤ cs.length →
    (w.setCells g o vs).heap[g]? = some (.cells (cs.take o ++ vs ++ cs.drop (o + vs.length)).toArray t (0, 0))
  | [], o, w, cs, h, _ => by
    simp only [World.setCells, List.append_nil, List.length_nil, Nat.add_zero, List.take_append_drop]
    exact h
  | v :: r, o, w, cs, h, hl => by
    have h1 := heap_setCell_same w g o cs.toArray t v h
    simp only [List.setIfInBounds_toArray] at h1
    have h2 := setCells_heap g t r (o + 1) (w.setCell ⟨g, o, none⟩ v) (cs.set o v) h1 (by simp at hl ⊢; omega)
    rw [World.setCells, h2]
    congr 2
    have ho : o < cs.length := by simp at hl; omega
    rw [List.take_set, List.drop_set_of_lt (by omega)]
    have e1 : (cs.take (o + 1)).set o v = cs.take o ++ [v] := by
      rw [List.take_succ_eq_append_getElem ho, List.set_append_right _ _ (by simp; omega)]
      simp [List.length_take, Nat.min_eq_left (Nat.le_of_lt ho)]
    rw [e1]
    simp [List.append_assoc, Nat.add_comm, Nat.add_left_comm]
theorem setCells_all {g : Nat} {t : TypeId} {vs cs : List Value} {w : World} (h : w.heap[g]? = some (.cells cs.toArray t (0, 0))) (hl : vs.length = cs.length) :
    (w.setCells g 0 vs).heap[g]? = some (.cells vs.toArray t (0, 0)) := by
  rw [setCells_heap g t vs 0 w cs h (by omega)]
  congr 2
  rw [List.take_zero, List.nil_append, Nat.zero_add, hl, List.drop_length, List.append_nil]
theorem setCells_below {B : Nat} {w0 : World} {g : Nat} (hg : B ≤ g) : ∀ (vs : List Value) (o : Nat) (w : World), Below B w0 w → Below B w0 (w.setCells g o vs)
  | [], _, _, h => h
  | v :: r, o, _, h => setCells_below hg r (o + 1) _ (h.setCell hg v)
theorem setCells_off {g k : Nat} (hk : k ≠ g) : ∀ (vs : List Value) (o : Nat) (w : World), (w.setCells g o vs).heap[k]? = w.heap[k]?
  | [], _, _ => rfl
  | _ :: r, o, _ => (setCells_off hk r (o + 1) _).trans (heap_setCell_other _ _ _ _ hk)
theorem there_of {w : World} {g : Nat} {t : TypeId} {cs : Array Value} (h : w.heap[g]? = some (.cells cs t (0, 0))) {n : Nat} (hn : cs.size = n) : w.there g 0 n := by
  intro j hj
  rw [Nat.zero_add]
  exact ⟨by rw [cell_of_row _ _ _ _ _ _ h]; simp; omega, frozen_of_row _ _ j _ _ h⟩
theorem box_cells {W : World} {g : Nat} {t : TypeId} {v0 v1 v2 v3 v4 v5 v6 v7 v8 v9 : Value} (h : W.heap[g]? = some (.cells #[v0, v1, v2, v3, v4, v5, v6, v7, v8, v9] t (0, 0))) :
    W.cell? ⟨g, 0, none⟩ = some v0 ∧ W.cell? ⟨g, 1, none⟩ = some v1 ∧ W.cell? ⟨g, 2, none⟩ = some v2 ∧ W.cell? ⟨g, 3, none⟩ = some v3 ∧ W.cell? ⟨g, 4, none⟩ = some v4 ∧
    W.cell? ⟨g, 5, none⟩ = some v5 ∧ W.cell? ⟨g, 6, none⟩ = some v6 ∧ W.cell? ⟨g, 7, none⟩ = some v7 ∧ W.cell? ⟨g, 8, none⟩ = some v8 ∧ W.cell? ⟨g, 9, none⟩ = some v9 := by
  refine ⟨?_, ?_, ?_, ?_, ?_, ?_, ?_, ?_, ?_, ?_⟩ <;> exact (cell_of_row _ _ _ _ _ _ h).trans rfl

def BoxAt (w : World) (g : Nat) (x0 x1 x2 x3 x4 x5 x6 x7 : Int) (A : Option Addr) (n c : Nat) (len : Int) : Prop :=
  w.heap[g]? = some (.cells #[.int .u32 x0, .int .u32 x1, .int .u32 x2, .int .u32 x3, .int .u32 x4, .int .u32 x5, .int .u32 x6, .int .u32 x7, .slice A n c, .int .i64 len] 26 (0, 0))
theorem BoxAt.cells {W : World} {g : Nat} {x0 x1 x2 x3 x4 x5 x6 x7 : Int} {A : Option Addr} {n c : Nat} {len : Int} (h : BoxAt W g x0 x1 x2 x3 x4 x5 x6 x7 A n c len) :
    W.cell? ⟨g, 0, none⟩ = some (.int .u32 x0) ∧ W.cell? ⟨g, 1, none⟩ = some (.int .u32 x1) ∧ W.cell? ⟨g, 2, none⟩ = some (.int .u32 x2) ∧ W.cell? ⟨g, 3, none⟩ = some (.int .u32 x3) ∧ W.cell? ⟨g, 4, none⟩ = some (.int .u32 x4) ∧
    W.cell? ⟨g, 5, none⟩ = some (.int .u32 x5) ∧ W.cell? ⟨g, 6, none⟩ = some (.int .u32 x6) ∧ W.cell? ⟨g, 7, none⟩ = some (.int .u32 x7) ∧ W.cell? ⟨g, 8, none⟩ = some (.slice A n c) ∧ W.cell? ⟨g, 9, none⟩ = some (.int .i64 len) := box_cells h
theorem BoxAt.sets {w : World} {g k : Nat} {x0 x1 x2 x3 x4 x5 x6 x7 : Int} {A : Option Addr} {n c : Nat} {len : Int} (h : BoxAt w g x0 x1 x2 x3 x4 x5 x6 x7 A n c len) (hk : g ≠ k) (o : Nat) (vs : List Value) : BoxAt (w.setCells k o vs) g x0 x1 x2 x3 x4 x5 x6 x7 A n c len :=
  (setCells_off hk vs o w).trans h
theorem BoxAt.below {w W : World} {g : Nat} {x0 x1 x2 x3 x4 x5 x6 x7 : Int} {A : Option Addr} {n c : Nat} {len : Int} (h : BoxAt w g x0 x1 x2 x3 x4 x5 x6 x7 A n c len) (hb : Below w.heap.size w W) : BoxAt W g x0 x1 x2 x3 x4 x5 x6 x7 A n c len :=
  (hb.block g (Array.getElem?_eq_some_iff.1 h).1).trans h

set_option maxRecDepth 100000 in
set_option maxHeartbeats 1000000 in
theorem end_good (x0 x1 x2 x3 x4 x5 x6 x7 : Int) (A : Option Addr) (n c N : Nat) (rest : List Int) (w : World) (hK : KTab w) (hmay : mayB n N = true) (hb : Bts w A n c rest) :
    Calls Tryd.prog 24 #[hashV x0 x1 x2 x3 x4 x5 x6 x7 A n c N] w fun e w' => e = .returned (.agg (idv (endL [x0, x1, x2, x3, x4, x5, x6, x7] rest N))) ∧ Below w.heap.size w w' := by
  obtain ⟨_, hN, hn⟩ := mayB_yes hmay
  have hN : N ≤ 1048576 := by omega
  have hn64 : n < 64 := by omega
  have hel := ending_length N
  have hlen := byBlocks_length [x0, x1, x2, x3, x4, x5, x6, x7] (rest ++ endingL N) rfl
  obtain ⟨R, hR⟩ : ∃ R, R = byBlocks [x0, x1, x2, x3, x4, x5, x6, x7] (rest ++ endingL N) := ⟨_, rfl⟩
  obtain ⟨Z, hZ⟩ : ∃ Z, Z = speltL R := ⟨_, rfl⟩
  have hZl : Z.length = 32 := by rw [hZ]; exact spelt_length R
  have hfin : endL [x0, x1, x2, x3, x4, x5, x6, x7] rest N = Z := by rw [hZ, hR, endL]
  rw [← hR] at hlen
  rw [hfin]
  have HR := Lib.hid hR
  have HZ := Lib.hid hZ
  have HZL := Lib.hid hZl
  have HRL := Lib.hid hlen
  have HN := Lib.hid hn
  clear hR hZ hZl hlen hfin hn
  go_enter Tryd.func24, Tryd.ntmps24
  go_wp2_with (go_at_call 23; refine (may_any _ _ _ _ _ _ _ _ _ _ _ _ _).mono ?_; rintro e w0 ⟨rfl, rfl⟩)
  generalize hW : World.alloc _ _ = W
  obtain ⟨hB0, hz0, hX0, hO0⟩ := named_three hW
  obtain ⟨b0, b1, b2, b3, b4, b5, b6, b7, b8, b9⟩ := box_cells hX0
  have hO0 : RowB W (w.heap.size + 1) 33 (List.replicate 32 0) := hO0
  have hz0 : w.heap.size + 1 < W.heap.size := by omega
  have hbe : BoxAt W w.heap.size x0 x1 x2 x3 x4 x5 x6 x7 A n c N := hX0
  clear hW hX0 hmay b0 b1 b2 b3 b4 b5 b6 b7 b8 b9
  have hi32 : (Tryd.prog.info? 33).map (·.size) = some 32 := by kernel_rfl
  have hZ32 : (byv Z).length = 32 := by rw [byv_length, HZL.out]
  have hone := byv_one Z
  go_region_held3 (fun w' => w'.cell? ⟨w.heap.size, 0, none⟩ = some (.int .u32 x0) ∧ w'.cell? ⟨w.heap.size, 1, none⟩ = some (.int .u32 x1) ∧ w'.cell? ⟨w.heap.size, 2, none⟩ = some (.int .u32 x2) ∧ w'.cell? ⟨w.heap.size, 3, none⟩ = some (.int .u32 x3) ∧ w'.cell? ⟨w.heap.size, 4, none⟩ = some (.int .u32 x4) ∧ w'.cell? ⟨w.heap.size, 5, none⟩ = some (.int .u32 x5) ∧ w'.cell? ⟨w.heap.size, 6, none⟩ = some (.int .u32 x6) ∧ w'.cell? ⟨w.heap.size, 7, none⟩ = some (.int .u32 x7) ∧ w'.cell? ⟨w.heap.size, 8, none⟩ = some (.slice A n c) ∧ w'.cell? ⟨w.heap.size, 9, none⟩ = some (.int .i64 N))
    (first | exact BoxAt.cells hbe | exact BoxAt.cells hbx1 | exact BoxAt.cells hbx2 | exact BoxAt.cells hbx3 | exact BoxAt.cells hbx4 | exact BoxAt.cells (hbx4.sets (Nat.ne_of_lt (Nat.lt_succ_self _)) _ _))
    (first
    | (go_at_call 41; refine (ending_any N _ hN).mono ?_; rintro e w1 ⟨v1, rfl, hown1, hb1⟩
       obtain ⟨A1, n1, c1, rfl, hbt1⟩ := hown1.slice (ok_ending N)
       have hb1 := below_draw hb1
       have hO1 := hO0.below hb1 hO0.lt
       have hbx1 := hbe.below hb1
       have hB1 : Below w.heap.size w w1 := hB0.trans (hb1.mono hB0.size)
       have hn1 : n1 ≤ 100 := by rw [← hbt1.len]; exact hel
       clear hown1 hb1)
    | (go_at_call 37; refine (join_any rest (endingL N) A A1 n c n1 c1 w1 (hb.below hB1) hbt1 (by omega) (by omega)).mono ?_; rintro e w2 ⟨v2, rfl, hown2, hb2⟩
       obtain ⟨A2, n2, c2, rfl, hbt2⟩ := hown2.slice (ok_append hb.ok (ok_ending N))
       have hbx2 := hbx1.below hb2
       clear hown2)
    | (go_at_call 38; refine (roundedBy_lit _ _ _ _ _ _ _ _ (rest ++ endingL N) A2 n2 c2 w2 (hK.from (hB1.trans (hb2.mono hB1.size))) hbt2).mono ?_; rintro e w3 ⟨he, hb3⟩
       rw [← HR.out] at he
       subst he
       have hbx3 := hbx2.below hb3)
    | (go_at_call 40; refine (spelt_any R w3 HRL.out).mono ?_; rintro e w4 ⟨he, hb4⟩
       rw [← HZ.out] at he
       subst he
       have hbx4 := hbx3.below hb4
       have hO4 : RowB w4 (w.heap.size + 1) 33 (List.replicate 32 0) := by
         have h2 := hO1.below hb2 hO1.lt
         have h3 := h2.below hb3 h2.lt
         exact h3.below hb4 h3.lt
       have hT4 : w4.there (w.heap.size + 1) 0 32 := there_of hO4 (by rw [idv_size]; rfl)
       have hB4 : Below w.heap.size w w4 := ((hB1.trans (hb2.mono hB1.size)).trans (hb3.mono (Nat.le_trans hB1.size hb2.size))).trans (hb4.mono (Nat.le_trans (Nat.le_trans hB1.size hb2.size) hb3.size))))
  go_wp2
  refine bodyPost_ret (v := .agg (idv Z)) ?_ ?_ ?_
  · exact results_cell_row Tryd.results24 _ _ (w.heap.size + 1) 33 (idv Z) (0, 0) _ rfl (setCells_all hO4 (by rw [hZ32, byv_length]; rfl)) Tryd.underlying33 rfl (info32 HZL.out)
  · rfl
  · exact ⟨rfl, setCells_below (Nat.le_succ _) _ _ _ hB4⟩
end Go.Proofs.YtomfnnhdihbpfaaDoor
