/- Joined texts: A store into the middle of a block, and of a whole block, at blocks whose rows are known. The document's green. -/
import Derived.Test.YtgnhmdfajnnkhaaSaJA
import Derived.Test.YtgnhmdfajnnkhaaSaJC
/- A store into the middle of a block, and of a whole block, at blocks whose rows are known. -/
namespace Go.Proofs.Ytgnhmdfajnnkhaa
set_option linter.unusedVariables false
set_option linter.unusedSimpArgs false
open Go.RowKit

section
variable {P : Program}
theorem run_storeVar_mid (w : World) (g o : Nat) (t ty : TypeId) (v : Value) (old cells new : Array Value) (hv : v.cells = cells) (hg : w.heap[g]? = some (.cells old t (0, 0))) (hi : (P.info? ty).map (·.size) = some cells.size)
    (hl : o + cells.size ≤ old.size) (h1 : cells.all (·.oneCell') = true) (hn : old.toList.take o ++ cells.toList ++ old.toList.drop (o + cells.size) = new.toList) :
    (storeVar ty ⟨g, o, none⟩ v).run P w = .ok () (w.setRow g new) := by
  have h := run_storeCells_at P g o t cells.toList 0 old w hg (by simpa using hl) (fun v hv => (Array.all_eq_true_iff_forall_mem.1 h1) v (by simpa using hv))
  simp only [Nat.add_zero, Array.length_toList, hn, Array.toArray_toList] at h
  cases hq : P.info? ty with
  | none => simp [hq] at hi
  | some i =>
    have hs : cells.size = i.size := by simp [hq] at hi; omega
    simp [storeVar, sizeOf, typeInfo, hq, hv, hs, h]
theorem wp_store_part {o : Oper} {a : Act} {w : World} {K : Act → World → Prop} {Q : Exit → Act → World → Prop} (ty : TypeId) (x y : Operand) (ho : o.op = .store ty x y)
    (g off : Nat) (v : Value) (cells : Array Value) (hx : a.eval x = .pointer (some ⟨g, off, none⟩)) (hy : a.eval y = v) (hv : v.cells = cells) (t : TypeId) (old new : Array Value) (hg : w.heap[g]? = some (.cells old t (0, 0))) (hi : (P.info? ty).map (·.size) = some cells.size)
    (hl : off + cells.size ≤ old.size) (h1 : cells.all (·.oneCell') = true) (hn : old.toList.take off ++ cells.toList ++ old.toList.drop (off + cells.size) = new.toList)
    (h : ∀ w', w.grownBy w' (some g) → w'.heap[g]? = some (.cells new t (0, 0)) → w'.heap.size = w.heap.size → K (a.put o.dst undef) w') : o.wp P a w K Q := by
  unfold Oper.wp execOp
  simp only [ho, hx, hy, Instr.storeAt, Instr.sureAddr, Sem.run_bind, Sem.run_pure, Result.andThen_ok, run_storeVar_mid w g off t ty v old cells new hv hg hi hl h1 hn]
  exact h _ (grown_setRow _ _ _) (setRow_heap _ _ _ _ _ _ hg) (by simp)
theorem wpList_store_part {ops : Array Oper} {rest : List Oper} {o : Oper} {a : Act} {w : World} {Q : Exit → Act → World → Prop} (hgd : o.guard = none) (ty : TypeId) (x y : Operand) (ho : o.op = .store ty x y)
    (g off : Nat) (v : Value) (cells : Array Value) (hx : a.eval x = .pointer (some ⟨g, off, none⟩)) (hy : a.eval y = v) (hv : v.cells = cells) (t : TypeId) (old new : Array Value) (hg : w.heap[g]? = some (.cells old t (0, 0))) (hi : (P.info? ty).map (·.size) = some cells.size)
    (hl : off + cells.size ≤ old.size) (h1 : cells.all (·.oneCell') = true) (hn : old.toList.take off ++ cells.toList ++ old.toList.drop (off + cells.size) = new.toList)
    (h : ∀ w', w.grownBy w' (some g) → w'.heap[g]? = some (.cells new t (0, 0)) → w'.heap.size = w.heap.size → wpList P ops Q rest (a.put o.dst undef) w') : wpList P ops Q (o :: rest) a w :=
  wpList_plain hgd fun _ hK => wp_store_part ty x y ho g off v cells hx hy hv t old new hg hi hl h1 hn fun w' h2 h3 h4 => hK _ _ (h w' h2 h3 h4)
theorem step_store_part {ops : Array Oper} {o : Oper} {a : Act} {w : World} {K : Act → World → Prop} {Q : Exit → Act → World → Prop} {E : Prop} (ty : TypeId) (x y : Operand) (ho : o.op = .store ty x y)
    (g off : Nat) (v : Value) (cells : Array Value) (hx : a.eval x = .pointer (some ⟨g, off, none⟩)) (hy : a.eval y = v) (hv : v.cells = cells) (t : TypeId) (old new : Array Value) (hg : w.heap[g]? = some (.cells old t (0, 0))) (hi : (P.info? ty).map (·.size) = some cells.size)
    (hl : off + cells.size ≤ old.size) (h1 : cells.all (·.oneCell') = true) (hn : old.toList.take off ++ cells.toList ++ old.toList.drop (off + cells.size) = new.toList) (hw : Region.wanted o (yielded ops a.tmps) = true)
    (h : ∀ w', w.grownBy w' (some g) → w'.heap[g]? = some (.cells new t (0, 0)) → w'.heap.size = w.heap.size → K (a.put o.dst undef) w') : if Region.wanted o (yielded ops a.tmps) = true then Oper.wp P o a w K Q else E := by
  rw [if_pos hw]
  exact wp_store_part ty x y ho g off v cells hx hy hv t old new hg hi hl h1 hn h
theorem other_block {w w' : World} {g k : Nat} (h : w.grownBy w' (some g)) (hk : k ≠ g) (hlt : k < w.heap.size) : w'.heap[k]? = w.heap[k]? := by
  rcases h with ⟨-, -, -, -, hb⟩
  exact hb k hlt (ne_some hk)
end
end Go.Proofs.Ytgnhmdfajnnkhaa


/- The document's green. -/
namespace Go.Proofs.Ytgnhmdfajnnkhaa
set_option maxRecDepth 100000
set_option linter.unusedVariables false
set_option linter.unusedSimpArgs false
open Go.RowKit

theorem alloc2_new (w : World) (a b : Obj) : ((w.alloc a).alloc b).heap[w.heap.size + 1]? = some b := by
  have h := heap_alloc_new (w.alloc a) b
  simpa using h
theorem alloc3_new (w : World) (a b c : Obj) : (((w.alloc a).alloc b).alloc c).heap[w.heap.size + 1 + 1]? = some c := by
  have h := heap_alloc_new ((w.alloc a).alloc b) c
  simpa using h
theorem alloc4_third (w : World) (a b c d : Obj) : ((((w.alloc a).alloc b).alloc c).alloc d).heap[w.heap.size + 1 + 1]? = some c := by
  have h := (one_alloc (((w.alloc a).alloc b).alloc c) d).block (w.heap.size + 1 + 1) (by simp)
  exact h.trans (alloc3_new w a b c)
theorem alloc4_second (w : World) (a b c d : Obj) : ((((w.alloc a).alloc b).alloc c).alloc d).heap[w.heap.size + 1]? = some b := by
  have h := (((one_alloc ((w.alloc a).alloc b) c).alloc (by simp) d)).block (w.heap.size + 1) (by simp)
  exact h.trans (alloc2_new w a b)
theorem below_alloc2 (w : World) (a b : Obj) : Below w.heap.size w ((w.alloc a).alloc b) := (one_alloc w a).alloc (by simp) b
theorem below_alloc3 (w : World) (a b c : Obj) : Below w.heap.size w (((w.alloc a).alloc b).alloc c) := (below_alloc2 w a b).alloc (by simp; omega) c
theorem below_alloc4 (w : World) (a b c d : Obj) : Below w.heap.size w ((((w.alloc a).alloc b).alloc c).alloc d) := (below_alloc3 w a b c).alloc (by simp; omega) d
theorem info_one (v : Value) : (Try.prog.info? 3).map (·.size) = some (#[v] : Array Value).size := by
  have h : (Try.prog.info? 3).map (·.size) = some 1 := by kernel_rfl
  exact h
theorem all_row {l : List Value} (h : ∀ v ∈ l, v.oneCell' = true) : l.toArray.all (·.oneCell') = true := Array.all_eq_true_iff_forall_mem.2 fun v hv => h v (by simpa using hv)
theorem one_int (x : Int) : (#[.int .i64 x] : Array Value).all (·.oneCell') = true := all_row (l := [.int .i64 x]) fun v hv => by
  simp only [List.mem_cons, List.not_mem_nil, or_false] at hv
  rcases hv with rfl; rfl
theorem one_sig (a b c d e f g h i : Int) (j : Bool) : (#[.int .i64 a, .int .i64 b, .int .i64 c, .int .i64 d, .int .i64 e, .int .i64 f, .int .i64 g, .int .i64 h, .int .i64 i, .bool j] : Array Value).all (·.oneCell') = true := all_row (l := [.int .i64 a, .int .i64 b, .int .i64 c, .int .i64 d, .int .i64 e, .int .i64 f, .int .i64 g, .int .i64 h, .int .i64 i, .bool j]) fun v hv => by
  simp only [List.mem_cons, List.not_mem_nil, or_false] at hv
  rcases hv with rfl | rfl | rfl | rfl | rfl | rfl | rfl | rfl | rfl | rfl <;> rfl
theorem info_sig : (Try.prog.info? 24).map (·.size) = some 10 := by kernel_rfl
set_option maxHeartbeats 8000000 in
theorem rgreen_hd (p : Pl) (s : Sg) (w : World) (hp : PlIn w p) (h0 : 0 < s.hd) (hh : s.hd ≤ 300) (hl0 : 0 ≤ s.hl) (hl : s.hl ≤ 300) (t0 : 0 ≤ s.t) (t1 : s.t ≤ 1000) : Calls Try.prog 54 #[plV p, sgV s] w (GivesG (greenT p s) w) := by
  have HR := Lib.hid (show greenT p s = { s with t := s.t + 1, hd := s.hd - 1, hl := s.hl + 1 } by rw [greenT, if_pos h0])
  obtain ⟨G, hG⟩ : ∃ G, greenT p s = G := ⟨_, rfl⟩
  rw [hG] at HR ⊢
  simp only [plV, sgV]
  have w1 : wrap64 (s.t + 1) = s.t + 1 := by unfold wrap64; omega
  have w2 : wrap64 (s.hd - 1) = s.hd - 1 := by unfold wrap64; omega
  have w3 : wrap64 (s.hl + 1) = s.hl + 1 := by unfold wrap64; omega
  clear hG
  obtain ⟨pl, st, nx, ph, t, hd, hh', ak, wt, sp⟩ := s
  simp only at *
  go_enter Try.func54, Try.ntmps54
  go_wp2
  refine bodyPost_ret (v := sgV ⟨pl, st, nx, ph, t + 1, hd - 1, hh' + 1, ak, wt, sp⟩) ?_ rfl ⟨by rw [HR.out], below_alloc3 _ _ _ _⟩
  exact results_cell_row Try.results54 _ _ (w.heap.size + 1 + 1) 24 (Sg.arr ⟨pl, st, nx, ph, t + 1, hd - 1, hh' + 1, ak, wt, sp⟩) (0, 0) _ rfl (alloc3_new _ _ _ _) Try.underlying24 rfl info_sig
set_option maxHeartbeats 8000000 in
theorem rgreen_sp (p : Pl) (s : Sg) (w : World) (hp : PlIn w p) (h0 : s.hd = 0) (s0 : 0 ≤ s.st) (s1 : s.st < p.k) (t0 : 0 ≤ s.t) (t1 : s.t ≤ 1000) (hsp : s.sp = true) (hmn : (stgAt p s.st).mn ≤ s.t + 1) (hak : s.ak = -1) : Calls Try.prog 54 #[plV p, sgV s] w (GivesG (greenT p s) w) := by
  have hsk := hp.s.small
  obtain ⟨b, off, x, hB, hx, -, -, z0, z1, z2⟩ := hp.s.at_ s.st.toNat (by omega)
  have hxs : stgAt p s.st = x := hx
  have HZ := Lib.hid (show ∀ X, Below w.heap.size w X → X.cell? ⟨b, off + s.st.toNat * 3, none⟩ = some (.int .i64 x.g) ∧ X.cell? ⟨b, off + s.st.toNat * 3 + 1, none⟩ = some (.int .i64 x.mn) ∧ X.cell? ⟨b, off + s.st.toNat * 3 + 2, none⟩ = some (.int .i64 x.mx) from fun X hX => by
    obtain ⟨b2, off2, x2, hB2, hx2, -, -, v0, v1, v2⟩ := (hp.s.below hX).at_ s.st.toNat (by omega)
    obtain rfl := hx.symm.trans hx2
    rw [hB] at hB2
    cases hB2
    exact ⟨v0, v1, v2⟩)
  rw [hxs] at hmn
  have he : endsS p s = true := by rw [endsS, hxs, decide_eq_true hmn]; rw [hsp]; rfl
  have HR := Lib.hid (show greenT p s = { s with ph := 1, t := 0, hl := 0, nx := nextP p s.st, ak := -1 } by rw [greenT, if_neg (by omega), if_pos he, if_pos hak])
  clear he
  obtain ⟨G, hG⟩ : ∃ G, greenT p s = G := ⟨_, rfl⟩
  rw [hG] at HR ⊢
  have HNX := Lib.hid (fun X (hX : Below w.heap.size w X) => rnext_any p s.st X (hp.below hX))
  obtain ⟨N, hN⟩ : ∃ N, nextP p s.st = N := ⟨_, rfl⟩
  rw [hN] at HNX
  try rw [hN] at HR
  simp only [plV, sgV] at HNX ⊢
  have w1 : wrap64 (s.t + 1) = s.t + 1 := by unfold wrap64; omega
  have hst : (s.st.toNat : Int) = s.st := Int.toNat_of_nonneg s0
  have hstk : s.st.toNat < p.k := by omega
  have hd0 : ¬ (0 < s.hd) := by omega
  clear hG hN hx h0 hxs z0 z1 z2
  obtain ⟨pl, st, nx, ph, t, hd, hh', ak, wt, sp⟩ := s
  obtain ⟨A, n, c, m, B, k, d, sl, am, rd, hd'⟩ := p
  obtain ⟨g, mn, mx⟩ := x
  simp only at *
  subst hB
  subst hsp
  have hakb : (ak != -1) = false := by rw [hak]; rfl
  clear hak
  obtain ⟨y0, y1, y2⟩ := HZ.out _ (below_alloc3 w (.cells #[.slice A n c, .slice (some ⟨b, off, none⟩) k d, .int .i64 am, .int .i64 rd, .int .i64 hd'] 47) (.cells #[.int .i64 pl, .int .i64 st, .int .i64 nx, .int .i64 ph, .int .i64 (t + 1), .int .i64 hd, .int .i64 hh', .int .i64 ak, .int .i64 wt, .bool true] 24) (.cells #[.int .i64 0, .int .i64 0, .int .i64 0, .int .i64 0, .int .i64 0, .int .i64 0, .int .i64 0, .int .i64 0, .int .i64 0, .bool false] 24))
  go_enter Try.func54, Try.ntmps54
  go_wp2_with (first
    | (go_at_call 70
       (with_reducible refine (HNX.out _ (below_alloc4 _ _ _ _ _)).mono ?_)
       rintro e w1 ⟨rfl, hb1⟩
       have hs1 := (hb1.block (w.heap.size + 1) (by simp)).trans (alloc4_second w (.cells #[.slice A n c, .slice (some ⟨b, off, none⟩) k d, .int .i64 am, .int .i64 rd, .int .i64 hd'] 47) (.cells #[.int .i64 pl, .int .i64 st, .int .i64 nx, .int .i64 1, .int .i64 0, .int .i64 hd, .int .i64 0, .int .i64 ak, .int .i64 wt, .bool true] 24) (.cells #[.int .i64 0, .int .i64 0, .int .i64 0, .int .i64 0, .int .i64 0, .int .i64 0, .int .i64 0, .int .i64 0, .int .i64 0, .bool false] 24) (.cells #[.int .i64 g, .int .i64 mn, .int .i64 mx] 71))
       have hr1 := (hb1.block (w.heap.size + 1 + 1) (by simp)).trans (alloc4_third w (.cells #[.slice A n c, .slice (some ⟨b, off, none⟩) k d, .int .i64 am, .int .i64 rd, .int .i64 hd'] 47) (.cells #[.int .i64 pl, .int .i64 st, .int .i64 nx, .int .i64 1, .int .i64 0, .int .i64 hd, .int .i64 0, .int .i64 ak, .int .i64 wt, .bool true] 24) (.cells #[.int .i64 0, .int .i64 0, .int .i64 0, .int .i64 0, .int .i64 0, .int .i64 0, .int .i64 0, .int .i64 0, .int .i64 0, .bool false] 24) (.cells #[.int .i64 g, .int .i64 mn, .int .i64 mx] 71))
       obtain ⟨c0, c1, c2, c3, c4, c5, c6, c7, c8, c9⟩ := (show BoxG w1 (w.heap.size + 1) ⟨pl, st, nx, 1, 0, hd, 0, ak, wt, true⟩ from hs1).cells
       simp only at c0 c1 c2 c3 c4 c5 c6 c7 c8 c9
       have hn1 : w.heap.size + 1 + 1 < w1.heap.size := Nat.lt_of_lt_of_le (by simp) hb1.size
       have HB1 := Lib.hid ((below_alloc4 w (.cells #[.slice A n c, .slice (some ⟨b, off, none⟩) k d, .int .i64 am, .int .i64 rd, .int .i64 hd'] 47) (.cells #[.int .i64 pl, .int .i64 st, .int .i64 nx, .int .i64 1, .int .i64 0, .int .i64 hd, .int .i64 0, .int .i64 ak, .int .i64 wt, .bool true] 24) (.cells #[.int .i64 0, .int .i64 0, .int .i64 0, .int .i64 0, .int .i64 0, .int .i64 0, .int .i64 0, .int .i64 0, .int .i64 0, .bool false] 24) (.cells #[.int .i64 g, .int .i64 mn, .int .i64 mx] 71)).trans (hb1.mono (by simp; omega)))
       clear hb1)
    | ((with_reducible refine wpList_store_part rfl 3 _ _ rfl (w.heap.size + 1) 2 (.int .i64 N) #[.int .i64 N] ?hx2 ?hy2 ?hv2 24 #[.int .i64 pl, .int .i64 st, .int .i64 nx, .int .i64 1, .int .i64 0, .int .i64 hd, .int .i64 0, .int .i64 ak, .int .i64 wt, .bool true] #[.int .i64 pl, .int .i64 st, .int .i64 N, .int .i64 1, .int .i64 0, .int .i64 hd, .int .i64 0, .int .i64 ak, .int .i64 wt, .bool true] hs1 ?hi2 ?hl2 ?ho2 ?hn2 ?_); (case hx2 => rfl); (case hy2 => rfl); (case hv2 => rfl); (case hi2 => first | exact info_one _ | exact info_sig); (case hl2 => simp); (case ho2 => first | exact one_int _ | exact one_sig _ _ _ _ _ _ _ _ _ _); (case hn2 => rfl)
       intro w2 hg2 hs2 hz2
       have hr2 := (other_block hg2 (show w.heap.size + 1 + 1 ≠ w.heap.size + 1 by omega) (by omega)).trans hr1
       have HB2 := Lib.hid (Below.grows HB1.out hg2 HB1.out.size (by omega))
       have hn2 : w.heap.size + 1 + 1 < w2.heap.size := by omega
       obtain ⟨e0, e1, e2, e3, e4, e5, e6, e7, e8, e9⟩ := (show BoxG w2 (w.heap.size + 1) ⟨pl, st, N, 1, 0, hd, 0, ak, wt, true⟩ from hs2).cells
       simp only at e0 e1 e2 e3 e4 e5 e6 e7 e8 e9
       clear hg2)
    | ((with_reducible refine wpList_store_part rfl 3 _ _ rfl (w.heap.size + 1) 7 (.int .i64 (-1)) #[.int .i64 (-1)] ?hx4 ?hy4 ?hv4 24 #[.int .i64 pl, .int .i64 st, .int .i64 N, .int .i64 1, .int .i64 0, .int .i64 hd, .int .i64 0, .int .i64 ak, .int .i64 wt, .bool true] #[.int .i64 pl, .int .i64 st, .int .i64 N, .int .i64 1, .int .i64 0, .int .i64 hd, .int .i64 0, .int .i64 (-1), .int .i64 wt, .bool true] hs2 ?hi4 ?hl4 ?ho4 ?hn4 ?_); (case hx4 => rfl); (case hy4 => rfl); (case hv4 => rfl); (case hi4 => first | exact info_one _ | exact info_sig); (case hl4 => simp); (case ho4 => first | exact one_int _ | exact one_sig _ _ _ _ _ _ _ _ _ _); (case hn4 => rfl)
       intro w4 hg4 hs4 hz4
       have hr4 := (other_block hg4 (show w.heap.size + 1 + 1 ≠ w.heap.size + 1 by omega) (by omega)).trans hr2
       have HB4 := Lib.hid (Below.grows HB2.out hg4 HB2.out.size (by omega))
       have hn4 : w.heap.size + 1 + 1 < w4.heap.size := by omega
       obtain ⟨f0, f1, f2, f3, f4, f5, f6, f7, f8, f9⟩ := (show BoxG w4 (w.heap.size + 1) ⟨pl, st, N, 1, 0, hd, 0, (-1), wt, true⟩ from hs4).cells
       simp only at f0 f1 f2 f3 f4 f5 f6 f7 f8 f9
       clear hg4)
    | ((with_reducible refine wpList_store_part rfl 24 _ _ rfl (w.heap.size + 1 + 1) 0 (.agg #[.int .i64 pl, .int .i64 st, .int .i64 N, .int .i64 1, .int .i64 0, .int .i64 hd, .int .i64 0, .int .i64 (-1), .int .i64 wt, .bool true]) #[.int .i64 pl, .int .i64 st, .int .i64 N, .int .i64 1, .int .i64 0, .int .i64 hd, .int .i64 0, .int .i64 (-1), .int .i64 wt, .bool true] ?hx5 ?hy5 ?hv5 24 #[.int .i64 0, .int .i64 0, .int .i64 0, .int .i64 0, .int .i64 0, .int .i64 0, .int .i64 0, .int .i64 0, .int .i64 0, .bool false] #[.int .i64 pl, .int .i64 st, .int .i64 N, .int .i64 1, .int .i64 0, .int .i64 hd, .int .i64 0, .int .i64 (-1), .int .i64 wt, .bool true] hr4 ?hi5 ?hl5 ?ho5 ?hn5 ?_); (case hx5 => rfl); (case hy5 => rfl); (case hv5 => rfl); (case hi5 => first | exact info_one _ | exact info_sig); (case hl5 => simp); (case ho5 => first | exact one_int _ | exact one_sig _ _ _ _ _ _ _ _ _ _); (case hn5 => rfl)
       intro w5 hg5 hr5 hz5
       have hs5 := (other_block hg5 (show w.heap.size + 1 ≠ w.heap.size + 1 + 1 by omega) (by omega)).trans hs4
       have HB5 := Lib.hid (Below.grows HB4.out hg5 HB4.out.size (by omega))
       have hn5 : w.heap.size + 1 + 1 < w5.heap.size := by omega
       clear hg5))
  refine bodyPost_ret (v := .agg #[.int .i64 pl, .int .i64 st, .int .i64 N, .int .i64 1, .int .i64 0, .int .i64 hd, .int .i64 0, .int .i64 (-1), .int .i64 wt, .bool true]) ?_ rfl ⟨by rw [HR.out]; rfl, HB5.out⟩
  exact results_cell_row Try.results54 _ _ (w.heap.size + 1 + 1) 24 #[.int .i64 pl, .int .i64 st, .int .i64 N, .int .i64 1, .int .i64 0, .int .i64 hd, .int .i64 0, .int .i64 (-1), .int .i64 wt, .bool true] (0, 0) _ rfl hr5 Try.underlying24 rfl info_sig
set_option maxHeartbeats 8000000 in
theorem rgreen_spa (p : Pl) (s : Sg) (w : World) (hp : PlIn w p) (h0 : s.hd = 0) (s0 : 0 ≤ s.st) (s1 : s.st < p.k) (t0 : 0 ≤ s.t) (t1 : s.t ≤ 1000) (hsp : s.sp = true) (hmn : (stgAt p s.st).mn ≤ s.t + 1) (hak : s.ak ≠ -1) : Calls Try.prog 54 #[plV p, sgV s] w (GivesG (greenT p s) w) := by
  have hsk := hp.s.small
  obtain ⟨b, off, x, hB, hx, -, -, z0, z1, z2⟩ := hp.s.at_ s.st.toNat (by omega)
  have hxs : stgAt p s.st = x := hx
  have HZ := Lib.hid (show ∀ X, Below w.heap.size w X → X.cell? ⟨b, off + s.st.toNat * 3, none⟩ = some (.int .i64 x.g) ∧ X.cell? ⟨b, off + s.st.toNat * 3 + 1, none⟩ = some (.int .i64 x.mn) ∧ X.cell? ⟨b, off + s.st.toNat * 3 + 2, none⟩ = some (.int .i64 x.mx) from fun X hX => by
    obtain ⟨b2, off2, x2, hB2, hx2, -, -, v0, v1, v2⟩ := (hp.s.below hX).at_ s.st.toNat (by omega)
    obtain rfl := hx.symm.trans hx2
    rw [hB] at hB2
    cases hB2
    exact ⟨v0, v1, v2⟩)
  rw [hxs] at hmn
  have he : endsS p s = true := by rw [endsS, hxs, decide_eq_true hmn]; rw [hsp]; rfl
  have HR := Lib.hid (show greenT p s = { s with ph := 1, t := 0, hl := 0, nx := s.ak, ak := -1 } by rw [greenT, if_neg (by omega), if_pos he, if_neg hak])
  clear he
  obtain ⟨G, hG⟩ : ∃ G, greenT p s = G := ⟨_, rfl⟩
  rw [hG] at HR ⊢
  have HNX := Lib.hid (fun X (hX : Below w.heap.size w X) => rnext_any p s.st X (hp.below hX))
  obtain ⟨N, hN⟩ : ∃ N, nextP p s.st = N := ⟨_, rfl⟩
  rw [hN] at HNX
  try rw [hN] at HR
  simp only [plV, sgV] at HNX ⊢
  have w1 : wrap64 (s.t + 1) = s.t + 1 := by unfold wrap64; omega
  have hst : (s.st.toNat : Int) = s.st := Int.toNat_of_nonneg s0
  have hstk : s.st.toNat < p.k := by omega
  have hd0 : ¬ (0 < s.hd) := by omega
  clear hG hN hx h0 hxs z0 z1 z2
  obtain ⟨pl, st, nx, ph, t, hd, hh', ak, wt, sp⟩ := s
  obtain ⟨A, n, c, m, B, k, d, sl, am, rd, hd'⟩ := p
  obtain ⟨g, mn, mx⟩ := x
  simp only at *
  subst hB
  subst hsp
  have hakb : (ak != -1) = true := by rw [bne_iff_ne]; exact hak
  clear hak
  obtain ⟨y0, y1, y2⟩ := HZ.out _ (below_alloc3 w (.cells #[.slice A n c, .slice (some ⟨b, off, none⟩) k d, .int .i64 am, .int .i64 rd, .int .i64 hd'] 47) (.cells #[.int .i64 pl, .int .i64 st, .int .i64 nx, .int .i64 ph, .int .i64 (t + 1), .int .i64 hd, .int .i64 hh', .int .i64 ak, .int .i64 wt, .bool true] 24) (.cells #[.int .i64 0, .int .i64 0, .int .i64 0, .int .i64 0, .int .i64 0, .int .i64 0, .int .i64 0, .int .i64 0, .int .i64 0, .bool false] 24))
  go_enter Try.func54, Try.ntmps54
  go_wp2_with (first
    | (go_at_call 70
       (with_reducible refine (HNX.out _ (below_alloc4 _ _ _ _ _)).mono ?_)
       rintro e w1 ⟨rfl, hb1⟩
       have hs1 := (hb1.block (w.heap.size + 1) (by simp)).trans (alloc4_second w (.cells #[.slice A n c, .slice (some ⟨b, off, none⟩) k d, .int .i64 am, .int .i64 rd, .int .i64 hd'] 47) (.cells #[.int .i64 pl, .int .i64 st, .int .i64 nx, .int .i64 1, .int .i64 0, .int .i64 hd, .int .i64 0, .int .i64 ak, .int .i64 wt, .bool true] 24) (.cells #[.int .i64 0, .int .i64 0, .int .i64 0, .int .i64 0, .int .i64 0, .int .i64 0, .int .i64 0, .int .i64 0, .int .i64 0, .bool false] 24) (.cells #[.int .i64 g, .int .i64 mn, .int .i64 mx] 71))
       have hr1 := (hb1.block (w.heap.size + 1 + 1) (by simp)).trans (alloc4_third w (.cells #[.slice A n c, .slice (some ⟨b, off, none⟩) k d, .int .i64 am, .int .i64 rd, .int .i64 hd'] 47) (.cells #[.int .i64 pl, .int .i64 st, .int .i64 nx, .int .i64 1, .int .i64 0, .int .i64 hd, .int .i64 0, .int .i64 ak, .int .i64 wt, .bool true] 24) (.cells #[.int .i64 0, .int .i64 0, .int .i64 0, .int .i64 0, .int .i64 0, .int .i64 0, .int .i64 0, .int .i64 0, .int .i64 0, .bool false] 24) (.cells #[.int .i64 g, .int .i64 mn, .int .i64 mx] 71))
       obtain ⟨c0, c1, c2, c3, c4, c5, c6, c7, c8, c9⟩ := (show BoxG w1 (w.heap.size + 1) ⟨pl, st, nx, 1, 0, hd, 0, ak, wt, true⟩ from hs1).cells
       simp only at c0 c1 c2 c3 c4 c5 c6 c7 c8 c9
       have hn1 : w.heap.size + 1 + 1 < w1.heap.size := Nat.lt_of_lt_of_le (by simp) hb1.size
       have HB1 := Lib.hid ((below_alloc4 w (.cells #[.slice A n c, .slice (some ⟨b, off, none⟩) k d, .int .i64 am, .int .i64 rd, .int .i64 hd'] 47) (.cells #[.int .i64 pl, .int .i64 st, .int .i64 nx, .int .i64 1, .int .i64 0, .int .i64 hd, .int .i64 0, .int .i64 ak, .int .i64 wt, .bool true] 24) (.cells #[.int .i64 0, .int .i64 0, .int .i64 0, .int .i64 0, .int .i64 0, .int .i64 0, .int .i64 0, .int .i64 0, .int .i64 0, .bool false] 24) (.cells #[.int .i64 g, .int .i64 mn, .int .i64 mx] 71)).trans (hb1.mono (by simp; omega)))
       clear hb1)
    | ((with_reducible refine wpList_store_part rfl 3 _ _ rfl (w.heap.size + 1) 2 (.int .i64 N) #[.int .i64 N] ?hx2 ?hy2 ?hv2 24 #[.int .i64 pl, .int .i64 st, .int .i64 nx, .int .i64 1, .int .i64 0, .int .i64 hd, .int .i64 0, .int .i64 ak, .int .i64 wt, .bool true] #[.int .i64 pl, .int .i64 st, .int .i64 N, .int .i64 1, .int .i64 0, .int .i64 hd, .int .i64 0, .int .i64 ak, .int .i64 wt, .bool true] hs1 ?hi2 ?hl2 ?ho2 ?hn2 ?_); (case hx2 => rfl); (case hy2 => rfl); (case hv2 => rfl); (case hi2 => first | exact info_one _ | exact info_sig); (case hl2 => simp); (case ho2 => first | exact one_int _ | exact one_sig _ _ _ _ _ _ _ _ _ _); (case hn2 => rfl)
       intro w2 hg2 hs2 hz2
       have hr2 := (other_block hg2 (show w.heap.size + 1 + 1 ≠ w.heap.size + 1 by omega) (by omega)).trans hr1
       have HB2 := Lib.hid (Below.grows HB1.out hg2 HB1.out.size (by omega))
       have hn2 : w.heap.size + 1 + 1 < w2.heap.size := by omega
       obtain ⟨e0, e1, e2, e3, e4, e5, e6, e7, e8, e9⟩ := (show BoxG w2 (w.heap.size + 1) ⟨pl, st, N, 1, 0, hd, 0, ak, wt, true⟩ from hs2).cells
       simp only at e0 e1 e2 e3 e4 e5 e6 e7 e8 e9
       clear hg2)
    | ((with_reducible refine wpList_store_part rfl 3 _ _ rfl (w.heap.size + 1) 2 (.int .i64 ak) #[.int .i64 ak] ?hx3 ?hy3 ?hv3 24 #[.int .i64 pl, .int .i64 st, .int .i64 N, .int .i64 1, .int .i64 0, .int .i64 hd, .int .i64 0, .int .i64 ak, .int .i64 wt, .bool true] #[.int .i64 pl, .int .i64 st, .int .i64 ak, .int .i64 1, .int .i64 0, .int .i64 hd, .int .i64 0, .int .i64 ak, .int .i64 wt, .bool true] hs2 ?hi3 ?hl3 ?ho3 ?hn3 ?_); (case hx3 => rfl); (case hy3 => rfl); (case hv3 => rfl); (case hi3 => first | exact info_one _ | exact info_sig); (case hl3 => simp); (case ho3 => first | exact one_int _ | exact one_sig _ _ _ _ _ _ _ _ _ _); (case hn3 => rfl)
       intro w3 hg3 hs3 hz3
       have hr3 := (other_block hg3 (show w.heap.size + 1 + 1 ≠ w.heap.size + 1 by omega) (by omega)).trans hr2
       have HB3 := Lib.hid (Below.grows HB2.out hg3 HB2.out.size (by omega))
       have hn3 : w.heap.size + 1 + 1 < w3.heap.size := by omega
       clear hg3)
    | ((with_reducible refine wpList_store_part rfl 3 _ _ rfl (w.heap.size + 1) 7 (.int .i64 (-1)) #[.int .i64 (-1)] ?hx4 ?hy4 ?hv4 24 #[.int .i64 pl, .int .i64 st, .int .i64 ak, .int .i64 1, .int .i64 0, .int .i64 hd, .int .i64 0, .int .i64 ak, .int .i64 wt, .bool true] #[.int .i64 pl, .int .i64 st, .int .i64 ak, .int .i64 1, .int .i64 0, .int .i64 hd, .int .i64 0, .int .i64 (-1), .int .i64 wt, .bool true] hs3 ?hi4 ?hl4 ?ho4 ?hn4 ?_); (case hx4 => rfl); (case hy4 => rfl); (case hv4 => rfl); (case hi4 => first | exact info_one _ | exact info_sig); (case hl4 => simp); (case ho4 => first | exact one_int _ | exact one_sig _ _ _ _ _ _ _ _ _ _); (case hn4 => rfl)
       intro w4 hg4 hs4 hz4
       have hr4 := (other_block hg4 (show w.heap.size + 1 + 1 ≠ w.heap.size + 1 by omega) (by omega)).trans hr3
       have HB4 := Lib.hid (Below.grows HB3.out hg4 HB3.out.size (by omega))
       have hn4 : w.heap.size + 1 + 1 < w4.heap.size := by omega
       obtain ⟨f0, f1, f2, f3, f4, f5, f6, f7, f8, f9⟩ := (show BoxG w4 (w.heap.size + 1) ⟨pl, st, ak, 1, 0, hd, 0, (-1), wt, true⟩ from hs4).cells
       simp only at f0 f1 f2 f3 f4 f5 f6 f7 f8 f9
       clear hg4)
    | ((with_reducible refine wpList_store_part rfl 24 _ _ rfl (w.heap.size + 1 + 1) 0 (.agg #[.int .i64 pl, .int .i64 st, .int .i64 ak, .int .i64 1, .int .i64 0, .int .i64 hd, .int .i64 0, .int .i64 (-1), .int .i64 wt, .bool true]) #[.int .i64 pl, .int .i64 st, .int .i64 ak, .int .i64 1, .int .i64 0, .int .i64 hd, .int .i64 0, .int .i64 (-1), .int .i64 wt, .bool true] ?hx5 ?hy5 ?hv5 24 #[.int .i64 0, .int .i64 0, .int .i64 0, .int .i64 0, .int .i64 0, .int .i64 0, .int .i64 0, .int .i64 0, .int .i64 0, .bool false] #[.int .i64 pl, .int .i64 st, .int .i64 ak, .int .i64 1, .int .i64 0, .int .i64 hd, .int .i64 0, .int .i64 (-1), .int .i64 wt, .bool true] hr4 ?hi5 ?hl5 ?ho5 ?hn5 ?_); (case hx5 => rfl); (case hy5 => rfl); (case hv5 => rfl); (case hi5 => first | exact info_one _ | exact info_sig); (case hl5 => simp); (case ho5 => first | exact one_int _ | exact one_sig _ _ _ _ _ _ _ _ _ _); (case hn5 => rfl)
       intro w5 hg5 hr5 hz5
       have hs5 := (other_block hg5 (show w.heap.size + 1 ≠ w.heap.size + 1 + 1 by omega) (by omega)).trans hs4
       have HB5 := Lib.hid (Below.grows HB4.out hg5 HB4.out.size (by omega))
       have hn5 : w.heap.size + 1 + 1 < w5.heap.size := by omega
       clear hg5))
  refine bodyPost_ret (v := .agg #[.int .i64 pl, .int .i64 st, .int .i64 ak, .int .i64 1, .int .i64 0, .int .i64 hd, .int .i64 0, .int .i64 (-1), .int .i64 wt, .bool true]) ?_ rfl ⟨by rw [HR.out]; rfl, HB5.out⟩
  exact results_cell_row Try.results54 _ _ (w.heap.size + 1 + 1) 24 #[.int .i64 pl, .int .i64 st, .int .i64 ak, .int .i64 1, .int .i64 0, .int .i64 hd, .int .i64 0, .int .i64 (-1), .int .i64 wt, .bool true] (0, 0) _ rfl hr5 Try.underlying24 rfl info_sig
set_option maxHeartbeats 8000000 in
theorem rgreen_ak (p : Pl) (s : Sg) (w : World) (hp : PlIn w p) (h0 : s.hd = 0) (s0 : 0 ≤ s.st) (s1 : s.st < p.k) (t0 : 0 ≤ s.t) (t1 : s.t ≤ 1000) (hsp : s.sp = false) (hmn : (stgAt p s.st).mn ≤ s.t + 1) (hak : s.ak ≠ -1) : Calls Try.prog 54 #[plV p, sgV s] w (GivesG (greenT p s) w) := by
  have hsk := hp.s.small
  obtain ⟨b, off, x, hB, hx, -, -, z0, z1, z2⟩ := hp.s.at_ s.st.toNat (by omega)
  have hxs : stgAt p s.st = x := hx
  have HZ := Lib.hid (show ∀ X, Below w.heap.size w X → X.cell? ⟨b, off + s.st.toNat * 3, none⟩ = some (.int .i64 x.g) ∧ X.cell? ⟨b, off + s.st.toNat * 3 + 1, none⟩ = some (.int .i64 x.mn) ∧ X.cell? ⟨b, off + s.st.toNat * 3 + 2, none⟩ = some (.int .i64 x.mx) from fun X hX => by
    obtain ⟨b2, off2, x2, hB2, hx2, -, -, v0, v1, v2⟩ := (hp.s.below hX).at_ s.st.toNat (by omega)
    obtain rfl := hx.symm.trans hx2
    rw [hB] at hB2
    cases hB2
    exact ⟨v0, v1, v2⟩)
  rw [hxs] at hmn
  have he : endsS p s = true := by rw [endsS, hxs, decide_eq_true hmn]; rw [hsp, decide_eq_true hak]; rfl
  have HR := Lib.hid (show greenT p s = { s with ph := 1, t := 0, hl := 0, nx := s.ak, ak := -1 } by rw [greenT, if_neg (by omega), if_pos he, if_neg hak])
  clear he
  obtain ⟨G, hG⟩ : ∃ G, greenT p s = G := ⟨_, rfl⟩
  rw [hG] at HR ⊢
  have HNX := Lib.hid (fun X (hX : Below w.heap.size w X) => rnext_any p s.st X (hp.below hX))
  obtain ⟨N, hN⟩ : ∃ N, nextP p s.st = N := ⟨_, rfl⟩
  rw [hN] at HNX
  try rw [hN] at HR
  simp only [plV, sgV] at HNX ⊢
  have w1 : wrap64 (s.t + 1) = s.t + 1 := by unfold wrap64; omega
  have hst : (s.st.toNat : Int) = s.st := Int.toNat_of_nonneg s0
  have hstk : s.st.toNat < p.k := by omega
  have hd0 : ¬ (0 < s.hd) := by omega
  clear hG hN hx h0 hxs z0 z1 z2
  obtain ⟨pl, st, nx, ph, t, hd, hh', ak, wt, sp⟩ := s
  obtain ⟨A, n, c, m, B, k, d, sl, am, rd, hd'⟩ := p
  obtain ⟨g, mn, mx⟩ := x
  simp only at *
  subst hB
  subst hsp
  have hakb : (ak != -1) = true := by rw [bne_iff_ne]; exact hak
  clear hak
  obtain ⟨y0, y1, y2⟩ := HZ.out _ (below_alloc3 w (.cells #[.slice A n c, .slice (some ⟨b, off, none⟩) k d, .int .i64 am, .int .i64 rd, .int .i64 hd'] 47) (.cells #[.int .i64 pl, .int .i64 st, .int .i64 nx, .int .i64 ph, .int .i64 (t + 1), .int .i64 hd, .int .i64 hh', .int .i64 ak, .int .i64 wt, .bool false] 24) (.cells #[.int .i64 0, .int .i64 0, .int .i64 0, .int .i64 0, .int .i64 0, .int .i64 0, .int .i64 0, .int .i64 0, .int .i64 0, .bool false] 24))
  go_enter Try.func54, Try.ntmps54
  go_wp2_with (first
    | (go_at_call 70
       (with_reducible refine (HNX.out _ (below_alloc4 _ _ _ _ _)).mono ?_)
       rintro e w1 ⟨rfl, hb1⟩
       have hs1 := (hb1.block (w.heap.size + 1) (by simp)).trans (alloc4_second w (.cells #[.slice A n c, .slice (some ⟨b, off, none⟩) k d, .int .i64 am, .int .i64 rd, .int .i64 hd'] 47) (.cells #[.int .i64 pl, .int .i64 st, .int .i64 nx, .int .i64 1, .int .i64 0, .int .i64 hd, .int .i64 0, .int .i64 ak, .int .i64 wt, .bool false] 24) (.cells #[.int .i64 0, .int .i64 0, .int .i64 0, .int .i64 0, .int .i64 0, .int .i64 0, .int .i64 0, .int .i64 0, .int .i64 0, .bool false] 24) (.cells #[.int .i64 g, .int .i64 mn, .int .i64 mx] 71))
       have hr1 := (hb1.block (w.heap.size + 1 + 1) (by simp)).trans (alloc4_third w (.cells #[.slice A n c, .slice (some ⟨b, off, none⟩) k d, .int .i64 am, .int .i64 rd, .int .i64 hd'] 47) (.cells #[.int .i64 pl, .int .i64 st, .int .i64 nx, .int .i64 1, .int .i64 0, .int .i64 hd, .int .i64 0, .int .i64 ak, .int .i64 wt, .bool false] 24) (.cells #[.int .i64 0, .int .i64 0, .int .i64 0, .int .i64 0, .int .i64 0, .int .i64 0, .int .i64 0, .int .i64 0, .int .i64 0, .bool false] 24) (.cells #[.int .i64 g, .int .i64 mn, .int .i64 mx] 71))
       obtain ⟨c0, c1, c2, c3, c4, c5, c6, c7, c8, c9⟩ := (show BoxG w1 (w.heap.size + 1) ⟨pl, st, nx, 1, 0, hd, 0, ak, wt, false⟩ from hs1).cells
       simp only at c0 c1 c2 c3 c4 c5 c6 c7 c8 c9
       have hn1 : w.heap.size + 1 + 1 < w1.heap.size := Nat.lt_of_lt_of_le (by simp) hb1.size
       have HB1 := Lib.hid ((below_alloc4 w (.cells #[.slice A n c, .slice (some ⟨b, off, none⟩) k d, .int .i64 am, .int .i64 rd, .int .i64 hd'] 47) (.cells #[.int .i64 pl, .int .i64 st, .int .i64 nx, .int .i64 1, .int .i64 0, .int .i64 hd, .int .i64 0, .int .i64 ak, .int .i64 wt, .bool false] 24) (.cells #[.int .i64 0, .int .i64 0, .int .i64 0, .int .i64 0, .int .i64 0, .int .i64 0, .int .i64 0, .int .i64 0, .int .i64 0, .bool false] 24) (.cells #[.int .i64 g, .int .i64 mn, .int .i64 mx] 71)).trans (hb1.mono (by simp; omega)))
       clear hb1)
    | ((with_reducible refine wpList_store_part rfl 3 _ _ rfl (w.heap.size + 1) 2 (.int .i64 N) #[.int .i64 N] ?hx2 ?hy2 ?hv2 24 #[.int .i64 pl, .int .i64 st, .int .i64 nx, .int .i64 1, .int .i64 0, .int .i64 hd, .int .i64 0, .int .i64 ak, .int .i64 wt, .bool false] #[.int .i64 pl, .int .i64 st, .int .i64 N, .int .i64 1, .int .i64 0, .int .i64 hd, .int .i64 0, .int .i64 ak, .int .i64 wt, .bool false] hs1 ?hi2 ?hl2 ?ho2 ?hn2 ?_); (case hx2 => rfl); (case hy2 => rfl); (case hv2 => rfl); (case hi2 => first | exact info_one _ | exact info_sig); (case hl2 => simp); (case ho2 => first | exact one_int _ | exact one_sig _ _ _ _ _ _ _ _ _ _); (case hn2 => rfl)
       intro w2 hg2 hs2 hz2
       have hr2 := (other_block hg2 (show w.heap.size + 1 + 1 ≠ w.heap.size + 1 by omega) (by omega)).trans hr1
       have HB2 := Lib.hid (Below.grows HB1.out hg2 HB1.out.size (by omega))
       have hn2 : w.heap.size + 1 + 1 < w2.heap.size := by omega
       obtain ⟨e0, e1, e2, e3, e4, e5, e6, e7, e8, e9⟩ := (show BoxG w2 (w.heap.size + 1) ⟨pl, st, N, 1, 0, hd, 0, ak, wt, false⟩ from hs2).cells
       simp only at e0 e1 e2 e3 e4 e5 e6 e7 e8 e9
       clear hg2)
    | ((with_reducible refine wpList_store_part rfl 3 _ _ rfl (w.heap.size + 1) 2 (.int .i64 ak) #[.int .i64 ak] ?hx3 ?hy3 ?hv3 24 #[.int .i64 pl, .int .i64 st, .int .i64 N, .int .i64 1, .int .i64 0, .int .i64 hd, .int .i64 0, .int .i64 ak, .int .i64 wt, .bool false] #[.int .i64 pl, .int .i64 st, .int .i64 ak, .int .i64 1, .int .i64 0, .int .i64 hd, .int .i64 0, .int .i64 ak, .int .i64 wt, .bool false] hs2 ?hi3 ?hl3 ?ho3 ?hn3 ?_); (case hx3 => rfl); (case hy3 => rfl); (case hv3 => rfl); (case hi3 => first | exact info_one _ | exact info_sig); (case hl3 => simp); (case ho3 => first | exact one_int _ | exact one_sig _ _ _ _ _ _ _ _ _ _); (case hn3 => rfl)
       intro w3 hg3 hs3 hz3
       have hr3 := (other_block hg3 (show w.heap.size + 1 + 1 ≠ w.heap.size + 1 by omega) (by omega)).trans hr2
       have HB3 := Lib.hid (Below.grows HB2.out hg3 HB2.out.size (by omega))
       have hn3 : w.heap.size + 1 + 1 < w3.heap.size := by omega
       clear hg3)
    | ((with_reducible refine wpList_store_part rfl 3 _ _ rfl (w.heap.size + 1) 7 (.int .i64 (-1)) #[.int .i64 (-1)] ?hx4 ?hy4 ?hv4 24 #[.int .i64 pl, .int .i64 st, .int .i64 ak, .int .i64 1, .int .i64 0, .int .i64 hd, .int .i64 0, .int .i64 ak, .int .i64 wt, .bool false] #[.int .i64 pl, .int .i64 st, .int .i64 ak, .int .i64 1, .int .i64 0, .int .i64 hd, .int .i64 0, .int .i64 (-1), .int .i64 wt, .bool false] hs3 ?hi4 ?hl4 ?ho4 ?hn4 ?_); (case hx4 => rfl); (case hy4 => rfl); (case hv4 => rfl); (case hi4 => first | exact info_one _ | exact info_sig); (case hl4 => simp); (case ho4 => first | exact one_int _ | exact one_sig _ _ _ _ _ _ _ _ _ _); (case hn4 => rfl)
       intro w4 hg4 hs4 hz4
       have hr4 := (other_block hg4 (show w.heap.size + 1 + 1 ≠ w.heap.size + 1 by omega) (by omega)).trans hr3
       have HB4 := Lib.hid (Below.grows HB3.out hg4 HB3.out.size (by omega))
       have hn4 : w.heap.size + 1 + 1 < w4.heap.size := by omega
       obtain ⟨f0, f1, f2, f3, f4, f5, f6, f7, f8, f9⟩ := (show BoxG w4 (w.heap.size + 1) ⟨pl, st, ak, 1, 0, hd, 0, (-1), wt, false⟩ from hs4).cells
       simp only at f0 f1 f2 f3 f4 f5 f6 f7 f8 f9
       clear hg4)
    | ((with_reducible refine wpList_store_part rfl 24 _ _ rfl (w.heap.size + 1 + 1) 0 (.agg #[.int .i64 pl, .int .i64 st, .int .i64 ak, .int .i64 1, .int .i64 0, .int .i64 hd, .int .i64 0, .int .i64 (-1), .int .i64 wt, .bool false]) #[.int .i64 pl, .int .i64 st, .int .i64 ak, .int .i64 1, .int .i64 0, .int .i64 hd, .int .i64 0, .int .i64 (-1), .int .i64 wt, .bool false] ?hx5 ?hy5 ?hv5 24 #[.int .i64 0, .int .i64 0, .int .i64 0, .int .i64 0, .int .i64 0, .int .i64 0, .int .i64 0, .int .i64 0, .int .i64 0, .bool false] #[.int .i64 pl, .int .i64 st, .int .i64 ak, .int .i64 1, .int .i64 0, .int .i64 hd, .int .i64 0, .int .i64 (-1), .int .i64 wt, .bool false] hr4 ?hi5 ?hl5 ?ho5 ?hn5 ?_); (case hx5 => rfl); (case hy5 => rfl); (case hv5 => rfl); (case hi5 => first | exact info_one _ | exact info_sig); (case hl5 => simp); (case ho5 => first | exact one_int _ | exact one_sig _ _ _ _ _ _ _ _ _ _); (case hn5 => rfl)
       intro w5 hg5 hr5 hz5
       have hs5 := (other_block hg5 (show w.heap.size + 1 ≠ w.heap.size + 1 + 1 by omega) (by omega)).trans hs4
       have HB5 := Lib.hid (Below.grows HB4.out hg5 HB4.out.size (by omega))
       have hn5 : w.heap.size + 1 + 1 < w5.heap.size := by omega
       clear hg5))
  refine bodyPost_ret (v := .agg #[.int .i64 pl, .int .i64 st, .int .i64 ak, .int .i64 1, .int .i64 0, .int .i64 hd, .int .i64 0, .int .i64 (-1), .int .i64 wt, .bool false]) ?_ rfl ⟨by rw [HR.out]; rfl, HB5.out⟩
  exact results_cell_row Try.results54 _ _ (w.heap.size + 1 + 1) 24 #[.int .i64 pl, .int .i64 st, .int .i64 ak, .int .i64 1, .int .i64 0, .int .i64 hd, .int .i64 0, .int .i64 (-1), .int .i64 wt, .bool false] (0, 0) _ rfl hr5 Try.underlying24 rfl info_sig
set_option maxHeartbeats 8000000 in
theorem rgreen_wt (p : Pl) (s : Sg) (w : World) (hp : PlIn w p) (h0 : s.hd = 0) (s0 : 0 ≤ s.st) (s1 : s.st < p.k) (t0 : 0 ≤ s.t) (t1 : s.t ≤ 1000) (hsp : s.sp = false) (hmn : (stgAt p s.st).mn ≤ s.t + 1) (hak : s.ak = -1) (hwt : s.wt ≠ -1) : Calls Try.prog 54 #[plV p, sgV s] w (GivesG (greenT p s) w) := by
  have hsk := hp.s.small
  obtain ⟨b, off, x, hB, hx, -, -, z0, z1, z2⟩ := hp.s.at_ s.st.toNat (by omega)
  have hxs : stgAt p s.st = x := hx
  have HZ := Lib.hid (show ∀ X, Below w.heap.size w X → X.cell? ⟨b, off + s.st.toNat * 3, none⟩ = some (.int .i64 x.g) ∧ X.cell? ⟨b, off + s.st.toNat * 3 + 1, none⟩ = some (.int .i64 x.mn) ∧ X.cell? ⟨b, off + s.st.toNat * 3 + 2, none⟩ = some (.int .i64 x.mx) from fun X hX => by
    obtain ⟨b2, off2, x2, hB2, hx2, -, -, v0, v1, v2⟩ := (hp.s.below hX).at_ s.st.toNat (by omega)
    obtain rfl := hx.symm.trans hx2
    rw [hB] at hB2
    cases hB2
    exact ⟨v0, v1, v2⟩)
  rw [hxs] at hmn
  have he : endsS p s = true := by rw [endsS, hxs, decide_eq_true hmn]; rw [hsp, decide_eq_true hwt]; simp
  have HR := Lib.hid (show greenT p s = { s with ph := 1, t := 0, hl := 0, nx := nextP p s.st, ak := -1 } by rw [greenT, if_neg (by omega), if_pos he, if_pos hak])
  clear he
  obtain ⟨G, hG⟩ : ∃ G, greenT p s = G := ⟨_, rfl⟩
  rw [hG] at HR ⊢
  have HNX := Lib.hid (fun X (hX : Below w.heap.size w X) => rnext_any p s.st X (hp.below hX))
  obtain ⟨N, hN⟩ : ∃ N, nextP p s.st = N := ⟨_, rfl⟩
  rw [hN] at HNX
  try rw [hN] at HR
  simp only [plV, sgV] at HNX ⊢
  have w1 : wrap64 (s.t + 1) = s.t + 1 := by unfold wrap64; omega
  have hst : (s.st.toNat : Int) = s.st := Int.toNat_of_nonneg s0
  have hstk : s.st.toNat < p.k := by omega
  have hd0 : ¬ (0 < s.hd) := by omega
  clear hG hN hx h0 hxs z0 z1 z2
  obtain ⟨pl, st, nx, ph, t, hd, hh', ak, wt, sp⟩ := s
  obtain ⟨A, n, c, m, B, k, d, sl, am, rd, hd'⟩ := p
  obtain ⟨g, mn, mx⟩ := x
  simp only at *
  subst hB
  subst hsp
  have hakb : (ak != -1) = false := by rw [hak]; rfl
  clear hak
  have hwtb : (wt != -1) = true := by rw [bne_iff_ne]; exact hwt
  clear hwt
  obtain ⟨y0, y1, y2⟩ := HZ.out _ (below_alloc3 w (.cells #[.slice A n c, .slice (some ⟨b, off, none⟩) k d, .int .i64 am, .int .i64 rd, .int .i64 hd'] 47) (.cells #[.int .i64 pl, .int .i64 st, .int .i64 nx, .int .i64 ph, .int .i64 (t + 1), .int .i64 hd, .int .i64 hh', .int .i64 ak, .int .i64 wt, .bool false] 24) (.cells #[.int .i64 0, .int .i64 0, .int .i64 0, .int .i64 0, .int .i64 0, .int .i64 0, .int .i64 0, .int .i64 0, .int .i64 0, .bool false] 24))
  go_enter Try.func54, Try.ntmps54
  go_wp2_with (first
    | (go_at_call 70
       (with_reducible refine (HNX.out _ (below_alloc4 _ _ _ _ _)).mono ?_)
       rintro e w1 ⟨rfl, hb1⟩
       have hs1 := (hb1.block (w.heap.size + 1) (by simp)).trans (alloc4_second w (.cells #[.slice A n c, .slice (some ⟨b, off, none⟩) k d, .int .i64 am, .int .i64 rd, .int .i64 hd'] 47) (.cells #[.int .i64 pl, .int .i64 st, .int .i64 nx, .int .i64 1, .int .i64 0, .int .i64 hd, .int .i64 0, .int .i64 ak, .int .i64 wt, .bool false] 24) (.cells #[.int .i64 0, .int .i64 0, .int .i64 0, .int .i64 0, .int .i64 0, .int .i64 0, .int .i64 0, .int .i64 0, .int .i64 0, .bool false] 24) (.cells #[.int .i64 g, .int .i64 mn, .int .i64 mx] 71))
       have hr1 := (hb1.block (w.heap.size + 1 + 1) (by simp)).trans (alloc4_third w (.cells #[.slice A n c, .slice (some ⟨b, off, none⟩) k d, .int .i64 am, .int .i64 rd, .int .i64 hd'] 47) (.cells #[.int .i64 pl, .int .i64 st, .int .i64 nx, .int .i64 1, .int .i64 0, .int .i64 hd, .int .i64 0, .int .i64 ak, .int .i64 wt, .bool false] 24) (.cells #[.int .i64 0, .int .i64 0, .int .i64 0, .int .i64 0, .int .i64 0, .int .i64 0, .int .i64 0, .int .i64 0, .int .i64 0, .bool false] 24) (.cells #[.int .i64 g, .int .i64 mn, .int .i64 mx] 71))
       obtain ⟨c0, c1, c2, c3, c4, c5, c6, c7, c8, c9⟩ := (show BoxG w1 (w.heap.size + 1) ⟨pl, st, nx, 1, 0, hd, 0, ak, wt, false⟩ from hs1).cells
       simp only at c0 c1 c2 c3 c4 c5 c6 c7 c8 c9
       have hn1 : w.heap.size + 1 + 1 < w1.heap.size := Nat.lt_of_lt_of_le (by simp) hb1.size
       have HB1 := Lib.hid ((below_alloc4 w (.cells #[.slice A n c, .slice (some ⟨b, off, none⟩) k d, .int .i64 am, .int .i64 rd, .int .i64 hd'] 47) (.cells #[.int .i64 pl, .int .i64 st, .int .i64 nx, .int .i64 1, .int .i64 0, .int .i64 hd, .int .i64 0, .int .i64 ak, .int .i64 wt, .bool false] 24) (.cells #[.int .i64 0, .int .i64 0, .int .i64 0, .int .i64 0, .int .i64 0, .int .i64 0, .int .i64 0, .int .i64 0, .int .i64 0, .bool false] 24) (.cells #[.int .i64 g, .int .i64 mn, .int .i64 mx] 71)).trans (hb1.mono (by simp; omega)))
       clear hb1)
    | ((with_reducible refine wpList_store_part rfl 3 _ _ rfl (w.heap.size + 1) 2 (.int .i64 N) #[.int .i64 N] ?hx2 ?hy2 ?hv2 24 #[.int .i64 pl, .int .i64 st, .int .i64 nx, .int .i64 1, .int .i64 0, .int .i64 hd, .int .i64 0, .int .i64 ak, .int .i64 wt, .bool false] #[.int .i64 pl, .int .i64 st, .int .i64 N, .int .i64 1, .int .i64 0, .int .i64 hd, .int .i64 0, .int .i64 ak, .int .i64 wt, .bool false] hs1 ?hi2 ?hl2 ?ho2 ?hn2 ?_); (case hx2 => rfl); (case hy2 => rfl); (case hv2 => rfl); (case hi2 => first | exact info_one _ | exact info_sig); (case hl2 => simp); (case ho2 => first | exact one_int _ | exact one_sig _ _ _ _ _ _ _ _ _ _); (case hn2 => rfl)
       intro w2 hg2 hs2 hz2
       have hr2 := (other_block hg2 (show w.heap.size + 1 + 1 ≠ w.heap.size + 1 by omega) (by omega)).trans hr1
       have HB2 := Lib.hid (Below.grows HB1.out hg2 HB1.out.size (by omega))
       have hn2 : w.heap.size + 1 + 1 < w2.heap.size := by omega
       obtain ⟨e0, e1, e2, e3, e4, e5, e6, e7, e8, e9⟩ := (show BoxG w2 (w.heap.size + 1) ⟨pl, st, N, 1, 0, hd, 0, ak, wt, false⟩ from hs2).cells
       simp only at e0 e1 e2 e3 e4 e5 e6 e7 e8 e9
       clear hg2)
    | ((with_reducible refine wpList_store_part rfl 3 _ _ rfl (w.heap.size + 1) 7 (.int .i64 (-1)) #[.int .i64 (-1)] ?hx4 ?hy4 ?hv4 24 #[.int .i64 pl, .int .i64 st, .int .i64 N, .int .i64 1, .int .i64 0, .int .i64 hd, .int .i64 0, .int .i64 ak, .int .i64 wt, .bool false] #[.int .i64 pl, .int .i64 st, .int .i64 N, .int .i64 1, .int .i64 0, .int .i64 hd, .int .i64 0, .int .i64 (-1), .int .i64 wt, .bool false] hs2 ?hi4 ?hl4 ?ho4 ?hn4 ?_); (case hx4 => rfl); (case hy4 => rfl); (case hv4 => rfl); (case hi4 => first | exact info_one _ | exact info_sig); (case hl4 => simp); (case ho4 => first | exact one_int _ | exact one_sig _ _ _ _ _ _ _ _ _ _); (case hn4 => rfl)
       intro w4 hg4 hs4 hz4
       have hr4 := (other_block hg4 (show w.heap.size + 1 + 1 ≠ w.heap.size + 1 by omega) (by omega)).trans hr2
       have HB4 := Lib.hid (Below.grows HB2.out hg4 HB2.out.size (by omega))
       have hn4 : w.heap.size + 1 + 1 < w4.heap.size := by omega
       obtain ⟨f0, f1, f2, f3, f4, f5, f6, f7, f8, f9⟩ := (show BoxG w4 (w.heap.size + 1) ⟨pl, st, N, 1, 0, hd, 0, (-1), wt, false⟩ from hs4).cells
       simp only at f0 f1 f2 f3 f4 f5 f6 f7 f8 f9
       clear hg4)
    | ((with_reducible refine wpList_store_part rfl 24 _ _ rfl (w.heap.size + 1 + 1) 0 (.agg #[.int .i64 pl, .int .i64 st, .int .i64 N, .int .i64 1, .int .i64 0, .int .i64 hd, .int .i64 0, .int .i64 (-1), .int .i64 wt, .bool false]) #[.int .i64 pl, .int .i64 st, .int .i64 N, .int .i64 1, .int .i64 0, .int .i64 hd, .int .i64 0, .int .i64 (-1), .int .i64 wt, .bool false] ?hx5 ?hy5 ?hv5 24 #[.int .i64 0, .int .i64 0, .int .i64 0, .int .i64 0, .int .i64 0, .int .i64 0, .int .i64 0, .int .i64 0, .int .i64 0, .bool false] #[.int .i64 pl, .int .i64 st, .int .i64 N, .int .i64 1, .int .i64 0, .int .i64 hd, .int .i64 0, .int .i64 (-1), .int .i64 wt, .bool false] hr4 ?hi5 ?hl5 ?ho5 ?hn5 ?_); (case hx5 => rfl); (case hy5 => rfl); (case hv5 => rfl); (case hi5 => first | exact info_one _ | exact info_sig); (case hl5 => simp); (case ho5 => first | exact one_int _ | exact one_sig _ _ _ _ _ _ _ _ _ _); (case hn5 => rfl)
       intro w5 hg5 hr5 hz5
       have hs5 := (other_block hg5 (show w.heap.size + 1 ≠ w.heap.size + 1 + 1 by omega) (by omega)).trans hs4
       have HB5 := Lib.hid (Below.grows HB4.out hg5 HB4.out.size (by omega))
       have hn5 : w.heap.size + 1 + 1 < w5.heap.size := by omega
       clear hg5))
  refine bodyPost_ret (v := .agg #[.int .i64 pl, .int .i64 st, .int .i64 N, .int .i64 1, .int .i64 0, .int .i64 hd, .int .i64 0, .int .i64 (-1), .int .i64 wt, .bool false]) ?_ rfl ⟨by rw [HR.out]; rfl, HB5.out⟩
  exact results_cell_row Try.results54 _ _ (w.heap.size + 1 + 1) 24 #[.int .i64 pl, .int .i64 st, .int .i64 N, .int .i64 1, .int .i64 0, .int .i64 hd, .int .i64 0, .int .i64 (-1), .int .i64 wt, .bool false] (0, 0) _ rfl hr5 Try.underlying24 rfl info_sig
set_option maxHeartbeats 8000000 in
theorem rgreen_mx (p : Pl) (s : Sg) (w : World) (hp : PlIn w p) (h0 : s.hd = 0) (s0 : 0 ≤ s.st) (s1 : s.st < p.k) (t0 : 0 ≤ s.t) (t1 : s.t ≤ 1000) (hsp : s.sp = false) (hmn : (stgAt p s.st).mn ≤ s.t + 1) (hak : s.ak = -1) (hwt : s.wt = -1) (hmx : (stgAt p s.st).mx ≤ s.t + 1) : Calls Try.prog 54 #[plV p, sgV s] w (GivesG (greenT p s) w) := by
  have hsk := hp.s.small
  obtain ⟨b, off, x, hB, hx, -, -, z0, z1, z2⟩ := hp.s.at_ s.st.toNat (by omega)
  have hxs : stgAt p s.st = x := hx
  have HZ := Lib.hid (show ∀ X, Below w.heap.size w X → X.cell? ⟨b, off + s.st.toNat * 3, none⟩ = some (.int .i64 x.g) ∧ X.cell? ⟨b, off + s.st.toNat * 3 + 1, none⟩ = some (.int .i64 x.mn) ∧ X.cell? ⟨b, off + s.st.toNat * 3 + 2, none⟩ = some (.int .i64 x.mx) from fun X hX => by
    obtain ⟨b2, off2, x2, hB2, hx2, -, -, v0, v1, v2⟩ := (hp.s.below hX).at_ s.st.toNat (by omega)
    obtain rfl := hx.symm.trans hx2
    rw [hB] at hB2
    cases hB2
    exact ⟨v0, v1, v2⟩)
  rw [hxs] at hmn hmx
  have he : endsS p s = true := by rw [endsS, hxs, decide_eq_true hmn]; rw [decide_eq_true hmx]; simp
  have HR := Lib.hid (show greenT p s = { s with ph := 1, t := 0, hl := 0, nx := nextP p s.st, ak := -1 } by rw [greenT, if_neg (by omega), if_pos he, if_pos hak])
  clear he
  obtain ⟨G, hG⟩ : ∃ G, greenT p s = G := ⟨_, rfl⟩
  rw [hG] at HR ⊢
  have HNX := Lib.hid (fun X (hX : Below w.heap.size w X) => rnext_any p s.st X (hp.below hX))
  obtain ⟨N, hN⟩ : ∃ N, nextP p s.st = N := ⟨_, rfl⟩
  rw [hN] at HNX
  try rw [hN] at HR
  simp only [plV, sgV] at HNX ⊢
  have w1 : wrap64 (s.t + 1) = s.t + 1 := by unfold wrap64; omega
  have hst : (s.st.toNat : Int) = s.st := Int.toNat_of_nonneg s0
  have hstk : s.st.toNat < p.k := by omega
  have hd0 : ¬ (0 < s.hd) := by omega
  clear hG hN hx h0 hxs z0 z1 z2
  obtain ⟨pl, st, nx, ph, t, hd, hh', ak, wt, sp⟩ := s
  obtain ⟨A, n, c, m, B, k, d, sl, am, rd, hd'⟩ := p
  obtain ⟨g, mn, mx⟩ := x
  simp only at *
  subst hB
  subst hsp
  have hakb : (ak != -1) = false := by rw [hak]; rfl
  clear hak
  have hwtb : (wt != -1) = false := by rw [hwt]; rfl
  clear hwt
  obtain ⟨y0, y1, y2⟩ := HZ.out _ (below_alloc3 w (.cells #[.slice A n c, .slice (some ⟨b, off, none⟩) k d, .int .i64 am, .int .i64 rd, .int .i64 hd'] 47) (.cells #[.int .i64 pl, .int .i64 st, .int .i64 nx, .int .i64 ph, .int .i64 (t + 1), .int .i64 hd, .int .i64 hh', .int .i64 ak, .int .i64 wt, .bool false] 24) (.cells #[.int .i64 0, .int .i64 0, .int .i64 0, .int .i64 0, .int .i64 0, .int .i64 0, .int .i64 0, .int .i64 0, .int .i64 0, .bool false] 24))
  go_enter Try.func54, Try.ntmps54
  go_wp2_with (first
    | (go_at_call 70
       (with_reducible refine (HNX.out _ (below_alloc4 _ _ _ _ _)).mono ?_)
       rintro e w1 ⟨rfl, hb1⟩
       have hs1 := (hb1.block (w.heap.size + 1) (by simp)).trans (alloc4_second w (.cells #[.slice A n c, .slice (some ⟨b, off, none⟩) k d, .int .i64 am, .int .i64 rd, .int .i64 hd'] 47) (.cells #[.int .i64 pl, .int .i64 st, .int .i64 nx, .int .i64 1, .int .i64 0, .int .i64 hd, .int .i64 0, .int .i64 ak, .int .i64 wt, .bool false] 24) (.cells #[.int .i64 0, .int .i64 0, .int .i64 0, .int .i64 0, .int .i64 0, .int .i64 0, .int .i64 0, .int .i64 0, .int .i64 0, .bool false] 24) (.cells #[.int .i64 g, .int .i64 mn, .int .i64 mx] 71))
       have hr1 := (hb1.block (w.heap.size + 1 + 1) (by simp)).trans (alloc4_third w (.cells #[.slice A n c, .slice (some ⟨b, off, none⟩) k d, .int .i64 am, .int .i64 rd, .int .i64 hd'] 47) (.cells #[.int .i64 pl, .int .i64 st, .int .i64 nx, .int .i64 1, .int .i64 0, .int .i64 hd, .int .i64 0, .int .i64 ak, .int .i64 wt, .bool false] 24) (.cells #[.int .i64 0, .int .i64 0, .int .i64 0, .int .i64 0, .int .i64 0, .int .i64 0, .int .i64 0, .int .i64 0, .int .i64 0, .bool false] 24) (.cells #[.int .i64 g, .int .i64 mn, .int .i64 mx] 71))
       obtain ⟨c0, c1, c2, c3, c4, c5, c6, c7, c8, c9⟩ := (show BoxG w1 (w.heap.size + 1) ⟨pl, st, nx, 1, 0, hd, 0, ak, wt, false⟩ from hs1).cells
       simp only at c0 c1 c2 c3 c4 c5 c6 c7 c8 c9
       have hn1 : w.heap.size + 1 + 1 < w1.heap.size := Nat.lt_of_lt_of_le (by simp) hb1.size
       have HB1 := Lib.hid ((below_alloc4 w (.cells #[.slice A n c, .slice (some ⟨b, off, none⟩) k d, .int .i64 am, .int .i64 rd, .int .i64 hd'] 47) (.cells #[.int .i64 pl, .int .i64 st, .int .i64 nx, .int .i64 1, .int .i64 0, .int .i64 hd, .int .i64 0, .int .i64 ak, .int .i64 wt, .bool false] 24) (.cells #[.int .i64 0, .int .i64 0, .int .i64 0, .int .i64 0, .int .i64 0, .int .i64 0, .int .i64 0, .int .i64 0, .int .i64 0, .bool false] 24) (.cells #[.int .i64 g, .int .i64 mn, .int .i64 mx] 71)).trans (hb1.mono (by simp; omega)))
       clear hb1)
    | ((with_reducible refine wpList_store_part rfl 3 _ _ rfl (w.heap.size + 1) 2 (.int .i64 N) #[.int .i64 N] ?hx2 ?hy2 ?hv2 24 #[.int .i64 pl, .int .i64 st, .int .i64 nx, .int .i64 1, .int .i64 0, .int .i64 hd, .int .i64 0, .int .i64 ak, .int .i64 wt, .bool false] #[.int .i64 pl, .int .i64 st, .int .i64 N, .int .i64 1, .int .i64 0, .int .i64 hd, .int .i64 0, .int .i64 ak, .int .i64 wt, .bool false] hs1 ?hi2 ?hl2 ?ho2 ?hn2 ?_); (case hx2 => rfl); (case hy2 => rfl); (case hv2 => rfl); (case hi2 => first | exact info_one _ | exact info_sig); (case hl2 => simp); (case ho2 => first | exact one_int _ | exact one_sig _ _ _ _ _ _ _ _ _ _); (case hn2 => rfl)
       intro w2 hg2 hs2 hz2
       have hr2 := (other_block hg2 (show w.heap.size + 1 + 1 ≠ w.heap.size + 1 by omega) (by omega)).trans hr1
       have HB2 := Lib.hid (Below.grows HB1.out hg2 HB1.out.size (by omega))
       have hn2 : w.heap.size + 1 + 1 < w2.heap.size := by omega
       obtain ⟨e0, e1, e2, e3, e4, e5, e6, e7, e8, e9⟩ := (show BoxG w2 (w.heap.size + 1) ⟨pl, st, N, 1, 0, hd, 0, ak, wt, false⟩ from hs2).cells
       simp only at e0 e1 e2 e3 e4 e5 e6 e7 e8 e9
       clear hg2)
    | ((with_reducible refine wpList_store_part rfl 3 _ _ rfl (w.heap.size + 1) 7 (.int .i64 (-1)) #[.int .i64 (-1)] ?hx4 ?hy4 ?hv4 24 #[.int .i64 pl, .int .i64 st, .int .i64 N, .int .i64 1, .int .i64 0, .int .i64 hd, .int .i64 0, .int .i64 ak, .int .i64 wt, .bool false] #[.int .i64 pl, .int .i64 st, .int .i64 N, .int .i64 1, .int .i64 0, .int .i64 hd, .int .i64 0, .int .i64 (-1), .int .i64 wt, .bool false] hs2 ?hi4 ?hl4 ?ho4 ?hn4 ?_); (case hx4 => rfl); (case hy4 => rfl); (case hv4 => rfl); (case hi4 => first | exact info_one _ | exact info_sig); (case hl4 => simp); (case ho4 => first | exact one_int _ | exact one_sig _ _ _ _ _ _ _ _ _ _); (case hn4 => rfl)
       intro w4 hg4 hs4 hz4
       have hr4 := (other_block hg4 (show w.heap.size + 1 + 1 ≠ w.heap.size + 1 by omega) (by omega)).trans hr2
       have HB4 := Lib.hid (Below.grows HB2.out hg4 HB2.out.size (by omega))
       have hn4 : w.heap.size + 1 + 1 < w4.heap.size := by omega
       obtain ⟨f0, f1, f2, f3, f4, f5, f6, f7, f8, f9⟩ := (show BoxG w4 (w.heap.size + 1) ⟨pl, st, N, 1, 0, hd, 0, (-1), wt, false⟩ from hs4).cells
       simp only at f0 f1 f2 f3 f4 f5 f6 f7 f8 f9
       clear hg4)
    | ((with_reducible refine wpList_store_part rfl 24 _ _ rfl (w.heap.size + 1 + 1) 0 (.agg #[.int .i64 pl, .int .i64 st, .int .i64 N, .int .i64 1, .int .i64 0, .int .i64 hd, .int .i64 0, .int .i64 (-1), .int .i64 wt, .bool false]) #[.int .i64 pl, .int .i64 st, .int .i64 N, .int .i64 1, .int .i64 0, .int .i64 hd, .int .i64 0, .int .i64 (-1), .int .i64 wt, .bool false] ?hx5 ?hy5 ?hv5 24 #[.int .i64 0, .int .i64 0, .int .i64 0, .int .i64 0, .int .i64 0, .int .i64 0, .int .i64 0, .int .i64 0, .int .i64 0, .bool false] #[.int .i64 pl, .int .i64 st, .int .i64 N, .int .i64 1, .int .i64 0, .int .i64 hd, .int .i64 0, .int .i64 (-1), .int .i64 wt, .bool false] hr4 ?hi5 ?hl5 ?ho5 ?hn5 ?_); (case hx5 => rfl); (case hy5 => rfl); (case hv5 => rfl); (case hi5 => first | exact info_one _ | exact info_sig); (case hl5 => simp); (case ho5 => first | exact one_int _ | exact one_sig _ _ _ _ _ _ _ _ _ _); (case hn5 => rfl)
       intro w5 hg5 hr5 hz5
       have hs5 := (other_block hg5 (show w.heap.size + 1 ≠ w.heap.size + 1 + 1 by omega) (by omega)).trans hs4
       have HB5 := Lib.hid (Below.grows HB4.out hg5 HB4.out.size (by omega))
       have hn5 : w.heap.size + 1 + 1 < w5.heap.size := by omega
       clear hg5))
  refine bodyPost_ret (v := .agg #[.int .i64 pl, .int .i64 st, .int .i64 N, .int .i64 1, .int .i64 0, .int .i64 hd, .int .i64 0, .int .i64 (-1), .int .i64 wt, .bool false]) ?_ rfl ⟨by rw [HR.out]; rfl, HB5.out⟩
  exact results_cell_row Try.results54 _ _ (w.heap.size + 1 + 1) 24 #[.int .i64 pl, .int .i64 st, .int .i64 N, .int .i64 1, .int .i64 0, .int .i64 hd, .int .i64 0, .int .i64 (-1), .int .i64 wt, .bool false] (0, 0) _ rfl hr5 Try.underlying24 rfl info_sig
set_option maxHeartbeats 8000000 in
theorem rgreen_mn (p : Pl) (s : Sg) (w : World) (hp : PlIn w p) (h0 : s.hd = 0) (s0 : 0 ≤ s.st) (s1 : s.st < p.k) (t0 : 0 ≤ s.t) (t1 : s.t ≤ 1000) (hmn : ¬ (stgAt p s.st).mn ≤ s.t + 1) : Calls Try.prog 54 #[plV p, sgV s] w (GivesG (greenT p s) w) := by
  have hsk := hp.s.small
  obtain ⟨b, off, x, hB, hx, -, -, z0, z1, z2⟩ := hp.s.at_ s.st.toNat (by omega)
  have hxs : stgAt p s.st = x := hx
  have HZ := Lib.hid (show ∀ X, Below w.heap.size w X → X.cell? ⟨b, off + s.st.toNat * 3, none⟩ = some (.int .i64 x.g) ∧ X.cell? ⟨b, off + s.st.toNat * 3 + 1, none⟩ = some (.int .i64 x.mn) ∧ X.cell? ⟨b, off + s.st.toNat * 3 + 2, none⟩ = some (.int .i64 x.mx) from fun X hX => by
    obtain ⟨b2, off2, x2, hB2, hx2, -, -, v0, v1, v2⟩ := (hp.s.below hX).at_ s.st.toNat (by omega)
    obtain rfl := hx.symm.trans hx2
    rw [hB] at hB2
    cases hB2
    exact ⟨v0, v1, v2⟩)
  rw [hxs] at hmn
  have HR := Lib.hid (show greenT p s = { s with t := s.t + 1 } by rw [greenT, if_neg (by omega), if_neg]; rw [endsS, hxs, decide_eq_false hmn]; simp)
  obtain ⟨G, hG⟩ : ∃ G, greenT p s = G := ⟨_, rfl⟩
  rw [hG] at HR ⊢
  have HNX := Lib.hid (fun X (hX : Below w.heap.size w X) => rnext_any p s.st X (hp.below hX))
  obtain ⟨N, hN⟩ : ∃ N, nextP p s.st = N := ⟨_, rfl⟩
  rw [hN] at HNX
  try rw [hN] at HR
  simp only [plV, sgV] at HNX ⊢
  have w1 : wrap64 (s.t + 1) = s.t + 1 := by unfold wrap64; omega
  have hst : (s.st.toNat : Int) = s.st := Int.toNat_of_nonneg s0
  have hstk : s.st.toNat < p.k := by omega
  have hd0 : ¬ (0 < s.hd) := by omega
  clear hG hN hx h0 hxs z0 z1 z2
  obtain ⟨pl, st, nx, ph, t, hd, hh', ak, wt, sp⟩ := s
  obtain ⟨A, n, c, m, B, k, d, sl, am, rd, hd'⟩ := p
  obtain ⟨g, mn, mx⟩ := x
  simp only at *
  subst hB
  obtain ⟨y0, y1, y2⟩ := HZ.out _ (below_alloc3 w (.cells #[.slice A n c, .slice (some ⟨b, off, none⟩) k d, .int .i64 am, .int .i64 rd, .int .i64 hd'] 47) (.cells #[.int .i64 pl, .int .i64 st, .int .i64 nx, .int .i64 ph, .int .i64 (t + 1), .int .i64 hd, .int .i64 hh', .int .i64 ak, .int .i64 wt, .bool sp] 24) (.cells #[.int .i64 0, .int .i64 0, .int .i64 0, .int .i64 0, .int .i64 0, .int .i64 0, .int .i64 0, .int .i64 0, .int .i64 0, .bool false] 24))
  go_enter Try.func54, Try.ntmps54
  go_wp2
  refine bodyPost_ret (v := .agg #[.int .i64 pl, .int .i64 st, .int .i64 nx, .int .i64 ph, .int .i64 (t + 1), .int .i64 hd, .int .i64 hh', .int .i64 ak, .int .i64 wt, .bool sp]) ?_ rfl ⟨by rw [HR.out]; rfl, below_alloc4 _ _ _ _ _⟩
  exact results_cell_row Try.results54 _ _ (w.heap.size + 1 + 1) 24 #[.int .i64 pl, .int .i64 st, .int .i64 nx, .int .i64 ph, .int .i64 (t + 1), .int .i64 hd, .int .i64 hh', .int .i64 ak, .int .i64 wt, .bool sp] (0, 0) _ rfl (alloc4_third _ _ _ _ _) Try.underlying24 rfl info_sig
set_option maxHeartbeats 8000000 in
theorem rgreen_no (p : Pl) (s : Sg) (w : World) (hp : PlIn w p) (h0 : s.hd = 0) (s0 : 0 ≤ s.st) (s1 : s.st < p.k) (t0 : 0 ≤ s.t) (t1 : s.t ≤ 1000) (hsp : s.sp = false) (hmn : (stgAt p s.st).mn ≤ s.t + 1) (hak : s.ak = -1) (hwt : s.wt = -1) (hmx : ¬ (stgAt p s.st).mx ≤ s.t + 1) : Calls Try.prog 54 #[plV p, sgV s] w (GivesG (greenT p s) w) := by
  have hsk := hp.s.small
  obtain ⟨b, off, x, hB, hx, -, -, z0, z1, z2⟩ := hp.s.at_ s.st.toNat (by omega)
  have hxs : stgAt p s.st = x := hx
  have HZ := Lib.hid (show ∀ X, Below w.heap.size w X → X.cell? ⟨b, off + s.st.toNat * 3, none⟩ = some (.int .i64 x.g) ∧ X.cell? ⟨b, off + s.st.toNat * 3 + 1, none⟩ = some (.int .i64 x.mn) ∧ X.cell? ⟨b, off + s.st.toNat * 3 + 2, none⟩ = some (.int .i64 x.mx) from fun X hX => by
    obtain ⟨b2, off2, x2, hB2, hx2, -, -, v0, v1, v2⟩ := (hp.s.below hX).at_ s.st.toNat (by omega)
    obtain rfl := hx.symm.trans hx2
    rw [hB] at hB2
    cases hB2
    exact ⟨v0, v1, v2⟩)
  rw [hxs] at hmn hmx
  have HR := Lib.hid (show greenT p s = { s with t := s.t + 1 } by rw [greenT, if_neg (by omega), if_neg]; rw [endsS, hxs, hsp, hak, hwt, decide_eq_false hmx]; simp)
  obtain ⟨G, hG⟩ : ∃ G, greenT p s = G := ⟨_, rfl⟩
  rw [hG] at HR ⊢
  have HNX := Lib.hid (fun X (hX : Below w.heap.size w X) => rnext_any p s.st X (hp.below hX))
  obtain ⟨N, hN⟩ : ∃ N, nextP p s.st = N := ⟨_, rfl⟩
  rw [hN] at HNX
  try rw [hN] at HR
  simp only [plV, sgV] at HNX ⊢
  have w1 : wrap64 (s.t + 1) = s.t + 1 := by unfold wrap64; omega
  have hst : (s.st.toNat : Int) = s.st := Int.toNat_of_nonneg s0
  have hstk : s.st.toNat < p.k := by omega
  have hd0 : ¬ (0 < s.hd) := by omega
  clear hG hN hx h0 hxs z0 z1 z2
  obtain ⟨pl, st, nx, ph, t, hd, hh', ak, wt, sp⟩ := s
  obtain ⟨A, n, c, m, B, k, d, sl, am, rd, hd'⟩ := p
  obtain ⟨g, mn, mx⟩ := x
  simp only at *
  subst hB
  subst hsp
  have hakb : (ak != -1) = false := by rw [hak]; rfl
  clear hak
  have hwtb : (wt != -1) = false := by rw [hwt]; rfl
  clear hwt
  obtain ⟨y0, y1, y2⟩ := HZ.out _ (below_alloc3 w (.cells #[.slice A n c, .slice (some ⟨b, off, none⟩) k d, .int .i64 am, .int .i64 rd, .int .i64 hd'] 47) (.cells #[.int .i64 pl, .int .i64 st, .int .i64 nx, .int .i64 ph, .int .i64 (t + 1), .int .i64 hd, .int .i64 hh', .int .i64 ak, .int .i64 wt, .bool false] 24) (.cells #[.int .i64 0, .int .i64 0, .int .i64 0, .int .i64 0, .int .i64 0, .int .i64 0, .int .i64 0, .int .i64 0, .int .i64 0, .bool false] 24))
  go_enter Try.func54, Try.ntmps54
  go_wp2
  refine bodyPost_ret (v := .agg #[.int .i64 pl, .int .i64 st, .int .i64 nx, .int .i64 ph, .int .i64 (t + 1), .int .i64 hd, .int .i64 hh', .int .i64 ak, .int .i64 wt, .bool false]) ?_ rfl ⟨by rw [HR.out]; rfl, below_alloc4 _ _ _ _ _⟩
  exact results_cell_row Try.results54 _ _ (w.heap.size + 1 + 1) 24 #[.int .i64 pl, .int .i64 st, .int .i64 nx, .int .i64 ph, .int .i64 (t + 1), .int .i64 hd, .int .i64 hh', .int .i64 ak, .int .i64 wt, .bool false] (0, 0) _ rfl (alloc4_third _ _ _ _ _) Try.underlying24 rfl info_sig
theorem stg_mem {p : Pl} {k : Int} (h0 : 0 ≤ k) (h1 : k < p.s.length) : stgAt p k ∈ p.s := by
  have hk : k.toNat < p.s.length := by omega
  rw [stgAt, List.getD_eq_getElem?_getD, List.getElem?_eq_getElem hk]
  exact List.getElem_mem hk
theorem green_small {p : Pl} {n : Nat} {s : Sg} (hf : fitP p = true) (h1 : RangeS p n s) (h2 : HeldS p s) (h3 : GreenS p s) : 0 ≤ s.t ∧ s.t ≤ 1000 ∧ 0 ≤ s.hl ∧ s.hl ≤ 300 ∧ 0 ≤ s.hd ∧ s.hd ≤ 300 := by
  have hff := fit_iff.1 hf
  obtain ⟨-, -, -, -, -, m2⟩ := hff.stage _ (stg_mem h1.s0 h1.s1)
  have := hff.hd2
  have := h2.h0
  have := h2.h1
  have := h2.h2
  have := h2.h3
  have := h3.t0
  have := h3.t1
  omega
theorem rgreen_any (p : Pl) (n : Nat) (s : Sg) (w : World) (hp : PlIn w p) (hf : fitP p = true) (h1 : RangeS p n s) (h2 : HeldS p s) (h3 : GreenS p s) : Calls Try.prog 54 #[plV p, sgV s] w (GivesG (greenT p s) w) := by
  obtain ⟨t0, t1, l0, l1, d0, d1⟩ := green_small hf h1 h2 h3
  have s0 := h1.s0
  have s1 : s.st < p.k := by have := h1.s1; rw [hp.s.len] at this; exact this
  by_cases hd : 0 < s.hd
  · exact rgreen_hd p s w hp hd d1 l0 l1 t0 t1
  have hd0 : s.hd = 0 := by omega
  by_cases hmn : (stgAt p s.st).mn ≤ s.t + 1
  · cases hsp : s.sp
    · by_cases hak : s.ak = -1
      · by_cases hwt : s.wt = -1
        · by_cases hmx : (stgAt p s.st).mx ≤ s.t + 1
          · exact rgreen_mx p s w hp hd0 s0 s1 t0 t1 hsp hmn hak hwt hmx
          · exact rgreen_no p s w hp hd0 s0 s1 t0 t1 hsp hmn hak hwt hmx
        · exact rgreen_wt p s w hp hd0 s0 s1 t0 t1 hsp hmn hak hwt
      · exact rgreen_ak p s w hp hd0 s0 s1 t0 t1 hsp hmn hak
    · by_cases hak : s.ak = -1
      · exact rgreen_sp p s w hp hd0 s0 s1 t0 t1 hsp hmn hak
      · exact rgreen_spa p s w hp hd0 s0 s1 t0 t1 hsp hmn hak
  · exact rgreen_mn p s w hp hd0 s0 s1 t0 t1 hmn
end Go.Proofs.Ytgnhmdfajnnkhaa

