/- Joined texts: A store into the middle of a block, and of a whole block, at blocks whose rows are known. The document's green. The document's red. The walk over the document's Tick. What may be stays so: pure facts of ticks. What package plan does: contracts that its own walks must bring; the chapter's example over them; Few, FewAll. The chapter's example: two stages, red of two ticks, seven ticks. The walks over the document's May and Text of a row of lamps. The walk over the document's Read of a text. The walks over the document's List and Of of groups, and Sets. The walks over the document's Show of a plan, and Clash. The walks over the document's Lamps and New. Rows that a call gathers, one behind the other. The walk over the document's Run. The walk over the document's Rows. The walk over the document's Clash of a plan and a row. What package stage does: contracts that its own walks must bring; the chapter's example over them. '==' between two machines. What package lamp does: contracts that its own walks must bring; the chapter's example over them. Pure facts of lamps, for the laws. Ticks, and more ticks. What package role answers, plainly; the tables as cells; Is, May, Turns, Name, and the document's own answers to them. Turns, Name, and the document's own Is, May, Turns, Name; two lists of numbers held against one another. What is asked of a machine, plainly: one ask, several, and with ticks between. The walk over the document's bare. The document's Do: a machine that may not be, or what does not turn. The document's Do: hold, next. The document's Do: plan, and what has no argument. The walk over the document's Do. The walk over the document's All. The walk over the document's Play. -/
import Derived.Test.YtgnhmdfajnnkhaaSbJA
/- A store into the middle of a block, and of a whole block, at blocks whose rows are known. -/
namespace Go.Proofs.Ytgnhmdfajnnkhaa
set_option linter.unusedVariables false
set_option linter.unusedSimpArgs false
open Go.RowKit

section
variable {P : Program}
theorem run_storeVar_mid (w : World) (g o : Nat) (t ty : TypeId) (v : Value) (old cells new : Array Value) (hv : v.cells = cells) (hg : w.heap[g]? = some (.cells old t (0, 0))) (hi : (P.info? ty).map (·.size) = some cells.size)
    (hl : o + cells.size ≤ old.size) (h1 : cells.all (·.oneCell') = true) (hn : old.toList.take o ++ cells.toList ++ old.toList.drop (o + cells.size) = new.toList) :
    (storeVar ty ⟨g, o, none⟩ v).run P w = .ok () (w.setRow g new) := by
  have h := run_storeCells_at P g o t cells.toList 0 old w hg (by simpa using hl) (fun v hv => (Array.all_eq_true_iff_forall_mem.1 h1) v (by simpa using hv))
  simp only [Nat.add_zero, Array.length_toList, hn, Array.toArray_toList] at h
  cases hq : P.info? ty with
  | none => simp [hq] at hi
  | some i =>
    have hs : cells.size = i.size := by simp [hq] at hi; omega
    simp [storeVar, sizeOf, typeInfo, hq, hv, hs, h]
theorem wp_store_part {o : Oper} {a : Act} {w : World} {K : Act → World → Prop} {Q : Exit → Act → World → Prop} (ty : TypeId) (x y : Operand) (ho : o.op = .store ty x y)
    (g off : Nat) (v : Value) (cells : Array Value) (hx : a.eval x = .pointer (some ⟨g, off, none⟩)) (hy : a.eval y = v) (hv : v.cells = cells) (t : TypeId) (old new : Array Value) (hg : w.heap[g]? = some (.cells old t (0, 0))) (hi : (P.info? ty).map (·.size) = some cells.size)
    (hl : off + cells.size ≤ old.size) (h1 : cells.all (·.oneCell') = true) (hn : old.toList.take off ++ cells.toList ++ old.toList.drop (off + cells.size) = new.toList)
    (h : ∀ w', w.grownBy w' (some g) → w'.heap[g]? = some (.cells new t (0, 0)) → w'.heap.size = w.heap.size → K (a.put o.dst undef) w') : o.wp P a w K Q := by
  unfold Oper.wp execOp
  simp only [ho, hx, hy, Instr.storeAt, Instr.sureAddr, Sem.run_bind, Sem.run_pure, Result.andThen_ok, run_storeVar_mid w g off t ty v old cells new hv hg hi hl h1 hn]
  exact h _ (grown_setRow _ _ _) (setRow_heap _ _ _ _ _ _ hg) (by simp)
theorem wpList_store_part {ops : Array Oper} {rest : List Oper} {o : Oper} {a : Act} {w : World} {Q : Exit → Act → World → Prop} (hgd : o.guard = none) (ty : TypeId) (x y : Operand) (ho : o.op = .store ty x y)
    (g off : Nat) (v : Value) (cells : Array Value) (hx : a.eval x = .pointer (some ⟨g, off, none⟩)) (hy : a.eval y = v) (hv : v.cells = cells) (t : TypeId) (old new : Array Value) (hg : w.heap[g]? = some (.cells old t (0, 0))) (hi : (P.info? ty).map (·.size) = some cells.size)
    (hl : off + cells.size ≤ old.size) (h1 : cells.all (·.oneCell') = true) (hn : old.toList.take off ++ cells.toList ++ old.toList.drop (off + cells.size) = new.toList)
    (h : ∀ w', w.grownBy w' (some g) → w'.heap[g]? = some (.cells new t (0, 0)) → w'.heap.size = w.heap.size → wpList P ops Q rest (a.put o.dst undef) w') : wpList P ops Q (o :: rest) a w :=
  wpList_plain hgd fun _ hK => wp_store_part ty x y ho g off v cells hx hy hv t old new hg hi hl h1 hn fun w' h2 h3 h4 => hK _ _ (h w' h2 h3 h4)
theorem step_store_part {ops : Array Oper} {o : Oper} {a : Act} {w : World} {K : Act → World → Prop} {Q : Exit → Act → World → Prop} {E : Prop} (ty : TypeId) (x y : Operand) (ho : o.op = .store ty x y)
    (g off : Nat) (v : Value) (cells : Array Value) (hx : a.eval x = .pointer (some ⟨g, off, none⟩)) (hy : a.eval y = v) (hv : v.cells = cells) (t : TypeId) (old new : Array Value) (hg : w.heap[g]? = some (.cells old t (0, 0))) (hi : (P.info? ty).map (·.size) = some cells.size)
    (hl : off + cells.size ≤ old.size) (h1 : cells.all (·.oneCell') = true) (hn : old.toList.take off ++ cells.toList ++ old.toList.drop (off + cells.size) = new.toList) (hw : Region.wanted o (yielded ops a.tmps) = true)
    (h : ∀ w', w.grownBy w' (some g) → w'.heap[g]? = some (.cells new t (0, 0)) → w'.heap.size = w.heap.size → K (a.put o.dst undef) w') : if Region.wanted o (yielded ops a.tmps) = true then Oper.wp P o a w K Q else E := by
  rw [if_pos hw]
  exact wp_store_part ty x y ho g off v cells hx hy hv t old new hg hi hl h1 hn h
theorem other_block {w w' : World} {g k : Nat} (h : w.grownBy w' (some g)) (hk : k ≠ g) (hlt : k < w.heap.size) : w'.heap[k]? = w.heap[k]? := by
  rcases h with ⟨-, -, -, -, hb⟩
  exact hb k hlt (ne_some hk)
end
end Go.Proofs.Ytgnhmdfajnnkhaa


/- The document's green. -/
namespace Go.Proofs.Ytgnhmdfajnnkhaa
set_option maxRecDepth 100000
set_option linter.unusedVariables false
set_option linter.unusedSimpArgs false
open Go.RowKit

theorem alloc2_new (w : World) (a b : Obj) : ((w.alloc a).alloc b).heap[w.heap.size + 1]? = some b := by
  have h := heap_alloc_new (w.alloc a) b
  simpa using h
theorem below_alloc2 (w : World) (a b : Obj) : Below w.heap.size w ((w.alloc a).alloc b) := (one_alloc w a).alloc (by simp) b
theorem info_one (v : Value) : (Try.prog.info? 3).map (·.size) = some (#[v] : Array Value).size := by
  have h : (Try.prog.info? 3).map (·.size) = some 1 := by kernel_rfl
  exact h
theorem all_row {l : List Value} (h : ∀ v ∈ l, v.oneCell' = true) : l.toArray.all (·.oneCell') = true := Array.all_eq_true_iff_forall_mem.2 fun v hv => h v (by simpa using hv)
theorem one_int (x : Int) : (#[.int .i64 x] : Array Value).all (·.oneCell') = true := all_row (l := [.int .i64 x]) fun v hv => by
  simp only [List.mem_cons, List.not_mem_nil, or_false] at hv
  rcases hv with rfl; rfl
theorem one_sig (a b c d e f g h i : Int) (j : Bool) : (#[.int .i64 a, .int .i64 b, .int .i64 c, .int .i64 d, .int .i64 e, .int .i64 f, .int .i64 g, .int .i64 h, .int .i64 i, .bool j] : Array Value).all (·.oneCell') = true := all_row (l := [.int .i64 a, .int .i64 b, .int .i64 c, .int .i64 d, .int .i64 e, .int .i64 f, .int .i64 g, .int .i64 h, .int .i64 i, .bool j]) fun v hv => by
  simp only [List.mem_cons, List.not_mem_nil, or_false] at hv
  rcases hv with rfl | rfl | rfl | rfl | rfl | rfl | rfl | rfl | rfl | rfl <;> rfl
theorem info_sig : (Try.prog.info? 24).map (·.size) = some 10 := by kernel_rfl
theorem stg_mem {p : Pl} {k : Int} (h0 : 0 ≤ k) (h1 : k < p.s.length) : stgAt p k ∈ p.s := by
  have hk : k.toNat < p.s.length := by omega
  rw [stgAt, List.getD_eq_getElem?_getD, List.getElem?_eq_getElem hk]
  exact List.getElem_mem hk
theorem green_small {p : Pl} {n : Nat} {s : Sg} (hf : fitP p = true) (h1 : RangeS p n s) (h2 : HeldS p s) (h3 : GreenS p s) : 0 ≤ s.t ∧ s.t ≤ 1000 ∧ 0 ≤ s.hl ∧ s.hl ≤ 300 ∧ 0 ≤ s.hd ∧ s.hd ≤ 300 := by
  have hff := fit_iff.1 hf
  obtain ⟨-, -, -, -, -, m2⟩ := hff.stage _ (stg_mem h1.s0 h1.s1)
  have := hff.hd2
  have := h2.h0
  have := h2.h1
  have := h2.h2
  have := h2.h3
  have := h3.t0
  have := h3.t1
  omega
end Go.Proofs.Ytgnhmdfajnnkhaa


/- The document's red. -/
namespace Go.Proofs.Ytgnhmdfajnnkhaa
set_option maxRecDepth 100000
set_option linter.unusedVariables false
set_option linter.unusedSimpArgs false
open Go.RowKit

end Go.Proofs.Ytgnhmdfajnnkhaa


/- The walk over the document's Tick. -/
namespace Go.Proofs.Ytgnhmdfajnnkhaa
set_option maxRecDepth 100000
set_option linter.unusedVariables false
set_option linter.unusedSimpArgs false
open Go.RowKit

theorem alloc2_old (w : World) (a b : Obj) : ((w.alloc a).alloc b).heap[w.heap.size]? = some a := heap_alloc2_old w a b
theorem other_small {p : Pl} {s : Sg} (hf : fitP p = true) (h : OtherS p s) : 0 ≤ s.t ∧ s.t ≤ 1000 := by
  have hff := fit_iff.1 hf
  have := hff.am2
  have := hff.rd2
  have := h.t
  by_cases h1 : s.ph = 1
  · have := h.am h1; omega
  · have := h.rd h1; omega
end Go.Proofs.Ytgnhmdfajnnkhaa


/- What may be stays so: pure facts of ticks. -/
namespace Go.Proofs.Ytgnhmdfajnnkhaa
set_option maxRecDepth 100000
set_option linter.unusedVariables false
set_option linter.unusedSimpArgs false
open Go.RowKit

theorem plan_mem {l : List Pl} {k : Int} (h0 : 0 ≤ k) (h1 : k < l.length) : planAt l k ∈ l := by
  have hk : k.toNat < l.length := by omega
  rw [planAt, List.getD_eq_getElem?_getD, List.getElem?_eq_getElem hk]
  exact List.getElem_mem hk
theorem plan_fit {l : List Pl} {s : Sg} (h : MayS l s) : fitP (planAt l s.pl) = true := all_fit h.all (plan_mem h.p0 h.p1)
theorem next_in {p : Pl} {k : Int} (hf : fitP p = true) (h0 : 0 ≤ k) (h1 : k < p.s.length) : 0 ≤ nextP p k ∧ nextP p k < p.s.length := by
  have h2 := (fit_iff.1 hf).two
  rw [nextP, if_pos ⟨hf, h0, h1⟩]
  by_cases h : k = p.s.length - 1
  · rw [if_pos h]; omega
  · rw [if_neg h]; omega
theorem stg_ok {p : Pl} {k : Int} (hf : fitP p = true) (h0 : 0 ≤ k) (h1 : k < p.s.length) : 1 ≤ (stgAt p k).mn ∧ (stgAt p k).mn ≤ (stgAt p k).mx ∧ (stgAt p k).mx ≤ 200 := by
  obtain ⟨-, -, a, -, b, c⟩ := (fit_iff.1 hf).stage _ (stg_mem h0 h1)
  exact ⟨a, b, c⟩
theorem ends_no {p : Pl} {s : Sg} (h : ¬ endsS p s = true) (hm : (stgAt p s.st).mn ≤ s.t + 1) : s.t + 1 < (stgAt p s.st).mx := by
  rcases Int.lt_or_le (s.t + 1) (stgAt p s.st).mx with h1 | h1
  · exact h1
  · exact (h (by rw [endsS, decide_eq_true hm, decide_eq_true h1]; simp)).elim
theorem may_green {l : List Pl} {s : Sg} (h : MayS l s) (hp : s.ph = 0) : MayS l (greenT (planAt l s.pl) s) := by
  have hf := plan_fit h
  have hr := h.range
  have hh := h.held
  have hg := h.green hp
  obtain ⟨m0, m1, m2⟩ := stg_ok hf hr.s0 hr.s1
  have hff := fit_iff.1 hf
  have hd0 := hff.hd1
  obtain ⟨r1, r2, r3, r4, r5, r6, r7, r8, r9, r10⟩ := hr
  obtain ⟨e1, e2, e3, e4⟩ := hh
  obtain ⟨g1, g2, g3⟩ := hg
  rw [greenT]
  by_cases hd : 0 < s.hd
  · rw [if_pos hd]
    refine ⟨h.all, h.p0, h.p1, ⟨r1, r2, r3, r4, r5, r6, r7, r8, r9, r10⟩, ⟨by simp only; omega, by simp only; omega, by simp only; omega, by simp only; omega⟩, fun _ => ⟨by simp only; omega, ?_, fun hs => ?_⟩, fun hn => (hn hp).elim⟩
    · show s.t + 1 - (s.hl + 1) < (stgAt (planAt l s.pl) s.st).mx
      omega
    · have := g3 hs
      omega
  · rw [if_neg hd]
    have hd1 : s.hd = 0 := by omega
    by_cases he : endsS (planAt l s.pl) s = true
    · rw [if_pos he]
      obtain ⟨n0, n1⟩ := next_in hf r1 r2
      refine ⟨h.all, h.p0, h.p1, ⟨r1, r2, ?_, ?_, by simp only; omega, by simp only; omega, by simp only; omega, by simp only; omega, r9, r10⟩, ⟨e1, by simp only; omega, hd0, by simp only; omega⟩, fun hn => by simp only at hn; omega, fun _ => ⟨hd1, rfl, rfl, Int.le_refl _, fun _ => ?_, fun hn => (hn rfl).elim⟩⟩
      · show 0 ≤ (if s.ak = -1 then nextP (planAt l s.pl) s.st else s.ak)
        split <;> omega
      · show (if s.ak = -1 then nextP (planAt l s.pl) s.st else s.ak) < ((planAt l s.pl).s.length : Int)
        split <;> omega
      · have := hff.am1
        show 0 < (planAt l s.pl).am
        omega
    · rw [if_neg he]
      refine ⟨h.all, h.p0, h.p1, ⟨r1, r2, r3, r4, r5, r6, r7, r8, r9, r10⟩, ⟨e1, e2, e3, e4⟩, fun _ => ⟨by simp only; omega, ?_, g3⟩, fun hn => (hn hp).elim⟩
      show s.t + 1 - s.hl < (stgAt (planAt l s.pl) s.st).mx
      by_cases hm : (stgAt (planAt l s.pl) s.st).mn ≤ s.t + 1
      · have := ends_no he hm
        omega
      · omega
theorem may_amber {l : List Pl} {s : Sg} (h : MayS l s) (hp : s.ph = 1) : MayS l (amberT (planAt l s.pl) s) := by
  have hf := plan_fit h
  have ho := h.other (by omega)
  have hr := h.range
  have hff := fit_iff.1 hf
  have hrd := hff.rd1
  obtain ⟨r1, r2, r3, r4, r5, r6, r7, r8, r9, r10⟩ := hr
  obtain ⟨o1, o2, o3, o4, o5, o6⟩ := ho
  rw [amberT]
  by_cases ha : s.t + 1 = (planAt l s.pl).am
  · rw [if_pos ha]
    refine ⟨h.all, h.p0, h.p1, ⟨r1, r2, r3, r4, by simp only; omega, by simp only; omega, r7, r8, r9, r10⟩, ⟨h.held.h0, h.held.h1, h.held.h2, h.held.h3⟩, fun hn => by simp only at hn; omega, fun _ => ⟨o1, o2, o3, Int.le_refl _, fun hn => by simp only at hn; omega, fun _ => ?_⟩⟩
    show 0 ≤ (planAt l s.pl).rd
    omega
  · rw [if_neg ha]
    refine ⟨h.all, h.p0, h.p1, ⟨r1, r2, r3, r4, r5, r6, r7, r8, r9, r10⟩, ⟨h.held.h0, h.held.h1, h.held.h2, h.held.h3⟩, fun hn => by simp only at hn; omega, fun _ => ⟨o1, o2, o3, by simp only; omega, fun _ => ?_, fun hn => (hn hp).elim⟩⟩
    have := o5 hp
    show s.t + 1 < (planAt l s.pl).am
    omega
theorem may_red {l : List Pl} {s : Sg} (h : MayS l s) (hp0 : s.ph ≠ 0) (hp1 : s.ph ≠ 1) : MayS l (redT (planAt l s.pl) s) := by
  have hf := plan_fit h
  have ho := h.other hp0
  have hr := h.range
  have hff := fit_iff.1 hf
  have hd0 := hff.hd1
  have hrd := hff.rd1
  obtain ⟨r1, r2, r3, r4, r5, r6, r7, r8, r9, r10⟩ := hr
  obtain ⟨o1, o2, o3, o4, o5, o6⟩ := ho
  have o7 := o6 hp1
  rw [redT]
  have hN0 : 0 ≤ redN (planAt l s.pl) s ∧ redN (planAt l s.pl) s ≤ (planAt l s.pl).rd := by
    rw [redN]
    split <;> omega
  by_cases ha : redN (planAt l s.pl) s < (planAt l s.pl).rd ∨ s.sp = true
  · rw [if_pos ha]
    exact ⟨h.all, h.p0, h.p1, ⟨r1, r2, r3, r4, r5, r6, r7, r8, r9, r10⟩, ⟨h.held.h0, h.held.h1, h.held.h2, h.held.h3⟩, fun hn => (hp0 hn).elim, fun _ => ⟨o1, o2, o3, hN0.1, fun hn => (hp1 hn).elim, fun _ => hN0.2⟩⟩
  · rw [if_neg ha]
    by_cases hw : s.wt = -1
    · rw [if_pos hw]
      obtain ⟨m0, m1, m2⟩ := stg_ok hf r3 r4
      refine ⟨h.all, h.p0, h.p1, ⟨r3, r4, r3, r4, Int.le_refl _, by simp only; omega, r7, r8, r9, r10⟩, ⟨h.held.h0, h.held.h1, h.held.h2, h.held.h3⟩, fun _ => ⟨by simp only; omega, ?_, fun _ => o1⟩, fun hn => (hn rfl).elim⟩
      show 0 - s.hl < (stgAt (planAt l s.pl) s.nx).mx
      omega
    · rw [if_neg hw]
      have w0 : 0 ≤ s.wt := by omega
      have hf2 := all_fit h.all (plan_mem w0 r10)
      have hff2 := fit_iff.1 hf2
      have h2 := hff2.two
      obtain ⟨m0, m1, m2⟩ := stg_ok hf2 (k := 0) (Int.le_refl _) (by omega)
      have hd2 := hff2.hd1
      refine ⟨h.all, w0, r10, ⟨Int.le_refl _, ?_, Int.le_refl _, ?_, Int.le_refl _, by simp only; omega, by simp only; omega, ?_, by simp only; omega, by simp only; omega⟩, ⟨by simp only; omega, by simp only; omega, ?_, ?_⟩, fun _ => ⟨by simp only; omega, ?_, fun _ => o1⟩, fun hn => (hn rfl).elim⟩
      · show (0 : Int) < ((planAt l s.wt).s.length : Int)
        omega
      · show (0 : Int) < ((planAt l s.wt).s.length : Int)
        omega
      · show s.ak < ((planAt l s.wt).s.length : Int)
        omega
      · show s.hl ≤ (planAt l s.wt).hd
        omega
      · show s.hd ≤ (planAt l s.wt).hd - s.hl
        omega
      · show 0 - s.hl < (stgAt (planAt l s.wt) 0).mx
        omega
theorem may_tick {l : List Pl} {s : Sg} (h : MayS l s) : MayS l (tickS l s) := by
  rw [tickS, if_pos (mayS_iff.2 h)]
  by_cases h0 : s.ph = 0
  · rw [if_pos h0]; exact may_green h h0
  · rw [if_neg h0]
    by_cases h1 : s.ph = 1
    · rw [if_pos h1]; exact may_amber h h1
    · rw [if_neg h1]; exact may_red h h0 h1
theorem may_ticks {l : List Pl} {s : Sg} (h : MayS l s) : ∀ k, MayS l (ticksS l s k)
  | 0 => h
  | k + 1 => may_tick (may_ticks h k)
theorem may_small {l : List Pl} {s : Sg} (h : MayS l s) : 0 ≤ s.t ∧ s.t ≤ 1000 := by
  by_cases h0 : s.ph = 0
  · obtain ⟨a, b, -⟩ := green_small (plan_fit h) h.range h.held (h.green h0)
    exact ⟨a, b⟩
  · exact other_small (plan_fit h) (h.other h0)
theorem small_may {l : List Pl} {s : Sg} (h : MayS l s) : SmG s := by
  have := (may_small h).2
  have := h.held.h2
  have := (fit_iff.1 (plan_fit h)).hd2
  exact ⟨by omega, by omega⟩
theorem rows_len (l : List Pl) (s : Sg) : ∀ k, (rowsS l s k).length = k
  | 0 => rfl
  | k + 1 => by rw [rowsS, List.length_append, rows_len]; rfl
end Go.Proofs.Ytgnhmdfajnnkhaa


/- What package plan does: contracts that its own walks must bring; the chapter's example over them; Few, FewAll. -/
namespace Go.Proofs.Ytgnhmdfajnnkhaa
set_option maxRecDepth 100000
set_option linter.unusedVariables false
set_option linter.unusedSimpArgs false
open Go.RowKit

/-- the example -/
structure IsTwo (p : Pl) : Prop where
  m : p.m = [2, 1]
  s : p.s = [⟨1, 5, 9⟩, ⟨2, 7, 8⟩]
  am : p.am = 3
  rd : p.rd = 2
  hd : p.hd = 4
  n : p.n = 2
  k : p.k = 2
theorem lit_pair (W : World) (x y : Int) : Its .i64 (W.alloc (.cells #[.int .i64 x, .int .i64 y] 3 (0, 0))) (some ⟨W.heap.size, 0, none⟩) 2 2 [x, y] := by
  refine ⟨rfl, Nat.le_refl _, by unfold maxLen; omega, (fun h => by cases h), fun _ => ⟨_, 0, rfl, fun j hj => ?_⟩⟩
  rw [cell_of_row _ _ _ _ _ _ (heap_alloc_new W _)]
  match j, hj with
  | 0, _ => rfl
  | 1, _ => rfl
theorem sts_two (W : World) (x y : Stg) : Sts (W.alloc (.cells #[.int .i64 x.g, .int .i64 x.mn, .int .i64 x.mx, .int .i64 y.g, .int .i64 y.mn, .int .i64 y.mx] 71 (0, 0))) (some ⟨W.heap.size, 0, none⟩) 2 2 [x, y] := by
  refine ⟨rfl, fun r hr => ?_, fun r hr u hu => ?_, Nat.le_refl _, by unfold maxLen; omega, (fun h => by cases h), fun _ => ⟨_, 0, rfl, fun j hj i hi => ?_⟩⟩
  · simp only [List.map_cons, List.map_nil, List.mem_cons, List.not_mem_nil, or_false] at hr
    rcases hr with rfl | rfl <;> rfl
  · simp only [List.map_cons, List.map_nil, List.mem_cons, List.not_mem_nil, or_false] at hr
    rcases hr with rfl | rfl
    all_goals
      simp only [Stg.row, List.mem_cons, List.not_mem_nil, or_false] at hu
      rcases hu with rfl | rfl | rfl <;> rfl
  · rw [cell_of_row _ _ _ _ _ _ (heap_alloc_new W _)]
    match j, hj, i, hi with
    | 0, _, 0, _ => rfl
    | 0, _, 1, _ => rfl
    | 0, _, 2, _ => rfl
    | 1, _, 0, _ => rfl
    | 1, _, 1, _ => rfl
    | 1, _, 2, _ => rfl
set_option maxHeartbeats 2000000 in
theorem two_any (w : World) : Calls Try.prog 25 #[] w fun e w' => ∃ p, e = .returned (plV p) ∧ IsTwo p ∧ PlIn w' p ∧ Below w.heap.size w w' := by
  go_enter Try.func25, Try.ntmps25
  go_wp2
  obtain ⟨W1, hW1⟩ : ∃ W1, w.alloc (.cells #[.slice (some ⟨w.heap.size + 1, 0, none⟩) 2 2, .slice (some ⟨w.heap.size + 1 + 1, 0, none⟩) 2 2, .int .i64 3, .int .i64 2, .int .i64 4] 47) = W1 := ⟨_, rfl⟩
  have s1 : W1.heap.size = w.heap.size + 1 := by rw [← hW1]; simp
  have b1 : W1.heap[w.heap.size]? = some (.cells #[.slice (some ⟨w.heap.size + 1, 0, none⟩) 2 2, .slice (some ⟨w.heap.size + 1 + 1, 0, none⟩) 2 2, .int .i64 3, .int .i64 2, .int .i64 4] 47 (0, 0)) := by rw [← hW1]; exact heap_alloc_new w _
  have hB1 : Below w.heap.size w W1 := by rw [← hW1]; exact one_alloc w _
  rw [hW1]
  obtain ⟨W2, hW2⟩ : ∃ W2, W1.alloc (.cells #[.int .i64 2, .int .i64 1] 3) = W2 := ⟨_, rfl⟩
  have s2 : W2.heap.size = w.heap.size + 1 + 1 := by rw [← hW2]; simp [s1]
  have i2 : Its .i64 W2 (some ⟨w.heap.size + 1, 0, none⟩) 2 2 [2, 1] := by rw [← hW2, ← s1]; exact lit_pair W1 2 1
  have hB2 : Below W1.heap.size W1 W2 := by rw [← hW2]; exact one_alloc W1 _
  rw [hW2]
  obtain ⟨W3, hW3⟩ : ∃ W3, W2.alloc (.cells #[.int .i64 1, .int .i64 5, .int .i64 9, .int .i64 2, .int .i64 7, .int .i64 8] 71) = W3 := ⟨_, rfl⟩
  have i3 : Sts W3 (some ⟨w.heap.size + 1 + 1, 0, none⟩) 2 2 [⟨1, 5, 9⟩, ⟨2, 7, 8⟩] := by rw [← hW3, ← s2]; exact sts_two W2 ⟨1, 5, 9⟩ ⟨2, 7, 8⟩
  have hB3 : Below W2.heap.size W2 W3 := by rw [← hW3]; exact one_alloc W2 _
  rw [hW3]
  have b3 := (hB3.block _ (by omega)).trans ((hB2.block _ (by omega)).trans b1)
  have hbx : BoxP W3 w.heap.size ⟨some ⟨w.heap.size + 1, 0, none⟩, 2, 2, [2, 1], some ⟨w.heap.size + 1 + 1, 0, none⟩, 2, 2, [⟨1, 5, 9⟩, ⟨2, 7, 8⟩], 3, 2, 4⟩ := b3
  obtain ⟨c0, c1, c2, c3, c4⟩ := hbx.cells
  simp only at c0 c1 c2 c3 c4
  refine bodyPost_ret (v := plV ⟨some ⟨w.heap.size + 1, 0, none⟩, 2, 2, [2, 1], some ⟨w.heap.size + 1 + 1, 0, none⟩, 2, 2, [⟨1, 5, 9⟩, ⟨2, 7, 8⟩], 3, 2, 4⟩) ?_ rfl ⟨_, rfl, ⟨rfl, rfl, rfl, rfl, rfl, rfl, rfl⟩, ⟨i2.below hB3, i3⟩, hB1.trans ((hB2.trans (hB3.mono hB2.size)).mono hB1.size)⟩
  simp [results, Try.results25, plV, go_sem, c0, c1, c2, c3, c4]
theorem pls_one (W : World) (p : Pl) (hp : PlIn W p) : Pls (W.alloc (.cells #[.slice p.A p.n p.c, .slice p.B p.k p.d, .int .i64 p.am, .int .i64 p.rd, .int .i64 p.hd] 47 (0, 0))) (some ⟨W.heap.size, 0, none⟩) 1 1 [p] := by
  have hb := one_alloc W (.cells #[.slice p.A p.n p.c, .slice p.B p.k p.d, .int .i64 p.am, .int .i64 p.rd, .int .i64 p.hd] 47 (0, 0))
  refine ⟨⟨rfl, fun r hr => ?_, fun r hr u hu => ?_, Nat.le_refl _, by unfold maxLen; omega, (fun h => by cases h), fun _ => ⟨_, 0, rfl, fun j hj i hi => ?_⟩⟩, fun x hx => ?_⟩
  · simp only [List.map_cons, List.map_nil, List.mem_cons, List.not_mem_nil, or_false] at hr
    rcases hr with rfl; rfl
  · simp only [List.map_cons, List.map_nil, List.mem_cons, List.not_mem_nil, or_false] at hr
    rcases hr with rfl
    all_goals
      simp only [Pl.row, List.mem_cons, List.not_mem_nil, or_false] at hu
      rcases hu with rfl | rfl | rfl | rfl | rfl <;> rfl
  · rw [cell_of_row _ _ _ _ _ _ (heap_alloc_new W _)]
    match j, hj, i, hi with
    | 0, _, 0, _ => rfl
    | 0, _, 1, _ => rfl
    | 0, _, 2, _ => rfl
    | 0, _, 3, _ => rfl
    | 0, _, 4, _ => rfl
  · simp only [List.mem_cons, List.not_mem_nil, or_false] at hx
    rcases hx with rfl
    · exact hp.below hb
def fewB (p : Pl) : Bool := decide (p.n ≤ 10) && decide (p.k ≤ 10)
theorem few_iff {p : Pl} : fewB p = true ↔ p.n ≤ 10 ∧ p.k ≤ 10 := by simp [fewB]
set_option maxHeartbeats 2000000 in
theorem pfew_any (p : Pl) (w : World) (hp : PlIn w p) : Calls Try.prog 28 #[plV p] w fun e w' => e = .returned (.bool (fewB p)) ∧ Below w.heap.size w w' := by
  have hsm := hp.m.small
  have hsk := hp.s.small
  have HB := Lib.hid (one_alloc w (.cells #[.slice p.A p.n p.c, .slice p.B p.k p.d, .int .i64 p.am, .int .i64 p.rd, .int .i64 p.hd] 47))
  have hr : fewB p = (decide (p.n ≤ 10) && decide (p.k ≤ 10)) := rfl
  simp only [plV]
  obtain ⟨A, n, c, m, B, k, d, s, am, rd, hd⟩ := p
  simp only at *
  rw [hr]
  clear hr hp
  by_cases h1 : n ≤ 10
  · by_cases h2 : k ≤ 10
    · have h1' : decide (n ≤ 10) = true := decide_eq_true h1
      have h2' : decide (k ≤ 10) = true := decide_eq_true h2
      rw [h1', h2']
      go_enter Try.func28, Try.ntmps28
      go_wp2
      go_ret
      exact ⟨by first | (simp [h1, h2]; omega) | simp [h1, h2], HB.out⟩
    · have h1' : decide (n ≤ 10) = true := decide_eq_true h1
      have h2' : decide (k ≤ 10) = false := decide_eq_false h2
      rw [h1', h2']
      go_enter Try.func28, Try.ntmps28
      go_wp2
      go_ret
      exact ⟨by first | (simp [h1, h2]; omega) | simp [h1, h2], HB.out⟩
  · have h1' : decide (n ≤ 10) = false := decide_eq_false h1
    rw [h1']
    go_enter Try.func28, Try.ntmps28
    go_wp2
    go_ret
    exact ⟨by first | (simp [h1]; omega) | simp [h1], HB.out⟩
def fewAllB (l : List Pl) : Bool := (l.take 6).all fewB && decide (l.length ≤ 5)
theorem fewall_iff {l : List Pl} : fewAllB l = true ↔ l.length ≤ 5 ∧ ∀ p ∈ l, p.n ≤ 10 ∧ p.k ≤ 10 := by
  simp only [fewAllB, Bool.and_eq_true, decide_eq_true_eq, List.all_eq_true, few_iff]
  constructor
  · rintro ⟨h1, h2⟩
    rw [List.take_of_length_le (by omega)] at h1
    exact ⟨h2, h1⟩
  · rintro ⟨h1, h2⟩
    rw [List.take_of_length_le (by omega)]
    exact ⟨h2, h1⟩
set_option maxHeartbeats 2000000 in
theorem pfewall_any (A : Option Addr) (n c : Nat) (l : List Pl) (w : World) (hl : Pls w A n c l) : Calls Try.prog 11 #[.slice A n c] w fun e w' => e = .returned (.bool (fewAllB l)) ∧ Below w.heap.size w w' := by
  have hsm := hl.small
  have HLL := Lib.hid hl.len
  have HL := Lib.hid hl
  clear hl
  go_enter Try.func11, Try.ntmps11
  go_wp2
  go_loopw [3] (fun v wr => ∃ j : Nat, j ≤ n ∧ j ≤ 6 ∧ v = .int .i64 j ∧ (l.take j).all fewB = true ∧ Below w.heap.size w wr) (fun v _ => n - (intOf v).toNat)
  case atStart => exact ⟨0, by omega, by omega, rfl, rfl, Below.refl _ _⟩
  case round =>
    obtain ⟨j, hj, hj6, rfl, hall, hbw⟩ := hrel
    have HBW := Lib.hid hbw
    have HAL := Lib.hid hall
    clear hall
    by_cases hlt : j < n
    · have hlt2 : (j : Int) < n := by omega
      by_cases h5 : j ≤ 5
      · have h52 : (j : Int) ≤ 5 := by omega
        have q0 : 0 ≤ (j : Int) := by omega
        obtain ⟨b, off, q, rfl, hq, -, hget, hqi, z0, z1, z2, z3, z4⟩ := (HL.out.below hbw).at_ j hlt
        have HFW := Lib.hid (pfew_any q wr hqi)
        simp only [plV] at HFW
        have htk : (l.take (j + 1)).all fewB = fewB q := by
          have hl' : j < l.length := by rw [HLL.out]; exact hlt
          have e : l[j] = q := by rw [List.getElem?_eq_getElem hl'] at hget; injection hget
          rw [List.take_succ_eq_append_getElem hl', List.all_append, HAL.out, e]
          simp
        have HTK := Lib.hid htk
        clear hbw hqi hq hget htk
        cases hf : fewB q
        · rw [hf] at HFW
          have HR := Lib.hid (show fewAllB l = false by
            rw [fewAllB, Bool.and_eq_false_iff]
            left
            rw [List.all_eq_false]
            have h1 := HTK.out
            rw [hf, List.all_eq_false] at h1
            obtain ⟨x, hx, hxf⟩ := h1
            exact ⟨x, (List.take_subset_take_left l (by omega)) hx, hxf⟩)
          clear hf
          go_wp2_with (first
            | (go_at_call 28
               (with_reducible refine (HFW.out).mono ?_)
               rintro e w3 ⟨rfl, hb3⟩
               have HB3 := Lib.hid (HBW.out.trans (hb3.mono HBW.out.size))
               clear hb3))
          go_ret
          exact ⟨by rw [HR.out]; rfl, HB3.out⟩
        · rw [hf] at HFW
          have HN := Lib.hid (HTK.out.trans hf)
          clear hf
          go_wp2_with (first
            | (go_at_call 28
               (with_reducible refine (HFW.out).mono ?_)
               rintro e w3 ⟨rfl, hb3⟩
               have HB3 := Lib.hid (HBW.out.trans (hb3.mono HBW.out.size))
               clear hb3))
          go_roundw
          case rel => exact ⟨j + 1, by omega, by omega, by go_num, HN.out, HB3.out⟩
          case measure => simp [intOf]; omega
      · have h52 : ¬ ((j : Int) ≤ 5) := by omega
        have hn5 : ¬ (n ≤ 5) := by omega
        have hn5i : decide (n ≤ 5) = false := decide_eq_false hn5
        have HR := Lib.hid (show fewAllB l = false by rw [fewAllB, HLL.out, hn5i, Bool.and_false])
        go_wp2
        go_ret
        exact ⟨by rw [HR.out]; first | (simp [hn5]; omega) | simp [hn5], HBW.out⟩
    · obtain rfl : j = n := by omega
      have hge : ¬ ((j : Int) < j) := by omega
      by_cases h5 : j ≤ 5
      · have hn5i : decide (j ≤ 5) = true := decide_eq_true h5
        have HR := Lib.hid (show fewAllB l = true by
          have h1 := HAL.out
          rw [fewAllB, HLL.out, hn5i, Bool.and_true]
          rw [List.take_of_length_le (by rw [HLL.out]; exact Nat.le_refl _)] at h1
          rw [List.take_of_length_le (by rw [HLL.out]; omega)]
          exact h1)
        go_wp2
        go_ret
        exact ⟨by rw [HR.out]; first | (simp [h5]; omega) | simp [h5], HBW.out⟩
      · have hn5i : decide (j ≤ 5) = false := decide_eq_false h5
        have HR := Lib.hid (show fewAllB l = false by rw [fewAllB, HLL.out, hn5i, Bool.and_false])
        go_wp2
        go_ret
        exact ⟨by rw [HR.out]; first | (simp [h5]; omega) | simp [h5], HBW.out⟩
end Go.Proofs.Ytgnhmdfajnnkhaa


/- The chapter's example: two stages, red of two ticks, seven ticks. -/
namespace Go.Proofs.Ytgnhmdfajnnkhaa
set_option maxRecDepth 100000
set_option linter.unusedVariables false
set_option linter.unusedSimpArgs false
open Go.RowKit

def oneTwo (A : Option Addr) (c : Nat) (B : Option Addr) (d : Nat) : Pl := ⟨A, 2, c, [2, 1], B, 2, d, [⟨1, 5, 9⟩, ⟨2, 7, 8⟩], 3, 2, 4⟩
theorem is_two {p : Pl} (h : IsTwo p) : p = oneTwo p.A p.c p.B p.d := by
  obtain ⟨A, n, c, m, B, k, d, s, am, rd, hd⟩ := p
  obtain ⟨h1, h2, h3, h4, h5, h6, h7⟩ := h
  simp only at h1 h2 h3 h4 h5 h6 h7
  subst h1 h2 h3 h4 h5 h6 h7
  rfl
end Go.Proofs.Ytgnhmdfajnnkhaa


/- The walks over the document's May and Text of a row of lamps. -/
namespace Go.Proofs.Ytgnhmdfajnnkhaa
set_option maxRecDepth 100000
set_option linter.unusedVariables false
set_option linter.unusedSimpArgs false
open Go.RowKit

theorem mem_getD {l : List Int} {x : Int} (h : x ∈ l) : ∃ j, j < l.length ∧ l.getD j 0 = x := by
  obtain ⟨j, hj, rfl⟩ := List.getElem_of_mem h
  exact ⟨j, hj, by simp [List.getD_eq_getElem?_getD, hj]⟩
theorem getD_mem {l : List Int} {j : Nat} (h : j < l.length) : l.getD j 0 ∈ l := by
  rw [List.getD_eq_getElem?_getD, List.getElem?_eq_getElem h]
  exact List.getElem_mem h
theorem row_bad {l : List Int} {j : Nat} (h : j < l.length) (hx : l.getD j 0 < 0 ∨ 3 ≤ l.getD j 0) : mayR l = false := by
  rw [← Bool.not_eq_true, may_iff]
  rintro ⟨-, ha⟩
  have := ha _ (getD_mem h)
  omega
end Go.Proofs.Ytgnhmdfajnnkhaa


/- The walk over the document's Read of a text. -/
namespace Go.Proofs.Ytgnhmdfajnnkhaa
set_option maxRecDepth 100000
set_option linter.unusedVariables false
set_option linter.unusedSimpArgs false
open Go.RowKit

end Go.Proofs.Ytgnhmdfajnnkhaa


/- The walks over the document's List and Of of groups, and Sets. -/
namespace Go.Proofs.Ytgnhmdfajnnkhaa
set_option maxRecDepth 100000
set_option linter.unusedVariables false
set_option linter.unusedSimpArgs false
open Go.RowKit

def listTo (t k : Nat) : List Int := ((List.range k).filter fun j => t.testBit j).map Int.ofNat
theorem list_next (t k : Nat) : listTo t (k + 1) = listTo t k ++ (if t.testBit k = true then [(k : Int)] else []) := by
  rw [listTo, List.range_succ, List.filter_append, List.map_append]
  congr 1
  by_cases h : t.testBit k = true
  · rw [if_pos h]; simp [h]
  · rw [if_neg h]; simp [h]
theorem list_len (t k : Nat) : (listTo t k).length ≤ k := by
  rw [listTo, List.length_map]
  exact Nat.le_trans (List.length_filter_le _ _) (by rw [List.length_range]; exact Nat.le_refl _)
theorem list_all {t : Nat} (h : t < 256) : listTo t 8 = listM (t : Int) := by
  rw [listM, if_pos (by omega), listTo]
  congr 1
  refine List.filter_congr fun j _ => ?_
  rw [bit_nat]
/-- gives a list of numbers -/
def GivesL (L : List Int) (w : World) (e : Ending) (w' : World) : Prop := ∃ A n c, e = .returned (.slice A n c) ∧ Its .i64 w' A n c L ∧ Below w.heap.size w w'
/-- gives a list of numbers in memory of its own -/
def GivesO (L : List Int) (w : World) (e : Ending) (w' : World) : Prop := ∃ A n c, e = .returned (.slice A n c) ∧ OwnI .i64 3 w' w.heap.size (.slice A n c) L ∧ Below w.heap.size w w'
theorem GivesO.gives {L : List Int} {w : World} {e : Ending} {w' : World} (h : GivesO L w e w') : GivesL L w e w' := by
  obtain ⟨A, n, c, rfl, ho, hb⟩ := h
  obtain ⟨B, k, d, e, hi⟩ := ho.its
  rw [e]
  exact ⟨B, k, d, rfl, hi, hb⟩
end Go.Proofs.Ytgnhmdfajnnkhaa


/- The walks over the document's Show of a plan, and Clash. -/
namespace Go.Proofs.Ytgnhmdfajnnkhaa
set_option maxRecDepth 100000
set_option linter.unusedVariables false
set_option linter.unusedSimpArgs false
open Go.RowKit

def showTo (t : Int) (ph : Int) (k : Nat) : List Int := (List.range k).map (lampP t ph)
end Go.Proofs.Ytgnhmdfajnnkhaa


/- The walks over the document's Lamps and New. -/
namespace Go.Proofs.Ytgnhmdfajnnkhaa
set_option maxRecDepth 100000
set_option linter.unusedVariables false
set_option linter.unusedSimpArgs false
open Go.RowKit

end Go.Proofs.Ytgnhmdfajnnkhaa


/- Rows that a call gathers, one behind the other. -/
namespace Go.Proofs.Ytgnhmdfajnnkhaa
set_option maxRecDepth 100000
set_option linter.unusedVariables false
set_option linter.unusedSimpArgs false
open Go.RowKit

/-- rows that lie in memory beyond a base, none of them in the block of the slice that holds them -/
structure RowsAt (w : World) (base : Nat) (v : Value) (rows : List Rw) : Prop where
  its : ∀ r ∈ rows, Its .i64 w r.A r.n r.c r.l
  off : ∀ r ∈ rows, ∀ b o, r.A = some ⟨b, o, none⟩ → base ≤ b ∧ b < w.heap.size ∧ v.ownBlock ≠ some b
section
variable {w w' : World} {base : Nat} {v v' : Value} {rows : List Rw}
theorem RowsAt.nil (w : World) (base : Nat) (v : Value) : RowsAt w base v [] := ⟨fun r hr => (by cases hr), fun r hr => (by cases hr)⟩
theorem RowsAt.below (h : RowsAt w base v rows) (hb : Below w.heap.size w w') : RowsAt w' base v rows :=
  ⟨fun r hr => (h.its r hr).below hb, fun r hr b o e => ⟨(h.off r hr b o e).1, Nat.lt_of_lt_of_le (h.off r hr b o e).2.1 hb.size, (h.off r hr b o e).2.2⟩⟩
/-- a store below the base -/
theorem RowsAt.low {g : Nat} (h : RowsAt w base v rows) (hg : w.grownBy w' (some g)) (hlt : g < base) (hz : w'.heap.size = w.heap.size) : RowsAt w' base v rows :=
  ⟨fun r hr => (h.its r hr).grown hg (fun b o e => ne_some (by have := (h.off r hr b o e).1; omega)), fun r hr b o e => by rw [hz]; exact h.off r hr b o e⟩
/-- the slice grows -/
theorem RowsAt.turn (h : RowsAt w base v rows) (hg : w.grownBy w' v.ownBlock) (hv : v'.ownBlock = v.ownBlock ∨ v'.ownBlock = some w.heap.size) (hs : w.heap.size ≤ w'.heap.size) : RowsAt w' base v' rows :=
  ⟨fun r hr => (h.its r hr).grown hg (fun b o e => fun e2 => (h.off r hr b o e).2.2 e2.symm), fun r hr b o e => by
    obtain ⟨h1, h2, h3⟩ := h.off r hr b o e
    refine ⟨h1, by omega, ?_⟩
    rcases hv with hv | hv
    · rw [hv]; exact h3
    · rw [hv]; exact ne_some (by omega)⟩
theorem RowsAt.snoc (h : RowsAt w base v rows) {r : Rw} (hi : Its .i64 w r.A r.n r.c r.l) (ho : ∀ b o, r.A = some ⟨b, o, none⟩ → base ≤ b ∧ b < w.heap.size ∧ v.ownBlock ≠ some b) : RowsAt w base v (rows ++ [r]) := by
  refine ⟨fun x hx => ?_, fun x hx => ?_⟩
  · rcases List.mem_append.1 hx with hx | hx
    · exact h.its x hx
    · rw [List.mem_singleton.1 hx]; exact hi
  · rcases List.mem_append.1 hx with hx | hx
    · exact h.off x hx
    · rw [List.mem_singleton.1 hx]; exact ho
end
/-- a row in memory of a call's own lies beyond its base -/
theorem own_at {w : World} {base : Nat} {A : Option Addr} {n c : Nat} {l : List Int} (h : OwnI .i64 3 w base (.slice A n c) l) : Its .i64 w A n c l ∧ ∀ b o, A = some ⟨b, o, none⟩ → base ≤ b ∧ b < w.heap.size := by
  obtain ⟨B, m, d, e, hi⟩ := h.its
  cases e
  exact ⟨hi, fun b o e => h.size b (by rw [e]; rfl)⟩
theorem other_blocks {e : TypeId} {k i base : Nat} {w w' : World} {v : Value} {rows : List (List Value)} (hg : w.grownBy w' v.ownBlock) (ho : OwnR e k w base v rows) (hi : i < base) (hlt : i < w.heap.size) : w'.heap[i]? = w.heap[i]? := hg.block i hlt (fun e => by have := (ho.size i e.symm).1; omega)
theorem info_rows : (Try.prog.info? 40).map (fun i => (i.zero.map (·.cells.size), i.size, i.bytes)) = some (some 1, 1, 24) := by kernel_rfl
theorem results_blk_val {fn : Func} {p u : Tmp} {ty : TypeId} (h : fn.results = #[.cell p ty, .tmp u]) (tmps : Array Value) (P : Program) (w : World) (g : Nat) (t : TypeId) (cs : Array Value) (fr : Nat × Nat) (d : TypeDesc)
    (hp : tmps.getD p undef = .pointer (some ⟨g, 0, none⟩)) (hg : w.heap[g]? = some (.cells cs t fr))
    (hu : P.underlying ty = some d) (hd : d.isRow = true) (hi : (P.info? ty).map (·.size) = some cs.size) (v : Value) (hv : tmps.getD u undef = v) :
    (results fn tmps).run P w = .ok (.tuple #[.agg cs, v]) w := by
  rw [results_cell_tmp h, hp, hv]
  simp [asAddr, run_loadVar_row w g t ty cs fr d hg hu (by cases d <;> simp_all) hi]
end Go.Proofs.Ytgnhmdfajnnkhaa


/- The walk over the document's Run. -/
namespace Go.Proofs.Ytgnhmdfajnnkhaa
set_option maxRecDepth 100000
set_option linter.unusedVariables false
set_option linter.unusedSimpArgs false
open Go.RowKit

end Go.Proofs.Ytgnhmdfajnnkhaa


/- The walk over the document's Rows. -/
namespace Go.Proofs.Ytgnhmdfajnnkhaa
set_option maxRecDepth 100000
set_option linter.unusedVariables false
set_option linter.unusedSimpArgs false
open Go.RowKit

theorem rows_take {a b : List Rw} {j : Nat} (hj : j < a.length) (hk : j < b.length) (h : (a.map Rw.l).take j = (b.map Rw.l).take j) (he : (a.getD j Rw.zero).l = (b.getD j Rw.zero).l) : (a.map Rw.l).take (j + 1) = (b.map Rw.l).take (j + 1) := by
  rw [List.take_succ_eq_append_getElem (by rw [List.length_map]; exact hj), List.take_succ_eq_append_getElem (by rw [List.length_map]; exact hk), h]
  rw [List.getD_eq_getElem?_getD, List.getD_eq_getElem?_getD, List.getElem?_eq_getElem hj, List.getElem?_eq_getElem hk] at he
  simp only [Option.getD_some] at he
  simp [he]
theorem rows_differ {a b : List Rw} {j : Nat} (hj : j < a.length) (hk : j < b.length) (he : (a.getD j Rw.zero).l ≠ (b.getD j Rw.zero).l) : a.map Rw.l ≠ b.map Rw.l := fun h => he (by
  have h1 : (a.map Rw.l)[j]? = (b.map Rw.l)[j]? := by rw [h]
  rw [List.getElem?_map, List.getElem?_map, List.getElem?_eq_getElem hj, List.getElem?_eq_getElem hk] at h1
  simp only [Option.map_some, Option.some.injEq] at h1
  rw [List.getD_eq_getElem?_getD, List.getD_eq_getElem?_getD, List.getElem?_eq_getElem hj, List.getElem?_eq_getElem hk]
  exact h1)
theorem list_same {a b : List Int} {k : Nat} (ha : a.length = k) (hb : b.length = k) (h : ∀ j, j < k → a.getD j 0 = b.getD j 0) : a = b := by
  refine List.ext_getElem (by omega) fun j h1 h2 => ?_
  have := h j (by omega)
  simpa [List.getD_eq_getElem?_getD, h1, h2] using this
set_option maxHeartbeats 8000000 in
theorem rrows_any (A B : Option Addr) (n c m d : Nat) (ra rb : List Rw) (w : World) (ha : Lns w A n c ra) (hb : Lns w B m d rb) :
    Calls Try.prog 19 #[.slice A n c, .slice B m d] w fun e w' => e = .returned (.bool (decide (ra.map Rw.l = rb.map Rw.l))) ∧ Below w.heap.size w w' := by
  have hna := ha.small
  have hmb := hb.small
  have HAL := Lib.hid ha.len
  have HBL := Lib.hid hb.len
  by_cases hnm : n = m
  · subst hnm
    have hne0 : ((n : Int) != (n : Int)) = false := by simp
    have HA := Lib.hid ha
    have HB := Lib.hid hb
    clear ha hb
    go_enter Try.func19, Try.ntmps19
    go_wp2
    go_loopw [5, 6] (fun i k wr => ∃ j : Nat, j ≤ n ∧ i = .int .i64 j ∧ (ra.map Rw.l).take j = (rb.map Rw.l).take j ∧ Below w.heap.size w wr) (fun i _ _ => n - (intOf i).toNat)
    case atStart => exact ⟨0, by omega, rfl, rfl, Below.refl _ _⟩
    case round =>
      obtain ⟨j, hj, rfl, htk, hbw⟩ := hrel
      have HBW := Lib.hid hbw
      have HTK := Lib.hid htk
      clear htk hbw
      by_cases hlt : j < n
      · have hlt2 : (j : Int) < n := by omega
        have q0 : 0 ≤ (j : Int) := by omega
        obtain ⟨b, off, x, hA, hx, hmx, -, hix, hzx⟩ := HA.out.at_ j hlt
        obtain ⟨b', off', y, hB, hy, hmy, -, hiy, hzy⟩ := HB.out.at_ j hlt
        subst hA
        subst hB
        have hxl := hix.len
        have hyl := hiy.len
        have hxs := hix.small
        have hys := hiy.small
        have HIX := Lib.hid (show ∀ X, Below w.heap.size w X → X.cell? ⟨b, off + j, none⟩ = some (.slice x.A x.n x.c) ∧ X.cell? ⟨b', off' + j, none⟩ = some (.slice y.A y.n y.c) from fun X hX => by
          obtain ⟨b2, off2, x2, hA2, hx2, -, -, -, z0⟩ := (HA.out.below hX).at_ j hlt
          obtain ⟨b3, off3, y2, hB2, hy2, -, -, -, z1⟩ := (HB.out.below hX).at_ j hlt
          cases hA2
          cases hB2
          obtain rfl := hx.symm.trans hx2
          obtain rfl := hy.symm.trans hy2
          exact ⟨z0, z1⟩)
        have HF := Lib.hid (show ∀ X, Below wr.heap.size wr X → X.cell? ⟨b, off + j, none⟩ = some (.slice x.A x.n x.c) ∧ X.cell? ⟨b', off' + j, none⟩ = some (.slice y.A y.n y.c) from fun X hX => HIX.out X (HBW.out.trans (hX.mono HBW.out.size)))
        have HX := Lib.hid hx
        have HY := Lib.hid hy
        have HJX := Lib.hid hix
        have HJY := Lib.hid hiy
        clear hx hy hmx hmy hzx hzy hix hiy
        by_cases hnn0 : x.n = y.n
        · have hnn : ((x.n : Int) != (y.n : Int)) = false := by rw [hnn0]; simp
          go_wp2
          have hSd : Below wr.heap.size wr wr.drew := (Below.refl _ wr).drew
          refine wp_region_held_drew (S := fun X => Below wr.heap.size wr X) (by kernel_rfl) hSd (fun hHeld => ?_)
          refine tk 0 (.slice (some ⟨b, off, none⟩) n c) hHeld (fun w => ?_) ?_
          · go_simp
          simp only [PT]
          refine tk 1 (.int .i64 j) hHeld (fun w => ?_) ?_
          · go_simp
          simp only [PT]
          refine tk 2 (.pointer (some ⟨b, off + j, none⟩)) hHeld (fun w => ?_) ?_
          · go_simp
          simp only [PT]
          refine tkS 3 (.slice x.A x.n x.c) hHeld (fun w hq => ?_) ?_
          · obtain ⟨z0, z1⟩ := HF.out w hq
            go_simp
          simp only [PT]
          refine tk 4 (.int .i64 (x.n : Int)) hHeld (fun w => ?_) ?_
          · go_simp
          simp only [PT]
          refine tk 5 (.slice (some ⟨b', off', none⟩) n d) hHeld (fun w => ?_) ?_
          · go_simp
          simp only [PT]
          refine tk 6 (.int .i64 j) hHeld (fun w => ?_) ?_
          · go_simp
          simp only [PT]
          refine tk 7 (.pointer (some ⟨b', off' + j, none⟩)) hHeld (fun w => ?_) ?_
          · go_simp
          simp only [PT]
          refine tkS 8 (.slice y.A y.n y.c) hHeld (fun w hq => ?_) ?_
          · obtain ⟨z0, z1⟩ := HF.out w hq
            go_simp
          simp only [PT]
          refine tk 9 (.int .i64 (y.n : Int)) hHeld (fun w => ?_) ?_
          · go_simp
          simp only [PT]
          refine tk 10 (.bool false) hHeld (fun w => ?_) ?_
          · (go_simp; try exact hnn)
          simp only [PT]
          refine wpAnyH_done (by kernel_rfl) ?_ _
          clear hHeld
          obtain ⟨xA, xn, xc, xl⟩ := x
          obtain ⟨yA, yn, yc, yl⟩ := y
          simp only at *
          subst hnn0
          go_wp2
          go_loopw [6] (fun k wq => ∃ q : Nat, q ≤ xn ∧ k = .int .i64 q ∧ (∀ i, i < q → xl.getD i 0 = yl.getD i 0) ∧ Below w.heap.size w wq) (fun k _ => xn - (intOf k).toNat)
          case atStart => exact ⟨0, by omega, rfl, fun i hi => by omega, HBW.out.trans (hSd.mono HBW.out.size)⟩
          case round =>
            rename_i wr0
            obtain ⟨q, hq, rfl, hsm, hbq⟩ := hrel
            have HBQ := Lib.hid hbq
            have HSM := Lib.hid hsm
            obtain ⟨z0, z1⟩ := HIX.out wr hbq
            clear hsm
            by_cases hql : q < xn
            · have hql2 : (q : Int) < xn := by omega
              have q1 : 0 ≤ (q : Int) := by omega
              obtain ⟨xb, xo, rfl, hcx⟩ := HJX.out.at_ (by omega)
              obtain ⟨yb, yo, rfl, hcy⟩ := HJY.out.at_ (by omega)
              obtain ⟨xx, hxx⟩ : ∃ v, xl.getD q 0 = v := ⟨_, rfl⟩
              obtain ⟨yy, hyy⟩ : ∃ v, yl.getD q 0 = v := ⟨_, rfl⟩
              have HF2 := Lib.hid (show ∀ X, Below wr.heap.size wr X → X.cell? ⟨b, off + j, none⟩ = some (.slice (some ⟨xb, xo, none⟩) xn xc) ∧ X.cell? ⟨b', off' + j, none⟩ = some (.slice (some ⟨yb, yo, none⟩) xn yc) ∧ X.cell? ⟨xb, xo + q, none⟩ = some (.int .i64 xx) ∧ X.cell? ⟨yb, yo + q, none⟩ = some (.int .i64 yy) from fun X hX => by
                have hX0 := HBQ.out.trans (hX.mono HBQ.out.size)
                obtain ⟨v0, v1⟩ := HIX.out X hX0
                obtain ⟨xb2, xo2, e1, hc1⟩ := (HJX.out.below hX0).at_ (by omega)
                obtain ⟨yb2, yo2, e2, hc2⟩ := (HJY.out.below hX0).at_ (by omega)
                cases e1
                cases e2
                have h1 := hc1 q hql
                have h2 := hc2 q hql
                rw [hxx] at h1
                rw [hyy] at h2
                exact ⟨v0, v1, h1, h2⟩)
              clear hcx hcy
              by_cases hxy : xx = yy
              · have hne : (xx != yy) = false := by rw [hxy]; simp
                have HN := Lib.hid (show ∀ i, i < q + 1 → xl.getD i 0 = yl.getD i 0 from fun i hi => by
                  by_cases e : i = q
                  · rw [e, hxx, hyy]; exact hxy
                  · exact HSM.out i (by omega))
                clear hxx hyy hxy
                go_wp2
                clear z0 z1
                have hSd : Below wr.heap.size wr wr.drew := (Below.refl _ wr).drew
                refine wp_region_held_drew (S := fun X => Below wr.heap.size wr X) (by kernel_rfl) hSd (fun hHeld => ?_)
                refine tk 0 (.slice (some ⟨b, off, none⟩) n c) hHeld (fun w => ?_) ?_
                · go_simp
                simp only [PT]
                refine tk 1 (.int .i64 j) hHeld (fun w => ?_) ?_
                · go_simp
                simp only [PT]
                refine tk 2 (.pointer (some ⟨b, off + j, none⟩)) hHeld (fun w => ?_) ?_
                · go_simp
                simp only [PT]
                refine tkS 3 (.slice (some ⟨xb, xo, none⟩) xn xc) hHeld (fun w hq => ?_) ?_
                · obtain ⟨z0, z1, z2, z3⟩ := HF2.out w hq
                  go_simp
                simp only [PT]
                refine tk 4 (.int .i64 q) hHeld (fun w => ?_) ?_
                · go_simp
                simp only [PT]
                refine tk 5 (.pointer (some ⟨xb, xo + q, none⟩)) hHeld (fun w => ?_) ?_
                · go_simp
                simp only [PT]
                refine tkS 6 (.int .i64 xx) hHeld (fun w hq => ?_) ?_
                · obtain ⟨z0, z1, z2, z3⟩ := HF2.out w hq
                  go_simp
                simp only [PT]
                refine tk 7 (.slice (some ⟨b', off', none⟩) n d) hHeld (fun w => ?_) ?_
                · go_simp
                simp only [PT]
                refine tk 8 (.int .i64 j) hHeld (fun w => ?_) ?_
                · go_simp
                simp only [PT]
                refine tk 9 (.pointer (some ⟨b', off' + j, none⟩)) hHeld (fun w => ?_) ?_
                · go_simp
                simp only [PT]
                refine tkS 10 (.slice (some ⟨yb, yo, none⟩) xn yc) hHeld (fun w hq => ?_) ?_
                · obtain ⟨z0, z1, z2, z3⟩ := HF2.out w hq
                  go_simp
                simp only [PT]
                refine tk 11 (.int .i64 q) hHeld (fun w => ?_) ?_
                · go_simp
                simp only [PT]
                refine tk 12 (.pointer (some ⟨yb, yo + q, none⟩)) hHeld (fun w => ?_) ?_
                · go_simp
                simp only [PT]
                refine tkS 13 (.int .i64 yy) hHeld (fun w hq => ?_) ?_
                · obtain ⟨z0, z1, z2, z3⟩ := HF2.out w hq
                  go_simp
                simp only [PT]
                refine tk 14 (.bool false) hHeld (fun w => ?_) ?_
                · (go_simp; try exact hne)
                simp only [PT]
                refine wpAnyH_done (by kernel_rfl) ?_ _
                clear hHeld
                go_wp2
                go_roundw
                case rel => exact ⟨q + 1, by omega, by go_num, HN.out, HBQ.out.trans (hSd.mono HBQ.out.size)⟩
                case measure => simp [intOf]; omega
              · have hne : (xx != yy) = true := by rw [bne_iff_ne]; exact hxy
                have HR := Lib.hid (show decide (ra.map Rw.l = rb.map Rw.l) = false from decide_eq_false (rows_differ (j := j) (by rw [HAL.out]; exact hlt) (by rw [HBL.out]; exact hlt) (by
                  rw [HX.out, HY.out]
                  intro e
                  simp only at e
                  exact hxy (by rw [← hxx, ← hyy, e]))))
                clear hxx hyy hxy
                go_wp2
                clear z0 z1
                have hSd : Below wr.heap.size wr wr.drew := (Below.refl _ wr).drew
                refine wp_region_held_drew (S := fun X => Below wr.heap.size wr X) (by kernel_rfl) hSd (fun hHeld => ?_)
                refine tk 0 (.slice (some ⟨b, off, none⟩) n c) hHeld (fun w => ?_) ?_
                · go_simp
                simp only [PT]
                refine tk 1 (.int .i64 j) hHeld (fun w => ?_) ?_
                · go_simp
                simp only [PT]
                refine tk 2 (.pointer (some ⟨b, off + j, none⟩)) hHeld (fun w => ?_) ?_
                · go_simp
                simp only [PT]
                refine tkS 3 (.slice (some ⟨xb, xo, none⟩) xn xc) hHeld (fun w hq => ?_) ?_
                · obtain ⟨z0, z1, z2, z3⟩ := HF2.out w hq
                  go_simp
                simp only [PT]
                refine tk 4 (.int .i64 q) hHeld (fun w => ?_) ?_
                · go_simp
                simp only [PT]
                refine tk 5 (.pointer (some ⟨xb, xo + q, none⟩)) hHeld (fun w => ?_) ?_
                · go_simp
                simp only [PT]
                refine tkS 6 (.int .i64 xx) hHeld (fun w hq => ?_) ?_
                · obtain ⟨z0, z1, z2, z3⟩ := HF2.out w hq
                  go_simp
                simp only [PT]
                refine tk 7 (.slice (some ⟨b', off', none⟩) n d) hHeld (fun w => ?_) ?_
                · go_simp
                simp only [PT]
                refine tk 8 (.int .i64 j) hHeld (fun w => ?_) ?_
                · go_simp
                simp only [PT]
                refine tk 9 (.pointer (some ⟨b', off' + j, none⟩)) hHeld (fun w => ?_) ?_
                · go_simp
                simp only [PT]
                refine tkS 10 (.slice (some ⟨yb, yo, none⟩) xn yc) hHeld (fun w hq => ?_) ?_
                · obtain ⟨z0, z1, z2, z3⟩ := HF2.out w hq
                  go_simp
                simp only [PT]
                refine tk 11 (.int .i64 q) hHeld (fun w => ?_) ?_
                · go_simp
                simp only [PT]
                refine tk 12 (.pointer (some ⟨yb, yo + q, none⟩)) hHeld (fun w => ?_) ?_
                · go_simp
                simp only [PT]
                refine tkS 13 (.int .i64 yy) hHeld (fun w hq => ?_) ?_
                · obtain ⟨z0, z1, z2, z3⟩ := HF2.out w hq
                  go_simp
                simp only [PT]
                refine tk 14 (.bool true) hHeld (fun w => ?_) ?_
                · (go_simp; try exact hne)
                simp only [PT]
                refine wpAnyH_done (by kernel_rfl) ?_ _
                clear hHeld
                go_wp2
                go_ret
                exact ⟨by rw [HR.out]; rfl, HBQ.out.trans (hSd.mono HBQ.out.size)⟩
            · obtain rfl : q = xn := by omega
              have hge : ¬ ((q : Int) < q) := by omega
              have HN := Lib.hid (rows_take (a := ra) (b := rb) (j := j) (by rw [HAL.out]; exact hlt) (by rw [HBL.out]; exact hlt) HTK.out (by
                rw [HX.out, HY.out]
                exact list_same hxl hyl HSM.out))
              go_wp2
              go_roundw
              case rel => exact ⟨j + 1, by omega, by go_num, HN.out, HBQ.out⟩
              case measure => simp [intOf]; omega
        · have hnn : ((x.n : Int) != (y.n : Int)) = true := by rw [bne_iff_ne]; omega
          have HR := Lib.hid (show decide (ra.map Rw.l = rb.map Rw.l) = false from decide_eq_false (rows_differ (j := j) (by rw [HAL.out]; exact hlt) (by rw [HBL.out]; exact hlt) (by
            rw [HX.out, HY.out]
            intro e
            exact hnn0 (by rw [← hxl, ← hyl, e]))))
          go_wp2
          have hSd : Below wr.heap.size wr wr.drew := (Below.refl _ wr).drew
          refine wp_region_held_drew (S := fun X => Below wr.heap.size wr X) (by kernel_rfl) hSd (fun hHeld => ?_)
          refine tk 0 (.slice (some ⟨b, off, none⟩) n c) hHeld (fun w => ?_) ?_
          · go_simp
          simp only [PT]
          refine tk 1 (.int .i64 j) hHeld (fun w => ?_) ?_
          · go_simp
          simp only [PT]
          refine tk 2 (.pointer (some ⟨b, off + j, none⟩)) hHeld (fun w => ?_) ?_
          · go_simp
          simp only [PT]
          refine tkS 3 (.slice x.A x.n x.c) hHeld (fun w hq => ?_) ?_
          · obtain ⟨z0, z1⟩ := HF.out w hq
            go_simp
          simp only [PT]
          refine tk 4 (.int .i64 (x.n : Int)) hHeld (fun w => ?_) ?_
          · go_simp
          simp only [PT]
          refine tk 5 (.slice (some ⟨b', off', none⟩) n d) hHeld (fun w => ?_) ?_
          · go_simp
          simp only [PT]
          refine tk 6 (.int .i64 j) hHeld (fun w => ?_) ?_
          · go_simp
          simp only [PT]
          refine tk 7 (.pointer (some ⟨b', off' + j, none⟩)) hHeld (fun w => ?_) ?_
          · go_simp
          simp only [PT]
          refine tkS 8 (.slice y.A y.n y.c) hHeld (fun w hq => ?_) ?_
          · obtain ⟨z0, z1⟩ := HF.out w hq
            go_simp
          simp only [PT]
          refine tk 9 (.int .i64 (y.n : Int)) hHeld (fun w => ?_) ?_
          · go_simp
          simp only [PT]
          refine tk 10 (.bool true) hHeld (fun w => ?_) ?_
          · (go_simp; try exact hnn)
          simp only [PT]
          refine wpAnyH_done (by kernel_rfl) ?_ _
          clear hHeld
          go_wp2
          go_ret
          exact ⟨by rw [HR.out]; rfl, HBW.out.trans (hSd.mono HBW.out.size)⟩
      · obtain rfl : j = n := by omega
        have hge : ¬ ((j : Int) < j) := by omega
        have HR := Lib.hid (show decide (ra.map Rw.l = rb.map Rw.l) = true from decide_eq_true (by
          have h := HTK.out
          rw [List.take_of_length_le (by rw [List.length_map, HAL.out]; exact Nat.le_refl _), List.take_of_length_le (by rw [List.length_map, HBL.out]; exact Nat.le_refl _)] at h
          exact h))
        go_wp2
        go_ret
        exact ⟨by rw [HR.out]; rfl, HBW.out⟩
  · have hne0 : ((n : Int) != (m : Int)) = true := by rw [bne_iff_ne]; omega
    have HR := Lib.hid (show decide (ra.map Rw.l = rb.map Rw.l) = false from decide_eq_false (fun e => hnm (by
      have h := congrArg List.length e
      rw [List.length_map, List.length_map, HAL.out, HBL.out] at h
      exact h)))
    clear ha hb hnm
    go_enter Try.func19, Try.ntmps19
    go_wp2
    go_ret
    exact ⟨by rw [HR.out]; rfl, Below.refl _ _⟩
end Go.Proofs.Ytgnhmdfajnnkhaa


/- The walk over the document's Clash of a plan and a row. -/
namespace Go.Proofs.Ytgnhmdfajnnkhaa
set_option maxRecDepth 100000
set_option linter.unusedVariables false
set_option linter.unusedSimpArgs false
open Go.RowKit

end Go.Proofs.Ytgnhmdfajnnkhaa


/- What package stage does: contracts that its own walks must bring; the chapter's example over them. -/
namespace Go.Proofs.Ytgnhmdfajnnkhaa
set_option maxRecDepth 100000
set_option linter.unusedVariables false
set_option linter.unusedSimpArgs false
open Go.RowKit

structure StgOk : Prop where
  new : ∀ (X : World), Calls Try.prog 26 #[] X (GivesG newG X)
  may : ∀ (A : Option Addr) (n c : Nat) (l : List Pl) (s : Sg) (X : World), Pls X A n c l → SmG s → n ≤ 1000 → (∀ p ∈ l, p.n ≤ 1000 ∧ p.k ≤ 1000) → Calls Try.prog 22 #[.slice A n c, sgV s] X fun e w' => e = .returned (.bool (mayS l s)) ∧ Below X.heap.size X w'
  tick : ∀ (A : Option Addr) (n c : Nat) (l : List Pl) (s : Sg) (X : World), Pls X A n c l → SmG s → n ≤ 1000 → (∀ p ∈ l, p.n ≤ 1000 ∧ p.k ≤ 1000) → Calls Try.prog 23 #[.slice A n c, sgV s] X (GivesG (tickS l s) X)
  lamps : ∀ (A : Option Addr) (n c : Nat) (l : List Pl) (s : Sg) (X : World), Pls X A n c l → SmG s → n ≤ 1000 → (∀ p ∈ l, p.n ≤ 1000 ∧ p.k ≤ 1000) → Calls Try.prog 20 #[.slice A n c, sgV s] X (GivesL (lampsS l s) X)
  run : ∀ (A : Option Addr) (n c : Nat) (l : List Pl) (s : Sg) (x : Int) (X : World), Pls X A n c l → SmG s → n ≤ 1000 → (∀ p ∈ l, p.n ≤ 1000 ∧ p.k ≤ 1000) → Calls Try.prog 24 #[.slice A n c, sgV s, .int .i64 x] X (GivesGL (runG l s x) (runL l s x) X)
/-- what it takes of package lamp -/
structure LmpText : Prop where
  text : ∀ (A : Option Addr) (n c : Nat) (l : List Int) (X : World), Its .i64 X A n c l → n ≤ 1000 → Calls Try.prog 27 #[.slice A n c] X fun e w' => e = .returned (.string (textR l)) ∧ Below X.heap.size X w'
theorem sg_text_gr : textR [2, 0] = ⟨#[103, 114]⟩ := by decide +kernel
theorem row_of {w : World} {A : Option Addr} {n c : Nat} {r : List Rw} {L : List (List Int)} (h : Lns w A n c r) (hL : r.map Rw.l = L) {j : Nat} {x : List Int} (hx : L[j]? = some x) : ∃ (b off : Nat) (q : Rw), A = some ⟨b, off, none⟩ ∧ q.l = x ∧ (∀ X, Below w.heap.size w X → Its .i64 X q.A q.n q.c x ∧ X.cell? ⟨b, off + j, none⟩ = some (.slice q.A q.n q.c)) := by
  have hj : j < n := by
    rw [← h.len, ← List.length_map (f := Rw.l), hL]
    exact (List.getElem?_eq_some_iff.1 hx).1
  obtain ⟨b, off, q, hA, hq, hm, hg, hi, hz⟩ := h.at_ j hj
  have hl : q.l = x := by
    have h1 : (r.map Rw.l)[j]? = some q.l := by rw [List.getElem?_map, hg]; rfl
    rw [hL, hx] at h1
    exact (Option.some.inj h1).symm
  refine ⟨b, off, q, hA, hl, fun X hX => ?_⟩
  obtain ⟨b2, off2, q2, hA2, hq2, -, -, hi2, hz2⟩ := (h.below hX).at_ j hj
  rw [hA] at hA2
  cases hA2
  obtain rfl := hq.symm.trans hq2
  exact ⟨by rw [← hl]; exact hi2, hz2⟩
end Go.Proofs.Ytgnhmdfajnnkhaa


/- '==' between two machines. -/
namespace Go.Proofs.Ytgnhmdfajnnkhaa
set_option maxRecDepth 100000
set_option linter.unusedVariables false
set_option linter.unusedSimpArgs false
open Go.RowKit

theorem sig_part_bool {P : Program} (t : TypeId) (cs : Array Value) (off : Nat) (v : Value) (h : P.underlying t = some .bool) (hv : cs[off]? = some v) (w : World) : (part t cs off).run P w = .ok v w := by
  simp [part, isAgg, run_underlying h, hv, go_sem]
set_option maxHeartbeats 4000000 in
theorem eq_sigs (f g : Sg) (w : World) : (Op.equalIn 10000 24 (sgV f) (sgV g)).run Try.prog w = .ok (decide (f = g)) w := by
  simp only [sgV]
  rw [run_equalIn_struct w 9999 24 _ _ (by kernel_rfl) (by kernel_rfl)]
  unfold Program.fieldsOf
  rw [Try.underlying24]
  have i3 := Try.underlying3
  have i4 := Try.underlying4
  dsimp only
  have hd : decide (f = g) = (f.pl == g.pl && (f.st == g.st && (f.nx == g.nx && (f.ph == g.ph && (f.t == g.t && (f.hd == g.hd && (f.hl == g.hl && (f.ak == g.ak && (f.wt == g.wt && (f.sp == g.sp)))))))))) := by
    rcases f with ⟨a0, a1, a2, a3, a4, a5, a6, a7, a8, a9⟩
    rcases g with ⟨b0, b1, b2, b3, b4, b5, b6, b7, b8, b9⟩
    rw [Bool.eq_iff_iff]
    simp
  rw [hd]
  rw [stg_fields (by decide) (stg_part _ _ _ _ (.int .i64 f.pl) i3 rfl w) (stg_part _ _ _ _ (.int .i64 g.pl) i3 rfl w) (run_equalIn_int w 9998 _ _ _ _ _ i3),
    stg_fields (by decide) (stg_part _ _ _ _ (.int .i64 f.st) i3 rfl w) (stg_part _ _ _ _ (.int .i64 g.st) i3 rfl w) (run_equalIn_int w 9998 _ _ _ _ _ i3),
    stg_fields (by decide) (stg_part _ _ _ _ (.int .i64 f.nx) i3 rfl w) (stg_part _ _ _ _ (.int .i64 g.nx) i3 rfl w) (run_equalIn_int w 9998 _ _ _ _ _ i3),
    stg_fields (by decide) (stg_part _ _ _ _ (.int .i64 f.ph) i3 rfl w) (stg_part _ _ _ _ (.int .i64 g.ph) i3 rfl w) (run_equalIn_int w 9998 _ _ _ _ _ i3),
    stg_fields (by decide) (stg_part _ _ _ _ (.int .i64 f.t) i3 rfl w) (stg_part _ _ _ _ (.int .i64 g.t) i3 rfl w) (run_equalIn_int w 9998 _ _ _ _ _ i3),
    stg_fields (by decide) (stg_part _ _ _ _ (.int .i64 f.hd) i3 rfl w) (stg_part _ _ _ _ (.int .i64 g.hd) i3 rfl w) (run_equalIn_int w 9998 _ _ _ _ _ i3),
    stg_fields (by decide) (stg_part _ _ _ _ (.int .i64 f.hl) i3 rfl w) (stg_part _ _ _ _ (.int .i64 g.hl) i3 rfl w) (run_equalIn_int w 9998 _ _ _ _ _ i3),
    stg_fields (by decide) (stg_part _ _ _ _ (.int .i64 f.ak) i3 rfl w) (stg_part _ _ _ _ (.int .i64 g.ak) i3 rfl w) (run_equalIn_int w 9998 _ _ _ _ _ i3),
    stg_fields (by decide) (stg_part _ _ _ _ (.int .i64 f.wt) i3 rfl w) (stg_part _ _ _ _ (.int .i64 g.wt) i3 rfl w) (run_equalIn_int w 9998 _ _ _ _ _ i3),
    stg_fields (by decide) (sig_part_bool _ _ _ (.bool f.sp) i4 rfl w) (sig_part_bool _ _ _ (.bool g.sp) i4 rfl w) (run_equalIn_bool w 9998 _ _ _ i4)]
  simp only [Op.eqFields, Sem.run_pure, stg_if, Bool.and_true]
theorem run_eq_sig {ρ : Operand → Value} {o : Oper} {x y : Operand} {f g : Sg} {w : World} (ho : o.op = .binOp .eql 24 x y 24) (hx : ρ x = sgV f) (hy : ρ y = sgV g) :
    (execOp ρ o).run Try.prog w = .ok (.value (.bool (decide (f = g)))) w := by
  unfold execOp
  rw [ho]
  have hm : Try.prog.eqGuardType Try.prog.depth 24 = false := by kernel_rfl
  have hE := eq_sigs f g w
  simp only [sgV] at hx hy hE
  simp only [hx, hy, Sem.run_bind, run_eqGuard_agg (hm := hm), run_eql_struct, hE, Result.andThen_ok, Sem.run_pure, Sem.run_map]
theorem wpList_eq_sig {ops : Array Oper} {rest : List Oper} {o : Oper} {a : Act} {w : World} {Q : Exit → Act → World → Prop} (x y : Operand) (ho : o.op = .binOp .eql 24 x y 24) (f g : Sg) (hx : a.eval x = sgV f) (hy : a.eval y = sgV g)
    (h : wpList Try.prog ops Q rest (a.put o.dst (.bool (decide (f = g)))) w) (hw : Region.wanted o (yielded ops a.tmps) = true) : wpList Try.prog ops Q (o :: rest) a w :=
  wpList_step fun K hK => by
    rw [if_pos hw]
    unfold Oper.wp
    rw [run_eq_sig ho hx hy]
    exact hK _ _ h
end Go.Proofs.Ytgnhmdfajnnkhaa


/- What package lamp does: contracts that its own walks must bring; the chapter's example over them. -/
namespace Go.Proofs.Ytgnhmdfajnnkhaa
set_option maxRecDepth 100000
set_option linter.unusedVariables false
set_option linter.unusedSimpArgs false
open Go.RowKit

end Go.Proofs.Ytgnhmdfajnnkhaa


/- Pure facts of lamps, for the laws. -/
namespace Go.Proofs.Ytgnhmdfajnnkhaa
set_option maxRecDepth 100000
set_option linter.unusedVariables false
set_option linter.unusedSimpArgs false
open Go.RowKit

end Go.Proofs.Ytgnhmdfajnnkhaa


/- Ticks, and more ticks. -/
namespace Go.Proofs.Ytgnhmdfajnnkhaa
set_option maxRecDepth 100000
set_option linter.unusedVariables false
set_option linter.unusedSimpArgs false
open Go.RowKit

theorem run_may {l : List Pl} {s : Sg} {n : Int} (h : mayS l s = true) (h0 : 0 ≤ n) (h2 : n ≤ 2000) : runG l s n = ticksS l s n.toNat ∧ runL l s n = rowsS l s n.toNat := by
  have hr : runOk l s n = true := by rw [runOk, h, decide_eq_true ⟨h0, h2⟩]; rfl
  exact ⟨if_pos hr, if_pos hr⟩
theorem tick_small {l : List Pl} {s : Sg} (h : SmG s) : SmG (tickS l s) := by
  by_cases hm : mayS l s = true
  · exact small_may (may_tick (mayS_iff.1 hm))
  · rw [tickS, if_neg hm]; exact h
/-- two lists of rows, one behind the other in a slice of one's own -/
theorem lns_both {w w' : World} {base : Nat} {v : Value} {A B : Option Addr} {n m c d : Nat} {r q : List Rw} (hr : Lns w A n c r) (hq : Lns w B m d q) (ho : OwnR 40 1 w' base v (r.map Rw.row ++ q.map Rw.row)) (hb : Below w.heap.size w w') : ∃ C k e, v = .slice C k e ∧ Lns w' C k e (r ++ q) := by
  obtain ⟨C, k, e, rfl, hrs⟩ := ho.rws
  refine ⟨C, k, e, rfl, by rw [List.map_append]; exact hrs, fun x hx => ?_⟩
  rcases List.mem_append.1 hx with h | h
  · exact (hr.its x h).below hb
  · exact (hq.its x h).below hb
end Go.Proofs.Ytgnhmdfajnnkhaa


/- What package role answers, plainly; the tables as cells; Is, May, Turns, Name, and the document's own answers to them. -/
namespace Go.Proofs.Ytgnhmdfajnnkhaa
set_option linter.unusedVariables false
set_option linter.unusedSimpArgs false
open Go.RowKit

def cmdB (c : Int) : Bool := decide (0 ≤ c) && decide (c < 8)
def turnsB (c : Int) : Bool := decide (1 ≤ c) && decide (c ≤ 6)
end Go.Proofs.Ytgnhmdfajnnkhaa


/- Turns, Name, and the document's own Is, May, Turns, Name; two lists of numbers held against one another. -/
namespace Go.Proofs.Ytgnhmdfajnnkhaa
set_option linter.unusedVariables false
set_option linter.unusedSimpArgs false
open Go.RowKit

theorem eight_of {c : Int} (h : cmdB c = true) : c = 0 ∨ c = 1 ∨ c = 2 ∨ c = 3 ∨ c = 4 ∨ c = 5 ∨ c = 6 ∨ c = 7 := by
  have h2 : 0 ≤ c ∧ c < 8 := by simpa [cmdB] using h
  omega
theorem no_cmd {c : Int} (h : cmdB c = false) : (c == 0) = false ∧ (c == 1) = false ∧ (c == 2) = false ∧ (c == 3) = false ∧ (c == 4) = false ∧ (c == 5) = false ∧ (c == 6) = false ∧ (c == 7) = false := by
  have h2 : ¬ (0 ≤ c ∧ c < 8) := by
    intro h3
    simp [cmdB, h3.1, h3.2] at h
  simp only [beq_eq_false_iff_ne, ne_eq]
  omega
theorem turns_any (c : Int) (w : World) : Calls Try.prog 21 #[.int .i64 c] w fun e w' => e = .returned (.bool (turnsB c)) ∧ w' = w := by
  cases hc : cmdB c
  · have hb : turnsB c = false := by
      have h2 : ¬ (0 ≤ c ∧ c < 8) := by
        intro h3
        simp [cmdB, h3.1, h3.2] at hc
      simp [turnsB]
      omega
    obtain ⟨n0, n1, n2, n3, n4, n5, n6, n7⟩ := no_cmd hc
    rw [hb]
    by_cases h0 : 1 ≤ c
    · have h6 : ¬ c ≤ 6 := by simpa [turnsB, h0] using hb
      clear hb hc
      go_enter Try.func21, Try.ntmps21
      go_wp2
      go_ret
      exact ⟨rfl, rfl⟩
    · clear hb hc
      go_enter Try.func21, Try.ntmps21
      go_wp2
      go_ret
      exact ⟨rfl, rfl⟩
  · rcases eight_of hc with rfl | rfl | rfl | rfl | rfl | rfl | rfl | rfl
    all_goals
      clear hc
      go_enter Try.func21, Try.ntmps21
      go_wp2
      go_ret
      exact ⟨rfl, rfl⟩
end Go.Proofs.Ytgnhmdfajnnkhaa


/- What is asked of a machine, plainly: one ask, several, and with ticks between. -/
namespace Go.Proofs.Ytgnhmdfajnnkhaa
set_option maxRecDepth 100000
set_option linter.unusedVariables false
set_option linter.unusedSimpArgs false
open Go.RowKit

structure Ak where
  cmd : Int
  arg : Int
deriving DecidableEq
def Ak.row (a : Ak) : List Value := [.int .i64 a.cmd, .int .i64 a.arg]
def Ak.zero : Ak := ⟨0, 0⟩
/-- a slice of asks -/
def Aks (w : World) (A : Option Addr) (n c : Nat) (l : List Ak) : Prop := Rws 2 w A n c (l.map Ak.row)
section
variable {w w' : World} {A : Option Addr} {n c : Nat} {l : List Ak}
theorem Aks.len (h : Aks w A n c l) : l.length = n := by rw [← Rws.len h, List.length_map]
theorem Aks.small (h : Aks w A n c l) : n ≤ 9223372036854775807 := Rws.small h
theorem Aks.below (h : Aks w A n c l) (hb : Below w.heap.size w w') : Aks w' A n c l := Rws.below h hb
theorem Aks.at_ (h : Aks w A n c l) (j : Nat) (hj : j < n) : ∃ b off x, A = some ⟨b, off, none⟩ ∧ l.getD j Ak.zero = x ∧ w.cell? ⟨b, off + j * 2, none⟩ = some (.int .i64 x.cmd) ∧ w.cell? ⟨b, off + j * 2 + 1, none⟩ = some (.int .i64 x.arg) := by
  obtain ⟨b, off, hA, hc⟩ := Rws.at_ h (by omega)
  have hl : j < l.length := by rw [h.len]; exact hj
  have hr : (l.map Ak.row).getD j [] = l[j].row := by simp [List.getD_eq_getElem?_getD, hl]
  refine ⟨b, off, l[j], hA, by simp [List.getD_eq_getElem?_getD, hl], ?_, ?_⟩
  · have := hc j hj 0 (by omega)
    rw [hr] at this
    exact this
  · have := hc j hj 1 (by omega)
    rw [hr] at this
    exact this
end
/-- what is asked without an argument -/
def bareS (s : Sg) (c a : Int) : Sg × Int :=
  if a ≠ 0 then (s, 1)
  else if c = 2 then (if s.hd = 0 then (s, 11) else ({ s with hd := 0 }, 0))
  else if c = 5 then ({ s with sp := true, hd := 0 }, 0)
  else if s.sp = false ∨ s.ph ≠ 2 then (s, 11) else ({ s with sp := false }, 0)
def freeG (s : Sg) : Prop := s.ph = 0 ∧ s.sp = false
instance (s : Sg) : Decidable (freeG s) := by unfold freeG; infer_instance
/-- one ask -/
def askS (l : List Pl) (s : Sg) (c a : Int) : Sg × Int :=
  if c = 1 then (if a < 1 then (s, 1) else if ¬ freeG s ∨ (planAt l s.pl).hd - s.hl < a then (s, 11) else ({ s with hd := a }, 0))
  else if c = 3 then (if a < 0 ∨ (planAt l s.pl).s.length ≤ a then (s, 1) else if ¬ freeG s ∨ s.wt ≠ -1 ∨ a = s.st then (s, 11) else ({ s with ak := a }, 0))
  else if c = 4 then (if a < 0 ∨ l.length ≤ a then (s, 1) else if s.sp = true ∨ a = s.pl then (s, 11) else ({ s with wt := a }, 0))
  else bareS s c a
def doS (l : List Pl) (s : Sg) (c a : Int) : Sg × Int := if mayS l s = true ∧ turnsB c = true then askS l s c a else (s, 1)
/-- one of what is played -/
def stepS (l : List Pl) (s : Sg) (a : Ak) : Sg := if a.cmd = -1 then tickS l s else (doS l s a.cmd a.arg).1
def allG (l : List Pl) (s : Sg) (q : List Ak) : Nat → Sg
  | 0 => s
  | k + 1 => (doS l (allG l s q k) (q.getD k Ak.zero).cmd (q.getD k Ak.zero).arg).1
def allE (l : List Pl) (s : Sg) (q : List Ak) : Nat → List Int
  | 0 => []
  | k + 1 => allE l s q k ++ [(doS l (allG l s q k) (q.getD k Ak.zero).cmd (q.getD k Ak.zero).arg).2]
def playG (l : List Pl) (s : Sg) (q : List Ak) : Nat → Sg
  | 0 => s
  | k + 1 => stepS l (playG l s q k) (q.getD k Ak.zero)
def playL (l : List Pl) (s : Sg) (q : List Ak) : Nat → List (List Int)
  | 0 => []
  | k + 1 => playL l s q k ++ (if (q.getD k Ak.zero).cmd = -1 then [lampsS l (playG l s q (k + 1))] else [])
/-- gives a machine and an error -/
def GivesGE (r : Sg × Int) (X : World) : Ending → World → Prop := fun e w' => e = .returned (.tuple #[sgV r.1, .int .i64 r.2]) ∧ Below X.heap.size X w'
/-- gives a machine and errors -/
def GivesGEs (s : Sg) (E : List Int) (X : World) : Ending → World → Prop := fun e w' => ∃ A n c, e = .returned (.tuple #[sgV s, .slice A n c]) ∧ Its .i64 w' A n c E ∧ Below X.heap.size X w'
theorem ask_t (l : List Pl) (s : Sg) (c a : Int) : (askS l s c a).1.t = s.t := by
  unfold askS bareS
  repeat' split
  all_goals rfl
theorem do_t (l : List Pl) (s : Sg) (c a : Int) : (doS l s c a).1.t = s.t := by
  unfold doS
  split
  · exact ask_t l s c a
  · rfl
theorem ask_hl (l : List Pl) (s : Sg) (c a : Int) : (askS l s c a).1.hl = s.hl := by
  unfold askS bareS
  repeat' split
  all_goals rfl
theorem do_hl (l : List Pl) (s : Sg) (c a : Int) : (doS l s c a).1.hl = s.hl := by
  unfold doS
  split
  · exact ask_hl l s c a
  · rfl
theorem do_small {l : List Pl} {s : Sg} {c a : Int} (h : SmG s) : SmG (doS l s c a).1 := by unfold SmG; rw [do_t, do_hl]; exact h
theorem step_small {l : List Pl} {s : Sg} {a : Ak} (h : SmG s) : SmG (stepS l s a) := by
  unfold stepS
  split
  · exact tick_small h
  · exact do_small h
theorem allG_small {l : List Pl} {s : Sg} {q : List Ak} (h : SmG s) : ∀ k, SmG (allG l s q k)
  | 0 => h
  | k + 1 => do_small (allG_small h k)
theorem playG_small {l : List Pl} {s : Sg} {q : List Ak} (h : SmG s) : ∀ k, SmG (playG l s q k)
  | 0 => h
  | k + 1 => step_small (playG_small h k)
theorem playL_len (l : List Pl) (s : Sg) (q : List Ak) : ∀ k, (playL l s q k).length ≤ k
  | 0 => Nat.le_refl _
  | k + 1 => by
    rw [playL, List.length_append]
    have := playL_len l s q k
    split
    · simp; omega
    · simp; omega
end Go.Proofs.Ytgnhmdfajnnkhaa


/- The walk over the document's bare. -/
namespace Go.Proofs.Ytgnhmdfajnnkhaa
set_option maxRecDepth 100000
set_option linter.unusedVariables false
set_option linter.unusedSimpArgs false
open Go.RowKit

end Go.Proofs.Ytgnhmdfajnnkhaa


/- The document's Do: a machine that may not be, or what does not turn. -/
namespace Go.Proofs.Ytgnhmdfajnnkhaa
set_option maxRecDepth 100000
set_option linter.unusedVariables false
set_option linter.unusedSimpArgs false
open Go.RowKit

end Go.Proofs.Ytgnhmdfajnnkhaa


/- The document's Do: hold, next. -/
namespace Go.Proofs.Ytgnhmdfajnnkhaa
set_option maxRecDepth 100000
set_option linter.unusedVariables false
set_option linter.unusedSimpArgs false
open Go.RowKit

end Go.Proofs.Ytgnhmdfajnnkhaa


/- The document's Do: plan, and what has no argument. -/
namespace Go.Proofs.Ytgnhmdfajnnkhaa
set_option maxRecDepth 100000
set_option linter.unusedVariables false
set_option linter.unusedSimpArgs false
open Go.RowKit

end Go.Proofs.Ytgnhmdfajnnkhaa


/- The walk over the document's Do. -/
namespace Go.Proofs.Ytgnhmdfajnnkhaa
set_option maxRecDepth 100000
set_option linter.unusedVariables false
set_option linter.unusedSimpArgs false
open Go.RowKit

end Go.Proofs.Ytgnhmdfajnnkhaa


/- The walk over the document's All. -/
namespace Go.Proofs.Ytgnhmdfajnnkhaa
set_option maxRecDepth 100000
set_option linter.unusedVariables false
set_option linter.unusedSimpArgs false
open Go.RowKit

end Go.Proofs.Ytgnhmdfajnnkhaa


/- The walk over the document's Play. -/
namespace Go.Proofs.Ytgnhmdfajnnkhaa
set_option maxRecDepth 100000
set_option linter.unusedVariables false
set_option linter.unusedSimpArgs false
open Go.RowKit

end Go.Proofs.Ytgnhmdfajnnkhaa

