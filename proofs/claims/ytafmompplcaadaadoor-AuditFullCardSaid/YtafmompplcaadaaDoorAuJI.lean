/- Joined texts: Loads and stores of whole rows inside a fence; a load out of the middle of a block. append onto a slice of rows of the call's own, inside a fence; what an iterator turns leaves such a slice. The walk over package chain's read: the entries of bytes, and what is wrong. The walk over package chain's Put: the records of entries, and their head. The walk over package chain's textOf: the text that stands at the end of records. -/
import Derived.Test.YtafmompplcaadaaDoorAuJA
import Derived.OwnWalkIn
import Derived.TacticsInMore
import Derived.Test.YtafmompplcaadaaDoorAuJH
import Derived.Test.YtafmompplcaadaaDoorAuJF
import Derived.Test.YtafmompplcaadaaDoorAuJG
/- Loads and stores of whole rows inside a fence; a load out of the middle of a block. -/
namespace Go.Proofs.YtafmompplcaadaaDoor
set_option linter.unusedVariables false
open Go.RowKit

section
variable {F : Fence} {n : Nat} {P : Program} {ops : Array Oper} {rest : List Oper} {o : Oper} {a : Act} {w : World} {K : Act → World → Prop} {Q : Exit → Act → World → Prop}
theorem wpIn_load_blk (ty : TypeId) (x : Operand) (ho : o.op = .load ty x) (g : Nat) (hx : a.eval x = .pointer (some ⟨g, 0, none⟩)) (t : TypeId) (cs : Array Value) (fr : Nat × Nat) (d : TypeDesc) (hg : w.heap[g]? = some (.cells cs t fr))
    (hu : P.underlying ty = some d) (hd : (match d with | .struct _ | .array _ _ => true | _ => false) = true) (hi : (P.info? ty).map (·.size) = some cs.size)
    (h : K (a.put o.dst (.agg cs)) w) : o.wpIn F n P a w K Q := by
  unfold Oper.wpIn
  refine ⟨?_, ?_⟩
  · simp [Oper.about, ho]
  · rw [Oper.semAt_plain F _ _ (by rw [ho]; intro c hc; cases hc)]
    unfold execOp
    simp only [ho, hx, Instr.loadAt, Instr.sureAddr, Sem.run_bind, Sem.run_pure, Result.andThen_ok, run_loadVar_row w g t ty cs fr d hg hu hd hi]
    exact h
theorem wpIn_store_blk (ty : TypeId) (x y : Operand) (ho : o.op = .store ty x y) (g : Nat) (cells : Array Value) (hx : a.eval x = .pointer (some ⟨g, 0, none⟩)) (hy : a.eval y = .agg cells)
    (t : TypeId) (old : Array Value) (hg : w.heap[g]? = some (.cells old t (0, 0))) (hi : (P.info? ty).map (·.size) = some cells.size) (hold : old.size = cells.size) (h1 : cells.all (·.oneCell') = true)
    (h : K (a.put o.dst undef) (w.setRow g cells)) : o.wpIn F n P a w K Q := by
  unfold Oper.wpIn
  refine ⟨?_, ?_⟩
  · simp [Oper.about, ho]
  · rw [Oper.semAt_plain F _ _ (by rw [ho]; intro c hc; cases hc)]
    unfold execOp
    simp only [ho, hx, hy, Instr.storeAt, Instr.sureAddr, Sem.run_bind, Sem.run_pure, Result.andThen_ok, run_storeVar_row w g t ty old cells hg hi hold h1]
    exact h
theorem wpListIn_load_blk (ty : TypeId) (x : Operand) (ho : o.op = .load ty x) (g : Nat) (hx : a.eval x = .pointer (some ⟨g, 0, none⟩)) (t : TypeId) (cs : Array Value) (fr : Nat × Nat) (d : TypeDesc) (hg : w.heap[g]? = some (.cells cs t fr))
    (hu : P.underlying ty = some d) (hd : (match d with | .struct _ | .array _ _ => true | _ => false) = true) (hi : (P.info? ty).map (·.size) = some cs.size)
    (h : wpListIn F n P ops Q rest (a.put o.dst (.agg cs)) w) (hw : Region.wanted o (yielded ops a.tmps) = true) : wpListIn F n P ops Q (o :: rest) a w :=
  wpListIn_step fun K hK => by rw [if_pos hw]; exact wpIn_load_blk ty x ho g hx t cs fr d hg hu hd hi (hK _ _ h)
theorem wpListIn_store_blk (hgd : o.guard = none) (ty : TypeId) (x y : Operand) (ho : o.op = .store ty x y)
    (g : Nat) (cells : Array Value) (hx : a.eval x = .pointer (some ⟨g, 0, none⟩)) (hy : a.eval y = .agg cells) (t : TypeId) (old : Array Value) (hg : w.heap[g]? = some (.cells old t (0, 0))) (hi : (P.info? ty).map (·.size) = some cells.size) (hold : old.size = cells.size) (h1 : cells.all (·.oneCell') = true)
    (h : ∀ w', w.grownBy w' (some g) → w'.heap[g]? = some (.cells cells t (0, 0)) → w'.heap.size = w.heap.size → wpListIn F n P ops Q rest (a.put o.dst undef) w') : wpListIn F n P ops Q (o :: rest) a w :=
  wpListIn_plain hgd fun K hK => wpIn_store_blk ty x y ho g cells hx hy t old hg hi hold h1 (hK _ _ (h _ (grown_setRow _ _ _) (setRow_heap _ _ _ _ _ _ hg) (by simp)))
/-- an operation that runs to a value, one step of a region that draws its order -/
theorem stepF_run (v : Value) (w' : World) (hw : Region.wanted o (yielded ops a.tmps) = true) (hd : ∀ c, o.op ≠ .defer c) (hab : o.about P w a.eval = none) (hrun : (execOp a.eval o).run P w = .ok (.value v) w') {E : Prop}
    (h : K (a.put o.dst v) w') : if Region.wanted o (yielded ops a.tmps) = true then Oper.wpIn F n P o a w K Q else E := by
  rw [if_pos hw]
  unfold Oper.wpIn
  refine ⟨fun f hf => by (rw [hab] at hf; cases hf), ?_⟩
  rw [Oper.semAt_plain F _ _ hd, hrun]
  exact h
theorem stepF_load (ty : TypeId) (x : Operand) (ho : o.op = .load ty x) (g : Nat) (hx : a.eval x = .pointer (some ⟨g, 0, none⟩)) (t : TypeId) (cs : Array Value) (fr : Nat × Nat) (d : TypeDesc) (hg : w.heap[g]? = some (.cells cs t fr))
    (hu : P.underlying ty = some d) (hd : (match d with | .struct _ | .array _ _ => true | _ => false) = true) (hi : (P.info? ty).map (·.size) = some cs.size) (hw : Region.wanted o (yielded ops a.tmps) = true) {E : Prop}
    (h : K (a.put o.dst (.agg cs)) w) : if Region.wanted o (yielded ops a.tmps) = true then Oper.wpIn F n P o a w K Q else E := by
  rw [if_pos hw]
  exact wpIn_load_blk ty x ho g hx t cs fr d hg hu hd hi h
end
end Go.Proofs.YtafmompplcaadaaDoor

/- append onto a slice of rows of the call's own, inside a fence; what an iterator turns leaves such a slice. -/
namespace Go.Proofs.YtafmompplcaadaaDoor
set_option linter.unusedVariables false
open Go.RowKit

theorem wpListIn_append_r {F : Fence} {n : Nat} {P : Program} {w : World} {ops : Array Oper} {rest : List Oper} {o : Oper} {a : Act} {Q : Exit → Act → World → Prop} (hgd : o.guard = none) (t e : TypeId) (k B : Nat) (s x : Operand)
    (ho : o.op = Op.call { callee := Callee.builtin Builtin.append, args := #[s, x], argTypes := #[t, t] }) (hu : P.underlying t = some (.slice e)) (hinfo : (P.info? e).map (fun i => (i.zero.map (·.cells.size), i.size, i.bytes)) = some (some k, k, B)) (hk : 0 < k)
    (base : Nat) (v : Value) (rows : List (List Value)) (hs : a.eval s = v) (hown : OwnR e k w base v rows) (b off m c : Nat) (news : List (List Value)) (hx : a.eval x = .slice (some ⟨b, off, none⟩) m c) (hr : Rws k w (some ⟨b, off, none⟩) m c news)
    (hsmall : (rows.length + m) * B ≤ 140737488355328) (hm63 : rows.length + m ≤ 140737488355328) (hbase : base ≤ w.heap.size)
    (h : ∀ v' w', OwnR e k w' base v' (rows ++ news) → w.grownBy w' v.ownBlock → wpListIn F n P ops Q rest (a.put o.dst v') w') : wpListIn F n P ops Q (o :: rest) a w := by
  cases hi : P.info? e with
  | none => simp [hi] at hinfo
  | some i =>
    simp only [hi, Option.map_some, Option.some.injEq, Prod.mk.injEq] at hinfo
    obtain ⟨hz, h1, h2⟩ := hinfo
    cases hzz : i.zero with
    | none => simp [hzz] at hz
    | some z =>
      simp only [hzz, Option.map_some, Option.some.injEq] at hz
      refine wpListIn_append_own (P := P) w hgd s x t ho base e i z k B hu hi hzz h1 h2 hz hk v rows.length rows.flatten hs hown.row ⟨b, off, none⟩ m c news.flatten hx (by rw [flat_len hr.wid, hr.len]) (hr.news hk) (flat_one hr.one) (by unfold maxLen; omega) hsmall hbase ?_
      intro v' w' hown' hg _
      refine h v' w' ⟨?_, mem_app hown.wid hr.wid, mem_app hown.one hr.one⟩ hg
      rw [List.flatten_append, List.length_append, hr.len]
      exact hown'
theorem ownR_turn {e : TypeId} {k base : Nat} {X Y : World} {row : Option Nat} {v : Value} {rows : List (List Value)} (h : OwnR e k X base v rows) (hg : X.grownBy Y row) (hr : ∀ r, row = some r → ∃ o : Obj, X.heap[r]? = some o ∧ o.isCells = false) : OwnR e k Y base v rows := by
  refine h.far hg ?_
  rcases h.row.2 with ⟨hv, _⟩ | ⟨g, cap, cur, hv, _, hh, _⟩
  · left; rw [hv]; rfl
  · right
    rw [hv]
    intro e
    obtain ⟨o, ho, hc⟩ := hr g e.symm
    rw [hh] at ho
    cases ho
    cases hc
theorem boxed_turn {X Y : World} {row : Option Nat} {g : Nat} {t : TypeId} {v : Value} (h : Boxed X g t v) (hg : X.grownBy Y row) (hr : ∀ r, row = some r → ∃ o : Obj, X.heap[r]? = some o ∧ o.isCells = false) : Boxed Y g t v := by
  refine h.kept hg (fun e => ?_)
  obtain ⟨o, ho, hc⟩ := hr _ e.symm
  rw [show X.heap[g]? = _ from h] at ho
  cases ho
  cases hc
theorem ownR_set {e : TypeId} {k base b : Nat} {w : World} {u x : Value} {rows : List (List Value)} (h : OwnR e k w base u rows) (hb : b < base) : OwnR e k (w.setCell ⟨b, 0, none⟩ x) base u rows := by
  refine h.far (grownBy_setCell' w b x) ?_
  cases hu : u.ownBlock with
  | none => exact .inl rfl
  | some g => exact .inr fun e => by injection e with e; have := (h.size g hu).1; omega
theorem ownR_mono {e : TypeId} {k b base : Nat} {w : World} {v : Value} {rows : List (List Value)} (h : OwnR e k w base v rows) (hb : b ≤ base) : OwnR e k w b v rows := by
  refine ⟨⟨h.row.1, ?_⟩, h.wid, h.one⟩
  rcases h.row.2 with h0 | ⟨g, cap, cur, hv, hg, rest⟩
  · exact .inl h0
  · exact .inr ⟨g, cap, cur, hv, by omega, rest⟩
theorem ownR_keeps {e : TypeId} {k base : Nat} {w w' : World} {v : Value} {rows : List (List Value)} (h : OwnR e k w base v rows) (hg : w.grownBy w' v.ownBlock) : KeepsOthers w w' := by
  refine ⟨hg.size, fun i o hi ho => (hg.block i (Array.getElem?_eq_some_iff.1 hi).1 ?_).trans hi⟩
  rcases h.row.2 with ⟨hv, _⟩ | ⟨g, cap, cur, hv, _, hh, _⟩
  · rw [hv]; simp [Value.ownBlock]
  · rw [hv]
    intro e
    injection e with e
    subst e
    rw [hh] at hi
    cases hi
    cases ho
end Go.Proofs.YtafmompplcaadaaDoor

/- The walk over package chain's read: the entries of bytes, and what is wrong. -/
namespace Go.Proofs.YtafmompplcaadaaDoor
set_option maxRecDepth 100000
set_option linter.unusedVariables false
set_option linter.unusedSimpArgs false
open Go.RowKit Go.Shelf
attribute [local go_sem] Oper.semAt_some

/-- gives entries, and a number -/
def GEr (L : List En) (x : Int) (w : World) (e : Ending) (w' : World) : Prop := ∃ A n c, e = .returned (.tuple #[.slice A n c, .int .i64 x]) ∧ Ens w' A n c L ∧ OwnR 33 9 w' w.heap.size (.slice A n c) (L.map En.row) ∧ Below w.heap.size w w'
theorem records_any (A : Option Addr) (n c : Nat) (w : World) :
    Calls Tryd.prog 44 #[.slice A n c] w fun e w' => e = .returned (.func (.func 53) #[] #[.pointer (some ⟨w.heap.size, 0, none⟩)]) ∧ w.alloc (.cells #[.slice A n c] 22) = w' := by
  go_enter Tryd.func44, Tryd.ntmps44
  go_wp2
  go_ret
  exact ⟨rfl, rfl⟩
theorem cells_own_c {b l : Nat} {X : World} {cs : Array Value} {t : TypeId} {o : Obj} (hb : X.heap[b]? = some (.cells cs t (0, 0))) (hl : X.heap[l]? = some o) (hc : o.isCells = false) : b ≠ l := by
  rintro rfl
  rw [hb] at hl
  cases hl
  cases hc
/-- between two rounds -/
def RdInv (w : World) (rA rB B : Nat) (R : List En) (k : Nat) (X : World) : Prop :=
  k ≤ R.length ∧ (∃ v, Boxed X rB 25 v ∧ OwnR 33 9 X B v ((R.take k).map En.row)) ∧ Boxed X w.heap.size 25 (.slice none 0 0) ∧ Boxed X rA 31 (.int .i64 0) ∧ Below w.heap.size w X
/-- at the end -/
def RdEnd (w : World) (rA B : Nat) (R : List En) (x : Int) (X : World) : Prop :=
  ∃ v, Boxed X w.heap.size 25 v ∧ OwnR 33 9 X B v (R.map En.row) ∧ Boxed X rA 31 (.int .i64 x) ∧ Below w.heap.size w X
theorem rdInv_turn {w X Y : World} {rA rB B : Nat} {R : List En} {k : Nat} {row : Option Nat} (h : RdInv w rA rB B R k X) (hg : X.grownBy Y row) (hr : ∀ r, row = some r → w.heap.size ≤ r ∧ ∃ o : Obj, X.heap[r]? = some o ∧ o.isCells = false) : RdInv w rA rB B R k Y := by
  obtain ⟨h1, ⟨v, h2, h3⟩, h4, h5, h6⟩ := h
  have hr2 := fun r e => (hr r e).2
  exact ⟨h1, ⟨v, boxed_turn h2 hg hr2, ownR_turn h3 hg hr2⟩, boxed_turn h4 hg hr2, boxed_turn h5 hg hr2, h6.grown hg h6.size (fun r e => (hr r e).1)⟩
theorem rdEnd_turn {w X Y : World} {rA B : Nat} {R : List En} {x : Int} {row : Option Nat} (h : RdEnd w rA B R x X) (hg : X.grownBy Y row) (hr : ∀ r, row = some r → w.heap.size ≤ r ∧ ∃ o : Obj, X.heap[r]? = some o ∧ o.isCells = false) : RdEnd w rA B R x Y := by
  obtain ⟨v, h2, h3, h5, h6⟩ := h
  have hr2 := fun r e => (hr r e).2
  exact ⟨v, boxed_turn h2 hg hr2, ownR_turn h3 hg hr2, boxed_turn h5 hg hr2, h6.grown hg h6.size (fun r e => (hr r e).1)⟩
theorem rdEnd_put {w X : World} {rA B : Nat} {R : List En} {v v0 v1 : Value} (x : Int) (h0 : Boxed X w.heap.size 25 v0) (h1 : Boxed X rA 31 v1) (ho : OwnR 33 9 X B v (R.map En.row)) (hB : Below w.heap.size w X) (hlt : w.heap.size < rA) (hlt2 : rA < B) :
    RdEnd w rA B R x ((X.setCell ⟨w.heap.size, 0, none⟩ v).setCell ⟨rA, 0, none⟩ (.int .i64 x)) := by
  have k0 : Boxed ((X.setCell ⟨w.heap.size, 0, none⟩ v).setCell ⟨rA, 0, none⟩ (.int .i64 x)) w.heap.size 25 v := (h0.set v).kept (grownBy_setCell' _ rA _) (fun e => by injection e with e; omega)
  have k1 : Boxed (X.setCell ⟨w.heap.size, 0, none⟩ v) rA 31 v1 := h1.kept (grownBy_setCell' X w.heap.size v) (fun e => by injection e with e; omega)
  exact ⟨v, k0, ownR_set (ownR_set ho (by omega)) hlt2, k1.set _, (hB.setCell (p := ⟨w.heap.size, 0, none⟩) (Nat.le_refl _) v).setCell (p := ⟨rA, 0, none⟩) (Nat.le_of_lt hlt) _⟩
theorem two_cells_keep (X : World) (a b : Addr) (u v : Value) : KeepsOthers X ((X.setCell a u).setCell b v) := (KeepsOthers.setCell X a u).trans (KeepsOthers.setCell _ b v)
set_option maxRecDepth 100000 in
set_option maxHeartbeats 8000000 in
theorem cread0_any (A : Option Addr) (n c : Nat) (b : List Int) (w : World) (hK : KTab w) (hb : Bts w A n c b) :
    Calls Tryd.prog 30 #[.slice A n c] w (GEr (readC b) (errC b) w) := by
  have hn := hb.small
  have hbl := hb.len
  have hbm := bytes_mem hb.ok
  have HRL := Lib.hid (readC_le b)
  have HAH := Lib.hid (fun (k : Nat) => @head_ahead b hbm k)
  have HON := Lib.hid (fun (k : Nat) (h : List Int) => @read_on b k h)
  have HFO := Lib.hid (fun (k : Nat) (h : List Int) => @err_form b k h)
  have HTG := Lib.hid (fun (k : Nat) (h : List Int) => @err_tag b k h)
  have HEN := Lib.hid (fun (k : Nat) => @err_end b k)
  obtain ⟨R, hR⟩ : ∃ R, readC b = R := ⟨_, rfl⟩
  obtain ⟨E, hE⟩ : ∃ E, errC b = E := ⟨_, rfl⟩
  rw [hR] at HRL HAH HON HFO HTG HEN ⊢
  rw [hE] at HFO HTG HEN ⊢
  refine (callsIn_wide (n := 9)).1 ?_
  refine callsIn_of_wp_marks Tryd.func30 rfl trivial ?_ rfl
  simp only [Tryd.ntmps30, List.size_toArray, List.length_cons, List.length_nil, Nat.reduceAdd, Nat.reduceSub, Array.replicate_succ, Array.replicate_zero, List.push_toArray, List.append_toArray, List.nil_append, List.cons_append]
  gi_wp2_with (refine ⟨trivial, ?_⟩; gi_at_call 44; refine (callsIn_wide.2 (records_any _ _ _ _)).mono ?_; rintro e w1 ⟨rfl, rfl⟩)
  clear hR hE
  have HD := Lib.hid hb
  have HK := Lib.hid hK
  have HBM := Lib.hid hbm
  have o1 := Boxed.new w 25 (.slice none 0 0)
  obtain ⟨V1, hV1⟩ : ∃ V1, w.alloc (.cells #[.slice none 0 0] 25) = V1 := ⟨_, rfl⟩
  have s1 : V1.heap.size = w.heap.size + 1 := by rw [← hV1]; simp
  rw [hV1] at o1 ⊢
  have o2 := Boxed.new V1 31 (.int .i64 0)
  obtain ⟨V2, hV2⟩ : ∃ V2, V1.alloc (.cells #[.int .i64 0] 31) = V2 := ⟨_, rfl⟩
  have s2 : V2.heap.size = w.heap.size + 1 + 1 := by rw [← hV2]; simp [s1]
  rw [s1] at o2
  have o1 := o1.alloc (.cells #[.int .i64 0] 31)
  rw [hV2] at o1 o2 ⊢
  have o3 := Boxed.new V2 25 (.slice none 0 0)
  obtain ⟨V3, hV3⟩ : ∃ V3, V2.alloc (.cells #[.slice none 0 0] 25) = V3 := ⟨_, rfl⟩
  have s3 : V3.heap.size = w.heap.size + 1 + 1 + 1 := by rw [← hV3]; simp [s2]
  rw [s2] at o3
  have o1 := o1.alloc (.cells #[.slice none 0 0] 25)
  have o2 := o2.alloc (.cells #[.slice none 0 0] 25)
  rw [hV3] at o1 o2 o3 ⊢
  have o4 := Boxed.new V3 22 (.slice A n c)
  obtain ⟨W0, hW0⟩ : ∃ W0, V3.alloc (.cells #[.slice A n c] 22) = W0 := ⟨_, rfl⟩
  have s4 : W0.heap.size = w.heap.size + 4 := by rw [← hW0]; simp [s3]
  rw [s3] at o4
  have o1 := o1.alloc (.cells #[.slice A n c] 22)
  have o2 := o2.alloc (.cells #[.slice A n c] 22)
  have o3 := o3.alloc (.cells #[.slice A n c] 22)
  have hB0 : Below w.heap.size w W0 := by
    rw [← hW0, ← hV3, ← hV2, ← hV1]
    exact (((one_alloc w _).alloc (by simp) _).alloc (by simp; omega) _).alloc (by simp; omega) _
  rw [hW0] at o1 o2 o3 o4 ⊢
  clear hV1 hV2 hV3 hW0 s1 s2 s3 hbm
  have hks := recs_hands A n c b (w.heap.size + 1 + 1 + 1) w W0 hK hb hB0 o4
  obtain ⟨rB, hrB⟩ : ∃ r, w.heap.size + 1 + 1 = r := ⟨_, rfl⟩
  obtain ⟨rA, hrA⟩ : ∃ r, w.heap.size + 1 = r := ⟨_, rfl⟩
  obtain ⟨bx, hbx⟩ : ∃ r, w.heap.size + 1 + 1 + 1 = r := ⟨_, rfl⟩
  rw [hbx] at hks ⊢
  rw [hrB] at o3 ⊢
  rw [hrA] at o2 ⊢
  have HrA := Lib.hid hrA
  have HrB := Lib.hid hrB
  have HBX := Lib.hid hbx
  clear hrA hrB hb hK o4 hbx
  refine range_c (w0 := W0) (gf := 53) (lb := #[.pointer (some ⟨bx, 0, none⟩)]) rfl (enters_of Tryd.func53 (by kernel_rfl) rfl) hks (Below.refl _ _) (fun _ => rfl) (fun h k => h.trans k)
    (fun X o o' hx hc hw => KeepB.put o' hx (by omega) (fun b hb => by have := HBX.out; simp only [List.mem_cons, List.not_mem_nil, or_false] at hb; omega))
    (fun k X => RdInv w rA rB W0.heap.size R k X) ?hI (RdEnd w rA W0.heap.size R E) ?hIx ⟨Nat.zero_le _, ⟨_, o3, by rw [List.take_zero]; exact OwnR.nil _ _ _ _⟩, o1, o2, hB0⟩
    (fun k a' X => ∃ h, X.heap[h]? = some (.cells (idv (headB (b.take (62 * k)))) 27 (0, 0)) ∧ a' = { tmps := #[.slice A n c, undef, .pointer (some ⟨w.heap.size, 0, none⟩), .pointer (some ⟨rA, 0, none⟩), .pointer (some ⟨rB, 0, none⟩), .pointer (some ⟨h, 0, none⟩), .slice (A.map fun a => ⟨a.block, a.off + 62 * k, none⟩) 62 (c - 62 * k), undef, undef, undef, undef, .slice A n c, .func (.func 53) #[] #[.pointer (some ⟨bx, 0, none⟩)], .agg (idv (headB (b.take (62 * k)))), .slice (A.map fun a => ⟨a.block, a.off + 62 * k, none⟩) 62 (c - 62 * k), undef, undef, undef, undef, undef, undef, undef, undef, undef, undef, undef, undef, undef, undef, undef, undef, undef, undef, undef, undef, undef, undef, undef, undef, undef, undef, undef, undef, undef, undef, undef, undef], defers := [] }) ?hAx ?assign ?body ?done ?stop
  case hI =>
    intro k X Y row p hg hr
    exact rdInv_turn p hg (fun r e => ⟨by have := (hr r e).1; omega, (hr r e).2⟩)
  case hIx =>
    intro u X Y row p hg hr
    exact rdEnd_turn p hg (fun r e => ⟨by have := (hr r e).1; omega, (hr r e).2⟩)
  case hAx =>
    rintro k a' u X Y row ⟨h, hh, rfl⟩ hg hr
    refine ⟨h, (hg.block h (Array.getElem?_eq_some_iff.1 hh).1 (fun e => ?_)).trans hh, rfl⟩
    obtain ⟨_, o, ho, hc⟩ := hr _ e.symm
    exact cells_own_c hh ho hc rfl
  case assign =>
    intro x k X K hk hsx p hK
    have hlen : (headB (b.take (62 * k))).length = 32 := headB_len (by rw [List.length_take]; unfold recN at hk; omega)
    obtain ⟨H, hH⟩ : ∃ H, headB (b.take (62 * k)) = H := ⟨_, rfl⟩
    rw [hH] at hlen hK
    unfold recV
    rw [hH]
    have HHL := Lib.hid hlen
    have HKK := Lib.hid hK
    have HP := Lib.hid p
    clear hlen hK p hH
    gi_wp2_with ((with_reducible refine wpListIn_store_blk rfl 27 _ _ rfl X.heap.size (idv H) ?hx2 ?hy2 27 _ (heap_alloc_new X _) (info32 HHL.out) ?hs2 (idv_one _) ?_); (case hx2 => rfl); (case hy2 => rfl); (case hs2 => rw [idv_size, HHL.out]; rfl)
                 intro X2 hg2 hX2 hs2)
    have hb2 : Below X.heap.size X X2 := Below.grows (one_alloc X _) hg2 (size_le_alloc _ _) (Nat.le_refl _)
    exact HKK.out _ _ (keepsFrom_below hb2) (keepB_below hb2 (by omega)) (rdInv_turn HP.out (below_kept hb2) (fun r e => by cases e)) ⟨X.heap.size, hX2, rfl⟩
  case body =>
    rintro x k a' X hk hsx ⟨hkR, ⟨v, p2, p3⟩, p0, p1, pB⟩ ⟨h, hh, rfl⟩
    have hkn : 62 * k + 62 ≤ n ∧ k < 264 := by unfold recN at hk; omega
    obtain ⟨bb, oo, hA, hbt, -⟩ := cut_any (HD.out.below pB) (62 * k) 62 (by omega) (by omega)
    subst hA
    obtain ⟨hc1, hbt1⟩ := run_to hbt 30 (hi := 30) rfl (by omega)
    have e30 : ((b.drop (62 * k)).take 62).take 30 = (b.drop (62 * k)).take 30 := by rw [List.take_take]; rfl
    rw [e30] at hbt1
    have hah := HAH.out k hkR
    have hho := head_of (b := b) (k := k) (by omega)
    obtain ⟨H, hH⟩ : ∃ H, headC (R.take k) = H := ⟨_, rfl⟩
    have hHL : H.length = 32 := by rw [← hH]; exact headC_len _
    have hHB : ∀ j, 0 ≤ H.getD j 0 ∧ H.getD j 0 < 256 := by rw [← hH]; exact headC_byte _
    rw [hah, hH] at hh ⊢
    have hon := HON.out k H hkR hkn.2 (by omega) hH
    have hfo := HFO.out k H hkR hkn.2 (by omega) hH
    have htg := HTG.out k H hkR hkn.2 (by omega) hH
    have hgo := gete_ok (b := (b.drop (62 * k)).take 30) (fun x hx => HBM.out x (List.mem_of_mem_drop (List.mem_of_mem_take hx)))
    obtain ⟨q1, hq1⟩ : ∃ p, (b.drop (62 * k)).take 30 = p := ⟨_, rfl⟩
    obtain ⟨q2, hq2⟩ : ∃ p, (b.drop (62 * k + 30)).take 32 = p := ⟨_, rfl⟩
    obtain ⟨rc, hrc⟩ : ∃ p, (b.drop (62 * k)).take 62 = p := ⟨_, rfl⟩
    rw [hq1] at hbt1 hon hfo htg hgo
    rw [hq2] at hho hon htg
    rw [hrc] at hbt hho
    have HGE := Lib.hid ((callsIn_wide (n := 9 - 1 - 1 - 1).2 (eget_any _ 30 _ q1 X hbt1)).inRound x)
    obtain ⟨G, hG⟩ : ∃ G, getE q1 = G := ⟨_, rfl⟩
    obtain ⟨g, hg⟩ : ∃ g, gotB q1 = g := ⟨_, rfl⟩
    unfold GE at HGE
    rw [hG, hg] at hon HGE htg
    rw [hg] at hfo
    rw [hG] at hgo
    obtain ⟨Y, hY⟩ : ∃ Y, linkP H G = Y := ⟨_, rfl⟩
    have HYL := Lib.hid (show Y.length = 32 by rw [← hY]; exact linkP_len _ _)
    have HLK := Lib.hid (fun (W : World) (hk' : KTab W) => (callsIn_wide (n := 9 - 1 - 1 - 1).2 (clink_any H G W hk' hHL hHB hgo)).inRound x)
    rw [hY] at hon htg HLK
    have HHD := Lib.hid (fun (W : World) (hk' : KTab W) (hb' : Below X.heap.size X W) => (callsIn_wide (n := 9 - 1 - 1 - 1).2 (cheadof_any _ 62 _ rc W hk' (hbt.below hb') (by omega))).inRound x)
    rw [hho] at HHD
    have HQ2 := Lib.hid (show q2.length = 32 by rw [← hq2, List.length_take, List.length_drop]; omega)
    obtain ⟨M, hM⟩ : ∃ M, mayE G = M := ⟨_, rfl⟩
    rw [hM] at HLK
    have HON2 := Lib.hid hon
    have HFO2 := Lib.hid hfo
    have HTG2 := Lib.hid htg
    obtain ⟨A5, n5, c5, rfl, hen5⟩ := own_ens p3
    have h264 : n5 ≤ 264 := by have := hen5.len; rw [List.length_take] at this; omega
    have HKX := Lib.hid (HK.out.from pB)
    have hlA : w.heap.size < rA := by have := HrA.out; omega
    have hlB : rA < W0.heap.size := by have := HrA.out; omega
    have hwX : W0.heap.size ≤ X.heap.size := by omega
    have hrB : rB < W0.heap.size := by have := HrB.out; omega
    have hrBA : rA < rB := by have := HrA.out; have := HrB.out; omega
    have HP := Lib.hid (⟨p0, p1, p2, p3, pB⟩ : Boxed X w.heap.size 25 (.slice none 0 0) ∧ Boxed X rA 31 (.int .i64 0) ∧ Boxed X rB 25 (.slice A5 n5 c5) ∧ OwnR 33 9 X W0.heap.size (.slice A5 n5 c5) ((R.take k).map En.row) ∧ Below w.heap.size w X)
    have HNF := Lib.hid hen5.len
    have HHL := Lib.hid hHL
    have HKR := Lib.hid hkR
    have HSX := Lib.hid hwX
    unfold enV at HGE HLK
    dsimp only [Option.map_some]
    clear hah hho hH hHL hHB hon hfo htg hgo hq1 hq2 hrc hG hg hY hM hbt hbt1 e30 hen5 p0 p1 p2 p3 pB hkR hkn
    have hmx : Tryd.prog.follows .mixedOrders = true := by kernel_rfl
    cases g with
    | false =>
      have HFO3 := Lib.hid (HFO2.out (by trivial))
      gi_wp2_with (first
        | (refine ⟨trivial, ?_⟩; gi_at_call 45; (with_reducible refine HGE.out.mono ?_); rintro e w3 ⟨rfl, hb3⟩
           have HB3 := Lib.hid hb3
           have hh3 := (hb3.block _ (Array.getElem?_eq_some_iff.1 hh).1).trans hh
           clear hb3 hh)
        | ((with_reducible refine wpListIn_store_blk rfl 33 _ _ rfl w3.heap.size (enA G) ?hx4 ?hy4 33 _ (heap_alloc_new w3 _) (info_en (enA_size _)) ?hs4 (enA_one _) ?_); (case hx4 => rfl); (case hy4 => rfl); (case hs4 => rfl)
           intro w4 hg4 hE4 hs4
           have hb4 : Below w3.heap.size w3 w4 := Below.grows (one_alloc w3 _) hg4 (size_le_alloc _ _) (Nat.le_refl _)
           have hh4 := (hb4.block _ (Array.getElem?_eq_some_iff.1 hh3).1).trans hh3
           have HB4 := Lib.hid (HB3.out.trans (hb4.mono HB3.out.size))
           have HS3 := Lib.hid HB3.out.size
           have p0 := boxed_below HP.out.1 HB4.out
           have p1 := boxed_below HP.out.2.1 HB4.out
           have p2 := boxed_below HP.out.2.2.1 HB4.out
           have p3 : OwnR 33 9 w4 W0.heap.size (.slice A5 n5 c5) (R.map En.row) := by
             have h1 := HP.out.2.2.2.1.below HB4.out
             rw [HFO3.out.1, List.take_length] at h1
             exact h1
           have pB := HP.out.2.2.2.2.trans (HB4.out.mono HP.out.2.2.2.2.size)
           have K0 := Lib.hid (rdEnd_put (w := w) 3 p0 p1 p3 pB hlA hlB)
           have y2 := p2.cell
           have y0 := p0.cell
           have f0 := p0.frozen
           have y1' : ∀ u, (w4.setCell ⟨w.heap.size, 0, none⟩ u).cell? ⟨rA, 0, none⟩ = some (.int .i64 0) := fun u => (p1.kept (grownBy_setCell' w4 w.heap.size u) (fun e => by injection e with e; omega)).cell
           have f1' : ∀ u, (w4.setCell ⟨w.heap.size, 0, none⟩ u).frozen? ⟨rA, 0, none⟩ = false := fun u => (p1.kept (grownBy_setCell' w4 w.heap.size u) (fun e => by injection e with e; omega)).frozen
           clear p0 p1 p2 p3 pB
           clear hb4 hg4 hs4 hh3))
      exact ⟨(keepsFrom_below HB4.out).trans ((two_cells_keep _ _ _ _ _).from _), by rw [HFO3.out.2]; exact K0.out⟩
    | true =>
      gi_wp2_with (first
        | (refine ⟨trivial, ?_⟩; gi_at_call 45; (with_reducible refine HGE.out.mono ?_); rintro e w3 ⟨rfl, hb3⟩
           have HB3 := Lib.hid hb3
           have hh3 := (hb3.block _ (Array.getElem?_eq_some_iff.1 hh).1).trans hh
           clear hb3 hh)
        | ((with_reducible refine wpListIn_store_blk rfl 33 _ _ rfl w3.heap.size (enA G) ?hx4 ?hy4 33 _ (heap_alloc_new w3 _) (info_en (enA_size _)) ?hs4 (enA_one _) ?_); (case hx4 => rfl); (case hy4 => rfl); (case hs4 => rfl)
           intro w4 hg4 hE4 hs4
           have hb4 : Below w3.heap.size w3 w4 := Below.grows (one_alloc w3 _) hg4 (size_le_alloc _ _) (Nat.le_refl _)
           have hh4 := (hb4.block _ (Array.getElem?_eq_some_iff.1 hh3).1).trans hh3
           have HB4 := Lib.hid (HB3.out.trans (hb4.mono HB3.out.size))
           have HS3 := Lib.hid HB3.out.size
           clear hb4 hg4 hs4 hh3)
        | ((with_reducible refine wpListIn_load_blk 27 _ rfl h ?hx5 27 (idv H) (0, 0) _ hh4 Tryd.underlying27 ?hd5 (info32 HHL.out) ?_ ?hw5); (case hx5 => rfl); (case hd5 => rfl); (case hw5 => rfl))
        | ((with_reducible refine wpListIn_load_blk 33 _ rfl w3.heap.size ?hx6 33 (enA G) (0, 0) _ hE4 Tryd.underlying33 ?hd6 (info_en (enA_size _)) ?_ ?hw6); (case hx6 => rfl); (case hd6 => rfl); (case hw6 => rfl))
        | (refine ⟨trivial, ?_⟩; gi_at_call 36; (with_reducible refine (HLK.out _ (HKX.out.from HB4.out)).mono ?_); rintro e w5 ⟨rfl, hb5⟩
           have HB5 := Lib.hid (HB4.out.trans (hb5.mono HB4.out.size))
           have hE5 := (hb5.block _ (Array.getElem?_eq_some_iff.1 hE4).1).trans hE4
           clear hb5 hE4 hh4)
        | ((with_reducible refine wpListIn_store_blk rfl 27 _ _ rfl w5.heap.size (idv Y) ?hx7 ?hy7 27 _ (heap_alloc_new w5 _) (info32 HYL.out) ?hs7 (idv_one _) ?_); (case hx7 => rfl); (case hy7 => rfl); (case hs7 => rw [idv_size, HYL.out]; rfl)
           intro w6 hg6 hY6 hs6
           have hb6 : Below w5.heap.size w5 w6 := Below.grows (one_alloc w5 _) hg6 (size_le_alloc _ _) (Nat.le_refl _)
           have hE6 := (hb6.block _ (Array.getElem?_eq_some_iff.1 hE5).1).trans hE5
           have HB6 := Lib.hid (HB5.out.trans (hb6.mono HB5.out.size))
           clear hb6 hg6 hs6 hE5))
      obtain ⟨ge, hge⟩ : ∃ q, w3.heap.size = q := ⟨_, rfl⟩
      obtain ⟨gy, hgy⟩ : ∃ q, w5.heap.size = q := ⟨_, rfl⟩
      rw [hge] at hE6 ⊢
      rw [hgy] at hY6 ⊢
      obtain ⟨D, hD⟩ : ∃ D, decide (Y = q2) = D := ⟨_, rfl⟩
      have HQ := Lib.hid (show ∀ w, (Op.equalIn 10000 27 (.agg (idv Y)) (.agg (idv q2))).run Tryd.prog w = .ok D w from fun w => by rw [eq_ids _ _ HYL.out HQ2.out, hD])
      have HDD := Lib.hid hD
      clear hge hgy hD
      refine wpIn_region_any hmx ?_
      change wpAnyIn _ _ _ _ _ _ _ _ _ (World.drew _)
      obtain ⟨Y8, hY8⟩ : ∃ Y, w6.drew = Y := ⟨_, rfl⟩
      have HB8 := Lib.hid (show Below X.heap.size X Y8 by rw [← hY8]; exact HB6.out.drew)
      have hE8 : Y8.heap[ge]? = some (.cells (enA G) 33 (0, 0)) := by rw [← hY8]; exact hE6
      have hY8b : Y8.heap[gy]? = some (.cells (idv Y) 27 (0, 0)) := by rw [← hY8]; exact hY6
      rw [hY8]
      clear hY8 hE6 hY6
      refine twoF 0 1 (by kernel_rfl) rfl rfl (fun Kq hKq => ?_) (fun Kq hKq => ?_)
      refine stepF_load 27 _ rfl gy rfl 27 (idv Y) (0, 0) _ hY8b Tryd.underlying27 rfl (info32 HYL.out) rfl ?_
      refine hKq.out _ _ ?_
      clear hKq Kq
      try simp only [Act.put, List.setIfInBounds_toArray, List.set_cons_zero, List.set_cons_succ]
      refine oneF 1 (by kernel_rfl) rfl (fun Kq hKq => ?_)
      go_simp
      refine hKq.out _ _ ?_
      clear hKq Kq
      try simp only [Act.put, List.setIfInBounds_toArray, List.set_cons_zero, List.set_cons_succ]
      refine oneF 2 (by kernel_rfl) rfl (fun Kq hKq => ?_)
      go_simp
      refine ⟨trivial, ?_⟩
      gi_at_call 31
      refine (HHD.out _ (HKX.out.from HB8.out) HB8.out).mono ?_
      rintro e w9 ⟨rfl, hb9⟩
      have HB9 := Lib.hid (HB8.out.trans (hb9.mono HB8.out.size))
      have hE9 := (hb9.block _ (Array.getElem?_eq_some_iff.1 hE8).1).trans hE8
      have hY8b := (hb9.block _ (Array.getElem?_eq_some_iff.1 hY8b).1).trans hY8b
      clear hb9 hE8
      simp only []
      refine hKq.out _ _ ?_
      clear hKq Kq
      try simp only [Act.put, List.setIfInBounds_toArray, List.set_cons_zero, List.set_cons_succ]
      refine oneF 3 (by kernel_rfl) rfl (fun Kq hKq => ?_)
      refine stepF_run (.bool (!D)) w9 rfl (fun c h => by cases h) rfl (run_eq_id rfl rfl rfl (.inr ⟨rfl, rfl⟩) (HQ.out w9)) ?_
      refine hKq.out _ _ ?_
      clear hKq Kq
      try simp only [Act.put, List.setIfInBounds_toArray, List.set_cons_zero, List.set_cons_succ]
      refine wpAnyIn_done (by kernel_rfl) ?_ _
      clear hY8b
      rotate_left
      go_simp
      refine hKq.out _ _ ?_
      clear hKq Kq
      try simp only [Act.put, List.setIfInBounds_toArray, List.set_cons_zero, List.set_cons_succ]
      refine twoF 0 2 (by kernel_rfl) rfl rfl (fun Kq hKq => ?_) (fun Kq hKq => ?_)
      refine stepF_load 27 _ rfl gy rfl 27 (idv Y) (0, 0) _ hY8b Tryd.underlying27 rfl (info32 HYL.out) rfl ?_
      refine hKq.out _ _ ?_
      clear hKq Kq
      try simp only [Act.put, List.setIfInBounds_toArray, List.set_cons_zero, List.set_cons_succ]
      refine oneF 2 (by kernel_rfl) rfl (fun Kq hKq => ?_)
      go_simp
      refine ⟨trivial, ?_⟩
      gi_at_call 31
      refine (HHD.out _ (HKX.out.from HB8.out) HB8.out).mono ?_
      rintro e w9 ⟨rfl, hb9⟩
      have HB9 := Lib.hid (HB8.out.trans (hb9.mono HB8.out.size))
      have hE9 := (hb9.block _ (Array.getElem?_eq_some_iff.1 hE8).1).trans hE8
      have hY8b := (hb9.block _ (Array.getElem?_eq_some_iff.1 hY8b).1).trans hY8b
      clear hb9 hE8
      simp only []
      refine hKq.out _ _ ?_
      clear hKq Kq
      try simp only [Act.put, List.setIfInBounds_toArray, List.set_cons_zero, List.set_cons_succ]
      refine oneF 3 (by kernel_rfl) rfl (fun Kq hKq => ?_)
      refine stepF_run (.bool (!D)) w9 rfl (fun c h => by cases h) rfl (run_eq_id rfl rfl rfl (.inr ⟨rfl, rfl⟩) (HQ.out w9)) ?_
      refine hKq.out _ _ ?_
      clear hKq Kq
      try simp only [Act.put, List.setIfInBounds_toArray, List.set_cons_zero, List.set_cons_succ]
      refine wpAnyIn_done (by kernel_rfl) ?_ _
      clear hY8b
      rotate_left
      go_simp
      refine ⟨trivial, ?_⟩
      gi_at_call 31
      refine (HHD.out _ (HKX.out.from HB8.out) HB8.out).mono ?_
      rintro e w9 ⟨rfl, hb9⟩
      have HB9 := Lib.hid (HB8.out.trans (hb9.mono HB8.out.size))
      have hE9 := (hb9.block _ (Array.getElem?_eq_some_iff.1 hE8).1).trans hE8
      have hY8b := (hb9.block _ (Array.getElem?_eq_some_iff.1 hY8b).1).trans hY8b
      clear hb9 hE8
      simp only []
      refine hKq.out _ _ ?_
      clear hKq Kq
      try simp only [Act.put, List.setIfInBounds_toArray, List.set_cons_zero, List.set_cons_succ]
      refine oneF 0 (by kernel_rfl) rfl (fun Kq hKq => ?_)
      refine stepF_load 27 _ rfl gy rfl 27 (idv Y) (0, 0) _ hY8b Tryd.underlying27 rfl (info32 HYL.out) rfl ?_
      refine hKq.out _ _ ?_
      clear hKq Kq
      try simp only [Act.put, List.setIfInBounds_toArray, List.set_cons_zero, List.set_cons_succ]
      refine oneF 3 (by kernel_rfl) rfl (fun Kq hKq => ?_)
      refine stepF_run (.bool (!D)) w9 rfl (fun c h => by cases h) rfl (run_eq_id rfl rfl rfl (.inr ⟨rfl, rfl⟩) (HQ.out w9)) ?_
      refine hKq.out _ _ ?_
      clear hKq Kq
      try simp only [Act.put, List.setIfInBounds_toArray, List.set_cons_zero, List.set_cons_succ]
      refine wpAnyIn_done (by kernel_rfl) ?_ _
      clear hY8b
      all_goals
        cases D with
        | false =>
          have HTG3 := Lib.hid (HTG2.out (by trivial) (of_decide_eq_false HDD.out))
          skip
          have p0 := boxed_below HP.out.1 HB9.out
          have p1 := boxed_below HP.out.2.1 HB9.out
          have p2 := boxed_below HP.out.2.2.1 HB9.out
          have p3 : OwnR 33 9 w9 W0.heap.size (.slice A5 n5 c5) (R.map En.row) := by
            have h1 := HP.out.2.2.2.1.below HB9.out
            rw [HTG3.out.1, List.take_length] at h1
            exact h1
          have pB := HP.out.2.2.2.2.trans (HB9.out.mono HP.out.2.2.2.2.size)
          have K0 := Lib.hid (rdEnd_put (w := w) 7 p0 p1 p3 pB hlA hlB)
          have y2 := p2.cell
          have y0 := p0.cell
          have f0 := p0.frozen
          have y1' : ∀ u, (w9.setCell ⟨w.heap.size, 0, none⟩ u).cell? ⟨rA, 0, none⟩ = some (.int .i64 0) := fun u => (p1.kept (grownBy_setCell' w9 w.heap.size u) (fun e => by injection e with e; omega)).cell
          have f1' : ∀ u, (w9.setCell ⟨w.heap.size, 0, none⟩ u).frozen? ⟨rA, 0, none⟩ = false := fun u => (p1.kept (grownBy_setCell' w9 w.heap.size u) (fun e => by injection e with e; omega)).frozen
          clear p0 p1 p2 p3 pB
          gi_wp2
          exact ⟨(keepsFrom_below HB9.out).trans ((two_cells_keep _ _ _ _ _).from _), by rw [HTG3.out.2]; exact K0.out⟩
        | true =>
          obtain ⟨t1, t2, -⟩ := HON2.out (by trivial) (of_decide_eq_true HDD.out)
          have htk := etake_more t2
          have p2 := boxed_below HP.out.2.2.1 HB9.out
          have p3 := HP.out.2.2.2.1.below HB9.out
          have y2 := p2.cell
          have y2f := p2.frozen
          have hRl : ((R.take k).map En.row).length = n5 := by rw [List.length_map]; exact HNF.out
          have hmap : (R.take (k + 1)).map En.row = (R.take k).map En.row ++ [En.row G] := by rw [htk, List.map_append]; rfl
          obtain ⟨RW, hRW⟩ : ∃ RW, (R.take k).map En.row = RW := ⟨_, rfl⟩
          rw [hRW] at p3 hRl hmap
          have HT1 := Lib.hid t1
          have HMP := Lib.hid hmap
          have P2 := Lib.hid p2
          have P3 := Lib.hid p3
          have HRl := Lib.hid hRl
          clear t1 t2 htk p2 p3 hmap hRW hRl
          clear HGE HLK HON2 HTG2 HFO2
          rcases G with ⟨g0, g1, g2, g3, g4, g5, g6, g7, g8⟩
          obtain ⟨z0, z1, z2, z3, z4, z5, z6, z7, z8⟩ := (BoxE.mk hE9).cells
          simp only at z0 z1 z2 z3 z4 z5 z6 z7 z8
          simp only [enA, En.row]
          clear hE9
          gi_wp2_with (gi_at_builtin
                       refine wpListIn_append_r rfl 25 33 9 72 _ _ rfl Tryd.underlying25 info_entry (by omega) W0.heap.size (.slice A5 n5 c5) RW rfl (P3.out.more _) w9.heap.size 0 1 1 [En.row ⟨g0, g1, g2, g3, g4, g5, g6, g7, g8⟩] rfl (one_rws 9 33 w9 _ rfl (row_one9 ⟨g0, g1, g2, g3, g4, g5, g6, g7, g8⟩)) (by have := HRl.out; omega) (by have := HRl.out; omega) (by have := HB9.out.size; have := HSX.out; simp; omega) ?_
                       intro v10 w10 hown10 hg10
                       rw [← HMP.out] at hown10
                       obtain ⟨A10, n10, c10, rfl, -⟩ := own_ens hown10
                       have b10 := (P2.out.alloc (.cells (En.row ⟨g0, g1, g2, g3, g4, g5, g6, g7, g8⟩).toArray 33)).kept hg10 (fun e => by have := (P3.out.size _ e.symm).1; omega)
                       have y10 := b10.cell
                       have f10 := b10.frozen
                       have B10 := Lib.hid b10
                       have HO10 := Lib.hid hown10
                       have HG10 := Lib.hid hg10
                       clear hown10 hg10 b10)
          have hfar : ∀ q, (Value.slice A5 n5 c5).ownBlock = some q → W0.heap.size ≤ q := fun q e => (P3.out.size q e).1
          have hal : Below X.heap.size X (w9.alloc (.cells (En.row ⟨g0, g1, g2, g3, g4, g5, g6, g7, g8⟩).toArray 33)) := HB9.out.alloc HB9.out.size _
          have hk10 : KeepsFrom W0.heap.size X w10 := (keepsFrom_below hal).trans ((ownR_keeps (P3.out.more _) HG10.out).from _)
          have hwl : w.heap.size ≤ W0.heap.size := by omega
          have hb10 : Below w.heap.size X w10 := (hal.mono (by have := HSX.out; omega)).grown HG10.out (by have := hal.size; have := HSX.out; omega) (fun q e => by have := hfar q e; omega)
          have hbxl : bx < W0.heap.size ∧ bx ≠ rB := by have := HBX.out; have := HrB.out; omega
          refine ⟨hk10.trans ((KeepsOthers.setCell _ _ _).from _), ⟨hb10.setCell (p := ⟨rB, 0, none⟩) (by show w.heap.size ≤ rB; omega) _, ?_⟩, HT1.out, ⟨_, B10.out.set _, ownR_set HO10.out hrB⟩, ?_, ?_, ?_⟩
          · intro bq hbq o ho
            simp only [List.mem_cons, List.not_mem_nil, or_false] at hbq
            subst hbq
            have h1 : (w9.alloc (.cells (En.row ⟨g0, g1, g2, g3, g4, g5, g6, g7, g8⟩).toArray 33)).heap[bq]? = some o := (hal.block _ (Array.getElem?_eq_some_iff.1 ho).1).trans ho
            have h2 : w10.heap[bq]? = some o := (HG10.out.block _ (Array.getElem?_eq_some_iff.1 h1).1 (fun e => by have := hfar _ e.symm; omega)).trans h1
            exact (heap_setCell_other _ _ _ _ hbxl.2).trans h2
          · have q := (boxed_below HP.out.1 hal).kept HG10.out (fun e => by have := hfar _ e.symm; omega)
            exact q.kept (grownBy_setCell' w10 rB _) (fun e => by injection e with e; omega)
          · have q := (boxed_below HP.out.2.1 hal).kept HG10.out (fun e => by have := hfar _ e.symm; omega)
            exact q.kept (grownBy_setCell' w10 rB _) (fun e => by injection e with e; omega)
          · exact (HP.out.2.2.2.2.trans hb10).setCell (p := ⟨rB, 0, none⟩) (by show w.heap.size ≤ rB; omega) _
  case done =>
    rintro D X hD ⟨hk, ⟨v, p2, p3⟩, p0, p1, pB⟩ hDD
    obtain ⟨hNR, hE⟩ := HEN.out _ hk (by unfold recN; rw [hbl])
    have htk : R.take (recN n) = R := by rw [hNR]; exact List.take_length
    rw [htk] at p3
    obtain ⟨A5, n5, c5, rfl, hen⟩ := own_ens p3
    have hn5 : recN n = n5 := by have := hen.len; omega
    rw [hn5, hbl] at hE
    have h264 : n5 ≤ 264 := by rw [← hn5]; unfold recN; omega
    have y2 := p2.cell
    have y0 := p0.cell
    have f0 := p0.frozen
    have y1 := p1.cell
    have f1 := p1.frozen
    have hlA : w.heap.size < rA := by have := HrA.out; omega
    have hlB : rA < W0.heap.size := by have := HrA.out; omega
    have y1' : ∀ u, (X.setCell ⟨w.heap.size, 0, none⟩ u).cell? ⟨rA, 0, none⟩ = some (.int .i64 0) := fun u => (p1.kept (grownBy_setCell' X w.heap.size u) (fun e => by injection e with e; omega)).cell
    have f1' : ∀ u, (X.setCell ⟨w.heap.size, 0, none⟩ u).frozen? ⟨rA, 0, none⟩ = false := fun u => (p1.kept (grownBy_setCell' X w.heap.size u) (fun e => by injection e with e; omega)).frozen
    have K0 := Lib.hid (fun x => rdEnd_put (w := w) x p0 p1 p3 pB hlA hlB)
    have hw0 : IntKind.i64.wrap ((n5 : Int) * 62) = (n5 : Int) * 62 := by rw [IntKind.wrap_i64]; omega
    have HLT := Lib.hid hlA
    clear hen p0 p1 p2 p3 pB htk hk hn5 hlB hNR
    by_cases h0 : 62 * n5 = n
    · have hE0 := hE
      rw [if_pos h0] at hE0
      have hq : ((n : Int) == (n5 : Int) * 62) = true := by rw [beq_iff_eq]; omega
      have HE := Lib.hid hE0
      clear hE hE0 h0 hlA
      gi_wp2
      have hd2 : ((X.setCell ⟨w.heap.size, 0, none⟩ (.slice A5 n5 c5)).setCell ⟨rA, 0, none⟩ (.int .i64 0)).heap[D]? = some (.deferred (some [])) := (two_cells_keep X _ _ _ _).same D _ hDD rfl
      obtain ⟨v, q0, q3, q1, qB⟩ := rdEnd_turn (K0.out 0) (grownBy_putObj' _ D (.deferred none)) (fun r e => by cases e; exact ⟨by omega, _, hd2, rfl⟩)
      have hc5 := q0.cell
      have hc6 := q1.cell
      obtain ⟨A6, n6, c6, rfl, hen6⟩ := own_ens q3
      refine ⟨by simp, .inl ⟨_, _, rfl, run_takeDeferred hd2, ?_⟩⟩
      refine ⟨.tuple #[.slice A6 n6 c6, .int .i64 0], ?_, A6, n6, c6, by rw [HE.out], hen6, ownR_mono q3 (by omega), qB⟩
      simp [results, Tryd.results30, go_sem, hc5, hc6]
    · have hE0 := hE
      rw [if_neg h0] at hE0
      have hq : ((n : Int) == (n5 : Int) * 62) = false := by rw [beq_eq_false_iff_ne]; omega
      have HE := Lib.hid hE0
      clear hE hE0 h0 hlA
      gi_wp2
      have hd2 : ((X.setCell ⟨w.heap.size, 0, none⟩ (.slice A5 n5 c5)).setCell ⟨rA, 0, none⟩ (.int .i64 4)).heap[D]? = some (.deferred (some [])) := (two_cells_keep X _ _ _ _).same D _ hDD rfl
      obtain ⟨v, q0, q3, q1, qB⟩ := rdEnd_turn (K0.out 4) (grownBy_putObj' _ D (.deferred none)) (fun r e => by cases e; exact ⟨by omega, _, hd2, rfl⟩)
      have hc5 := q0.cell
      have hc6 := q1.cell
      obtain ⟨A6, n6, c6, rfl, hen6⟩ := own_ens q3
      refine ⟨by simp, .inl ⟨_, _, rfl, run_takeDeferred hd2, ?_⟩⟩
      refine ⟨.tuple #[.slice A6 n6 c6, .int .i64 4], ?_, A6, n6, c6, by rw [HE.out], hen6, ownR_mono q3 (by omega), qB⟩
      simp [results, Tryd.results30, go_sem, hc5, hc6]
  case stop =>
    rintro D X hD p hDD
    obtain ⟨v, q0, q3, q1, qB⟩ := rdEnd_turn p (grownBy_putObj' _ D (.deferred none)) (fun r e => by cases e; exact ⟨by omega, _, hDD, rfl⟩)
    have hc5 := q0.cell
    have hc6 := q1.cell
    obtain ⟨A5, n5, c5, rfl, hen⟩ := own_ens q3
    gi_wp2
    refine ⟨by simp, .inl ⟨_, _, rfl, run_takeDeferred hDD, ?_⟩⟩
    refine ⟨.tuple #[.slice A5 n5 c5, .int .i64 E], ?_, A5, n5, c5, rfl, hen, ownR_mono q3 (by omega), qB⟩
    simp [results, Tryd.results30, go_sem, hc5, hc6]
end Go.Proofs.YtafmompplcaadaaDoor

/- The walk over package chain's Put: the records of entries, and their head. -/
namespace Go.Proofs.YtafmompplcaadaaDoor
set_option maxRecDepth 100000
set_option linter.unusedVariables false
set_option linter.unusedSimpArgs false
open Go.RowKit

set_option maxRecDepth 100000 in
set_option maxHeartbeats 1000000 in
theorem cput_long (A : Option Addr) (n c : Nat) (l : List En) (w : World) (hl : Ens w A n c l) (h : 264 < n) :
    Calls Tryd.prog 21 #[.slice A n c] w (GP [] noughtsC false w) := by
  have hn := hl.small
  have h1 : (264 : Int) < n := by omega
  have HNL := Lib.hid (show noughtsC.length = 32 from rfl)
  have HB0 := Lib.hid (one_alloc w (.cells (idv noughtsC) 27))
  clear hl
  go_enter Tryd.func21, Tryd.ntmps21
  go_wp2_with ((with_reducible refine wpList_store_blk rfl 27 _ _ rfl w.heap.size (idv noughtsC) ?hx7 ?hy7 27 _ (heap_alloc_new w _) (info32 HNL.out) ?hs7 (idv_one _) ?_); (case hx7 => rfl); (case hy7 => rfl); (case hs7 => rfl)
               intro w6 hg6 hX6 hs6)
  refine bodyPost_ret (v := .tuple #[.slice none 0 0, .agg (idv noughtsC), .bool false]) ?_ rfl ⟨none, 0, 0, rfl, Bts.nil _, ?_⟩
  · exact results_tct Tryd.results21 _ _ _ w.heap.size 27 _ (0, 0) _ rfl hX6 Tryd.underlying27 rfl (info32 HNL.out) _ _ rfl rfl
  · exact HB0.out.grown hg6 HB0.out.size (fun k e => by cases e; exact Nat.le_refl _)
set_option maxRecDepth 100000 in
set_option maxHeartbeats 8000000 in
theorem cput_short (A : Option Addr) (n c : Nat) (l : List En) (w : World) (hK : KTab w) (hl : Ens w A n c l) (ho : ∀ u ∈ l, u.ok) (h264 : n ≤ 264) :
    Calls Tryd.prog 21 #[.slice A n c] w (GP (if mayC l then recsC l else []) (if mayC l then headC l else noughtsC) (mayC l) w) := by
  have hn := hl.small
  have h1 : (n : Int) ≤ 264 := by omega
  have HL := Lib.hid hl
  have HLL := Lib.hid hl.len
  have HO := Lib.hid ho
  have HK := Lib.hid hK
  have hal := run_all32
  have HNL := Lib.hid (show noughtsC.length = 32 from rfl)
  obtain ⟨MC, hMC⟩ : ∃ M, mayC l = M := ⟨_, rfl⟩
  obtain ⟨RC, hRC⟩ : ∃ R, (if mayC l = true then recsC l else []) = R := ⟨_, rfl⟩
  obtain ⟨ZC, hZC⟩ : ∃ Z, (if mayC l = true then headC l else noughtsC) = Z := ⟨_, rfl⟩
  rw [hRC, hZC, hMC]
  rw [hMC] at hRC hZC
  have HMC := Lib.hid hMC
  have HRC := Lib.hid hRC
  have HZC := Lib.hid hZC
  have HB0 := Lib.hid (one_alloc w (.cells (idv noughtsC) 27))
  have HZ0 := Lib.hid (show RowB (w.alloc (.cells (idv noughtsC) 27)) w.heap.size 27 noughtsC from rowb_lit _ _ _ _ rfl)
  clear hl ho hMC hRC hZC hK
  go_enter Tryd.func21, Tryd.ntmps21
  go_wp2

  go_loopw [5, 7, 8, 9, 10, 11, 18] (fun v x y z t s i wr => ∃ k : Nat, k ≤ n ∧ i = .int .i64 k ∧ mayC (l.take k) = true ∧ Own wr (w.heap.size + 1) v (recsC (l.take k)) ∧ RowB wr w.heap.size 27 noughtsC ∧ Below w.heap.size w wr) (fun _ _ _ _ _ _ i _ => n - (intOf i).toNat)
  case atStart => exact ⟨0, by omega, rfl, rfl, Own.nil _ _, HZ0.out, HB0.out⟩
  case round =>
    obtain ⟨k, hk, rfl, hmk, hown, hz, hB⟩ := hrel
    have hrl : (recsC (l.take k)).length = 62 * k := by rw [recsC, recsF_len, List.length_take, HLL.out]; omega
    have hhr := headB_recs (l.take k)
    obtain ⟨A5, n5, c5, rfl, hbt5⟩ := hown.slice (recs_byte _)
    have hn5 : n5 = 62 * k := by have := hbt5.len; omega
    have HHD := Lib.hid (fun (W : World) (hk' : KTab W) (hb' : Bts W A5 n5 c5 (recsC (l.take k))) => cheadof_any A5 n5 c5 _ W hk' hb' (by omega))
    rw [hhr] at HHD
    by_cases hlt : k < n
    · obtain ⟨b, off, u, rfl, hu, hr⟩ := (HL.out.below hB).range k hlt
      have hou := HO.out u (List.mem_of_getElem? hu)
      have hmx := may_take hu hmk
      have hnx := head_take hu
      have hrx := recs_take hu
      obtain ⟨R, hR⟩ : ∃ R, recsC (l.take k) = R := ⟨_, rfl⟩
      obtain ⟨h, hh⟩ : ∃ h, headC (l.take k) = h := ⟨_, rfl⟩
      have hhl : h.length = 32 := by rw [← hh]; exact headC_len _
      have hhb : ∀ j, 0 ≤ h.getD j 0 ∧ h.getD j 0 < 256 := by rw [← hh]; exact headC_byte _
      rw [hR, hh] at HHD
      rw [hR] at hown hbt5 hrl hrx
      rw [hh] at hrx hnx
      have HRL := Lib.hid (show R.length ≤ 62 * 264 by omega)
      obtain ⟨X, hXe⟩ : ∃ X, linkP h u = X := ⟨_, rfl⟩
      have HXL := Lib.hid (show X.length = 32 by rw [← hXe]; exact linkP_len _ _)
      have HXB := Lib.hid (show ∀ j, 0 ≤ X.getD j 0 ∧ X.getD j 0 < 256 by rw [← hXe]; exact linkP_byte _ _)
      have HPE := Lib.hid (fun W => eput_any u W hou)
      have HLK := Lib.hid (fun (W : World) (hk' : KTab W) => clink_any h u W hk' hhl hhb hou)
      have HXE := Lib.hid (show mayE u = true → linkC h u = X from fun e => by rw [← hXe, linkP, if_pos e])
      rw [hXe] at HLK
      obtain ⟨M, hM⟩ : ∃ M, mayE u = M := ⟨_, rfl⟩
      rw [hM] at HPE HLK HXE hmx
      have HMX := Lib.hid hmx
      have HRX := Lib.hid hrx
      unfold enV at HPE HLK
      obtain ⟨P, hP⟩ : ∃ P, (if M = true then putE u else []) = P := ⟨_, rfl⟩
      rw [hP] at HPE
      have HPP := Lib.hid hP
      have HPL := Lib.hid (put_len u)
      have q0 : 0 ≤ (k : Int) := by omega
      have q1 : (k : Int) < n := by omega
      have HBr := Lib.hid hB
      have HMK := Lib.hid hmk
      have HBT5 := Lib.hid hbt5
      clear hu hou hh hhl hhb hXe hM hmx hP hR hB hmk hrl hnx hrx hbt5 hhr hn5
      go_wp2_with (first
        | ((with_reducible refine wpList_load_on 33 _ rfl b (off + k * 9) ?hx1 u.row (enA u) ?ht1 _ hr Tryd.underlying33 ?hd1 ?hi1 ?_ ?hw1); (case hx1 => rfl); (case ht1 => rfl); (case hd1 => rfl); (case hi1 => exact info_en (enA_size u)); (case hw1 => rfl))
        | ((with_reducible refine wpList_store_blk rfl 33 _ _ rfl wr.heap.size (enA u) ?hx2 ?hy2 33 _ (heap_alloc_new wr _) (info_en (enA_size _)) ?hs2 (enA_one _) ?_); (case hx2 => rfl); (case hy2 => rfl); (case hs2 => rfl)
           intro w3 hg3 hE3 hs3
           have hb3 : Below wr.heap.size wr w3 := Below.grows (one_alloc wr _) hg3 (size_le_alloc _ _) (Nat.le_refl _)
           have hz3 := hz.keep hb3
           have hown3 := hown.below hb3
           have HBT3 := Lib.hid (HBT5.out.below hb3)
           have HB3 := Lib.hid (HBr.out.trans (hb3.mono HBr.out.size))
           clear hb3 hg3 hs3 hz hown hr))
      obtain ⟨ge, hge⟩ : ∃ q, wr.heap.size = q := ⟨_, rfl⟩
      rw [hge] at hE3 ⊢
      have HLTz := Lib.hid hz3.lt
      have KE := Lib.hid (show ∀ w', Below w3.heap.size w3 w' → w'.heap[ge]? = some (.cells (enA u) 33 (0, 0)) from fun w' h => (h.block _ (Array.getElem?_eq_some_iff.1 hE3).1).trans hE3)
      have KZ := Lib.hid (show ∀ w', Below w3.heap.size w3 w' → RowB w' w.heap.size 27 noughtsC from fun w' h => hz3.keep h)
      have KO := Lib.hid (show ∀ w', Below w3.heap.size w3 w' → Own w' (w.heap.size + 1) (.slice A5 n5 c5) R from fun w' h => hown3.below h)
      have KT := Lib.hid (show ∀ w', Below w3.heap.size w3 w' → KTab w' from fun w' h => (HK.out.from HB3.out).from h)
      clear hE3 hz3 hown3 hge
      obtain ⟨Y0, hY0⟩ : ∃ Y, w3.drew = Y := ⟨_, rfl⟩
      have hSd : (fun w' => Below w3.heap.size w3 w') Y0 := by rw [← hY0]; exact (Below.refl _ w3).drew
      refine wp_region_held_drew (S := (fun w' => Below w3.heap.size w3 w')) (by kernel_rfl) (by rw [hY0]; exact hSd) (fun hHeld => ?_)
      rw [hY0] at hHeld ⊢
      clear hY0
      refine take_move 0 (.tmp 5) (.slice A5 n5 c5) rfl rfl rfl (by kernel_rfl) (by kernel_rfl) (by kernel_rfl) (fun _ _ _ h => h) rfl hHeld ?_
      simp only [Act.put, List.setIfInBounds_toArray, List.set_cons_zero, List.set_cons_succ]
      refine take_if 2 (.agg (enA u)) rfl (by kernel_rfl) (by kernel_rfl) (by kernel_rfl) (fun _ _ _ h => h) rfl hHeld (fun w' hw' => ?_) ?_
      · exact run_load_en rfl rfl (cent_range (KE.out _ hw'))
      simp only [Act.put, List.setIfInBounds_toArray, List.set_cons_zero, List.set_cons_succ]
      refine two_steps 1 7 (by kernel_rfl) rfl rfl (fun Kq hKq => ?_) (fun Kq hKq => ?_)
      go_simp
      go_at_call 31
      refine (HHD.out _ (KT.out _ hSd) (HBT3.out.below hSd)).mono ?_
      rintro e w4 ⟨rfl, hbx⟩
      have hSw4 : Below w3.heap.size w3 w4 := hSd.trans (hbx.mono hSd.size)
      clear hbx
      refine hKq.out _ _ hSw4 (fun hHeld0 => ?_)
      clear hKq Kq hHeld
      have hHeld := hHeld0
      clear hHeld0
      try simp only [Act.put, List.setIfInBounds_toArray, List.set_cons_zero, List.set_cons_succ]
      refine two_steps 3 7 (by kernel_rfl) rfl rfl (fun Kq hKq => ?_) (fun Kq hKq => ?_)
      go_simp
      go_at_call 36
      refine (HLK.out _ (KT.out _ hSw4)).mono ?_
      rintro e w5 ⟨rfl, hbx⟩
      have hSw5 : Below w3.heap.size w3 w5 := hSw4.trans (hbx.mono hSw4.size)
      clear hbx
      refine hKq.out _ _ hSw5 (fun hHeld0 => ?_)
      clear hKq Kq hHeld
      have hHeld := hHeld0
      clear hHeld0
      try simp only [Act.put, List.setIfInBounds_toArray, List.set_cons_zero, List.set_cons_succ]
      refine take_run 4 (.tuple #[.agg (idv X), .bool M]) rfl (by kernel_rfl) (by kernel_rfl) (by kernel_rfl) (fun _ _ _ h => h) rfl hHeld (fun w => ?_) ?_
      · go_simp
      simp only [Act.put, List.setIfInBounds_toArray, List.set_cons_zero, List.set_cons_succ]
      refine take_run 5 (.agg (idv X)) rfl (by kernel_rfl) (by kernel_rfl) (by kernel_rfl) (fun _ _ _ h => h) rfl hHeld (fun w => ?_) ?_
      · go_simp
      simp only [Act.put, List.setIfInBounds_toArray, List.set_cons_zero, List.set_cons_succ]
      refine take_run 6 (.bool M) rfl (by kernel_rfl) (by kernel_rfl) (by kernel_rfl) (fun _ _ _ h => h) rfl hHeld (fun w => ?_) ?_
      · go_simp
      simp only [Act.put, List.setIfInBounds_toArray, List.set_cons_zero, List.set_cons_succ]
      refine one_step 7 (by kernel_rfl) rfl (fun Kq hKq => ?_)
      have hz7 : RowB (w5.alloc (.cells (idv noughtsC) 27)) w5.heap.size 27 noughtsC := rowb_lit _ _ _ _ rfl
      have hSw6 : Below w3.heap.size w3 (w5.alloc (.cells (idv noughtsC) 27)) := hSw5.alloc hSw5.size _
      have hgx : w3.heap.size ≤ w5.heap.size := hSw5.size
      go_simp
      refine hKq.out _ _ hSw6 (fun hHeld0 => ?_)
      clear hKq Kq hHeld
      have hHeld := hHeld0
      clear hHeld0
      try simp only [Act.put, List.setIfInBounds_toArray, List.set_cons_zero, List.set_cons_succ]
      refine one_step 8 (by kernel_rfl) rfl (fun Kq hKq => ?_)
      refine step_store_b 27 _ _ rfl w5.heap.size X noughtsC rfl rfl 27 hz7 (info32 HXL.out) (by rw [HXL.out]; rfl) rfl ?_
      intro wM hgM hXM hsM
      have hSM : Below w3.heap.size w3 wM := hSw6.grown hgM hSw6.size (fun q e => by cases e; exact hgx)
      refine hKq.out _ _ hSM (fun hHeld0 => ?_)
      clear hKq Kq hHeld
      have hHeld := hHeld0
      clear hHeld0
      try simp only [Act.put, List.setIfInBounds_toArray, List.set_cons_zero, List.set_cons_succ]
      refine take_run 9 (.bool M) rfl (by kernel_rfl) (by kernel_rfl) (by kernel_rfl) (fun _ _ _ h => h) rfl hHeld (fun w => ?_) ?_
      · go_simp
      simp only [Act.put, List.setIfInBounds_toArray, List.set_cons_zero, List.set_cons_succ]
      refine wpAnyH_done (by kernel_rfl) ?_ _
      obtain ⟨gx, hgxe⟩ : ∃ q, w5.heap.size = q := ⟨_, rfl⟩
      rw [hgxe] at hXM hgx ⊢
      clear hgxe hHeld hgM hsM
      rotate_left
      have hz7 : RowB (w4.alloc (.cells (idv noughtsC) 27)) w4.heap.size 27 noughtsC := rowb_lit _ _ _ _ rfl
      have hSw5 : Below w3.heap.size w3 (w4.alloc (.cells (idv noughtsC) 27)) := hSw4.alloc hSw4.size _
      have hgx : w3.heap.size ≤ w4.heap.size := hSw4.size
      go_simp
      refine hKq.out _ _ hSw5 (fun hHeld0 => ?_)
      clear hKq Kq hHeld
      have hHeld := hHeld0
      clear hHeld0
      try simp only [Act.put, List.setIfInBounds_toArray, List.set_cons_zero, List.set_cons_succ]
      refine one_step 3 (by kernel_rfl) rfl (fun Kq hKq => ?_)
      go_simp
      go_at_call 36
      refine (HLK.out _ (KT.out _ hSw5)).mono ?_
      rintro e w6 ⟨rfl, hbx⟩
      have hSw6 : Below w3.heap.size w3 w6 := hSw5.trans (hbx.mono hSw5.size)
      have hz7 := hz7.keep hbx
      clear hbx
      refine hKq.out _ _ hSw6 (fun hHeld0 => ?_)
      clear hKq Kq hHeld
      have hHeld := hHeld0
      clear hHeld0
      try simp only [Act.put, List.setIfInBounds_toArray, List.set_cons_zero, List.set_cons_succ]
      refine take_run 4 (.tuple #[.agg (idv X), .bool M]) rfl (by kernel_rfl) (by kernel_rfl) (by kernel_rfl) (fun _ _ _ h => h) rfl hHeld (fun w => ?_) ?_
      · go_simp
      simp only [Act.put, List.setIfInBounds_toArray, List.set_cons_zero, List.set_cons_succ]
      refine take_run 5 (.agg (idv X)) rfl (by kernel_rfl) (by kernel_rfl) (by kernel_rfl) (fun _ _ _ h => h) rfl hHeld (fun w => ?_) ?_
      · go_simp
      simp only [Act.put, List.setIfInBounds_toArray, List.set_cons_zero, List.set_cons_succ]
      refine take_run 6 (.bool M) rfl (by kernel_rfl) (by kernel_rfl) (by kernel_rfl) (fun _ _ _ h => h) rfl hHeld (fun w => ?_) ?_
      · go_simp
      simp only [Act.put, List.setIfInBounds_toArray, List.set_cons_zero, List.set_cons_succ]
      refine one_step 8 (by kernel_rfl) rfl (fun Kq hKq => ?_)
      refine step_store_b 27 _ _ rfl w4.heap.size X noughtsC rfl rfl 27 hz7 (info32 HXL.out) (by rw [HXL.out]; rfl) rfl ?_
      intro wM hgM hXM hsM
      have hSM : Below w3.heap.size w3 wM := hSw6.grown hgM hSw6.size (fun q e => by cases e; exact hgx)
      refine hKq.out _ _ hSM (fun hHeld0 => ?_)
      clear hKq Kq hHeld
      have hHeld := hHeld0
      clear hHeld0
      try simp only [Act.put, List.setIfInBounds_toArray, List.set_cons_zero, List.set_cons_succ]
      refine take_run 9 (.bool M) rfl (by kernel_rfl) (by kernel_rfl) (by kernel_rfl) (fun _ _ _ h => h) rfl hHeld (fun w => ?_) ?_
      · go_simp
      simp only [Act.put, List.setIfInBounds_toArray, List.set_cons_zero, List.set_cons_succ]
      refine wpAnyH_done (by kernel_rfl) ?_ _
      obtain ⟨gx, hgxe⟩ : ∃ q, w4.heap.size = q := ⟨_, rfl⟩
      rw [hgxe] at hXM hgx ⊢
      clear hgxe hHeld hgM hsM
      rotate_left
      have hz7 : RowB (Y0.alloc (.cells (idv noughtsC) 27)) Y0.heap.size 27 noughtsC := rowb_lit _ _ _ _ rfl
      have hSw4 : Below w3.heap.size w3 (Y0.alloc (.cells (idv noughtsC) 27)) := hSd.alloc hSd.size _
      have hgx : w3.heap.size ≤ Y0.heap.size := hSd.size
      go_simp
      refine hKq.out _ _ hSw4 (fun hHeld0 => ?_)
      clear hKq Kq hHeld
      have hHeld := hHeld0
      clear hHeld0
      try simp only [Act.put, List.setIfInBounds_toArray, List.set_cons_zero, List.set_cons_succ]
      refine one_step 1 (by kernel_rfl) rfl (fun Kq hKq => ?_)
      go_simp
      go_at_call 31
      refine (HHD.out _ (KT.out _ hSw4) (HBT3.out.below hSw4)).mono ?_
      rintro e w5 ⟨rfl, hbx⟩
      have hSw5 : Below w3.heap.size w3 w5 := hSw4.trans (hbx.mono hSw4.size)
      have hz7 := hz7.keep hbx
      clear hbx
      refine hKq.out _ _ hSw5 (fun hHeld0 => ?_)
      clear hKq Kq hHeld
      have hHeld := hHeld0
      clear hHeld0
      try simp only [Act.put, List.setIfInBounds_toArray, List.set_cons_zero, List.set_cons_succ]
      refine one_step 3 (by kernel_rfl) rfl (fun Kq hKq => ?_)
      go_simp
      go_at_call 36
      refine (HLK.out _ (KT.out _ hSw5)).mono ?_
      rintro e w6 ⟨rfl, hbx⟩
      have hSw6 : Below w3.heap.size w3 w6 := hSw5.trans (hbx.mono hSw5.size)
      have hz7 := hz7.keep hbx
      clear hbx
      refine hKq.out _ _ hSw6 (fun hHeld0 => ?_)
      clear hKq Kq hHeld
      have hHeld := hHeld0
      clear hHeld0
      try simp only [Act.put, List.setIfInBounds_toArray, List.set_cons_zero, List.set_cons_succ]
      refine take_run 4 (.tuple #[.agg (idv X), .bool M]) rfl (by kernel_rfl) (by kernel_rfl) (by kernel_rfl) (fun _ _ _ h => h) rfl hHeld (fun w => ?_) ?_
      · go_simp
      simp only [Act.put, List.setIfInBounds_toArray, List.set_cons_zero, List.set_cons_succ]
      refine take_run 5 (.agg (idv X)) rfl (by kernel_rfl) (by kernel_rfl) (by kernel_rfl) (fun _ _ _ h => h) rfl hHeld (fun w => ?_) ?_
      · go_simp
      simp only [Act.put, List.setIfInBounds_toArray, List.set_cons_zero, List.set_cons_succ]
      refine take_run 6 (.bool M) rfl (by kernel_rfl) (by kernel_rfl) (by kernel_rfl) (fun _ _ _ h => h) rfl hHeld (fun w => ?_) ?_
      · go_simp
      simp only [Act.put, List.setIfInBounds_toArray, List.set_cons_zero, List.set_cons_succ]
      refine one_step 8 (by kernel_rfl) rfl (fun Kq hKq => ?_)
      refine step_store_b 27 _ _ rfl Y0.heap.size X noughtsC rfl rfl 27 hz7 (info32 HXL.out) (by rw [HXL.out]; rfl) rfl ?_
      intro wM hgM hXM hsM
      have hSM : Below w3.heap.size w3 wM := hSw6.grown hgM hSw6.size (fun q e => by cases e; exact hgx)
      refine hKq.out _ _ hSM (fun hHeld0 => ?_)
      clear hKq Kq hHeld
      have hHeld := hHeld0
      clear hHeld0
      try simp only [Act.put, List.setIfInBounds_toArray, List.set_cons_zero, List.set_cons_succ]
      refine take_run 9 (.bool M) rfl (by kernel_rfl) (by kernel_rfl) (by kernel_rfl) (fun _ _ _ h => h) rfl hHeld (fun w => ?_) ?_
      · go_simp
      simp only [Act.put, List.setIfInBounds_toArray, List.set_cons_zero, List.set_cons_succ]
      refine wpAnyH_done (by kernel_rfl) ?_ _
      obtain ⟨gx, hgxe⟩ : ∃ q, Y0.heap.size = q := ⟨_, rfl⟩
      rw [hgxe] at hXM hgx ⊢
      clear hgxe hHeld hgM hsM
      all_goals
        cases M with
        | false =>
          have hf : mayC l = false := mayC_part HMX.out
          have hMf : MC = false := HMC.out.symm.trans hf
          have hRf : RC = [] := by have := HRC.out; rw [hMf] at this; simpa using this.symm
          have hZf : ZC = noughtsC := by have := HZC.out; rw [hMf] at this; simpa using this.symm
          subst hMf hRf hZf
          have hzM := KZ.out _ hSM
          have HSMh := Lib.hid (HB3.out.trans (hSM.mono HB3.out.size))
          clear hSM
          go_wp2_with ((with_reducible refine wpList_store_blk rfl 27 _ _ rfl w.heap.size (idv noughtsC) ?hx7 ?hy7 27 _ hzM.is (info32 HNL.out) ?hs7 (idv_one _) ?_); (case hx7 => rfl); (case hy7 => rfl); (case hs7 => rfl)
                       intro w7 hg7 hX7 hs7)
          refine bodyPost_ret (v := .tuple #[.slice none 0 0, .agg (idv noughtsC), .bool false]) ?_ rfl ⟨none, 0, 0, rfl, Bts.nil _, ?_⟩
          · exact results_tct Tryd.results21 _ _ _ w.heap.size 27 _ (0, 0) _ rfl hX7 Tryd.underlying27 rfl (info32 HNL.out) _ _ rfl rfl
          · exact HSMh.out.grown hg7 HSMh.out.size (fun k e => by cases e; exact Nat.le_refl _)
        | true =>
          have hPe : putE u = P := by have := HPP.out; simpa using this
          have HPl := Lib.hid (show P.length = 30 by rw [← hPe]; exact HPL.out)
          have HPe := Lib.hid hPe
          have hEM := KE.out _ hSM
          have hzM := KZ.out _ hSM
          have hoM := KO.out _ hSM
          have HBM := Lib.hid (HB3.out.trans (hSM.mono HB3.out.size))
          have HXl := Lib.hid (show w3.heap.size ≤ gx from hgx)
          have HW3 := Lib.hid (show w.heap.size < w3.heap.size from HLTz.out)
          have HFAR := Lib.hid (show ∀ g, (Value.slice A5 n5 c5).ownBlock = some g → g < gx from fun g e => Nat.lt_of_lt_of_le ((KO.out _ (Below.refl _ w3)).size g e).2 hgx)
          clear hgx hPe
          go_wp2_with (first
            | ((with_reducible refine wpList_load_blk 33 _ rfl ge ?hx9 33 (enA u) (0, 0) _ hEM Tryd.underlying33 ?hd9 (info_en (enA_size _)) ?_ ?hw9); (case hx9 => rfl); (case hd9 => rfl); (case hw9 => rfl))
            | (go_at_call 37; (with_reducible refine (HPE.out _).mono ?_); rintro e w8 ⟨A8, m8, c8, rfl, hbt8, hb8⟩
               have hX8 := hXM.keep hb8
               have hz8 := hzM.keep hb8
               have hown8 := hoM.below hb8
               have HB8 := Lib.hid (HBM.out.trans (hb8.mono HBM.out.size))
               clear hb8 hXM hzM hoM hEM hSM))
          obtain ⟨Y1, hY1⟩ : ∃ Y, w8.drew = Y := ⟨_, rfl⟩
          have hX9 : RowB Y1 gx 27 X := by rw [← hY1]; exact hX8.draw1
          have hz9 : RowB Y1 w.heap.size 27 noughtsC := by rw [← hY1]; exact hz8.draw1
          have hown9 : Own Y1 (w.heap.size + 1) (.slice A5 n5 c5) R := by rw [← hY1]; exact hown8.draw1
          have hbt9 : Bts Y1 A8 m8 c8 P := by rw [← hY1]; exact hbt8.draw1
          have HB9 := Lib.hid (show Below w.heap.size w Y1 by rw [← hY1]; exact HB8.out.drew)
          refine wp_region_held_drew (S := (fun _ => True)) (by kernel_rfl) trivial (fun hHeld => ?_)
          rw [hY1]
          clear hX8 hz8 hown8 hbt8 hY1
          refine take_move 0 (.tmp 5) (.slice A5 n5 c5) rfl rfl rfl (by kernel_rfl) (by kernel_rfl) (by kernel_rfl) (fun _ _ _ h => h) rfl hHeld ?_
          simp only [Act.put, List.setIfInBounds_toArray, List.set_cons_zero, List.set_cons_succ]
          refine take_move 1 (.tmp 10) (.slice A8 m8 c8) rfl rfl rfl (by kernel_rfl) (by kernel_rfl) (by kernel_rfl) (fun _ _ _ h => h) rfl hHeld ?_
          simp only [Act.put, List.setIfInBounds_toArray, List.set_cons_zero, List.set_cons_succ]
          refine take_run 3 (.slice (some ⟨gx, 0, none⟩) 32 32) rfl (by kernel_rfl) (by kernel_rfl) (by kernel_rfl) (fun _ _ _ h => h) rfl hHeld (fun w => ?_) ?_
          · go_simp
          simp only [Act.put, List.setIfInBounds_toArray, List.set_cons_zero, List.set_cons_succ]
          refine one_step 2 (by kernel_rfl) rfl (fun Kq hKq => ?_)
          refine step_append_o _ _ rfl (w.heap.size + 1) (.slice A5 n5 c5) R rfl hown9 A8 m8 c8 P rfl hbt9 (by have := HRL.out; have := HPl.out; have := hbt9.len; omega) hz9.lt rfl ?_
          intro v10 w10 hown10 hg10
          have hX10 : RowB w10 gx 27 X := hX9.grown hg10 (fun e => by have := HFAR.out gx e.symm; omega)
          have hz10 : RowB w10 w.heap.size 27 noughtsC := hz9.grown hg10 (fun e => by have := (hown9.size _ e.symm).1; omega)
          have HB10 := Lib.hid (HB9.out.grown hg10 HB9.out.size (fun q e => by have := (hown9.size q e).1; omega))
          clear hg10 hX9 hz9 hown9 hbt9
          refine hKq.out _ _ trivial (fun hHeld0 => ?_)
          clear hKq Kq hHeld
          have hHeld := hHeld0
          clear hHeld0
          try simp only [Act.put, List.setIfInBounds_toArray, List.set_cons_zero, List.set_cons_succ]
          refine one_step 4 (by kernel_rfl) rfl (fun Kq hKq => ?_)
          have hown10 : Own w10 (w.heap.size + 1) v10 (R ++ P) := hown10
          refine step_append_o _ _ rfl (w.heap.size + 1) v10 (R ++ P) rfl hown10 (some ⟨gx, 0, none⟩) 32 32 X rfl (hX10.btsAt HXL.out (by unfold maxLen; omega) HXB.out) (by have := HRL.out; have := HPl.out; rw [List.length_append]; omega) hz10.lt rfl ?_
          intro v11 w11 hown11 hg11
          have hz11 : RowB w11 w.heap.size 27 noughtsC := hz10.grown hg11 (fun e => by have := (hown10.size _ e.symm).1; omega)
          have HB11 := Lib.hid (HB10.out.grown hg11 HB10.out.size (fun q e => by have := (hown10.size q e).1; omega))
          have hown11 : Own w11 (w.heap.size + 1) v11 ((R ++ P) ++ X) := hown11
          clear hg11 hX10 hz10 hown10
          refine hKq.out _ _ trivial (fun hHeld0 => ?_)
          clear hKq Kq hHeld
          have hHeld := hHeld0
          clear hHeld0
          try simp only [Act.put, List.setIfInBounds_toArray, List.set_cons_zero, List.set_cons_succ]
          refine take_run 5 (v11) rfl (by kernel_rfl) (by kernel_rfl) (by kernel_rfl) (fun _ _ _ h => h) rfl hHeld (fun w => ?_) ?_
          · go_simp
          simp only [Act.put, List.setIfInBounds_toArray, List.set_cons_zero, List.set_cons_succ]
          refine wpAnyH_done (by kernel_rfl) ?_ _
          clear hHeld
          go_wp2
          go_roundw
          case rel => exact ⟨k + 1, by omega, by go_num, HMX.out, by rw [HRX.out, HPe.out, HXE.out (by trivial)]; exact hown11, hz11, HB11.out⟩
          case measure => simp [intOf]; omega
    · have hkn : k = n := by omega
      rw [hkn, List.take_of_length_le (by rw [HLL.out]; exact Nat.le_refl _)] at hmk hown hbt5 HHD
      have hMf : MC = true := HMC.out.symm.trans hmk
      have hRf : RC = recsC l := by have := HRC.out; rw [hMf] at this; simpa using this.symm
      have hZf : ZC = headC l := by have := HZC.out; rw [hMf] at this; simpa using this.symm
      have HZL := Lib.hid (show ZC.length = 32 by rw [hZf]; exact headC_len _)
      have HROK := Lib.hid (show ∀ j, 0 ≤ RC.getD j 0 ∧ RC.getD j 0 < 256 by rw [hRf]; exact recs_byte _)
      rw [← hRf] at hbt5 HHD hown
      rw [← hZf] at HHD
      subst hMf
      have HBT5 := Lib.hid hbt5
      have HBr := Lib.hid hB
      have HKr := Lib.hid (HK.out.from hB)
      clear hB hmk hRf hZf hbt5 hrl hhr hn5
      go_wp2_with (first
        | (go_at_call 31; (with_reducible refine (HHD.out _ HKr.out HBT5.out).mono ?_); rintro e w3 ⟨rfl, hb3⟩
           have hz3 := hz.keep hb3
           have hown3 := hown.below hb3
           have HB3 := Lib.hid (HBr.out.trans (hb3.mono HBr.out.size))
           clear hb3 hz hown)
        | ((with_reducible refine wpList_store_blk rfl 27 _ _ rfl w.heap.size (idv ZC) ?hx7 ?hy7 27 _ hz3.is (info32 HZL.out) ?hs7 (idv_one _) ?_); (case hx7 => rfl); (case hy7 => rfl); (case hs7 => rw [idv_size, idv_size, HZL.out]; rfl)
           intro w7 hg7 hX7 hs7))
      refine bodyPost_ret (v := .tuple #[.slice A5 n5 c5, .agg (idv ZC), .bool true]) ?_ rfl ⟨A5, n5, c5, rfl, ?_, ?_⟩
      · exact results_tct Tryd.results21 _ _ _ w.heap.size 27 _ (0, 0) _ rfl hX7 Tryd.underlying27 rfl (info32 HZL.out) _ _ rfl rfl
      · obtain ⟨A9, n9, c9, he9, hbt9⟩ := (own_off hown3 hg7).slice HROK.out
        cases he9
        exact hbt9
      · exact HB3.out.grown hg7 HB3.out.size (fun k e => by cases e; exact Nat.le_refl _)
theorem cput_any (A : Option Addr) (n c : Nat) (l : List En) (w : World) (hK : KTab w) (hl : Ens w A n c l) (ho : ∀ u ∈ l, u.ok) :
    Calls Tryd.prog 21 #[.slice A n c] w (GP (if putC l then recsC l else []) (if putC l then headC l else noughtsC) (putC l) w) := by
  have hlen := hl.len
  by_cases h : n ≤ 264
  · have e : putC l = mayC l := by rw [putC, decide_eq_true (by omega), Bool.true_and]
    rw [e]
    exact cput_short A n c l w hK hl ho h
  · have e : putC l = false := by rw [putC, decide_eq_false (by omega), Bool.false_and]
    rw [e]
    exact cput_long A n c l w hl (by omega)
end Go.Proofs.YtafmompplcaadaaDoor

/- The walk over package chain's textOf: the text that stands at the end of records. -/
namespace Go.Proofs.YtafmompplcaadaaDoor
set_option maxRecDepth 100000
set_option linter.unusedVariables false
set_option linter.unusedSimpArgs false
open Go.RowKit

end Go.Proofs.YtafmompplcaadaaDoor
