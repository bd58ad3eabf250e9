/- Loads and stores of whole rows: guarded ones; a store, with the world behind it under a name; a row that is built. -/
import Derived.Test.YtfjiefhicjnnnaaBasBytes
namespace Go.Proofs.Ytfjiefhicjnnnaa
open Go.RowKit

section
variable {P : Program} {ops : Array Oper} {rest : List Oper} {o : Oper} {a : Act} {w : World} {Q : Exit → Act → World → Prop}
/-- a load out of the middle of a block, guarded or not -/
theorem wpList_load_on (ty : TypeId) (x : Operand) (ho : o.op = .load ty x) (b off : Nat) (hx : a.eval x = .pointer (some ⟨b, off, none⟩)) (cs : List Value) (T : Array Value) (hT : cs.toArray = T) (d : TypeDesc) (hc : w.rangeAt b off cs)
    (hu : P.underlying ty = some d) (hd : d.isRow = true) (hi : (P.info? ty).map (·.size) = some cs.length)
    (h : wpList P ops Q rest (a.put o.dst (.agg T)) w) (hw : Region.wanted o (yielded ops a.tmps) = true) : wpList P ops Q (o :: rest) a w := by
  subst hT
  exact wpList_step fun K hK => by rw [if_pos hw]; exact wp_load_mid ty x ho b off hx cs d hc hu hd hi (hK _ _ h)
/-- a load of a whole block, guarded or not -/
theorem wpList_load_blk (ty : TypeId) (x : Operand) (ho : o.op = .load ty x) (g : Nat) (hx : a.eval x = .pointer (some ⟨g, 0, none⟩)) (t : TypeId) (cs : Array Value) (fr : Nat × Nat) (d : TypeDesc) (hg : w.heap[g]? = some (.cells cs t fr))
    (hu : P.underlying ty = some d) (hd : (match d with | .struct _ | .array _ _ => true | _ => false) = true) (hi : (P.info? ty).map (·.size) = some cs.size)
    (h : wpList P ops Q rest (a.put o.dst (.agg cs)) w) (hw : Region.wanted o (yielded ops a.tmps) = true) : wpList P ops Q (o :: rest) a w :=
  wpList_step fun K hK => by rw [if_pos hw]; exact wp_load_row ty x ho g hx t cs fr d hg hu hd hi (hK _ _ h)
/-- a store of a whole block; the world behind it under a name -/
theorem wpList_store_blk (hgd : o.guard = none) (ty : TypeId) (x y : Operand) (ho : o.op = .store ty x y)
    (g : Nat) (cells : Array Value) (hx : a.eval x = .pointer (some ⟨g, 0, none⟩)) (hy : a.eval y = .agg cells) (t : TypeId) (old : Array Value) (hg : w.heap[g]? = some (.cells old t (0, 0))) (hi : (P.info? ty).map (·.size) = some cells.size) (hold : old.size = cells.size) (h1 : cells.all (·.oneCell') = true)
    (h : ∀ w', w.grownBy w' (some g) → w'.heap[g]? = some (.cells cells t (0, 0)) → w'.heap.size = w.heap.size → wpList P ops Q rest (a.put o.dst undef) w') : wpList P ops Q (o :: rest) a w :=
  wpList_store_row hgd ty x y ho g cells hx hy t old hg hi hold h1 (h _ (grown_setRow _ _ _) (setRow_heap _ _ _ _ _ _ hg) (by simp))
/-- a row that is built of its parts -/
theorem wpList_build_to (hg : o.guard = none) (t : TypeId) (parts : Array (Nat × Operand)) (ho : o.op = .build t parts)
    (l : List (Nat × Value)) (Y : Array Value) (hl' : parts.toList.map (fun (i, x) => (i, a.eval x)) = l) (hb : P.built t l = some Y) (h : wpList P ops Q rest (a.put o.dst (.agg Y)) w) : wpList P ops Q (o :: rest) a w := by
  have hl : (parts.map fun (i, x) => (i, a.eval x)).toList = l := by rw [Array.toList_map]; exact hl'
  refine wpList_build hg t parts ho ?_ ?_
  · rw [hl, hb]; rfl
  · rw [hl, hb]; exact h
/-- the same, guarded or not -/
theorem wpList_build_on (t : TypeId) (parts : Array (Nat × Operand)) (ho : o.op = .build t parts)
    (l : List (Nat × Value)) (Y : Array Value) (hl' : parts.toList.map (fun (i, x) => (i, a.eval x)) = l) (hb : P.built t l = some Y) (h : wpList P ops Q rest (a.put o.dst (.agg Y)) w) (hw : Region.wanted o (yielded ops a.tmps) = true) : wpList P ops Q (o :: rest) a w := by
  have hl : (parts.map fun (i, x) => (i, a.eval x)).toList = l := by rw [Array.toList_map]; exact hl'
  refine wpList_step fun K hK => ?_
  rw [if_pos hw]
  refine wp_build t parts ho ?_ ?_
  · rw [hl, hb]; rfl
  · rw [hl, hb]; exact hK _ _ h
end
/-- a whole block and a value, handed back -/
theorem results_blk_tmp {fn : Func} {p u : Tmp} {ty : TypeId} (h : fn.results = #[.cell p ty, .tmp u]) (tmps : Array Value) (P : Program) (w : World) (g : Nat) (t : TypeId) (cs : Array Value) (fr : Nat × Nat) (d : TypeDesc)
    (hp : tmps.getD p undef = .pointer (some ⟨g, 0, none⟩)) (hg : w.heap[g]? = some (.cells cs t fr))
    (hu : P.underlying ty = some d) (hd : d.isRow = true) (hi : (P.info? ty).map (·.size) = some cs.size) (v : Value) (hv : tmps.getD u undef = v) :
    (results fn tmps).run P w = .ok (.tuple #[.agg cs, v]) w := by
  rw [results_cell_tmp h, hp, hv]
  simp [asAddr, run_loadVar_row w g t ty cs fr d hg hu (by cases d <;> simp_all) hi]
theorem built_of {P : Program} {t : TypeId} {fs : Array Field} {z : Value} {places : List (Nat × Nat)} {parts : List (Nat × Value)} {cells : Array Value} (hu : P.underlying t = some (.struct fs)) (hz : (P.info? t).bind (·.zero) = some z)
    (hp : fs.toList.mapM (fun f => (P.info? f.type).map fun i => (f.offset, i.size)) = some places) (hf : Instr.fill (places.toArray[·]?) z.cells parts = some cells) : P.built t parts = some cells := by
  unfold Program.built
  cases hi : P.info? t with
  | none => simp [hi] at hz
  | some i =>
    simp only [hi, Option.bind_some] at hz
    simp only [hu, hz, hp, hf]
/-- of no parts: the zero one -/
theorem built_none {P : Program} {t e : TypeId} {n : Nat} {z : Value} (hu : P.underlying t = some (.array n e)) (hz : (P.info? t).bind (·.zero) = some z) (he : (P.info? e).isSome = true) : P.built t [] = some z.cells := by
  unfold Program.built
  cases hi : P.info? t with
  | none => simp [hi] at hz
  | some i =>
    simp only [hi, Option.bind_some] at hz
    obtain ⟨j, hj⟩ := Option.isSome_iff_exists.1 he
    simp only [hu, hz, hj, Instr.fill]
end Go.Proofs.Ytfjiefhicjnnnaa
