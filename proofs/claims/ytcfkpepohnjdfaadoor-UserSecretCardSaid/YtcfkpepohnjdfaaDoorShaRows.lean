/- Arrays of numbers that lie in a block of their own; slices of bytes; small facts on both. -/
import Derived.Test.YtcfkpepohnjdfaaDoorShaRound
import Derived.Lib.Hide
import Derived.Laws.CopyOwn
import Derived.Test.YtcfkpepohnjdfaaDoorBasWorld
namespace Go.Proofs.YtcfkpepohnjdfaaDoor
open Go.RowKit

/-- block g is just the numbers l, of 32 bits, none frozen -/
def Row (w : World) (g : Nat) (t : TypeId) (l : List Int) : Prop := w.heap[g]? = some (.cells (regv l) t (0, 0))
theorem Row.lt {w : World} {g : Nat} {t : TypeId} {l : List Int} (h : Row w g t l) : g < w.heap.size := (Array.getElem?_eq_some_iff.1 h).1
theorem Row.cell {w : World} {g : Nat} {t : TypeId} {l : List Int} (h : Row w g t l) (i : Nat) (hi : i < l.length) : w.cell? ⟨g, i, none⟩ = some (.int .u32 (l.getD i 0)) := by
  rw [cell_of_row _ _ _ _ _ _ h, regv_get _ _ hi]
theorem Row.free {w : World} {g : Nat} {t : TypeId} {l : List Int} (h : Row w g t l) (i : Nat) : w.frozen? ⟨g, i, none⟩ = false := frozen_of_row _ _ i _ _ h
theorem Row.draw {w : World} {g : Nat} {t : TypeId} {l : List Int} (h : Row w g t l) (n : Nat) : Row (w.drewN n) g t l := h
theorem Row.draw1 {w : World} {g : Nat} {t : TypeId} {l : List Int} (h : Row w g t l) : Row w.drew g t l := h
theorem Row.put {w : World} {g : Nat} {t : TypeId} {l : List Int} (h : Row w g t l) (i : Nat) (v : Int) : Row (w.setCell ⟨g, i, none⟩ (.int .u32 v)) g t (l.set i v) :=
  (heap_setCell_same _ _ _ _ _ _ h).trans (by rw [regv_set])
theorem Row.far {w : World} {g : Nat} {t : TypeId} {l : List Int} (h : Row w g t l) {a : Addr} (ha : g ≠ a.block) (v : Value) : Row (w.setCell a v) g t l := (heap_setCell_other _ _ _ _ ha).trans h
theorem Row.more {w : World} {g : Nat} {t : TypeId} {l : List Int} (h : Row w g t l) (o : Obj) : Row (w.alloc o) g t l := (Below.heap_alloc w o g h.lt).trans h
theorem Row.below {w w' : World} {B g : Nat} {t : TypeId} {l : List Int} (h : Row w g t l) (hb : Below B w w') (hg : g < B) : Row w' g t l := (hb.block g hg).trans h
theorem Row.all {w : World} {g : Nat} {t : TypeId} {l : List Int} (h : Row w g t l) (m : List Int) : Row (w.setRow g (regv m)) g t m := setRow_heap _ _ _ _ _ _ h
theorem Row.off {w : World} {g k : Nat} {t : TypeId} {l : List Int} (h : Row w g t l) (hk : g ≠ k) (cs : Array Value) : Row (w.setRow k cs) g t l := (setRow_other w k g cs hk).trans h
theorem Row.is {w : World} {g : Nat} {t : TypeId} {l : List Int} (h : Row w g t l) : w.heap[g]? = some (.cells (regv l) t (0, 0)) := h
theorem Row.grown {w w' : World} {g : Nat} {t : TypeId} {l : List Int} {row : Option Nat} (h : Row w g t l) (hb : w.grownBy w' row) (hg : some g ≠ row) : Row w' g t l := (hb.block g h.lt hg).trans h
theorem Row.new (w : World) (t : TypeId) (l : List Int) : Row (w.alloc (.cells (regv l) t)) w.heap.size t l := heap_alloc_new w _
theorem Row.eight {w : World} {g : Nat} {t : TypeId} {x0 x1 x2 x3 x4 x5 x6 x7 : Int} (h : Row w g t [x0, x1, x2, x3, x4, x5, x6, x7]) :
    w.cell? ⟨g, 0, none⟩ = some (.int .u32 x0) ∧ w.cell? ⟨g, 1, none⟩ = some (.int .u32 x1) ∧ w.cell? ⟨g, 2, none⟩ = some (.int .u32 x2) ∧ w.cell? ⟨g, 3, none⟩ = some (.int .u32 x3) ∧
    w.cell? ⟨g, 4, none⟩ = some (.int .u32 x4) ∧ w.cell? ⟨g, 5, none⟩ = some (.int .u32 x5) ∧ w.cell? ⟨g, 6, none⟩ = some (.int .u32 x6) ∧ w.cell? ⟨g, 7, none⟩ = some (.int .u32 x7) :=
  ⟨h.cell 0 (by simp), h.cell 1 (by simp), h.cell 2 (by simp), h.cell 3 (by simp), h.cell 4 (by simp), h.cell 5 (by simp), h.cell 6 (by simp), h.cell 7 (by simp)⟩
theorem row_lit (w : World) (t : TypeId) (cs : Array Value) (l : List Int) (h : cs = regv l) : Row (w.alloc (.cells cs t)) w.heap.size t l := by
  subst h
  exact heap_alloc_new w _
/-- a whole array out of its block, and into it, whatever its numbers are -/
theorem wpList_load_r32 {P : Program} {ops : Array Oper} {rest : List Oper} {o : Oper} {a : Act} {w : World} {Q : Exit → Act → World → Prop} (hgd : o.guard = none) (ty e : TypeId) (n : Nat) (x : Operand) (ho : o.op = .load ty x)
    (g : Nat) (hx : a.eval x = .pointer (some ⟨g, 0, none⟩)) (t : TypeId) (l : List Int) (hg : Row w g t l)
    (hu : P.underlying ty = some (.array n e)) (hi : (P.info? ty).map (·.size) = some (regv l).size)
    (h : wpList P ops Q rest (a.put o.dst (.agg (regv l))) w) : wpList P ops Q (o :: rest) a w :=
  wpList_load_row hgd ty x ho g hx t (regv l) (0, 0) _ hg hu rfl hi h
theorem wpList_store_r32 {P : Program} {ops : Array Oper} {rest : List Oper} {o : Oper} {a : Act} {w : World} {Q : Exit → Act → World → Prop} (hgd : o.guard = none) (ty : TypeId) (x y : Operand) (ho : o.op = .store ty x y)
    (g : Nat) (m : List Int) (hx : a.eval x = .pointer (some ⟨g, 0, none⟩)) (hy : a.eval y = .agg (regv m)) (t : TypeId) (l : List Int) (hg : Row w g t l) (hi : (P.info? ty).map (·.size) = some (regv m).size) (hl : l.length = m.length)
    (h : ∀ w', w.grownBy w' (some g) → Row w' g t m → w'.heap.size = w.heap.size → wpList P ops Q rest (a.put o.dst undef) w') : wpList P ops Q (o :: rest) a w :=
  wpList_store_row hgd ty x y ho g (regv m) hx hy t (regv l) hg hi (by rw [regv_size, regv_size, hl]) (regv_one m) (h _ (grown_setRow _ _ _) (hg.all m) (by simp))

/-- the table of the constants lies in its block -/
def KTab (w : World) : Prop := 0 < w.heap.size ∧ ∀ j, j < 64 → w.cell? ⟨0, j, none⟩ = some (.int .u32 (kList.getD j 0))
theorem KTab.below {w w' : World} {B : Nat} (h : KTab w) (hb : Below B w w') (hB : 0 < B) : KTab w' :=
  ⟨Nat.lt_of_lt_of_le h.1 hb.size, fun j hj => (hb.cell (p := ⟨0, j, none⟩) hB).trans (h.2 j hj)⟩
theorem KTab.from {w w' : World} (h : KTab w) (hb : Below w.heap.size w w') : KTab w' := h.below hb h.1

theorem runs_length (w r : List Int) (hr : r.length = 8) (k : Nat) : (runs w r k).length = 8 := by
  induction k with
  | zero => exact hr
  | succ k ih =>
    obtain ⟨a, b, c, d, e, f, g, h8, hx⟩ := eight ih
    simp only [runs, hx, rnd]
    rfl
theorem addTo_length (x r : List Int) (k : Nat) : (addTo x r k).length = x.length := by
  induction k with
  | zero => rfl
  | succ k ih => simp [addTo, ih]
theorem rounded_length (r l : List Int) (hr : r.length = 8) : (roundedL r l).length = 8 := by
  rw [roundedL, addTo_length, runs_length _ _ hr]
end Go.Proofs.YtcfkpepohnjdfaaDoor
