/- Worlds: what a call leaves as it was; blocks behind new blocks; cells that are overwritten. -/
import Derived.Test.YtjjjfckkglcdfaaRows
import Derived.WalkKit
import Derived.WalkSpells
import Derived.WalkLawsBesides
import Derived.Deep.QuietTactic
import Derived.BigQuiet
import Derived.StillTailTactics
import Derived.Lib.Hide
import Derived.Laws.CopyOwn
import Derived.OwnWalk
import Derived.Deep.MidRow
import Derived.Deep.RegionHeld3
namespace Go.Proofs.Ytjjjfckkglcdfaa
open Go.RowKit

/-- a call behind two new blocks: what is left of them -/
theorem after_two {w w1 : World} {o1 o2 : Obj} (h : Below ((w.alloc o1).alloc o2).heap.size ((w.alloc o1).alloc o2) w1) :
    Below w.heap.size w w1 ∧ w.heap.size + 2 ≤ w1.heap.size ∧ w1.heap[w.heap.size]? = some o1 ∧ w1.heap[w.heap.size + 1]? = some o2 := by
  have hs : ((w.alloc o1).alloc o2).heap.size = w.heap.size + 2 := by simp
  have hb : Below w.heap.size w ((w.alloc o1).alloc o2) := ((Below.refl _ _).alloc (Nat.le_refl _) _).alloc (by simp) _
  rw [hs] at h
  exact ⟨hb.trans (h.mono (by omega)), by have := h.size; omega, (h.block _ (by omega)).trans (heap_alloc2_old w _ _), (h.block _ (by omega)).trans (heap_alloc2_new w _ _)⟩
theorem after_one {w w1 : World} {o1 : Obj} (h : Below (w.alloc o1).heap.size (w.alloc o1) w1) :
    Below w.heap.size w w1 ∧ w.heap.size + 1 ≤ w1.heap.size ∧ w1.heap[w.heap.size]? = some o1 := by
  have hs : (w.alloc o1).heap.size = w.heap.size + 1 := by simp
  have hb : Below w.heap.size w (w.alloc o1) := (Below.refl _ _).alloc (Nat.le_refl _) _
  rw [hs] at h
  exact ⟨hb.trans (h.mono (by omega)), by have := h.size; omega, (h.block _ (by omega)).trans (heap_alloc_new w _)⟩
theorem two_below (w : World) (o1 o2 : Obj) : Below w.heap.size w ((w.alloc o1).alloc o2) := ((Below.refl _ _).alloc (Nat.le_refl _) _).alloc (by simp) _
theorem below_draw {w w' : World} (h : Below w.drew.heap.size w.drew w') : Below w.heap.size w w' := (Below.refl _ w).drew.trans h
theorem Below.grows {B g : Nat} {w w1 w2 : World} (h : Below B w w1) (hg : w1.grownBy w2 (some g)) (hB : B ≤ w1.heap.size) (hr : B ≤ g) : Below B w w2 :=
  h.grown hg hB (fun k e => by injection e with e; omega)
theorem ne_some {a b : Nat} (h : a ≠ b) : some a ≠ some b := fun e => h (Option.some.inj e)
theorem grown_setRow (w : World) (g : Nat) (cs : Array Value) : w.grownBy (w.setRow g cs) (some g) :=
  ⟨rfl, rfl, rfl, by simp, fun k _ hk => setRow_other w g k _ (fun e => hk (by rw [e]))⟩
theorem three_below (w : World) (o1 o2 o3 : Obj) : Below w.heap.size w (((w.alloc o1).alloc o2).alloc o3) := (two_below w o1 o2).alloc (by simp; omega) _
theorem size_le_alloc (w : World) (o : Obj) : w.heap.size ≤ (w.alloc o).heap.size := by simp
/-- a world of three new blocks, under a name -/
theorem named_three {w W : World} {o1 o2 o3 : Obj} (h : ((w.alloc o1).alloc o2).alloc o3 = W) :
    Below w.heap.size w W ∧ w.heap.size + 3 = W.heap.size ∧ W.heap[w.heap.size]? = some o1 ∧ W.heap[w.heap.size + 1]? = some o2 := by
  subst h
  have hs2 : ((w.alloc o1).alloc o2).heap.size = w.heap.size + 2 := by simp
  refine ⟨three_below w o1 o2 o3, by simp, ?_, ?_⟩
  · exact (Below.heap_alloc _ _ _ (by omega)).trans (heap_alloc2_old w _ _)
  · exact (Below.heap_alloc _ _ _ (by omega)).trans (heap_alloc2_new w _ _)
/-- a call behind three new blocks: what is left of them -/
theorem after_3 {w w1 : World} {o1 o2 o3 : Obj} (h : Below (((w.alloc o1).alloc o2).alloc o3).heap.size (((w.alloc o1).alloc o2).alloc o3) w1) :
    Below w.heap.size w w1 ∧ w.heap.size + 3 ≤ w1.heap.size ∧ w1.heap[w.heap.size]? = some o1 ∧ w1.heap[w.heap.size + 1]? = some o2 ∧ w1.heap[w.heap.size + 2]? = some o3 := by
  have hs : (((w.alloc o1).alloc o2).alloc o3).heap.size = w.heap.size + 3 := by simp
  have hs2 : ((w.alloc o1).alloc o2).heap.size = w.heap.size + 2 := by simp
  rw [hs] at h
  refine ⟨(three_below w o1 o2 o3).trans (h.mono (by omega)), by have := h.size; omega, (h.block _ (by omega)).trans ?_, (h.block _ (by omega)).trans ?_, (h.block _ (by omega)).trans ?_⟩
  · exact (Below.heap_alloc _ _ _ (by omega)).trans (heap_alloc2_old w _ _)
  · exact (Below.heap_alloc _ _ _ (by omega)).trans (heap_alloc2_new w _ _)
  · rw [← hs2]
    exact heap_alloc_new _ _
/-- whole cells of a block, overwritten -/
theorem setCells_heap (g : Nat) (t : TypeId) : ∀ (vs : List Value) (o : Nat) (w : World) (cs : List Value), w.heap[g]? = some (.cells cs.toArray t (0, 0)) → o + vs.length ≤ cs.length →
    (w.setCells g o vs).heap[g]? = some (.cells (cs.take o ++ vs ++ cs.drop (o + vs.length)).toArray t (0, 0))
  | [], o, w, cs, h, _ => by
    simp only [World.setCells, List.append_nil, List.length_nil, Nat.add_zero, List.take_append_drop]
    exact h
  | v :: r, o, w, cs, h, hl => by
    have h1 := heap_setCell_same w g o cs.toArray t v h
    simp only [List.setIfInBounds_toArray] at h1
    have h2 := setCells_heap g t r (o + 1) (w.setCell ⟨g, o, none⟩ v) (cs.set o v) h1 (by simp at hl ⊢; omega)
    rw [World.setCells, h2]
    congr 2
    have ho : o < cs.length := by simp at hl; omega
    rw [List.take_set, List.drop_set_of_lt (by omega)]
    have e1 : (cs.take (o + 1)).set o v = cs.take o ++ [v] := by
      rw [List.take_succ_eq_append_getElem ho, List.set_append_right _ _ (by simp; omega)]
      simp [List.length_take, Nat.min_eq_left (Nat.le_of_lt ho)]
    rw [e1]
    simp [List.append_assoc, Nat.add_comm, Nat.add_left_comm]
theorem setCells_all {g : Nat} {t : TypeId} {vs cs : List Value} {w : World} (h : w.heap[g]? = some (.cells cs.toArray t (0, 0))) (hl : vs.length = cs.length) :
    (w.setCells g 0 vs).heap[g]? = some (.cells vs.toArray t (0, 0)) := by
  rw [setCells_heap g t vs 0 w cs h (by omega)]
  congr 2
  rw [List.take_zero, List.nil_append, Nat.zero_add, hl, List.drop_length, List.append_nil]
theorem setCells_below {B : Nat} {w0 : World} {g : Nat} (hg : B ≤ g) : ∀ (vs : List Value) (o : Nat) (w : World), Below B w0 w → Below B w0 (w.setCells g o vs)
  | [], _, _, h => h
  | v :: r, o, _, h => setCells_below hg r (o + 1) _ (h.setCell hg v)
theorem setCells_off {g k : Nat} (hk : k ≠ g) : ∀ (vs : List Value) (o : Nat) (w : World), (w.setCells g o vs).heap[k]? = w.heap[k]?
  | [], _, _ => rfl
  | _ :: r, o, _ => (setCells_off hk r (o + 1) _).trans (heap_setCell_other _ _ _ _ hk)
theorem there_of {w : World} {g : Nat} {t : TypeId} {cs : Array Value} (h : w.heap[g]? = some (.cells cs t (0, 0))) {n : Nat} (hn : cs.size = n) : w.there g 0 n := by
  intro j hj
  rw [Nat.zero_add]
  exact ⟨by rw [cell_of_row _ _ _ _ _ _ h]; simp; omega, frozen_of_row _ _ j _ _ h⟩
/-- a world of one new block, under a name -/
theorem named_one {w W : World} {o1 : Obj} (h : w.alloc o1 = W) : Below w.heap.size w W ∧ w.heap.size + 1 = W.heap.size ∧ W.heap[w.heap.size]? = some o1 := by
  subst h
  exact ⟨(Below.refl _ _).alloc (Nat.le_refl _) _, by simp, heap_alloc_new w _⟩
theorem below_then {B : Nat} {w W w' : World} (h : Below B w W) (hB : B ≤ W.heap.size) (hb : Below W.heap.size W w') : Below B w w' := h.trans (hb.mono hB)
theorem drew_alloc (w : World) (o : Obj) : Below w.heap.size w (w.drew.alloc o) := ((Below.refl _ w).drew).alloc (Nat.le_refl _) o
theorem one_alloc (w : World) (o : Obj) : Below w.heap.size w (w.alloc o) := (Below.refl _ w).alloc (Nat.le_refl _) o
theorem after_drew {w w1 : World} {o1 : Obj} (h : Below (w.drew.alloc o1).heap.size (w.drew.alloc o1) w1) : w1.heap[w.heap.size]? = some o1 := (after_one (w := w.drew) h).2.2
theorem after_alloc {w w1 : World} {o1 : Obj} (h : Below (w.alloc o1).heap.size (w.alloc o1) w1) : w1.heap[w.heap.size]? = some o1 := (after_one h).2.2
theorem mac_alloc (w : World) (o : Obj) : Below w.heap.size w (w.alloc o) := (Below.refl _ w).alloc (Nat.le_refl _) o
theorem size_next (w : World) (o : Obj) : (w.alloc o).heap.size = w.heap.size + 1 := by simp
theorem mac_one (w : World) (o : Obj) : Below w.heap.size w (w.alloc o) := (Below.refl _ w).alloc (Nat.le_refl _) o
theorem size_next1 (w : World) (o : Obj) : (w.alloc o).heap.size = w.heap.size + 1 := by simp
theorem size_two (w : World) (o1 o2 : Obj) : w.heap.size + 1 ≤ ((w.alloc o1).alloc o2).heap.size ∧ w.heap.size < ((w.alloc o1).alloc o2).heap.size := by
  simp; omega
theorem ret_bool {a b : Bool} (h : a = b) : Ending.returned (.bool a) = .returned (.bool b) := by rw [h]
theorem ret_int {a b : Int} (h : a = b) : Ending.returned (.int .i64 a) = .returned (.int .i64 b) := by rw [h]
end Go.Proofs.Ytjjjfckkglcdfaa
