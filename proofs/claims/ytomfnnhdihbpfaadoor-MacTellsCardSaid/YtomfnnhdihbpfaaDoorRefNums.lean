/- The walk over the plain answers' numbers: the 64 numbers of a block, appended one by one. -/
import Derived.Test.YtomfnnhdihbpfaaDoorRefRound
import Derived.Deep.RegionHeld3
import Derived.Deep.AppendLies
namespace Go.Proofs.YtomfnnhdihbpfaaDoor
open Go.RowKit

/-- a slice of numbers of 32 bits that the call made itself -/
def OwnW (w : World) (base : Nat) (v : Value) (l : List Int) : Prop := w.ownsRow base 22 1 v l.length (l.map (Value.int .u32))
theorem OwnW.nil (w : World) (base : Nat) : OwnW w base (.slice none 0 0) [] := World.ownsRow_nil _ _ _ _
theorem OwnW.more {w : World} {base : Nat} {v : Value} {l : List Int} (h : OwnW w base v l) (o : Obj) : OwnW (w.alloc o) base v l := World.ownsRow.alloc h o
theorem OwnW.draw1 {w : World} {base : Nat} {v : Value} {l : List Int} (h : OwnW w base v l) : OwnW w.drew base v l := h
theorem OwnW.draw {w : World} {base : Nat} {v : Value} {l : List Int} (h : OwnW w base v l) (k : Nat) : OwnW (w.drewN k) base v l := h
theorem OwnW.size {w : World} {base : Nat} {v : Value} {l : List Int} (h : OwnW w base v l) : ∀ k, v.ownBlock = some k → base ≤ k ∧ k < w.heap.size := World.ownsRow.lt h
theorem OwnW.below {w w' : World} {base : Nat} {v : Value} {l : List Int} (h : OwnW w base v l) (hb : Below w.heap.size w w') : OwnW w' base v l := by
  refine ⟨h.1, ?_⟩
  rcases h.2 with h0 | ⟨g, cap, cur, hv, hg, hh, rest⟩
  · exact .inl h0
  · exact .inr ⟨g, cap, cur, hv, hg, (hb.block g (Array.getElem?_eq_some_iff.1 hh).1).trans hh, rest⟩
theorem OwnW.form {w : World} {base : Nat} {v : Value} {l : List Int} (h : OwnW w base v l) (hn : 0 < l.length) :
    ∃ g cap, v = .slice (some ⟨g, 0, none⟩) l.length cap ∧ base ≤ g ∧ g < w.heap.size ∧ l.length ≤ cap ∧ cap ≤ maxLen ∧ ∀ j, j < l.length → w.cell? ⟨g, j, none⟩ = some (.int .u32 (l.getD j 0)) := by
  rcases h.2 with ⟨_, h0⟩ | ⟨g, cap, cur, hv, hg, hh, hnc, hcm, hcs, htake⟩
  · omega
  · refine ⟨g, cap, hv, hg, (Array.getElem?_eq_some_iff.1 hh).1, hnc, hcm, fun j hj => ?_⟩
    rw [cell_of_row _ _ _ _ _ _ hh]
    have : (l.map (Value.int .u32))[j]? = some (.int .u32 (l.getD j 0)) := by simp [List.getD_eq_getElem?_getD, hj]
    rw [← this, ← htake, List.getElem?_take, if_pos (by omega)]
    simp
theorem info_u32 : (Tryd.prog.info? 22).map (fun i => (i.zero, i.size, i.bytes)) = some (some (.int .u32 0), 1, 4) := by kernel_rfl

theorem step_append_w {ops : Array Oper} {o : Oper} {a : Act} {w : World} {K : Act → World → Prop} {Q : Exit → Act → World → Prop} {E : Prop} (hgd : o.guard = none) (s x : Operand)
    (ho : o.op = .call { callee := .builtin .append, args := #[s, x], argTypes := #[55, 55] })
    (base : Nat) (v : Value) (l : List Int) (hs : a.eval s = v) (hown : OwnW w base v l) (g : Nat) (y : Int) (hx : a.eval x = .slice (some ⟨g, 0, none⟩) 1 1) (hg : w.cell? ⟨g, 0, none⟩ = some (.int .u32 y))
    (hsmall : l.length ≤ 1000) (hbase : base ≤ w.heap.size)
    (h : ∀ v' w', OwnW w' base v' (l ++ [y]) → w.grownBy w' v.ownBlock → K (a.put o.dst v') w') : if Region.wanted o (yielded ops a.tmps) = true then Oper.wp Tryd.prog o a w K Q else E := by
  have hw : Region.wanted o (yielded ops a.tmps) = true := by simp [Region.wanted, hgd]
  rw [if_pos hw]
  obtain ⟨i, hi, hz, h1, h2⟩ := info_parts info_u32
  refine wp_append_own (P := Tryd.prog) w s x 55 ho base 22 i (.int .u32 0) 1 4 Tryd.underlying55 hi hz h1 h2 rfl (by omega) v l.length (l.map (Value.int .u32)) hs hown ⟨g, 0, none⟩ 1 1 [.int .u32 y] hx rfl ?_ ?_ (by unfold maxLen; omega) (by omega) hbase ?_
  · intro j u hu
    match j, hu with
    | 0, hu =>
      simp at hu
      subst hu
      exact hg
    | j + 1, hu => simp at hu
  · intro u hu
    simp at hu
    subst hu
    rfl
  · intro v' w' hown' hgr _
    refine h v' w' ?_ hgr
    unfold OwnW
    rw [List.length_append, List.map_append]
    exact hown'

theorem take_set_snoc (L : List Int) (k : Nat) (x : Int) (h : k < L.length) : (L.set k x).take (k + 1) = L.take k ++ [x] := by
  rw [List.take_succ_eq_append_getElem (by simpa using h), List.take_set_of_le (Nat.le_refl _)]
  simp
end Go.Proofs.YtomfnnhdihbpfaaDoor
