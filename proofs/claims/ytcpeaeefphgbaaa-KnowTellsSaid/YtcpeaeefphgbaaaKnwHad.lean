/- A slice of terms that the call made itself, and that grows; what else lies in memory does not lie in it. -/
import Derived.Test.YtcpeaeefphgbaaaKnwIn
import Derived.Test.YtcpeaeefphgbaaaKnwHas
namespace Go.Proofs.Ytcpeaeefphgbaaa
set_option linter.unusedVariables false
set_option linter.unusedSimpArgs false
open Go.RowKit

structure Had (w : World) (B : Nat) (v : Value) (rows : List (List Value)) (l : List Te) : Prop where
  own : OwnR 24 3 w B v rows
  len : rows.length = l.length
  lies : ∀ i (hi : i < l.length), Lies (fun b => v.ownBlock ≠ some b) w l[i] (rows.getD i [])
theorem Had.nil (w : World) (B : Nat) : Had w B (.slice none 0 0) [] [] := ⟨OwnR.nil _ _ _ _, rfl, fun i hi => by simp at hi⟩
theorem Had.is {w : World} {B : Nat} {v : Value} {rows : List (List Value)} {l : List Te} (h : Had w B v rows l) : ∃ A m c, v = .slice A m c ∧ Is (fun _ => True) w (.node 0 0 l) 0 0 A m c := by
  obtain ⟨A, m, c, rfl, hr⟩ := h.own.rws
  exact ⟨A, m, c, rfl, ⟨.mk hr (fun _ _ _ => trivial) (by rw [← h.len, hr.len]) fun i hi => (h.lies i hi).mono fun _ _ => trivial⟩⟩
theorem Had.far {w w' : World} {B : Nat} {v : Value} {rows : List (List Value)} {l : List Te} (h : Had w B v rows l) (hb : Below w.heap.size w w') : Had w' B v rows l :=
  ⟨h.own.below hb, h.len, fun i hi => ((h.lies i hi).both.keep fun b hh => hb.block b hh.2).mono fun b hh => hh.1⟩
theorem Had.drew1 {w : World} {B : Nat} {v : Value} {rows : List (List Value)} {l : List Te} (h : Had w B v rows l) : Had w.drew B v rows l := ⟨h.own.draw1, h.len, fun i hi => (h.lies i hi).keep fun _ _ => rfl⟩
/-- the slice grows: nothing else turns, and it stays where it was, or goes into a new block -/
structure Turns (w w' : World) (v v' : Value) : Prop where
  grown : w.grownBy w' v.ownBlock
  at_ : v'.ownBlock = v.ownBlock ∨ ∃ g, v'.ownBlock = some g ∧ w.heap.size ≤ g
section
variable {w w1 w2 : World} {v v1 v2 : Value}
theorem grown_below (row : Option Nat) (h : Below w.heap.size w w1) : w.grownBy w1 row := ⟨h.os, h.tape, h.output, h.size, fun k hk _ => h.block k hk⟩
theorem Turns.refl (w : World) (v : Value) : Turns w w v v := ⟨World.grownBy.refl w _, .inl rfl⟩
theorem Turns.below (v : Value) (h : Below w.heap.size w w1) : Turns w w1 v v := ⟨grown_below _ h, .inl rfl⟩
theorem Turns.ne (h : Turns w w1 v v1) {b : Nat} (hb : b < w.heap.size) (hn : v.ownBlock ≠ some b) : v1.ownBlock ≠ some b := by
  rcases h.at_ with e | ⟨g, e, hg⟩
  · rw [e]; exact hn
  · rw [e]; intro e2; injection e2 with e2; omega
theorem Turns.block (h : Turns w w1 v v1) {b : Nat} (hb : b < w.heap.size) (hn : v.ownBlock ≠ some b) : w1.heap[b]? = w.heap[b]? := h.grown.block b hb fun e => hn e.symm
theorem Turns.trans (h : Turns w w1 v v1) (k : Turns w1 w2 v1 v2) : Turns w w2 v v2 := by
  refine ⟨⟨k.grown.os.trans h.grown.os, k.grown.tape.trans h.grown.tape, k.grown.output.trans h.grown.output, Nat.le_trans h.grown.size k.grown.size, fun b hb hn => ?_⟩, ?_⟩
  · have hn2 : v.ownBlock ≠ some b := fun e => hn e.symm
    exact (k.block (Nat.lt_of_lt_of_le hb h.grown.size) (h.ne hb hn2)).trans (h.block hb hn2)
  · rcases k.at_ with e | ⟨g, e, hg⟩
    · rw [e]; exact h.at_
    · exact .inr ⟨g, e, Nat.le_trans h.grown.size hg⟩
theorem Turns.lies (h : Turns w w1 v v1) {t : Te} {row : List Value} (ht : Lies (fun b => v.ownBlock ≠ some b) w t row) : Lies (fun b => v1.ownBlock ≠ some b) w1 t row :=
  ((ht.both.keep fun b hb => h.block hb.2 hb.1).both.mono fun b hb => h.ne hb.1.2 hb.1.1)
theorem Turns.is (h : Turns w w1 v v1) {t : Te} {k n : Int} {A : Option Addr} {m c : Nat} (ht : Is (fun b => v.ownBlock ≠ some b) w t k n A m c) : Is (fun b => v1.ownBlock ≠ some b) w1 t k n A m c := ⟨h.lies ht.lies⟩
theorem Turns.to_below {B : Nat} (h : Turns w w1 v v1) (hB : B ≤ w.heap.size) (hv : ∀ g, v.ownBlock = some g → B ≤ g) : Below B w w1 :=
  ⟨h.grown.os, h.grown.tape, h.grown.output, h.grown.size, fun b hb => h.block (Nat.lt_of_lt_of_le hb hB) fun e => by have := hv b e; omega⟩
theorem Cup.turns {g : Nat} {k n : Int} {A : Option Addr} {m c : Nat} (hc : Cup w g k n A m c) (h : Turns w w1 v v1) (hn : v.ownBlock ≠ some g) : Cup w1 g k n A m c := (h.block hc.lt hn).trans hc
end
theorem Had.not_new {w : World} {B : Nat} {v : Value} {rows : List (List Value)} {l : List Te} (h : Had w B v rows l) {g : Nat} (hg : w.heap.size ≤ g) : v.ownBlock ≠ some g := fun e => by have := (h.own.size g e).2; omega
/-- behind an append of one row, which lies elsewhere -/
theorem Had.step {w w' : World} {B : Nat} {v v' : Value} {rows : List (List Value)} {l : List Te} (h : Had w B v rows l) {t : Te} {row : List Value} (ht : Lies (fun b => v.ownBlock ≠ some b) w t row)
    (hown : OwnR 24 3 w' B v' (rows ++ [row])) (hg : w.grownBy w' v.ownBlock) (hat : v'.ownBlock = v.ownBlock ∨ v'.ownBlock = some w.heap.size) : Had w' B v' (rows ++ [row]) (l ++ [t]) ∧ Turns w w' v v' := by
  have hT : Turns w w' v v' := ⟨hg, hat.imp_right fun e => ⟨_, e, Nat.le_refl _⟩⟩
  refine ⟨⟨hown, by simp [h.len], fun i hi => ?_⟩, hT⟩
  by_cases hil : i < l.length
  · have e1 : (l ++ [t])[i] = l[i] := List.getElem_append_left hil
    have e2 : (rows ++ [row]).getD i [] = rows.getD i [] := by
      simp only [List.getD_eq_getElem?_getD]
      rw [List.getElem?_append_left (by rw [h.len]; exact hil)]
    rw [e1, e2]
    exact hT.lies (h.lies i hil)
  · have hi2 : i = l.length := by rw [List.length_append, List.length_singleton] at hi; omega
    subst hi2
    have e1 : (l ++ [t])[l.length] = t := by simp
    have e2 : (rows ++ [row]).getD l.length [] = row := by simp [List.getD_eq_getElem?_getD, ← h.len]
    rw [e1, e2]
    exact hT.lies ht
/-- behind a call that gives a slice of terms, and leaves all that was there -/
def GivesL (l : List Te) (w : World) (e : Ending) (w' : World) : Prop :=
  ∃ A m c, e = .returned (.slice A m c) ∧ Is (fun _ => True) w' (.node 0 0 l) 0 0 A m c ∧ Below w.heap.size w w'
/-- behind a call that adds to a slice of terms -/
def AddsL (B : Nat) (v : Value) (l : List Te) (w : World) (e : Ending) (w' : World) : Prop :=
  ∃ v' rows', e = .returned v' ∧ Had w' B v' rows' l ∧ Turns w w' v v'
theorem AddsL.gives {B : Nat} {v : Value} {l : List Te} {w w' : World} {e : Ending} (h : AddsL B v l w e w') : ∃ A m c rows', e = .returned (.slice A m c) ∧ Had w' B (.slice A m c) rows' l ∧ Turns w w' v (.slice A m c) := by
  obtain ⟨v', rows', rfl, h1, h2⟩ := h
  obtain ⟨A, m, c, rfl, _⟩ := h1.is
  exact ⟨A, m, c, rows', rfl, h1, h2⟩
theorem Te.partsL_take {l : List Te} (j : Nat) (hj : j < l.length) : Te.partsL (l.take (j + 1)) = Te.partsL (l.take j) ++ l[j].parts := by
  rw [List.take_succ_eq_append_getElem hj, Te.partsL_append]
  simp [Te.partsL]
end Go.Proofs.Ytcpeaeefphgbaaa
