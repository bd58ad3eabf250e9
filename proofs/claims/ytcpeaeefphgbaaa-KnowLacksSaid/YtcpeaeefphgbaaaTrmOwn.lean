/- The walk over package term's Own: a closure that calls itself, and makes a term of its own. -/
import Derived.Test.YtcpeaeefphgbaaaTrmSame
namespace Go.Proofs.Ytcpeaeefphgbaaa
set_option linter.unusedVariables false
set_option linter.unusedSimpArgs false
open Go.RowKit

/-- behind a call that gives a term of its own, in new blocks, and leaves all that was there -/
def GivesT (t : Te) (w : World) (e : Ending) (w' : World) : Prop :=
  ∃ k n A m c, e = .returned (.agg #[.int .i64 k, .int .i64 n, .slice A m c]) ∧ Is (fun b => w.heap.size ≤ b) w' t k n A m c ∧ Below w.heap.size w w'
theorem info_term : (Try.prog.info? 24).map (fun i => (i.zero.map (·.cells.size), i.size, i.bytes)) = some (some 3, 3, 40) := by kernel_rfl
/-- the Args of a term, made so far, in rows that the call made itself -/
structure Made (w : World) (B : Nat) (v : Value) (rows : List (List Value)) (l : List Te) : Prop where
  own : OwnR 24 3 w B v rows
  len : rows.length = l.length
  lies : ∀ i (hi : i < l.length), Lies (fun b => B ≤ b ∧ v.ownBlock ≠ some b) w l[i] (rows.getD i [])
theorem Made.nil (w : World) (B : Nat) : Made w B (.slice none 0 0) [] [] := ⟨OwnR.nil _ _ _ _, rfl, fun i hi => by simp at hi⟩
theorem Made.step {w w2 w4 : World} {B : Nat} {v v' : Value} {rows : List (List Value)} {l : List Te} (h : Made w B v rows l) (hB : B ≤ w.heap.size) (hw : Below w.heap.size w w2) {o : Obj} {t : Te} {row : List Value}
    (ht : Lies (fun b => w.heap.size ≤ b) w2 t row) (hown : OwnR 24 3 w4 B v' (rows ++ [row])) (hg : (w2.alloc o).grownBy w4 v.ownBlock) (hat : v'.ownBlock = v.ownBlock ∨ v'.ownBlock = some (w2.alloc o).heap.size) : Made w4 B v' (rows ++ [row]) (l ++ [t]) := by
  have hz : (w2.alloc o).heap.size = w2.heap.size + 1 := by simp
  refine ⟨hown, by simp [h.len], fun i hi => ?_⟩
  have hne : ∀ b, b < w2.heap.size → v.ownBlock ≠ some b → w4.heap[b]? = w2.heap[b]? ∧ v'.ownBlock ≠ some b := by
    intro b hb hv
    refine ⟨(hg.block b (by rw [hz]; omega) (fun e => hv e.symm)).trans (Below.heap_alloc _ _ _ hb), ?_⟩
    rcases hat with e | e
    · rw [e]; exact hv
    · rw [e, hz]; intro e2; injection e2 with e2; omega
  by_cases hil : i < l.length
  · have h1 := (h.lies i hil).both
    have h2 : Lies (fun b => (B ≤ b ∧ v.ownBlock ≠ some b) ∧ b < w.heap.size) w4 l[i] (rows.getD i []) := h1.keep fun b ⟨⟨hb1, hb2⟩, hb3⟩ => ((hne b (Nat.lt_of_lt_of_le hb3 hw.size) hb2).1).trans (hw.block b hb3)
    have e1 : (l ++ [t])[i] = l[i] := List.getElem_append_left hil
    have e2 : (rows ++ [row]).getD i [] = rows.getD i [] := by
      simp only [List.getD_eq_getElem?_getD]
      rw [List.getElem?_append_left (by rw [h.len]; exact hil)]
    rw [e1, e2]
    exact h2.mono fun b ⟨⟨hb1, hb2⟩, hb3⟩ => ⟨hb1, (hne b (Nat.lt_of_lt_of_le hb3 hw.size) hb2).2⟩
  · have hi2 : i = l.length := by rw [List.length_append, List.length_singleton] at hi; omega
    subst hi2
    have h1 := ht.both
    have hvb : ∀ b, w.heap.size ≤ b → v.ownBlock ≠ some b := fun b hb e => by have := (h.own.size b e).2; omega
    have h2 : Lies (fun b => w.heap.size ≤ b ∧ b < w2.heap.size) w4 t row := h1.keep fun b ⟨hb1, hb2⟩ => (hne b hb2 (hvb b hb1)).1
    have e1 : (l ++ [t])[l.length] = t := by simp
    have e2 : (rows ++ [row]).getD l.length [] = row := by simp [List.getD_eq_getElem?_getD, ← h.len]
    rw [e1, e2]
    exact h2.mono fun b ⟨hb1, hb2⟩ => ⟨Nat.le_trans hB hb1, (hne b hb2 (hvb b hb1)).2⟩
theorem Made.far {w w' : World} {B : Nat} {v : Value} {rows : List (List Value)} {l : List Te} (h : Made w B v rows l) (hb : Below w.heap.size w w') : Made w' B v rows l :=
  ⟨h.own.below hb, h.len, fun i hi => ((h.lies i hi).both.keep fun b ⟨_, hb2⟩ => hb.block b hb2).mono fun b hh => hh.1⟩
/-- a term of what is made -/
theorem Made.is {w : World} {B : Nat} {v : Value} {rows : List (List Value)} {l : List Te} (h : Made w B v rows l) (k n : Int) : ∃ A m c, v = .slice A m c ∧ Is (fun b => B ≤ b) w (.node k n l) k n A m c := by
  obtain ⟨A, m, c, rfl, hr⟩ := h.own.rws
  refine ⟨A, m, c, rfl, ⟨.mk hr (fun hm a ha => ?_) (by rw [← h.len, hr.len]) fun i hi => (h.lies i hi).mono fun b hb => hb.1⟩⟩
  obtain ⟨b, off, hA, hc⟩ := hr.at_ hm
  rw [hA] at ha
  injection ha with ha
  subst ha
  rcases h.own.row.2 with ⟨hv, _⟩ | ⟨g, cap, cur, hv, hBg, _⟩
  · rw [hA] at hv
    cases hv
  · rw [hA] at hv
    injection hv with e _ _
    injection e with e
    injection e with e1 e2 _
    subst e1
    exact hBg
end Go.Proofs.Ytcpeaeefphgbaaa
