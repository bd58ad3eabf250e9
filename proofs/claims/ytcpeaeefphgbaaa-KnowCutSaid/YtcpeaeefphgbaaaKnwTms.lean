/- A slice of terms, read as the Args of a node: one of it; without its first ones; the laws' arguments, opened. -/
import Derived.Test.YtcpeaeefphgbaaaKnwSpec
import Derived.Test.YtcpeaeefphgbaaaTrmOpen
import Derived.Test.YtcpeaeefphgbaaaTrmMay
import Derived.Test.YtcpeaeefphgbaaaTrmRefSz
namespace Go.Proofs.Ytcpeaeefphgbaaa
set_option linter.unusedVariables false
set_option linter.unusedSimpArgs false
open Go.ChangeShapes Go.WideShapes Go.ChangeAt Go.RowKit

/-- the cells of one of them, in a later world -/
theorem Is.at_ {P : Nat → Prop} {w wr : World} {k n : Int} {l : List Te} {A : Option Addr} {m c : Nat} (h : Is P w (.node k n l) k n A m c) (hb : Below w.heap.size w wr) (j : Nat) (hj : j < m) (hjl : j < l.length) :
    ∃ b off k' n' A' m' c', A = some ⟨b, off, none⟩ ∧ Is P wr l[j] k' n' A' m' c' ∧ wr.cell? ⟨b, off + j * 3, none⟩ = some (.int .i64 k') ∧ wr.cell? ⟨b, off + j * 3 + 1, none⟩ = some (.int .i64 n') ∧ wr.cell? ⟨b, off + j * 3 + 2, none⟩ = some (.slice A' m' c') := by
  obtain ⟨b, off, k', n', A', m', c', hA, hP, hlt, hI, h0, h1, h2⟩ := h.arg j hj hjl
  exact ⟨b, off, k', n', A', m', c', hA, hI.later hb, (hb.cell (p := ⟨b, off + j * 3, none⟩) hlt).trans h0, (hb.cell (p := ⟨b, off + j * 3 + 1, none⟩) hlt).trans h1, (hb.cell (p := ⟨b, off + j * 3 + 2, none⟩) hlt).trans h2⟩
theorem isIn_take {l : List Te} {t : Te} (j : Nat) (hj : j < l.length) : isIn (l.take (j + 1)) t = (isIn (l.take j) t || l[j].same t) := by
  rw [isIn, isIn, List.take_succ_eq_append_getElem hj, List.any_append, List.any_cons, List.any_nil, Bool.or_false]
theorem isIn_stop {l : List Te} {t : Te} (j : Nat) (hj : j < l.length) (h : l[j].same t = true) : isIn l t = true := by
  rw [isIn, List.any_eq_true]
  exact ⟨_, List.getElem_mem hj, h⟩
def lightsB (l : List Te) : Bool := decide (l.length ≤ 50) && l.all fun t => lightB t 150 20
theorem lights_iff {l : List Te} : lightsB l = true ↔ l.length ≤ 50 ∧ ∀ t ∈ l, t.depth ≤ 20 ∧ t.size ≤ 150 := by
  simp [lightsB, lightB]
theorem lights_sizes {l : List Te} (h : lightsB l = true) : Te.sizes l ≤ 7500 := by
  obtain ⟨h1, h2⟩ := lights_iff.1 h
  have key : ∀ l : List Te, (∀ t ∈ l, t.size ≤ 150) → Te.sizes l ≤ 150 * l.length := by
    intro l
    induction l with
    | nil => intro _; simp [Te.sizes]
    | cons t l ih =>
      intro h
      have h3 := ih fun u hu => h u (by simp [hu])
      have h4 := h t (by simp)
      simp only [Te.sizes, List.length_cons]
      omega
  have := key l fun t ht => (h2 t ht).2
  omega
theorem lights_small {l : List Te} (h : lightsB l = true) : ∀ t ∈ l, (t.size : Int) ≤ 4611686018427387904 := fun t ht => by
  have := ((lights_iff.1 h).2 t ht).2
  omega
theorem all_take {p : Te → Bool} {l : List Te} (j : Nat) (hj : j < l.length) : (l.take (j + 1)).all p = ((l.take j).all p && p l[j]) := by
  rw [List.take_succ_eq_append_getElem hj, List.all_append, List.all_cons, List.all_nil, Bool.and_true]
theorem all_stop {p : Te → Bool} {l : List Te} (j : Nat) (hj : j < l.length) (h : p l[j] = false) : l.all p = false := by
  rw [← Bool.not_eq_true, List.all_eq_true]
  intro hh
  rw [hh _ (List.getElem_mem hj)] at h
  cases h
section
variable {H : Type} {enc : TypeId × Value → H} {W : World} {base : Nat} {spare : Nat → Bool} {held : Bool}
theorem terms_cells (fuel : Nat) (cs : List Value) (x : DataW H × List MemPlace) (h : DataW.trod enc Try.prog W base spare held fuel 22 cs = some x) :
    ∃ A m c l, cs = [.slice A m c] ∧ Is (· < W.heap.size) W (.node 0 0 l) 0 0 A m c := by
  rcases DataW.trod_slice Try.underlying22 (x := x) h with ⟨e2, _⟩ | ⟨a, len, cap, elems, rest, n', _, e2, _, _, hle, hmx, hel, hx', _, _⟩
  · exact ⟨none, 0, 0, [], e2, ⟨.mk (Rws.nil 3 W) (fun h => by omega) rfl (fun i hi => by simp at hi)⟩⟩
  · have each : ∀ i, i < len → ∃ r : Te × List Value, Lies (· < W.heap.size) W r.1 r.2 ∧ ∀ j, j < 3 → W.cell? ((a.add (i * 3)).add j) = r.2[j]? := by
      intro i hi
      have key := hx' i hi
      rw [List.getElem?_eq_getElem (by omega), cellsTerm] at key
      obtain ⟨cs', h1, h2⟩ := Option.bind_eq_some_iff.1 key
      obtain ⟨_, h3, h4⟩ := World.cells?_some h1
      obtain ⟨t, ht⟩ := term_cells n' cs' _ h3 h2
      exact ⟨(t, cs'), ht, h4⟩
    haveI : Inhabited (Te × List Value) := ⟨(.node 0 0 [], [])⟩
    obtain ⟨q, hq⟩ := Go.Deep.choose_lt each
    have hr : Rws 3 W (some a) len cap ((List.range len).map fun i => (q i).2) := by
      refine ⟨by simp, ?_, ?_, hle, hmx, (fun e => by cases e), ?_⟩
      · intro r hr
        obtain ⟨i, hi, rfl⟩ := List.mem_map.1 hr
        obtain ⟨_, _, _, _, _, e⟩ := (hq i (List.mem_range.1 hi)).1.three
        rw [e]; rfl
      · intro r hr u hu
        obtain ⟨i, hi, rfl⟩ := List.mem_map.1 hr
        obtain ⟨k', n', A', m', c', e⟩ := (hq i (List.mem_range.1 hi)).1.three
        rw [e] at hu
        exact row_one k' n' A' m' c' u hu
      · intro hn
        obtain ⟨ab, ao, am⟩ := a
        obtain ⟨k', n', A', m', c', e⟩ := (hq 0 hn).1.three
        have h0 := (hq 0 hn).2 0 (by omega)
        have ham : am = none := by
          rw [e] at h0
          simpa [Addr.add] using World.cell?_spot h0
        subst ham
        refine ⟨ab, ao, rfl, fun j hj i hi => ?_⟩
        have h1 := (hq j hj).2 i hi
        rw [add_two] at h1
        obtain ⟨k', n', A', m', c', e⟩ := (hq j hj).1.three
        rw [h1]
        have hl3 : i < (q j).2.length := by rw [e]; exact hi
        simp [List.getD_eq_getElem?_getD, List.getElem?_range hj, hl3]
    refine ⟨some a, len, cap, (List.range len).map fun i => (q i).1, e2, ⟨.mk hr (fun hm b hb => ?_) (by simp) fun i hi => ?_⟩⟩
    · obtain ⟨b', off, hA, hc⟩ := hr.at_ hm
      rw [hA] at hb
      injection hb with hb
      subst hb
      exact block_lt_of_cell (hc 0 hm 0 (by omega))
    · have hi' : i < len := by simpa using hi
      have e1 : ((List.range len).map fun i => (q i).1)[i] = (q i).1 := by simp
      have e2 : ((List.range len).map fun i => (q i).2).getD i [] = (q i).2 := by simp [List.getD_eq_getElem?_getD, List.getElem?_range hi']
      rw [e1, e2]
      exact (hq i hi').1
/-- an argument that is a slice of terms -/
theorem open_terms {v : Value} {r : Reach} {b0 : Nat} {d : DataW H} {p : List MemPlace} (hv : Value.okWide Try.prog W r b0 22 v) (h : DataW.Trod enc Try.prog W base spare held 22 v d p) :
    ∃ (l : List Te) (A : Option Addr) (m c : Nat), v = .slice A m c ∧ Is (· < W.heap.size) W (.node 0 0 l) 0 0 A m c := by
  obtain ⟨A, m, c, rfl⟩ := okWide_slice Try.underlying22 hv
  obtain ⟨fuel, hf⟩ := h
  obtain ⟨A', m', c', l, hcs, hl⟩ := terms_cells fuel _ _ hf
  simp only [Value.cells, List.cons.injEq, Value.slice.injEq, and_true] at hcs
  obtain ⟨rfl, rfl, rfl⟩ := hcs
  exact ⟨l, A, m, c, rfl, hl⟩
end
end Go.Proofs.Ytcpeaeefphgbaaa
