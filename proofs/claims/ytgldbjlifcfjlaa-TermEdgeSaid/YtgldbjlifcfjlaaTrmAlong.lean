/- The terms that stand in a row: what they are, and where they lie. -/
import Derived.Test.YtgldbjlifcfjlaaTrmNode
import Derived.Test.YtgldbjlifcfjlaaTrmRow2
namespace Go.Proofs.Ytgldbjlifcfjlaa
set_option linter.unusedVariables false
set_option linter.unusedSimpArgs false
open Go.RowKit

/-- the five parts of a term's cells -/
abbrev R5 := Int × Int × Option Addr × Nat × Nat
def r5V (r : R5) : Value := .agg #[.int .i64 r.1, .int .i64 r.2.1, .slice r.2.2.1 r.2.2.2.1 r.2.2.2.2]
/-- the terms that stand in a row, as parts of it -/
inductive Along (P : Nat → Prop) (w : World) : Te → R5 → List (Te × R5) → Prop
  | last {t : Te} {k n : Int} {A : Option Addr} {m c : Nat} (hn : ¬ (k = 2 ∧ nodeB k n m = true)) (h : Is P w t k n A m c) : Along P w t (k, n, A, m, c) [(t, (k, n, A, m, c))]
  | step {t u : Te} {b off c : Nat} {k1 n1 k2 n2 : Int} {A1 A2 : Option Addr} {m1 c1 m2 c2 : Nat} {L : List (Te × R5)} (hP : P b) (hI : Is P w (.node 2 0 [t, u]) 2 0 (some ⟨b, off, none⟩) 2 c) (h : Is P w t k1 n1 A1 m1 c1)
      (h0 : w.cell? ⟨b, off, none⟩ = some (.int .i64 k1)) (h1 : w.cell? ⟨b, off + 1, none⟩ = some (.int .i64 n1)) (h2 : w.cell? ⟨b, off + 2, none⟩ = some (.slice A1 m1 c1))
      (h3 : w.cell? ⟨b, off + 3, none⟩ = some (.int .i64 k2)) (h4 : w.cell? ⟨b, off + 4, none⟩ = some (.int .i64 n2)) (h5 : w.cell? ⟨b, off + 5, none⟩ = some (.slice A2 m2 c2))
      (hr : Along P w u (k2, n2, A2, m2, c2) L) : Along P w (.node 2 0 [t, u]) (2, 0, some ⟨b, off, none⟩, 2, c) ((t, (k1, n1, A1, m1, c1)) :: L)
theorem Along.pos {P : Nat → Prop} {w : World} {t : Te} {r : R5} {L : List (Te × R5)} (h : Along P w t r L) : 0 < L.length := by cases h <;> simp
theorem Along.is {P : Nat → Prop} {w : World} {t : Te} {r : R5} {L : List (Te × R5)} (h : Along P w t r L) : ∀ x ∈ L, Is P w x.1 x.2.1 x.2.2.1 x.2.2.2.1 x.2.2.2.2.1 x.2.2.2.2.2 := by
  induction h with
  | last hn h =>
    intro x hx
    rw [List.mem_singleton] at hx
    subst hx
    exact h
  | step hP hI h h0 h1 h2 h3 h4 h5 hr ih =>
    intro x hx
    rcases List.mem_cons.1 hx with rfl | hx
    · exact h
    · exact ih x hx
theorem along_there {P : Nat → Prop} {w : World} : ∀ (t : Te) (k n : Int) (A : Option Addr) (m c : Nat), Is P w t k n A m c → ∃ L, Along P w t (k, n, A, m, c) L := by
  refine Is.ind fun k n l A m c hI ih => ?_
  by_cases hk : k = 2 ∧ nodeB k n m = true
  · obtain ⟨rfl, hn⟩ := hk
    have hn2 : n = 0 ∧ m = 2 := by
      unfold nodeB at hn
      rw [decide_eq_true_eq] at hn
      omega
    obtain ⟨rfl, rfl⟩ := hn2
    obtain ⟨hl, -⟩ := hI.len
    obtain ⟨t, u, rfl⟩ : ∃ t u, l = [t, u] := by
      match l, hl with
      | [t, u], _ => exact ⟨t, u, rfl⟩
    obtain ⟨b, off, k1, n1, A1, m1, c1, rfl, hPb, hbl, hI1, h0, h1, h2⟩ := hI.arg 0 (by omega) (by simp)
    obtain ⟨b', off', k2, n2, A2, m2, c2, he, _, _, hI2, h3, h4, h5⟩ := hI.arg 1 (by omega) (by simp)
    injection he with he
    injection he with e1 e2 _
    subst e1 e2
    obtain ⟨L, hL⟩ := ih 1 (by simp) k2 n2 A2 m2 c2 hI2
    exact ⟨_, .step hPb hI hI1 (by simpa using h0) (by simpa using h1) (by simpa using h2) (by simpa using h3) (by simpa using h4) (by simpa using h5) hL⟩
  · exact ⟨_, .last hk hI⟩
/-- the terms that stand in a row -/
theorem Along.keep {P : Nat → Prop} {w w' : World} {t : Te} {r : R5} {L : List (Te × R5)} (h : Along P w t r L) (hb : ∀ b, P b → w'.heap[b]? = w.heap[b]?) : Along P w' t r L := by
  induction h with
  | last hn h => exact .last hn (h.keep hb)
  | @step t u b off c k1 n1 k2 n2 A1 A2 m1 c1 m2 c2 L hP hI h h0 h1 h2 h3 h4 h5 hr ih =>
    have hc : ∀ o, w'.cell? ⟨b, o, none⟩ = w.cell? ⟨b, o, none⟩ := fun o => World.cell?_of_block (w := w) (a := ⟨b, o, none⟩) (hb b hP)
    exact .step hP (hI.keep hb) (h.keep hb) ((hc _).trans h0) ((hc _).trans h1) ((hc _).trans h2) ((hc _).trans h3) ((hc _).trans h4) ((hc _).trans h5) ih

/-- may a term stand in a row as one of its words? -/
def wordB (r : R5) : Bool := decide (r.1 = 0) && nodeB r.1 r.2.1 r.2.2.2.1
theorem wordB_is {P : Nat → Prop} {w : World} {t : Te} {k n : Int} {A : Option Addr} {m c : Nat} (h : Is P w t k n A m c) : wordB (k, n, A, m, c) = true ↔ t = .node 0 n [] ∧ 0 ≤ n := by
  obtain ⟨l, rows, rfl, hl, _⟩ := h.inv
  unfold wordB nodeB
  simp only [Bool.and_eq_true, decide_eq_true_eq, Te.node.injEq]
  constructor
  · rintro ⟨rfl, h2⟩
    refine ⟨⟨rfl, trivial, List.eq_nil_of_length_eq_zero (by omega)⟩, by omega⟩
  · rintro ⟨⟨rfl, _, rfl⟩, h2⟩
    have : m = 0 := by simpa using hl.symm
    exact ⟨rfl, by omega⟩
/-- the numbers of a row's words -/
def nums (L : List (Te × R5)) : List Int := L.map fun x => x.2.2.1
/-- which numbers' row a term is: they, if it is one -/
def unB (L : List (Te × R5)) : Bool := decide (L.length ≤ 12) && L.all (fun x => wordB x.2)
/-- a term is a row just if all that stand in it are words, and no more than 12: then of these -/
theorem along_row {P : Nat → Prop} {w : World} {t : Te} {r : R5} {L : List (Te × R5)} (h : Along P w t r L) : L.all (fun x => wordB x.2) = true → t = rowT (nums L) ∧ ∀ x ∈ nums L, 0 ≤ x := by
  induction h with
  | @last t k n A m c hn h =>
    intro ha
    simp only [List.all_cons, List.all_nil, Bool.and_true] at ha
    obtain ⟨e1, e2⟩ := (wordB_is h).1 ha
    refine ⟨by rw [e1]; rfl, fun x hx => ?_⟩
    simp only [nums, List.map_cons, List.map_nil, List.mem_singleton] at hx
    rw [hx]; exact e2
  | @step t u b off c k1 n1 k2 n2 A1 A2 m1 c1 m2 c2 L hP hI h h0 h1 h2 h3 h4 h5 hr ih =>
    intro ha
    rw [List.all_cons, Bool.and_eq_true] at ha
    obtain ⟨e1, e2⟩ := (wordB_is h).1 ha.1
    obtain ⟨e3, e4⟩ := ih ha.2
    cases L with
    | nil => have := hr.pos; simp at this
    | cons y L =>
      refine ⟨?_, fun x hx => ?_⟩
      · rw [e1, e3]
        rfl
      · simp only [nums, List.map_cons, List.mem_cons] at hx
        rcases hx with rfl | hx
        · exact e2
        · exact e4 x (by simpa [nums] using hx)
/-- and what is a row tells its numbers -/
theorem along_back {P : Nat → Prop} {w : World} {t : Te} {r : R5} {L : List (Te × R5)} (h : Along P w t r L) : ∀ l : List Int, 0 < l.length → (∀ x ∈ l, 0 ≤ x) → t = rowT l → nums L = l ∧ L.all (fun x => wordB x.2) = true := by
  induction h with
  | @last t k n A m c hn h =>
    intro l hl hp he
    match l, hl with
    | [x], _ =>
      obtain ⟨l', rows, e1, e2, _⟩ := h.inv
      subst he
      have hk : k = 0 ∧ n = x := by
        rw [rowT] at e1
        injection e1 with a1 a2 _
        exact ⟨a1.symm, a2.symm⟩
      obtain ⟨rfl, rfl⟩ := hk
      refine ⟨rfl, ?_⟩
      simp only [List.all_cons, List.all_nil, Bool.and_true]
      exact (wordB_is h).2 ⟨rfl, hp _ (by simp)⟩
    | x :: y :: l, _ =>
      exfalso
      obtain ⟨l', rows, e1, e2, _⟩ := h.inv
      subst he
      rw [rowT] at e1
      injection e1 with a1 a2 a3
      refine hn ⟨a1.symm, ?_⟩
      unfold nodeB
      rw [decide_eq_true_eq]
      rw [← a3] at e2
      simp at e2
      omega
  | @step t u b off c k1 n1 k2 n2 A1 A2 m1 c1 m2 c2 L hP hI h h0 h1 h2 h3 h4 h5 hr ih =>
    intro l hl hp he
    match l, hl with
    | [x], _ =>
      rw [rowT] at he
      injection he with a1 _ _
      omega
    | x :: y :: l, _ =>
      rw [rowT] at he
      injection he with _ _ a3
      injection a3 with b1 b2
      injection b2 with b2 _
      obtain ⟨i1, i2⟩ := ih (y :: l) (by simp) (fun z hz => hp z (by simp at hz ⊢; right; exact hz)) b2
      subst b1
      have hk : k1 = 0 ∧ n1 = x := by
        obtain ⟨l', rows, e1, e2, _⟩ := h.inv
        injection e1 with a1 a2 _
        exact ⟨a1.symm, a2.symm⟩
      obtain ⟨rfl, rfl⟩ := hk
      refine ⟨?_, ?_⟩
      · simp only [nums, List.map_cons] at i1 ⊢
        rw [i1]
      · rw [List.all_cons, i2, Bool.and_true]
        exact (wordB_is h).2 ⟨rfl, hp _ (by simp)⟩
end Go.Proofs.Ytgldbjlifcfjlaa
