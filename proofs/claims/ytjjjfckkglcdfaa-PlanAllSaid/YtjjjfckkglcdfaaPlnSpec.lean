/- Plans, plainly: stages, which plans fit, alone and together, the next stage, the least green, the cycle. -/
import Derived.Test.YtjjjfckkglcdfaaGrpPure
import Derived.Test.YtjjjfckkglcdfaaBasRows
namespace Go.Proofs.Ytjjjfckkglcdfaa
set_option maxRecDepth 100000
set_option linter.unusedVariables false
set_option linter.unusedSimpArgs false
open Go.RowKit

/-- a stage: its groups, at least so many ticks, at most so many -/
structure Stg where
  g : Int
  mn : Int
  mx : Int
deriving DecidableEq
def Stg.zero : Stg := ⟨0, 0, 0⟩
def Stg.row (x : Stg) : List Value := [.int .i64 x.g, .int .i64 x.mn, .int .i64 x.mx]
/-- a plan: where its matrix lies, and what it is; its stages likewise; amber, red, hold -/
structure Pl where
  A : Option Addr
  n : Nat
  c : Nat
  m : List Int
  B : Option Addr
  k : Nat
  d : Nat
  s : List Stg
  am : Int
  rd : Int
  hd : Int
def Pl.zero : Pl := ⟨none, 0, 0, [], none, 0, 0, [], 0, 0, 0⟩
def Pl.row (p : Pl) : List Value := [.slice p.A p.n p.c, .slice p.B p.k p.d, .int .i64 p.am, .int .i64 p.rd, .int .i64 p.hd]
def plV (p : Pl) : Value := .agg #[.slice p.A p.n p.c, .slice p.B p.k p.d, .int .i64 p.am, .int .i64 p.rd, .int .i64 p.hd]
theorem plV_row (p : Pl) : plV p = .agg p.row.toArray := rfl
/-- a slice of stages -/
def Sts (w : World) (B : Option Addr) (k d : Nat) (l : List Stg) : Prop := Rws 3 w B k d (l.map Stg.row)
section
variable {w w' : World} {A : Option Addr} {n c : Nat} {l : List Stg}
theorem Sts.len (h : Sts w A n c l) : l.length = n := by rw [← Rws.len h, List.length_map]
theorem Sts.small (h : Sts w A n c l) : n ≤ 9223372036854775807 := Rws.small h
theorem Sts.below (h : Sts w A n c l) (hb : Below w.heap.size w w') : Sts w' A n c l := Rws.below h hb
theorem Sts.draw1 (h : Sts w A n c l) : Sts w.drew A n c l := Rws.draw1 h
theorem Sts.at_ (h : Sts w A n c l) (j : Nat) (hj : j < n) : ∃ b off x, A = some ⟨b, off, none⟩ ∧ l.getD j Stg.zero = x ∧ x ∈ l ∧ l[j]? = some x ∧ w.cell? ⟨b, off + j * 3, none⟩ = some (.int .i64 x.g) ∧ w.cell? ⟨b, off + j * 3 + 1, none⟩ = some (.int .i64 x.mn) ∧ w.cell? ⟨b, off + j * 3 + 2, none⟩ = some (.int .i64 x.mx) := by
  obtain ⟨b, off, hA, hc⟩ := Rws.at_ h (by omega)
  have hl : j < l.length := by rw [h.len]; exact hj
  have hm : l[j] ∈ l := List.getElem_mem hl
  have hr : (l.map Stg.row).getD j [] = l[j].row := by simp [List.getD_eq_getElem?_getD, hl]
  refine ⟨b, off, l[j], hA, by simp [List.getD_eq_getElem?_getD, hl], hm, by simp [hl], ?_, ?_, ?_⟩
  · have := hc j hj 0 (by omega)
    rw [hr] at this
    exact this
  · have := hc j hj 1 (by omega)
    rw [hr] at this
    exact this
  · have := hc j hj 2 (by omega)
    rw [hr] at this
    exact this
end
/-- a plan whose matrix and stages lie so -/
structure PlIn (w : World) (p : Pl) : Prop where
  m : Its .i64 w p.A p.n p.c p.m
  s : Sts w p.B p.k p.d p.s
section
variable {w w' : World} {p : Pl}
theorem PlIn.below (h : PlIn w p) (hb : Below w.heap.size w w') : PlIn w' p := ⟨h.m.below hb, h.s.below hb⟩
theorem PlIn.draw1 (h : PlIn w p) : PlIn w.drew p := ⟨h.m.draw1, h.s.draw1⟩
end
/-- a block that holds a plan -/
def BoxP (w : World) (g : Nat) (p : Pl) : Prop := w.heap[g]? = some (.cells #[.slice p.A p.n p.c, .slice p.B p.k p.d, .int .i64 p.am, .int .i64 p.rd, .int .i64 p.hd] 25 (0, 0))
section
variable {w w' : World} {g : Nat} {p : Pl}
theorem BoxP.new (w : World) (p : Pl) : BoxP (w.alloc (.cells #[.slice p.A p.n p.c, .slice p.B p.k p.d, .int .i64 p.am, .int .i64 p.rd, .int .i64 p.hd] 25)) w.heap.size p := heap_alloc_new w _
theorem BoxP.lt (h : BoxP w g p) : g < w.heap.size := (Array.getElem?_eq_some_iff.1 h).1
theorem BoxP.below (h : BoxP w g p) (hb : Below w.heap.size w w') : BoxP w' g p := (hb.block g h.lt).trans h
theorem BoxP.low {B : Nat} (h : BoxP w g p) (hb : Below B w w') (hg : g < B) : BoxP w' g p := (hb.block g hg).trans h
theorem BoxP.cells (h : BoxP w g p) : w.cell? ⟨g, 0, none⟩ = some (.slice p.A p.n p.c) ∧ w.cell? ⟨g, 1, none⟩ = some (.slice p.B p.k p.d) ∧ w.cell? ⟨g, 2, none⟩ = some (.int .i64 p.am) ∧ w.cell? ⟨g, 3, none⟩ = some (.int .i64 p.rd) ∧ w.cell? ⟨g, 4, none⟩ = some (.int .i64 p.hd) :=
  ⟨(cell_of_row _ _ _ _ _ _ h).trans rfl, (cell_of_row _ _ _ _ _ _ h).trans rfl, (cell_of_row _ _ _ _ _ _ h).trans rfl, (cell_of_row _ _ _ _ _ _ h).trans rfl, (cell_of_row _ _ _ _ _ _ h).trans rfl⟩
end
/-- a slice of plans -/
structure Pls (w : World) (A : Option Addr) (n c : Nat) (l : List Pl) : Prop where
  rws : Rws 5 w A n c (l.map Pl.row)
  pl : ∀ p ∈ l, PlIn w p
section
variable {w w' : World} {A : Option Addr} {n c : Nat} {l : List Pl}
theorem Pls.len (h : Pls w A n c l) : l.length = n := by rw [← h.rws.len, List.length_map]
theorem Pls.small (h : Pls w A n c l) : n ≤ 9223372036854775807 := h.rws.small
theorem Pls.below (h : Pls w A n c l) (hb : Below w.heap.size w w') : Pls w' A n c l := ⟨h.rws.below hb, fun p hp => (h.pl p hp).below hb⟩
theorem Pls.nil (w : World) : Pls w none 0 0 [] := ⟨Rws.nil 5 w, fun p hp => by cases hp⟩
theorem Pls.at_ (h : Pls w A n c l) (j : Nat) (hj : j < n) : ∃ b off p, A = some ⟨b, off, none⟩ ∧ l.getD j Pl.zero = p ∧ p ∈ l ∧ l[j]? = some p ∧ PlIn w p ∧ w.cell? ⟨b, off + j * 5, none⟩ = some (.slice p.A p.n p.c) ∧ w.cell? ⟨b, off + j * 5 + 1, none⟩ = some (.slice p.B p.k p.d) ∧
    w.cell? ⟨b, off + j * 5 + 2, none⟩ = some (.int .i64 p.am) ∧ w.cell? ⟨b, off + j * 5 + 3, none⟩ = some (.int .i64 p.rd) ∧ w.cell? ⟨b, off + j * 5 + 4, none⟩ = some (.int .i64 p.hd) := by
  obtain ⟨b, off, hA, hc⟩ := h.rws.at_ (by omega)
  have hl : j < l.length := by rw [h.len]; exact hj
  have hm : l[j] ∈ l := List.getElem_mem hl
  have hr : (l.map Pl.row).getD j [] = l[j].row := by simp [List.getD_eq_getElem?_getD, hl]
  refine ⟨b, off, l[j], hA, by simp [List.getD_eq_getElem?_getD, hl], hm, by simp [hl], h.pl _ hm, ?_, ?_, ?_, ?_, ?_⟩
  · have := hc j hj 0 (by omega)
    rw [hr] at this
    exact this
  · have := hc j hj 1 (by omega)
    rw [hr] at this
    exact this
  · have := hc j hj 2 (by omega)
    rw [hr] at this
    exact this
  · have := hc j hj 3 (by omega)
    rw [hr] at this
    exact this
  · have := hc j hj 4 (by omega)
    rw [hr] at this
    exact this
end
/-- may this stage be, of this matrix? -/
def stageB (m : List Int) (x : Stg) : Bool := freeM m x.g && (decide (x.g ≠ 0) && (decide (1 ≤ x.mn) && (decide (x.mn ≤ 200) && (decide (x.mn ≤ x.mx) && decide (x.mx ≤ 200)))))
/-- has some stage group g? -/
def someB (s : List Stg) (g : Nat) : Bool := s.any fun x => bitI x.g g
def spanB (p : Pl) : Bool := decide (1 ≤ p.am) && (decide (p.am ≤ 200) && (decide (1 ≤ p.rd) && (decide (p.rd ≤ 200) && (decide (0 ≤ p.hd) && decide (p.hd ≤ 300)))))
def fitP (p : Pl) : Bool := mayM p.m && (decide (2 ≤ p.s.length ∧ p.s.length ≤ 6) && (p.s.all (stageB p.m) && ((List.range p.m.length).all (someB p.s) && spanB p)))
def nextP (p : Pl) (k : Int) : Int := if fitP p = true ∧ 0 ≤ k ∧ k < p.s.length then (if k = p.s.length - 1 then 0 else k + 1) else -1
def leastF (g : Nat) : List Stg → Int → Int
  | [], o => o
  | x :: l, o => leastF g l (if bitI x.g g = true ∧ (o = 0 ∨ x.mn < o) then x.mn else o)
def leastP (p : Pl) (g : Int) : Int := if fitP p = true ∧ 0 ≤ g ∧ g < p.m.length then leastF g.toNat p.s 0 else 0
def cycF (am rd : Int) : List Stg → Int → Int
  | [], o => o
  | x :: l, o => cycF am rd l (o + x.mn + am + rd)
def cycP (p : Pl) : Int := if fitP p = true then cycF p.am p.rd p.s 0 else 0
def samePl (p q : Pl) : Bool := decide (p.m = q.m) && (decide (p.s = q.s) && (decide (p.am = q.am) && (decide (p.rd = q.rd) && decide (p.hd = q.hd))))
def allP (l : List Pl) : Bool := decide (1 ≤ l.length ∧ l.length ≤ 3) && l.all fun p => fitP p && decide (p.m.length = (l.headD Pl.zero).m.length)
/-- what a plan that fits has -/
structure Fits (p : Pl) : Prop where
  may : mayM p.m = true
  two : 2 ≤ p.s.length
  six : p.s.length ≤ 6
  stage : ∀ x ∈ p.s, freeM p.m x.g = true ∧ x.g ≠ 0 ∧ 1 ≤ x.mn ∧ x.mn ≤ 200 ∧ x.mn ≤ x.mx ∧ x.mx ≤ 200
  some : ∀ g, g < p.m.length → ∃ x ∈ p.s, bitI x.g g = true
  am1 : 1 ≤ p.am
  am2 : p.am ≤ 200
  rd1 : 1 ≤ p.rd
  rd2 : p.rd ≤ 200
  hd1 : 0 ≤ p.hd
  hd2 : p.hd ≤ 300
theorem stage_iff {m : List Int} {x : Stg} : stageB m x = true ↔ freeM m x.g = true ∧ x.g ≠ 0 ∧ 1 ≤ x.mn ∧ x.mn ≤ 200 ∧ x.mn ≤ x.mx ∧ x.mx ≤ 200 := by
  simp only [stageB, Bool.and_eq_true, decide_eq_true_eq]
theorem span_iff {p : Pl} : spanB p = true ↔ 1 ≤ p.am ∧ p.am ≤ 200 ∧ 1 ≤ p.rd ∧ p.rd ≤ 200 ∧ 0 ≤ p.hd ∧ p.hd ≤ 300 := by
  simp only [spanB, Bool.and_eq_true, decide_eq_true_eq]
theorem some_iff {s : List Stg} {g : Nat} : someB s g = true ↔ ∃ x ∈ s, bitI x.g g = true := List.any_eq_true
theorem fit_iff {p : Pl} : fitP p = true ↔ Fits p := by
  simp only [fitP, Bool.and_eq_true, decide_eq_true_eq, List.all_eq_true, stage_iff, span_iff, some_iff, List.mem_range]
  exact ⟨fun ⟨h1, ⟨h2, h3⟩, h4, h5, a, b, c, d, e, f⟩ => ⟨h1, h2, h3, h4, h5, a, b, c, d, e, f⟩, fun h => ⟨h.may, ⟨h.two, h.six⟩, h.stage, h.some, h.am1, h.am2, h.rd1, h.rd2, h.hd1, h.hd2⟩⟩
theorem same_iff {p q : Pl} : samePl p q = true ↔ p.m = q.m ∧ p.s = q.s ∧ p.am = q.am ∧ p.rd = q.rd ∧ p.hd = q.hd := by
  simp only [samePl, Bool.and_eq_true, decide_eq_true_eq]
theorem all_iff {l : List Pl} : allP l = true ↔ (1 ≤ l.length ∧ l.length ≤ 3) ∧ ∀ p ∈ l, fitP p = true ∧ p.m.length = (l.headD Pl.zero).m.length := by
  simp only [allP, Bool.and_eq_true, decide_eq_true_eq, List.all_eq_true]
end Go.Proofs.Ytjjjfckkglcdfaa
