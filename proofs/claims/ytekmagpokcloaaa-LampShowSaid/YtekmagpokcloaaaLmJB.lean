/- Joined texts: Plans, plainly: stages, which plans fit, alone and together, the next stage, the least green, the cycle. The operations on sets that Go has: and, or, shifts of small numbers. A region that draws its order, walked by hand: one operation after another, taken first. The steps of a region that draws its order, in short: what is reckoned is filled in. The walks over the document's pow and In. The walk over the document's May of a matrix. The walk over the document's Free of a set. The walk over the document's Against of a set. The walks over the document's stage of a plan, and Has. -/
import Derived.Test.YtekmagpokcloaaaLmJA
/- Plans, plainly: stages, which plans fit, alone and together, the next stage, the least green, the cycle. -/
namespace Go.Proofs.Ytekmagpokcloaaa
set_option maxRecDepth 100000
set_option linter.unusedVariables false
set_option linter.unusedSimpArgs false
open Go.RowKit

/-- a stage: its groups, at least so many ticks, at most so many -/
structure Stg where
  g : Int
  mn : Int
  mx : Int
deriving DecidableEq
def Stg.zero : Stg := ⟨0, 0, 0⟩
def Stg.row (x : Stg) : List Value := [.int .i64 x.g, .int .i64 x.mn, .int .i64 x.mx]
/-- a plan: where its matrix lies, and what it is; its stages likewise; amber, red, hold -/
structure Pl where
  A : Option Addr
  n : Nat
  c : Nat
  m : List Int
  B : Option Addr
  k : Nat
  d : Nat
  s : List Stg
  am : Int
  rd : Int
  hd : Int
def Pl.zero : Pl := ⟨none, 0, 0, [], none, 0, 0, [], 0, 0, 0⟩
def Pl.row (p : Pl) : List Value := [.slice p.A p.n p.c, .slice p.B p.k p.d, .int .i64 p.am, .int .i64 p.rd, .int .i64 p.hd]
def plV (p : Pl) : Value := .agg #[.slice p.A p.n p.c, .slice p.B p.k p.d, .int .i64 p.am, .int .i64 p.rd, .int .i64 p.hd]
theorem plV_row (p : Pl) : plV p = .agg p.row.toArray := rfl
/-- a slice of stages -/
def Sts (w : World) (B : Option Addr) (k d : Nat) (l : List Stg) : Prop := Rws 3 w B k d (l.map Stg.row)
section
variable {w w' : World} {A : Option Addr} {n c : Nat} {l : List Stg}
theorem Sts.len (h : Sts w A n c l) : l.length = n := by rw [← Rws.len h, List.length_map]
theorem Sts.small (h : Sts w A n c l) : n ≤ 9223372036854775807 := Rws.small h
theorem Sts.below (h : Sts w A n c l) (hb : Below w.heap.size w w') : Sts w' A n c l := Rws.below h hb
theorem Sts.draw1 (h : Sts w A n c l) : Sts w.drew A n c l := Rws.draw1 h
theorem Sts.at_ (h : Sts w A n c l) (j : Nat) (hj : j < n) : ∃ b off x, A = some ⟨b, off, none⟩ ∧ l.getD j Stg.zero = x ∧ x ∈ l ∧ l[j]? = some x ∧ w.cell? ⟨b, off + j * 3, none⟩ = some (.int .i64 x.g) ∧ w.cell? ⟨b, off + j * 3 + 1, none⟩ = some (.int .i64 x.mn) ∧ w.cell? ⟨b, off + j * 3 + 2, none⟩ = some (.int .i64 x.mx) := by
  obtain ⟨b, off, hA, hc⟩ := Rws.at_ h (by omega)
  have hl : j < l.length := by rw [h.len]; exact hj
  have hm : l[j] ∈ l := List.getElem_mem hl
  have hr : (l.map Stg.row).getD j [] = l[j].row := by simp [List.getD_eq_getElem?_getD, hl]
  refine ⟨b, off, l[j], hA, by simp [List.getD_eq_getElem?_getD, hl], hm, by simp [hl], ?_, ?_, ?_⟩
  · have := hc j hj 0 (by omega)
    rw [hr] at this
    exact this
  · have := hc j hj 1 (by omega)
    rw [hr] at this
    exact this
  · have := hc j hj 2 (by omega)
    rw [hr] at this
    exact this
end
/-- a plan whose matrix and stages lie so -/
structure PlIn (w : World) (p : Pl) : Prop where
  m : Its .i64 w p.A p.n p.c p.m
  s : Sts w p.B p.k p.d p.s
section
variable {w w' : World} {p : Pl}
theorem PlIn.below (h : PlIn w p) (hb : Below w.heap.size w w') : PlIn w' p := ⟨h.m.below hb, h.s.below hb⟩
theorem PlIn.draw1 (h : PlIn w p) : PlIn w.drew p := ⟨h.m.draw1, h.s.draw1⟩
end
/-- a block that holds a plan -/
def BoxP (w : World) (g : Nat) (p : Pl) : Prop := w.heap[g]? = some (.cells #[.slice p.A p.n p.c, .slice p.B p.k p.d, .int .i64 p.am, .int .i64 p.rd, .int .i64 p.hd] 25 (0, 0))
section
variable {w w' : World} {g : Nat} {p : Pl}
theorem BoxP.new (w : World) (p : Pl) : BoxP (w.alloc (.cells #[.slice p.A p.n p.c, .slice p.B p.k p.d, .int .i64 p.am, .int .i64 p.rd, .int .i64 p.hd] 25)) w.heap.size p := heap_alloc_new w _
theorem BoxP.lt (h : BoxP w g p) : g < w.heap.size := (Array.getElem?_eq_some_iff.1 h).1
theorem BoxP.below (h : BoxP w g p) (hb : Below w.heap.size w w') : BoxP w' g p := (hb.block g h.lt).trans h
theorem BoxP.low {B : Nat} (h : BoxP w g p) (hb : Below B w w') (hg : g < B) : BoxP w' g p := (hb.block g hg).trans h
theorem BoxP.cells (h : BoxP w g p) : w.cell? ⟨g, 0, none⟩ = some (.slice p.A p.n p.c) ∧ w.cell? ⟨g, 1, none⟩ = some (.slice p.B p.k p.d) ∧ w.cell? ⟨g, 2, none⟩ = some (.int .i64 p.am) ∧ w.cell? ⟨g, 3, none⟩ = some (.int .i64 p.rd) ∧ w.cell? ⟨g, 4, none⟩ = some (.int .i64 p.hd) :=
  ⟨(cell_of_row _ _ _ _ _ _ h).trans rfl, (cell_of_row _ _ _ _ _ _ h).trans rfl, (cell_of_row _ _ _ _ _ _ h).trans rfl, (cell_of_row _ _ _ _ _ _ h).trans rfl, (cell_of_row _ _ _ _ _ _ h).trans rfl⟩
end
/-- a slice of plans -/
structure Pls (w : World) (A : Option Addr) (n c : Nat) (l : List Pl) : Prop where
  rws : Rws 5 w A n c (l.map Pl.row)
  pl : ∀ p ∈ l, PlIn w p
section
variable {w w' : World} {A : Option Addr} {n c : Nat} {l : List Pl}
theorem Pls.len (h : Pls w A n c l) : l.length = n := by rw [← h.rws.len, List.length_map]
theorem Pls.small (h : Pls w A n c l) : n ≤ 9223372036854775807 := h.rws.small
theorem Pls.below (h : Pls w A n c l) (hb : Below w.heap.size w w') : Pls w' A n c l := ⟨h.rws.below hb, fun p hp => (h.pl p hp).below hb⟩
theorem Pls.nil (w : World) : Pls w none 0 0 [] := ⟨Rws.nil 5 w, fun p hp => by cases hp⟩
theorem Pls.at_ (h : Pls w A n c l) (j : Nat) (hj : j < n) : ∃ b off p, A = some ⟨b, off, none⟩ ∧ l.getD j Pl.zero = p ∧ p ∈ l ∧ l[j]? = some p ∧ PlIn w p ∧ w.cell? ⟨b, off + j * 5, none⟩ = some (.slice p.A p.n p.c) ∧ w.cell? ⟨b, off + j * 5 + 1, none⟩ = some (.slice p.B p.k p.d) ∧
    w.cell? ⟨b, off + j * 5 + 2, none⟩ = some (.int .i64 p.am) ∧ w.cell? ⟨b, off + j * 5 + 3, none⟩ = some (.int .i64 p.rd) ∧ w.cell? ⟨b, off + j * 5 + 4, none⟩ = some (.int .i64 p.hd) := by
  obtain ⟨b, off, hA, hc⟩ := h.rws.at_ (by omega)
  have hl : j < l.length := by rw [h.len]; exact hj
  have hm : l[j] ∈ l := List.getElem_mem hl
  have hr : (l.map Pl.row).getD j [] = l[j].row := by simp [List.getD_eq_getElem?_getD, hl]
  refine ⟨b, off, l[j], hA, by simp [List.getD_eq_getElem?_getD, hl], hm, by simp [hl], h.pl _ hm, ?_, ?_, ?_, ?_, ?_⟩
  · have := hc j hj 0 (by omega)
    rw [hr] at this
    exact this
  · have := hc j hj 1 (by omega)
    rw [hr] at this
    exact this
  · have := hc j hj 2 (by omega)
    rw [hr] at this
    exact this
  · have := hc j hj 3 (by omega)
    rw [hr] at this
    exact this
  · have := hc j hj 4 (by omega)
    rw [hr] at this
    exact this
end
/-- may this stage be, of this matrix? -/
def stageB (m : List Int) (x : Stg) : Bool := freeM m x.g && (decide (x.g ≠ 0) && (decide (1 ≤ x.mn) && (decide (x.mn ≤ 200) && (decide (x.mn ≤ x.mx) && decide (x.mx ≤ 200)))))
/-- has some stage group g? -/
def someB (s : List Stg) (g : Nat) : Bool := s.any fun x => bitI x.g g
def spanB (p : Pl) : Bool := decide (1 ≤ p.am) && (decide (p.am ≤ 200) && (decide (1 ≤ p.rd) && (decide (p.rd ≤ 200) && (decide (0 ≤ p.hd) && decide (p.hd ≤ 300)))))
def fitP (p : Pl) : Bool := mayM p.m && (decide (2 ≤ p.s.length ∧ p.s.length ≤ 6) && (p.s.all (stageB p.m) && ((List.range p.m.length).all (someB p.s) && spanB p)))
def nextP (p : Pl) (k : Int) : Int := if fitP p = true ∧ 0 ≤ k ∧ k < p.s.length then (if k = p.s.length - 1 then 0 else k + 1) else -1
def leastF (g : Nat) : List Stg → Int → Int
  | [], o => o
  | x :: l, o => leastF g l (if bitI x.g g = true ∧ (o = 0 ∨ x.mn < o) then x.mn else o)
def leastP (p : Pl) (g : Int) : Int := if fitP p = true ∧ 0 ≤ g ∧ g < p.m.length then leastF g.toNat p.s 0 else 0
def cycF (am rd : Int) : List Stg → Int → Int
  | [], o => o
  | x :: l, o => cycF am rd l (o + x.mn + am + rd)
def cycP (p : Pl) : Int := if fitP p = true then cycF p.am p.rd p.s 0 else 0
def samePl (p q : Pl) : Bool := decide (p.m = q.m) && (decide (p.s = q.s) && (decide (p.am = q.am) && (decide (p.rd = q.rd) && decide (p.hd = q.hd))))
def allP (l : List Pl) : Bool := decide (1 ≤ l.length ∧ l.length ≤ 3) && l.all fun p => fitP p && decide (p.m.length = (l.headD Pl.zero).m.length)
/-- what a plan that fits has -/
structure Fits (p : Pl) : Prop where
  may : mayM p.m = true
  two : 2 ≤ p.s.length
  six : p.s.length ≤ 6
  stage : ∀ x ∈ p.s, freeM p.m x.g = true ∧ x.g ≠ 0 ∧ 1 ≤ x.mn ∧ x.mn ≤ 200 ∧ x.mn ≤ x.mx ∧ x.mx ≤ 200
  some : ∀ g, g < p.m.length → ∃ x ∈ p.s, bitI x.g g = true
  am1 : 1 ≤ p.am
  am2 : p.am ≤ 200
  rd1 : 1 ≤ p.rd
  rd2 : p.rd ≤ 200
  hd1 : 0 ≤ p.hd
  hd2 : p.hd ≤ 300
theorem stage_iff {m : List Int} {x : Stg} : stageB m x = true ↔ freeM m x.g = true ∧ x.g ≠ 0 ∧ 1 ≤ x.mn ∧ x.mn ≤ 200 ∧ x.mn ≤ x.mx ∧ x.mx ≤ 200 := by
  simp only [stageB, Bool.and_eq_true, decide_eq_true_eq]
theorem span_iff {p : Pl} : spanB p = true ↔ 1 ≤ p.am ∧ p.am ≤ 200 ∧ 1 ≤ p.rd ∧ p.rd ≤ 200 ∧ 0 ≤ p.hd ∧ p.hd ≤ 300 := by
  simp only [spanB, Bool.and_eq_true, decide_eq_true_eq]
theorem some_iff {s : List Stg} {g : Nat} : someB s g = true ↔ ∃ x ∈ s, bitI x.g g = true := List.any_eq_true
theorem fit_iff {p : Pl} : fitP p = true ↔ Fits p := by
  simp only [fitP, Bool.and_eq_true, decide_eq_true_eq, List.all_eq_true, stage_iff, span_iff, some_iff, List.mem_range]
  exact ⟨fun ⟨h1, ⟨h2, h3⟩, h4, h5, a, b, c, d, e, f⟩ => ⟨h1, h2, h3, h4, h5, a, b, c, d, e, f⟩, fun h => ⟨h.may, ⟨h.two, h.six⟩, h.stage, h.some, h.am1, h.am2, h.rd1, h.rd2, h.hd1, h.hd2⟩⟩
theorem same_iff {p q : Pl} : samePl p q = true ↔ p.m = q.m ∧ p.s = q.s ∧ p.am = q.am ∧ p.rd = q.rd ∧ p.hd = q.hd := by
  simp only [samePl, Bool.and_eq_true, decide_eq_true_eq]
theorem all_iff {l : List Pl} : allP l = true ↔ (1 ≤ l.length ∧ l.length ≤ 3) ∧ ∀ p ∈ l, fitP p = true ∧ p.m.length = (l.headD Pl.zero).m.length := by
  simp only [allP, Bool.and_eq_true, decide_eq_true_eq, List.all_eq_true]
end Go.Proofs.Ytekmagpokcloaaa

/- The operations on sets that Go has: and, or, shifts of small numbers. -/
namespace Go.Proofs.Ytekmagpokcloaaa
set_option maxRecDepth 100000
set_option linter.unusedVariables false
set_option linter.unusedSimpArgs false
open Go

theorem ofInt_nat64 (a : Nat) (ha : a < 9223372036854775808) : (BitVec.ofInt 64 (a : Int)).toNat = a := by
  rw [BitVec.ofInt_natCast, BitVec.toNat_ofNat]
  exact Nat.mod_eq_of_lt (by omega)
theorem and_set (a b : Nat) (ha : a < 512) (hb : b < 512) : bits .and .i64 (a : Int) (b : Int) = ((a &&& b : Nat) : Int) := by
  have hx : a &&& b ≤ a := Nat.and_le_left
  show IntKind.i64.wrap ((BitVec.ofInt 64 (a : Int) &&& BitVec.ofInt 64 (b : Int)).toNat : Int) = _
  rw [BitVec.toNat_and, ofInt_nat64 a (by omega), ofInt_nat64 b (by omega), IntKind.wrap_i64]
  omega
theorem or_set (a b : Nat) (ha : a < 512) (hb : b < 512) : bits .or .i64 (a : Int) (b : Int) = ((a ||| b : Nat) : Int) := by
  have hx : a ||| b < 2 ^ 9 := Nat.or_lt_two_pow (by omega) (by omega)
  show IntKind.i64.wrap ((BitVec.ofInt 64 (a : Int) ||| BitVec.ofInt 64 (b : Int)).toNat : Int) = _
  rw [BitVec.toNat_or, ofInt_nat64 a (by omega), ofInt_nat64 b (by omega), IntKind.wrap_i64]
  omega
/-- (x >> k) & 1 == 1 -/
theorem bit_and (t k : Nat) (ht : t < 512) : bits .and .i64 ((t / 2 ^ k : Nat) : Int) 1 = if t.testBit k then 1 else 0 := by
  have h1 : t / 2 ^ k ≤ t := Nat.div_le_self _ _
  rw [show (1 : Int) = ((1 : Nat) : Int) by rfl, and_set _ 1 (by omega) (by omega), Nat.and_one_is_mod, Nat.testBit_eq_decide_div_mod_eq]
  by_cases h : t / 2 ^ k % 2 = 1
  · rw [if_pos (decide_eq_true h), h]
  · rw [if_neg (by simp [h])]
    have : t / 2 ^ k % 2 = 0 := by omega
    rw [this]
    rfl
end Go.Proofs.Ytekmagpokcloaaa

/- A region that draws its order, walked by hand: one operation after another, taken first. -/
namespace Go.Proofs.Ytekmagpokcloaaa
open Go.RowKit

section
variable {P : Program} {l : List Oper} {Q : Exit → Act → World → Prop} {md : Region.Mode} {S : World → Prop} {oi : Oper} {fuel : Nat} {listed : Array Bool} {a : Act} {w : World}
/-- one operation of a region that draws its order, taken first: what it yields hangs on no world -/
theorem take_run (i : Nat) (v : Value) (hi : l[i]? = some oi) (hs : Region.noSelect l.toArray = true) (hf : Region.free md l.toArray listed i = true) (hr : (Region.ready md l.toArray listed).contains i = true)
    (hQ : ∀ c a w, Q (.panic c) (a.put oi.dst v) w → Q (.panic c) a w) (hw : Region.wanted oi (yielded l.toArray a.tmps) = true) (hS : S w) (hrun : ∀ w, (execOp a.eval oi).run P w = .ok (.value v) w)
    (h : wpAnyH P md l.toArray Q S fuel (listed.setIfInBounds i true) (a.put oi.dst v) w) : wpAnyH P md l.toArray Q S (fuel + 1) listed a w :=
  wpAnyH_take (by simpa using hi) hs hf hr hQ (.inl ⟨hw, fun w _ => hrun w⟩) hS h
theorem take_move (i : Nat) (x : Operand) (v : Value) (hi : l[i]? = some oi) (ho : oi.op = .move x) (hv : a.eval x = v) (hs : Region.noSelect l.toArray = true) (hf : Region.free md l.toArray listed i = true) (hr : (Region.ready md l.toArray listed).contains i = true)
    (hQ : ∀ c a w, Q (.panic c) (a.put oi.dst v) w → Q (.panic c) a w) (hw : Region.wanted oi (yielded l.toArray a.tmps) = true) (hS : S w)
    (h : wpAnyH P md l.toArray Q S fuel (listed.setIfInBounds i true) (a.put oi.dst v) w) : wpAnyH P md l.toArray Q S (fuel + 1) listed a w :=
  take_run i v hi hs hf hr hQ hw hS (fun w => by unfold execOp; simp [ho, hv]) h
/-- one that a guard leaves out -/
theorem take_off (i : Nat) (hi : l[i]? = some oi) (hs : Region.noSelect l.toArray = true) (hf : Region.free md l.toArray listed i = true) (hr : (Region.ready md l.toArray listed).contains i = true)
    (hQ : ∀ c a w, Q (.panic c) (a.put oi.dst undef) w → Q (.panic c) a w) (hw : Region.wanted oi (yielded l.toArray a.tmps) = false) (hS : S w)
    (h : wpAnyH P md l.toArray Q S fuel (listed.setIfInBounds i true) (a.put oi.dst undef) w) : wpAnyH P md l.toArray Q S (fuel + 1) listed a w :=
  wpAnyH_take (by simpa using hi) hs hf hr hQ (.inr ⟨hw, rfl⟩) hS h
/-- a load of a long array -/
theorem take_long (i : Nat) (ty : TypeId) (x : Operand) (g : Nat) (cs : List Value) (d : TypeDesc) (hi : l[i]? = some oi) (ho : oi.op = .load ty x) (hx : a.eval x = .pointer (some ⟨g, 0, none⟩)) (hs : Region.noSelect l.toArray = true) (hf : Region.free md l.toArray listed i = true) (hr : (Region.ready md l.toArray listed).contains i = true)
    (hQ : ∀ c a w, Q (.panic c) (a.put oi.dst (.agg cs.toArray)) w → Q (.panic c) a w) (hw : Region.wanted oi (yielded l.toArray a.tmps) = true) (hS : S w) (hat : ∀ w, S w → w.rangeAt g 0 cs)
    (hu : P.underlying ty = some d) (hd : d.isRow = true) (hsz : (P.info? ty).map (·.size) = some cs.length)
    (h : wpAnyH P md l.toArray Q S fuel (listed.setIfInBounds i true) (a.put oi.dst (.agg cs.toArray)) w) : wpAnyH P md l.toArray Q S (fuel + 1) listed a w :=
  wpAnyH_take (by simpa using hi) hs hf hr hQ (yieldsIf_load_mid hw ty x ho g 0 hx cs d hat hu hd hsz) hS h
/-- the only one that may come up -/
theorem one_step (i : Nat) (hr : Region.ready md l.toArray listed = [i]) (hi : l[i]? = some oi)
    (h : ∀ K' : Act → World → Prop, Shut (∀ a w, S w → (S w → wpAnyH P md l.toArray Q S fuel (listed.setIfInBounds i true) a w) → K' a w) → if Region.wanted oi (yielded l.toArray a.tmps) = true then Oper.wp P oi a w K' Q else K' (a.put oi.dst undef) w) :
    wpAnyH P md l.toArray Q S (fuel + 1) listed a w :=
  wpAnyH_ready hr (by simp) (AllReadyH.cons (by simpa using hi) h AllReadyH.nil)
end
section
variable {P : Program} {l : List Oper} {Q : Exit → Act → World → Prop} {md : Region.Mode} {S S' : World → Prop} {oi : Oper} {fuel : Nat} {listed : Array Bool} {a : Act} {w : World}
theorem take_if (i : Nat) (v : Value) (hi : l[i]? = some oi) (hs : Region.noSelect l.toArray = true) (hf : Region.free md l.toArray listed i = true) (hr : (Region.ready md l.toArray listed).contains i = true)
    (hQ : ∀ c a w, Q (.panic c) (a.put oi.dst v) w → Q (.panic c) a w) (hw : Region.wanted oi (yielded l.toArray a.tmps) = true) (hS : S w) (hrun : ∀ w, S w → (execOp a.eval oi).run P w = .ok (.value v) w)
    (h : wpAnyH P md l.toArray Q S fuel (listed.setIfInBounds i true) (a.put oi.dst v) w) : wpAnyH P md l.toArray Q S (fuel + 1) listed a w :=
  wpAnyH_take (by simpa using hi) hs hf hr hQ (.inl ⟨hw, hrun⟩) hS h
theorem wpAnyH_mono {ops : Array Oper} (hSS : ∀ w, S' w → S w) : ∀ (fuel : Nat) {listed : Array Bool} {a : Act} {w : World}, wpAnyH P md ops Q S' fuel listed a w → wpAnyH P md ops Q S fuel listed a w
  | 0, _, _, _, h => h
  | fuel + 1, _, _, _, h => ⟨h.1, fun i hi => wpOp_mono (fun _ _ h' => ⟨hSS _ h'.1, wpAnyH_mono hSS fuel h'.2⟩) (h.2 i hi)⟩
end
section
variable {P : Program} {l : List Oper} {Q : Exit → Act → World → Prop} {md : Region.Mode} {S : World → Prop} {oi oj ok : Oper} {fuel : Nat} {listed : Array Bool} {a : Act} {w : World}
/-- two, or three, that may come up -/
theorem two_steps (i j : Nat) (hr : Region.ready md l.toArray listed = [i, j]) (hi : l[i]? = some oi) (hj : l[j]? = some oj)
    (h1 : ∀ K' : Act → World → Prop, Shut (∀ a w, S w → (S w → wpAnyH P md l.toArray Q S fuel (listed.setIfInBounds i true) a w) → K' a w) → if Region.wanted oi (yielded l.toArray a.tmps) = true then Oper.wp P oi a w K' Q else K' (a.put oi.dst undef) w)
    (h2 : ∀ K' : Act → World → Prop, Shut (∀ a w, S w → (S w → wpAnyH P md l.toArray Q S fuel (listed.setIfInBounds j true) a w) → K' a w) → if Region.wanted oj (yielded l.toArray a.tmps) = true then Oper.wp P oj a w K' Q else K' (a.put oj.dst undef) w) :
    wpAnyH P md l.toArray Q S (fuel + 1) listed a w :=
  wpAnyH_ready hr (by simp) (AllReadyH.cons (by simpa using hi) h1 (AllReadyH.cons (by simpa using hj) h2 AllReadyH.nil))
theorem three_steps (i j k : Nat) (hr : Region.ready md l.toArray listed = [i, j, k]) (hi : l[i]? = some oi) (hj : l[j]? = some oj) (hk : l[k]? = some ok)
    (h1 : ∀ K' : Act → World → Prop, Shut (∀ a w, S w → (S w → wpAnyH P md l.toArray Q S fuel (listed.setIfInBounds i true) a w) → K' a w) → if Region.wanted oi (yielded l.toArray a.tmps) = true then Oper.wp P oi a w K' Q else K' (a.put oi.dst undef) w)
    (h2 : ∀ K' : Act → World → Prop, Shut (∀ a w, S w → (S w → wpAnyH P md l.toArray Q S fuel (listed.setIfInBounds j true) a w) → K' a w) → if Region.wanted oj (yielded l.toArray a.tmps) = true then Oper.wp P oj a w K' Q else K' (a.put oj.dst undef) w)
    (h3 : ∀ K' : Act → World → Prop, Shut (∀ a w, S w → (S w → wpAnyH P md l.toArray Q S fuel (listed.setIfInBounds k true) a w) → K' a w) → if Region.wanted ok (yielded l.toArray a.tmps) = true then Oper.wp P ok a w K' Q else K' (a.put ok.dst undef) w) :
    wpAnyH P md l.toArray Q S (fuel + 1) listed a w :=
  wpAnyH_ready hr (by simp) (AllReadyH.cons (by simpa using hi) h1 (AllReadyH.cons (by simpa using hj) h2 (AllReadyH.cons (by simpa using hk) h3 AllReadyH.nil)))
end
end Go.Proofs.Ytekmagpokcloaaa

/- The steps of a region that draws its order, in short: what is reckoned is filled in. -/
namespace Go.Proofs.Ytekmagpokcloaaa
open Go.RowKit

section
variable {P : Program} {l : List Oper} {Q : Exit → Act → World → Prop} {md : Region.Mode} {S : World → Prop} {oi : Oper} {fuel : Nat} {listed : Array Bool} {a : Act} {w : World}
/-- one operation that yields v in each world -/
theorem tk (i : Nat) (v : Value) (hS : S w) (hrun : ∀ w, (execOp a.eval oi).run P w = .ok (.value v) w)
    (h : wpAnyH P md l.toArray Q S fuel (listed.setIfInBounds i true) (a.put oi.dst v) w)
    (hi : l[i]? = some oi := by rfl) (hs : Region.noSelect l.toArray = true := by kernel_rfl) (hf : Region.free md l.toArray listed i = true := by kernel_rfl) (hr : (Region.ready md l.toArray listed).contains i = true := by kernel_rfl)
    (hQ : ∀ c a w, Q (.panic c) (a.put oi.dst v) w → Q (.panic c) a w := by exact fun _ _ _ h => h) (hw : Region.wanted oi (yielded l.toArray a.tmps) = true := by rfl) : wpAnyH P md l.toArray Q S (fuel + 1) listed a w :=
  take_run i v hi hs hf hr hQ hw hS hrun h
/-- one that yields v in each world that meets S -/
theorem tkS (i : Nat) (v : Value) (hS : S w) (hrun : ∀ w, S w → (execOp a.eval oi).run P w = .ok (.value v) w)
    (h : wpAnyH P md l.toArray Q S fuel (listed.setIfInBounds i true) (a.put oi.dst v) w)
    (hi : l[i]? = some oi := by rfl) (hs : Region.noSelect l.toArray = true := by kernel_rfl) (hf : Region.free md l.toArray listed i = true := by kernel_rfl) (hr : (Region.ready md l.toArray listed).contains i = true := by kernel_rfl)
    (hQ : ∀ c a w, Q (.panic c) (a.put oi.dst v) w → Q (.panic c) a w := by exact fun _ _ _ h => h) (hw : Region.wanted oi (yielded l.toArray a.tmps) = true := by rfl) : wpAnyH P md l.toArray Q S (fuel + 1) listed a w :=
  take_if i v hi hs hf hr hQ hw hS hrun h
/-- one that a guard leaves out -/
theorem tkO (i : Nat) (hS : S w) (h : wpAnyH P md l.toArray Q S fuel (listed.setIfInBounds i true) (a.put oi.dst undef) w)
    (hi : l[i]? = some oi := by rfl) (hs : Region.noSelect l.toArray = true := by kernel_rfl) (hf : Region.free md l.toArray listed i = true := by kernel_rfl) (hr : (Region.ready md l.toArray listed).contains i = true := by kernel_rfl)
    (hQ : ∀ c a w, Q (.panic c) (a.put oi.dst undef) w → Q (.panic c) a w := by exact fun _ _ _ h => h) (hw : Region.wanted oi (yielded l.toArray a.tmps) = false := by rfl) : wpAnyH P md l.toArray Q S (fuel + 1) listed a w :=
  take_off i hi hs hf hr hQ hw hS h
/-- the frame behind an operation, reckoned: 'simp only [PT]' -/
theorem PT : (∀ (a : Act) (d : Nat) (v : Value), a.put (some d) v = { a with tmps := a.tmps.setIfInBounds d v }) ∧ (∀ (a : Act) (v : Value), a.put none v = a) ∧ (∀ (l : List Value) (i : Nat) (x : Value), l.toArray.setIfInBounds i x = (l.set i x).toArray) ∧ (∀ (l : List Bool) (i : Nat) (x : Bool), l.toArray.setIfInBounds i x = (l.set i x).toArray) ∧
    (∀ (y : Value) (l : List Value) (x : Value), (y :: l).set 0 x = x :: l) ∧ (∀ (y : Value) (l : List Value) (i : Nat) (x : Value), (y :: l).set (i + 1) x = y :: l.set i x) ∧ (∀ (y : Bool) (l : List Bool) (x : Bool), (y :: l).set 0 x = x :: l) ∧ (∀ (y : Bool) (l : List Bool) (i : Nat) (x : Bool), (y :: l).set (i + 1) x = y :: l.set i x) :=
  ⟨fun _ _ _ => rfl, fun _ _ => rfl, fun _ _ _ => List.setIfInBounds_toArray .., fun _ _ _ => List.setIfInBounds_toArray .., fun _ _ _ => rfl, fun _ _ _ _ => rfl, fun _ _ _ => rfl, fun _ _ _ _ => rfl⟩
end
end Go.Proofs.Ytekmagpokcloaaa

/- The walks over the document's pow and In. -/
namespace Go.Proofs.Ytekmagpokcloaaa
set_option maxRecDepth 100000
set_option linter.unusedVariables false
set_option linter.unusedSimpArgs false
open Go.RowKit

theorem rpow_any (n : Nat) (hn : n ≤ 40) (w : World) : Calls Try.prog 41 #[.int .i64 (n : Int)] w fun e w' => e = .returned (.int .i64 ((2 ^ n : Nat) : Int)) ∧ w = w' := by
  have HP := Lib.hid (show ∀ j, j < n → IntKind.i64.wrap (2 * ((2 ^ j : Nat) : Int)) = ((2 ^ (j + 1) : Nat) : Int) from fun j hj => by
    have h1 : 2 ^ j ≤ 2 ^ 40 := Nat.pow_le_pow_right (by omega) (by omega)
    rw [IntKind.wrap_i64, Nat.pow_succ]
    omega)
  go_enter Try.func41, Try.ntmps41
  go_wp2
  go_loop [3, 4] (fun o i => ∃ j : Nat, j ≤ n ∧ i = .int .i64 j ∧ ∃ x : Int, o = .int .i64 x ∧ x = ((2 ^ j : Nat) : Int)) (fun _ i => n - (intOf i).toNat)
  case atStart => exact ⟨0, by omega, rfl, 1, rfl, rfl⟩
  case round =>
    obtain ⟨j, hj, rfl, x, rfl, hx⟩ := hrel
    by_cases hlt : j < n
    · have h1 := HP.out j hlt
      rw [← hx] at h1
      have h2 : (j : Int) < n := by omega
      have h3 : IntKind.i64.wrap ((j : Int) + 1) = (j : Int) + 1 := by rw [IntKind.wrap_i64]; omega
      obtain ⟨y, hy⟩ : ∃ y : Int, ((2 ^ (j + 1) : Nat) : Int) = y := ⟨_, rfl⟩
      rw [hy] at h1
      have HY := Lib.hid hy
      clear hy hx
      go_wp2
      go_round
      case rel => exact ⟨j + 1, by omega, by go_num, _, rfl, HY.out.symm⟩
      case measure => simp [intOf]; omega
    · obtain rfl : j = n := by omega
      have HX := Lib.hid hx
      have h2 : ¬ (j : Int) < j := by omega
      clear hx
      go_wp2
      go_ret
      exact ⟨by rw [HX.out]; rfl, rfl⟩
theorem bit_go (t i : Nat) (ht : t < 4611686018427387904) : ((wrap64 ((t : Int) / ((2 ^ i : Nat) : Int))).tmod 2 == 1) = t.testBit i := by
  have hle : t / 2 ^ i ≤ t := Nat.div_le_self _ _
  rw [Nat.testBit_eq_decide_div_mod_eq, ← Int.natCast_ediv]
  obtain ⟨D, hD⟩ : ∃ D : Nat, t / 2 ^ i = D := ⟨_, rfl⟩
  rw [hD] at hle ⊢
  have e2 : wrap64 (D : Int) = (D : Int) := by unfold wrap64; omega
  have hm : (D : Int).tmod 2 = ((D % 2 : Nat) : Int) := by rw [show (2 : Int) = ((2 : Nat) : Int) by rfl, ← Int.ofNat_tmod]
  rw [e2, hm, Bool.eq_iff_iff, beq_iff_eq, decide_eq_true_iff]
  omega
theorem rin_any (t i : Nat) (ht : t < 4611686018427387904) (hi : i ≤ 40) (w : World) : Calls Try.prog 29 #[.int .i64 (t : Int), .int .i64 (i : Int)] w fun e w' => e = .returned (.bool (t.testBit i)) ∧ w = w' := by
  have HW := Lib.hid (fun X => rpow_any i hi X)
  have hpp : 0 < ((2 ^ i : Nat) : Int) := Int.natCast_pos.2 (Nat.pow_pos (by omega))
  have HB := Lib.hid (bit_go t i ht)
  obtain ⟨P, hPe⟩ : ∃ P : Int, ((2 ^ i : Nat) : Int) = P := ⟨_, rfl⟩
  simp only [hPe] at HW hpp HB
  have hp0 : ¬ (P = 0) := by omega
  have hp1 : ¬ (P = -1) := by omega
  have hP0 : 0 ≤ P := by omega
  obtain ⟨B, hB⟩ : ∃ B, t.testBit i = B := ⟨_, rfl⟩
  rw [hB] at HB ⊢
  clear hPe hB
  go_enter Try.func29, Try.ntmps29
  go_wp2_with (go_at_call 41; (with_reducible refine (HW.out _).mono ?_); rintro e w1 ⟨rfl, rfl⟩)
  go_ret
  refine ⟨?_, rfl⟩
  rw [← HB.out]
  rfl
end Go.Proofs.Ytekmagpokcloaaa

/- The walk over the document's May of a matrix. -/
namespace Go.Proofs.Ytekmagpokcloaaa
set_option maxRecDepth 100000
set_option linter.unusedVariables false
set_option linter.unusedSimpArgs false
open Go.RowKit

theorem row_nat {m : List Int} {n i : Nat} (h : ∀ k, k < n → 0 ≤ m.getD k 0 ∧ m.getD k 0 < ((2 ^ n : Nat) : Int)) (hn : n ≤ 8) (hi : i < n) : ∃ t : Nat, m.getD i 0 = t ∧ t < 256 := by
  obtain ⟨h0, h1⟩ := h i hi
  obtain ⟨t, ht⟩ := Int.eq_ofNat_of_zero_le h0
  have h8 := pow_le hn
  exact ⟨t, ht, by omega⟩
def fineM (m : List Int) (i k : Nat) : Prop := meetM m i k = meetM m k i ∧ ¬ (meetM m i k = true ∧ i = k)
theorem may_of_all {m : List Int} {n : Nat} (hn : m.length = n) (h : 1 ≤ n ∧ n ≤ 8) (h1 : ∀ k, k < n → 0 ≤ m.getD k 0 ∧ m.getD k 0 < ((2 ^ n : Nat) : Int)) (h2 : ∀ i, i < n → ∀ k, k < n → fineM m i k) : mayM m = true := by
  subst hn
  exact decide_eq_true ⟨h, fun i hi => by rw [pow_int]; exact h1 i hi, h2⟩
theorem may_short {m : List Int} {n : Nat} (hn : m.length = n) (h : n < 1 ∨ 8 < n) : mayM m = false := decide_eq_false (by rw [hn]; omega)
theorem may_row {m : List Int} {n j : Nat} (hn : m.length = n) (hj : j < n) (h : m.getD j 0 < 0 ∨ ((2 ^ n : Nat) : Int) ≤ m.getD j 0) : mayM m = false := decide_eq_false fun hh => by
  subst hn
  have := hh.2.1 j hj
  rw [pow_int] at this
  omega
theorem may_not {m : List Int} {n i k : Nat} (hn : m.length = n) (hi : i < n) (hk : k < n) (h : ¬ fineM m i k) : mayM m = false := decide_eq_false fun hh => by
  subst hn
  exact h (hh.2.2 i hi k hk)
set_option maxHeartbeats 4000000 in
theorem rgmay_any (A : Option Addr) (n c : Nat) (m : List Int) (w : World) (hb : Its .i64 w A n c m) : Calls Try.prog 39 #[.slice A n c] w fun e w' => e = .returned (.bool (mayM m)) ∧ Below w.heap.size w w' := by
  have hsm := hb.small
  have HL := Lib.hid hb.len
  by_cases h1 : n < 1 ∨ 8 < n
  · have HR := Lib.hid (may_short HL.out h1)
    rcases h1 with h1 | h1
    all_goals
      clear hb
      go_enter Try.func39, Try.ntmps39
      go_wp2
      go_ret
      exact ⟨by rw [HR.out]; rfl, Below.refl _ _⟩
  · have hn1 : 1 ≤ n := by omega
    have hn8 : n ≤ 8 := by omega
    have h1a : ¬ ((n : Int) < 1) := by omega
    have h1b : ¬ (8 < (n : Int)) := by omega
    obtain ⟨b, off, rfl, hc⟩ := hb.at_ (by omega)
    have HC := Lib.hid hc
    have HPW := Lib.hid (fun X => rpow_any n (by omega) X)
    obtain ⟨PW, hPW⟩ : ∃ x : Int, ((2 ^ n : Nat) : Int) = x := ⟨_, rfl⟩
    have HPE := Lib.hid hPW
    rw [hPW] at HPW
    clear hPW hb hc h1
    go_enter Try.func39, Try.ntmps39
    go_wp2
    go_loopw [4] (fun v wr => ∃ j : Nat, j ≤ n ∧ v = .int .i64 j ∧ (∀ k, k < j → 0 ≤ m.getD k 0 ∧ m.getD k 0 < PW) ∧ Below w.heap.size w wr) (fun v _ => n - (intOf v).toNat)
    case atStart => exact ⟨0, by omega, rfl, fun k hk => by omega, Below.refl _ _⟩
    case round =>
      obtain ⟨j, hj, rfl, hrow, hbw⟩ := hrel
      have HBW := Lib.hid hbw
      have HRW := Lib.hid hrow
      clear hrow
      by_cases hlt : j < n
      · have hcx : wr.drew.cell? ⟨b, off + j, none⟩ = some (.int .i64 (m.getD j 0)) := (hbw.cell (p := ⟨b, off + j, none⟩) (block_lt_of_cell (HC.out j hlt))).trans (HC.out j hlt)
        obtain ⟨x, hx⟩ : ∃ x, m.getD j 0 = x := ⟨_, rfl⟩
        rw [hx] at hcx
        have q0 : 0 ≤ (j : Int) := by omega
        have q1 : (j : Int) < n := by omega
        clear hbw
        by_cases hneg : x < 0
        · have HR := Lib.hid (may_row HL.out hlt (.inl (by rw [hx]; exact hneg)))
          clear hx
          go_wp2
          refine wp_region_held_drew (S := fun X => X.cell? ⟨b, off + j, none⟩ = some (.int .i64 x)) (by kernel_rfl) hcx (fun hHeld => ?_)
          refine tk 0 (.slice (some ⟨b, off, none⟩) n c) hHeld (fun w => ?_) ?_
          · go_simp
          simp only [PT]
          refine tk 1 (.int .i64 j) hHeld (fun w => ?_) ?_
          · go_simp
          simp only [PT]
          refine tk 2 (.pointer (some ⟨b, off + j, none⟩)) hHeld (fun w => ?_) ?_
          · go_simp
          simp only [PT]
          refine tkS 3 (.int .i64 x) hHeld (fun w hq => ?_) ?_
          · go_simp
          simp only [PT]
          refine tk 4 (.bool true) hHeld (fun w => ?_) ?_
          · go_simp
          simp only [PT]
          refine tk 5 (.bool true) hHeld (fun w => ?_) ?_
          · go_simp
          simp only [PT]
          refine tkO 6 hHeld ?_
          simp only [PT]
          refine tkO 7 hHeld ?_
          simp only [PT]
          refine tkO 8 hHeld ?_
          simp only [PT]
          refine tkO 9 hHeld ?_
          simp only [PT]
          refine tkO 10 hHeld ?_
          simp only [PT]
          refine tkO 11 hHeld ?_
          simp only [PT]
          refine tkO 12 hHeld ?_
          simp only [PT]
          refine tk 13 (.bool true) hHeld (fun w => ?_) ?_
          · go_simp
          simp only [PT]
          refine wpAnyH_done (by kernel_rfl) ?_ _
          clear hHeld hcx
          go_wp2
          go_ret
          exact ⟨by rw [HR.out]; rfl, HBW.out.drew⟩
        · by_cases hbig : PW ≤ x
          · have HR := Lib.hid (may_row HL.out hlt (.inr (by rw [hx, HPE.out]; exact hbig)))
            clear hx
            go_wp2
            refine wp_region_held_drew (S := fun X => X.cell? ⟨b, off + j, none⟩ = some (.int .i64 x)) (by kernel_rfl) hcx (fun hHeld => ?_)
            refine tk 0 (.slice (some ⟨b, off, none⟩) n c) hHeld (fun w => ?_) ?_
            · go_simp
            simp only [PT]
            refine tk 1 (.int .i64 j) hHeld (fun w => ?_) ?_
            · go_simp
            simp only [PT]
            refine tk 2 (.pointer (some ⟨b, off + j, none⟩)) hHeld (fun w => ?_) ?_
            · go_simp
            simp only [PT]
            refine tkS 3 (.int .i64 x) hHeld (fun w hq => ?_) ?_
            · go_simp
            simp only [PT]
            refine tk 4 (.bool false) hHeld (fun w => ?_) ?_
            · go_simp
            simp only [PT]
            refine tk 5 (.bool false) hHeld (fun w => ?_) ?_
            · go_simp
            simp only [PT]
            refine tk 6 (.slice (some ⟨b, off, none⟩) n c) hHeld (fun w => ?_) ?_
            · go_simp
            simp only [PT]
            refine tk 7 (.int .i64 j) hHeld (fun w => ?_) ?_
            · go_simp
            simp only [PT]
            refine tk 8 (.pointer (some ⟨b, off + j, none⟩)) hHeld (fun w => ?_) ?_
            · go_simp
            simp only [PT]
            refine tkS 9 (.int .i64 x) hHeld (fun w hq => ?_) ?_
            · go_simp
            simp only [PT]
            refine tk 10 (.int .i64 n) hHeld (fun w => ?_) ?_
            · go_simp
            simp only [PT]
            refine one_step 11 (by kernel_rfl) rfl (fun Kq hKq => ?_)
            go_simp
            go_at_call 41
            refine (HPW.out _).mono ?_
            rintro e y1 ⟨rfl, rfl⟩
            refine hKq.out _ _ hcx (fun hHeld0 => ?_)
            clear hKq Kq hHeld
            have hHeld := hHeld0
            clear hHeld0
            try simp only [PT]
            refine tk 12 (.bool true) hHeld (fun w => ?_) ?_
            · go_simp
            simp only [PT]
            refine tk 13 (.bool true) hHeld (fun w => ?_) ?_
            · go_simp
            simp only [PT]
            refine wpAnyH_done (by kernel_rfl) ?_ _
            clear hHeld hcx
            go_wp2
            go_ret
            exact ⟨by rw [HR.out]; rfl, HBW.out.drew⟩
          · have HN := Lib.hid (show ∀ k, k < j + 1 → 0 ≤ m.getD k 0 ∧ m.getD k 0 < PW from fun k hk => by
              by_cases e : k = j
              · subst e; rw [hx]; omega
              · exact HRW.out k (by omega))
            clear hx
            go_wp2
            refine wp_region_held_drew (S := fun X => X.cell? ⟨b, off + j, none⟩ = some (.int .i64 x)) (by kernel_rfl) hcx (fun hHeld => ?_)
            refine tk 0 (.slice (some ⟨b, off, none⟩) n c) hHeld (fun w => ?_) ?_
            · go_simp
            simp only [PT]
            refine tk 1 (.int .i64 j) hHeld (fun w => ?_) ?_
            · go_simp
            simp only [PT]
            refine tk 2 (.pointer (some ⟨b, off + j, none⟩)) hHeld (fun w => ?_) ?_
            · go_simp
            simp only [PT]
            refine tkS 3 (.int .i64 x) hHeld (fun w hq => ?_) ?_
            · go_simp
            simp only [PT]
            refine tk 4 (.bool false) hHeld (fun w => ?_) ?_
            · go_simp
            simp only [PT]
            refine tk 5 (.bool false) hHeld (fun w => ?_) ?_
            · go_simp
            simp only [PT]
            refine tk 6 (.slice (some ⟨b, off, none⟩) n c) hHeld (fun w => ?_) ?_
            · go_simp
            simp only [PT]
            refine tk 7 (.int .i64 j) hHeld (fun w => ?_) ?_
            · go_simp
            simp only [PT]
            refine tk 8 (.pointer (some ⟨b, off + j, none⟩)) hHeld (fun w => ?_) ?_
            · go_simp
            simp only [PT]
            refine tkS 9 (.int .i64 x) hHeld (fun w hq => ?_) ?_
            · go_simp
            simp only [PT]
            refine tk 10 (.int .i64 n) hHeld (fun w => ?_) ?_
            · go_simp
            simp only [PT]
            refine one_step 11 (by kernel_rfl) rfl (fun Kq hKq => ?_)
            go_simp
            go_at_call 41
            refine (HPW.out _).mono ?_
            rintro e y1 ⟨rfl, rfl⟩
            refine hKq.out _ _ hcx (fun hHeld0 => ?_)
            clear hKq Kq hHeld
            have hHeld := hHeld0
            clear hHeld0
            try simp only [PT]
            refine tk 12 (.bool false) hHeld (fun w => ?_) ?_
            · go_simp
            simp only [PT]
            refine tk 13 (.bool false) hHeld (fun w => ?_) ?_
            · go_simp
            simp only [PT]
            refine wpAnyH_done (by kernel_rfl) ?_ _
            clear hHeld hcx
            go_wp2
            go_roundw
            case rel => exact ⟨j + 1, by omega, by go_num, HN.out, HBW.out.drew⟩
            case measure => simp [intOf]; omega
      · obtain rfl : j = n := by omega
        rw [← HPE.out] at HRW
        clear hbw
        go_wp2
        go_loopw [5] (fun v wr => ∃ i : Nat, i ≤ j ∧ v = .int .i64 i ∧ (∀ i', i' < i → ∀ k, k < j → fineM m i' k) ∧ Below w.heap.size w wr) (fun v _ => j - (intOf v).toNat)
        case atStart => exact ⟨0, by omega, rfl, fun k hk => by omega, HBW.out⟩
        case round =>
          obtain ⟨i, hi, rfl, hout, hbw2⟩ := hrel
          have HO := Lib.hid hout
          have HB2 := Lib.hid hbw2
          clear hout hbw2
          by_cases hil : i < j
          · have q0 : 0 ≤ (i : Int) := by omega
            have q1 : (i : Int) < j := by omega
            go_wp2
            go_loopw [6] (fun v wr => ∃ k : Nat, k ≤ j ∧ v = .int .i64 k ∧ (∀ k', k' < k → fineM m i k') ∧ Below w.heap.size w wr) (fun v _ => j - (intOf v).toNat)
            case atStart => exact ⟨0, by omega, rfl, fun k hk => by omega, HB2.out⟩
            case round =>
              obtain ⟨k, hk, rfl, hin, hbw3⟩ := hrel
              have HI := Lib.hid hin
              have HB3 := Lib.hid hbw3
              clear hin hbw3
              by_cases hkl : k < j
              · have q2 : 0 ≤ (k : Int) := by omega
                have q3 : (k : Int) < j := by omega
                by_cases hik : i = k
                · subst hik
                  obtain ⟨t, ht, ht8⟩ := row_nat HRW.out hn8 hil
                  have x1 : wr.cell? ⟨b, off + i, none⟩ = some (.int .i64 (t : Int)) := by rw [← ht]; exact (HB3.out.cell (p := ⟨b, off + i, none⟩) (block_lt_of_cell (HC.out i hil))).trans (HC.out i hil)
                  have HI1 := Lib.hid (fun X => rin_any t i (by omega) (by omega) X)
                  have HM1 := Lib.hid (show meetM m i i = t.testBit i by rw [meetM, ht, bit_nat])
                  obtain ⟨B1, hB1⟩ : ∃ x, t.testBit i = x := ⟨_, rfl⟩
                  rw [hB1] at HI1 HM1
                  clear hB1 ht
                  cases B1
                  · have HF := Lib.hid (show ∀ k', k' < i + 1 → fineM m i k' from fun k' hk' => by
                      by_cases e : k' = i
                      · subst e; exact ⟨rfl, fun h => by rw [HM1.out] at h; cases h.1⟩
                      · exact HI.out k' (by omega))
                    go_wp2_with (go_at_call 29; (with_reducible refine (HI1.out _).mono ?_); rintro e w1 ⟨rfl, rfl⟩)
                    go_roundw
                    case rel => exact ⟨i + 1, by omega, by go_num, HF.out, HB3.out⟩
                    case measure => simp [intOf]; omega
                  · have HF := Lib.hid (may_not HL.out hil hkl (fun h => h.2 ⟨HM1.out, rfl⟩))
                    go_wp2_with (go_at_call 29; (with_reducible refine (HI1.out _).mono ?_); rintro e w1 ⟨rfl, rfl⟩)
                    go_ret
                    exact ⟨by rw [HF.out]; rfl, HB3.out⟩
                · skip
                  obtain ⟨t, ht, ht8⟩ := row_nat HRW.out hn8 hil
                  obtain ⟨u, hu, hu8⟩ := row_nat HRW.out hn8 hkl
                  have x1 : wr.cell? ⟨b, off + i, none⟩ = some (.int .i64 (t : Int)) := by rw [← ht]; exact (HB3.out.cell (p := ⟨b, off + i, none⟩) (block_lt_of_cell (HC.out i hil))).trans (HC.out i hil)
                  have x2 : wr.cell? ⟨b, off + k, none⟩ = some (.int .i64 (u : Int)) := by rw [← hu]; exact (HB3.out.cell (p := ⟨b, off + k, none⟩) (block_lt_of_cell (HC.out k hkl))).trans (HC.out k hkl)
                  have HI1 := Lib.hid (fun X => rin_any t k (by omega) (by omega) X)
                  have HI2 := Lib.hid (fun X => rin_any u i (by omega) (by omega) X)
                  have HM1 := Lib.hid (show meetM m i k = t.testBit k by rw [meetM, ht, bit_nat])
                  have HM2 := Lib.hid (show meetM m k i = u.testBit i by rw [meetM, hu, bit_nat])
                  obtain ⟨B1, hB1⟩ : ∃ x, t.testBit k = x := ⟨_, rfl⟩
                  obtain ⟨B2, hB2⟩ : ∃ x, u.testBit i = x := ⟨_, rfl⟩
                  rw [hB1] at HI1 HM1
                  rw [hB2] at HI2 HM2
                  clear hB1 hB2 ht hu
                  have HNX := Lib.hid (fun (hf : fineM m i k) => (show ∀ k', k' < k + 1 → fineM m i k' from fun k' hk' => by
                    by_cases e : k' = k
                    · subst e; exact hf
                    · exact HI.out k' (by omega)))
                  have HNO := Lib.hid (fun (hf : ¬ fineM m i k) => may_not HL.out hil hkl hf)
                  cases B1
                  all_goals cases B2
                  · have HF := Lib.hid (HNX.out ⟨by rw [HM1.out, HM2.out], fun h => by rw [HM1.out] at h; cases h.1⟩)
                    go_wp2_with (first
                      | (go_at_call 29; (with_reducible refine (HI1.out _).mono ?_); rintro e w1 ⟨rfl, rfl⟩)
                      | (go_at_call 29; (with_reducible refine (HI2.out _).mono ?_); rintro e w1 ⟨rfl, rfl⟩))
                    go_roundw
                    case rel => exact ⟨k + 1, by omega, by go_num, HF.out, HB3.out⟩
                    case measure => simp [intOf]; omega
                  · have HF := Lib.hid (HNO.out (fun h => by have := h.1; rw [HM1.out, HM2.out] at this; cases this))
                    go_wp2_with (first
                      | (go_at_call 29; (with_reducible refine (HI1.out _).mono ?_); rintro e w1 ⟨rfl, rfl⟩)
                      | (go_at_call 29; (with_reducible refine (HI2.out _).mono ?_); rintro e w1 ⟨rfl, rfl⟩))
                    go_ret
                    exact ⟨by rw [HF.out]; rfl, HB3.out⟩
                  · have HF := Lib.hid (HNO.out (fun h => by have := h.1; rw [HM1.out, HM2.out] at this; cases this))
                    go_wp2_with (first
                      | (go_at_call 29; (with_reducible refine (HI1.out _).mono ?_); rintro e w1 ⟨rfl, rfl⟩)
                      | (go_at_call 29; (with_reducible refine (HI2.out _).mono ?_); rintro e w1 ⟨rfl, rfl⟩))
                    go_ret
                    exact ⟨by rw [HF.out]; rfl, HB3.out⟩
                  · have HF := Lib.hid (HNX.out ⟨by rw [HM1.out, HM2.out], fun h => hik h.2⟩)
                    have hike : ¬ ((i : Int) = k) := by omega
                    go_wp2_with (first
                      | (go_at_call 29; (with_reducible refine (HI1.out _).mono ?_); rintro e w1 ⟨rfl, rfl⟩)
                      | (go_at_call 29; (with_reducible refine (HI2.out _).mono ?_); rintro e w1 ⟨rfl, rfl⟩))
                    go_roundw
                    case rel => exact ⟨k + 1, by omega, by go_num, HF.out, HB3.out⟩
                    case measure => simp [intOf]; omega
              · obtain rfl : k = j := by omega
                have HF := Lib.hid (show ∀ i', i' < i + 1 → ∀ k', k' < k → fineM m i' k' from fun i' hi' k' hk' => by
                  by_cases e : i' = i
                  · subst e; exact HI.out k' hk'
                  · exact HO.out i' (by omega) k' hk')
                go_wp2
                go_roundw
                case rel => exact ⟨i + 1, by omega, by go_num, HF.out, HB3.out⟩
                case measure => simp [intOf]; omega
          · obtain rfl : i = j := by omega
            have HR := Lib.hid (may_of_all HL.out ⟨hn1, hn8⟩ HRW.out HO.out)
            go_wp2
            go_ret
            exact ⟨by rw [HR.out]; rfl, HB2.out⟩
end Go.Proofs.Ytekmagpokcloaaa

/- The walk over the document's Free of a set. -/
namespace Go.Proofs.Ytekmagpokcloaaa
set_option maxRecDepth 100000
set_option linter.unusedVariables false
set_option linter.unusedSimpArgs false
open Go.RowKit

theorem free_bad {m : List Int} {s : Int} (h : mayM m = false ∨ s < 0 ∨ ((2 ^ m.length : Nat) : Int) ≤ s) : freeM m s = false := decide_eq_false fun hh => by
  obtain ⟨h1, ⟨h2, h3⟩, -⟩ := hh
  rw [pow_int] at h3
  rcases h with h | h | h
  · rw [h] at h1; cases h1
  · omega
  · omega
theorem free_no {m : List Int} {t i k : Nat} (hi : i < m.length) (hk : k < m.length) (h : t.testBit i = true ∧ t.testBit k = true ∧ meetM m i k = true) : freeM m (t : Int) = false := decide_eq_false fun hh => (none_nat.1 hh.2.2) i hi k hk h
theorem may_rows {m : List Int} {n : Nat} (hl : m.length = n) (h : mayM m = true) : n ≤ 8 ∧ ∀ k, k < n → 0 ≤ m.getD k 0 ∧ m.getD k 0 < ((2 ^ n : Nat) : Int) := by
  subst hl
  obtain ⟨⟨-, h8⟩, h1, -⟩ := may_all h
  refine ⟨h8, fun k hk => ?_⟩
  have := h1 k hk
  rw [pow_int] at this
  exact this
set_option maxHeartbeats 4000000 in
theorem rgfree_any (A : Option Addr) (n c : Nat) (m : List Int) (s : Int) (w : World) (hb : Its .i64 w A n c m) : Calls Try.prog 55 #[.slice A n c, .int .i64 s] w fun e w' => e = .returned (.bool (freeM m s)) ∧ Below w.heap.size w w' := by
  have hsm := hb.small
  have HL := Lib.hid hb.len
  have HMY := Lib.hid (fun (X : World) (hX : Its .i64 X A n c m) => rgmay_any A n c m X hX)
  have HMZ := Lib.hid (show Calls Try.prog 39 #[.slice A n c] w fun e w' => e = .returned (.bool (mayM m)) ∧ Below w.heap.size w w' from rgmay_any A n c m w hb)
  cases hm : mayM m with
  | false =>
    rw [hm] at HMZ
    have HR := Lib.hid (free_bad (s := s) (.inl hm))
    clear hb HMY hm
    go_enter Try.func55, Try.ntmps55
    go_wp2_with (go_at_call 39; (with_reducible refine (HMZ.out).mono ?_); rintro e w1 ⟨rfl, hb1⟩; have HB1 := Lib.hid hb1; clear hb1)
    go_ret
    exact ⟨by rw [HR.out]; rfl, HB1.out⟩
  | true =>
    rw [hm] at HMZ
    obtain ⟨hn8, hrw⟩ := may_rows hb.len hm
    have HRW := Lib.hid hrw
    have HPW := Lib.hid (fun X => rpow_any n (by omega) X)
    obtain ⟨PW, hPW⟩ : ∃ x : Int, ((2 ^ n : Nat) : Int) = x := ⟨_, rfl⟩
    have hp0 : 0 ≤ PW := by rw [← hPW]; exact Int.natCast_nonneg _
    have HPE := Lib.hid hPW
    rw [hPW] at HPW
    clear hPW hrw
    by_cases h1 : s < 0
    · have HR := Lib.hid (free_bad (m := m) (.inr (.inl h1)))
      clear hb HMY hm
      go_enter Try.func55, Try.ntmps55
      go_wp2_with (go_at_call 39; (with_reducible refine (HMZ.out).mono ?_); rintro e w1 ⟨rfl, hb1⟩; have HB1 := Lib.hid hb1; clear hb1)
      go_ret
      exact ⟨by rw [HR.out]; rfl, HB1.out⟩
    · by_cases h2 : PW ≤ s
      · have HR := Lib.hid (free_bad (m := m) (.inr (.inr (by rw [HL.out, HPE.out]; exact h2))))
        clear hb HMY hm
        go_enter Try.func55, Try.ntmps55
        go_wp2_with (first
          | (go_at_call 39; (with_reducible refine (HMZ.out).mono ?_); rintro e w1 ⟨rfl, hb1⟩; have HB1 := Lib.hid hb1; clear hb1)
          | (go_at_call 41; (with_reducible refine (HPW.out _).mono ?_); rintro e wp ⟨rfl, rfl⟩))
        go_ret
        exact ⟨by rw [HR.out]; rfl, HB1.out⟩
      · have hM := Lib.hid hm
        obtain ⟨t, rfl⟩ := Int.eq_ofNat_of_zero_le (show 0 ≤ s by omega)
        have hn1 : 1 ≤ n := by have := (may_all hm).1.1; rw [hb.len] at this; exact this
        obtain ⟨b, off, rfl, hc⟩ := hb.at_ (by omega)
        have ht8 : (t : Int) < 256 := by
          have e := pow_le hn8
          have e2 := HPE.out
          omega
        have htn : t < 2 ^ n := by have e2 := HPE.out; omega
        have HC := Lib.hid hc
        have HTN := Lib.hid htn
        clear hb HMY hm hc htn
        go_enter Try.func55, Try.ntmps55
        go_wp2_with (first
          | (go_at_call 39; (with_reducible refine (HMZ.out).mono ?_); rintro e w1 ⟨rfl, hb1⟩; have HB1 := Lib.hid hb1; clear hb1)
          | (go_at_call 41; (with_reducible refine (HPW.out _).mono ?_); rintro e wp ⟨rfl, rfl⟩))
        go_loopw [6] (fun v wr => ∃ i : Nat, i ≤ n ∧ v = .int .i64 i ∧ (∀ i', i' < i → ∀ k, k < n → ¬ (t.testBit i' = true ∧ t.testBit k = true ∧ meetM m i' k = true)) ∧ Below w.heap.size w wr) (fun v _ => n - (intOf v).toNat)
        case atStart => exact ⟨0, by omega, rfl, fun k hk => by omega, HB1.out⟩
        case round =>
          obtain ⟨i, hi, rfl, hout, hbw2⟩ := hrel
          have HO := Lib.hid hout
          have HB2 := Lib.hid hbw2
          clear hout hbw2
          by_cases hil : i < n
          · have q0 : 0 ≤ (i : Int) := by omega
            have q1 : (i : Int) < n := by omega
            go_wp2
            go_loopw [7] (fun v wr => ∃ k : Nat, k ≤ n ∧ v = .int .i64 k ∧ (∀ k', k' < k → ¬ (t.testBit i = true ∧ t.testBit k' = true ∧ meetM m i k' = true)) ∧ Below w.heap.size w wr) (fun v _ => n - (intOf v).toNat)
            case atStart => exact ⟨0, by omega, rfl, fun k hk => by omega, HB2.out⟩
            case round =>
              obtain ⟨k, hk, rfl, hin, hbw3⟩ := hrel
              have HI := Lib.hid hin
              have HB3 := Lib.hid hbw3
              clear hin hbw3
              by_cases hkl : k < n
              · have q2 : 0 ≤ (k : Int) := by omega
                have q3 : (k : Int) < n := by omega
                obtain ⟨u, hu, hu8⟩ := row_nat HRW.out hn8 hil
                have x1 : wr.cell? ⟨b, off + i, none⟩ = some (.int .i64 (u : Int)) := by rw [← hu]; exact (HB3.out.cell (p := ⟨b, off + i, none⟩) (block_lt_of_cell (HC.out i hil))).trans (HC.out i hil)
                have HI1 := Lib.hid (fun X => rin_any t i (by omega) (by omega) X)
                have HI2 := Lib.hid (fun X => rin_any t k (by omega) (by omega) X)
                have HI3 := Lib.hid (fun X => rin_any u k (by omega) (by omega) X)
                have hme : meetM m i k = u.testBit k := by rw [meetM, hu, bit_nat]
                have HNX := Lib.hid (fun (hf : ¬ (t.testBit i = true ∧ t.testBit k = true ∧ u.testBit k = true)) => (show ∀ k', k' < k + 1 → ¬ (t.testBit i = true ∧ t.testBit k' = true ∧ meetM m i k' = true) from fun k' hk' => by
                  by_cases e : k' = k
                  · subst e; rw [hme]; exact hf
                  · exact HI.out k' (by omega)))
                have HNO := Lib.hid (fun (hf : t.testBit i = true ∧ t.testBit k = true ∧ u.testBit k = true) => free_no (m := m) (t := t) (by rw [HL.out]; exact hil) (by rw [HL.out]; exact hkl) (by rw [hme]; exact hf))
                obtain ⟨B1, hB1⟩ : ∃ x, t.testBit i = x := ⟨_, rfl⟩
                obtain ⟨B2, hB2⟩ : ∃ x, t.testBit k = x := ⟨_, rfl⟩
                obtain ⟨B3, hB3⟩ : ∃ x, u.testBit k = x := ⟨_, rfl⟩
                simp only [hB1] at HI1
                simp only [hB2] at HI2
                simp only [hB3] at HI3
                have HBB := Lib.hid (And.intro hB1 (And.intro hB2 hB3))
                clear hB1 hB2 hB3 hu hme
                cases B1
                all_goals cases B2
                all_goals cases B3
                all_goals first
                  | (have HF := Lib.hid (HNX.out (fun h => by
                      have hh := HBB.out
                      rw [hh.1, hh.2.1, hh.2.2] at h
                      simp at h))
                     go_wp2_with (first
                       | (go_at_call 29; (with_reducible refine (HI1.out _).mono ?_); rintro e w1 ⟨rfl, rfl⟩)
                       | (go_at_call 29; (with_reducible refine (HI2.out _).mono ?_); rintro e w1 ⟨rfl, rfl⟩)
                       | (go_at_call 29; (with_reducible refine (HI3.out _).mono ?_); rintro e w1 ⟨rfl, rfl⟩))
                     go_roundw
                     case rel => exact ⟨k + 1, by omega, by go_num, HF.out, HB3.out⟩
                     case measure => simp [intOf]; omega)
                  | (have HF := Lib.hid (HNO.out HBB.out)
                     go_wp2_with (first
                       | (go_at_call 29; (with_reducible refine (HI1.out _).mono ?_); rintro e w1 ⟨rfl, rfl⟩)
                       | (go_at_call 29; (with_reducible refine (HI2.out _).mono ?_); rintro e w1 ⟨rfl, rfl⟩)
                       | (go_at_call 29; (with_reducible refine (HI3.out _).mono ?_); rintro e w1 ⟨rfl, rfl⟩))
                     go_ret
                     exact ⟨by rw [HF.out]; rfl, HB3.out⟩)
              · obtain rfl : k = n := by omega
                have HF := Lib.hid (show ∀ i', i' < i + 1 → ∀ k', k' < k → ¬ (t.testBit i' = true ∧ t.testBit k' = true ∧ meetM m i' k' = true) from fun i' hi' k' hk' => by
                  by_cases e : i' = i
                  · subst e; exact HI.out k' hk'
                  · exact HO.out i' (by omega) k' hk')
                go_wp2
                go_roundw
                case rel => exact ⟨i + 1, by omega, by go_num, HF.out, HB3.out⟩
                case measure => simp [intOf]; omega
          · obtain rfl : i = n := by omega
            have HR := Lib.hid (show freeM m (t : Int) = true from (free_nat hM.out (by rw [HL.out]; exact HTN.out)).2 (by rw [HL.out]; exact HO.out))
            go_wp2
            go_ret
            exact ⟨by rw [HR.out]; rfl, HB2.out⟩
end Go.Proofs.Ytekmagpokcloaaa

/- The walk over the document's Against of a set. -/
namespace Go.Proofs.Ytekmagpokcloaaa
set_option maxRecDepth 100000
set_option linter.unusedVariables false
set_option linter.unusedSimpArgs false
open Go.RowKit

theorem against_bad {m : List Int} {s : Int} (h : mayM m = false ∨ s < 0 ∨ ((2 ^ m.length : Nat) : Int) ≤ s) : againstM m s = -1 := if_neg fun hh => by
  obtain ⟨h1, h2, h3⟩ := hh
  rw [pow_int] at h3
  rcases h with h | h | h
  · rw [h] at h1; cases h1
  · omega
  · omega
def anyTo (m : List Int) (t k i : Nat) : Bool := (List.range i).any fun j => t.testBit j && meetM m j k
theorem any_next (m : List Int) (t k i : Nat) : anyTo m t k (i + 1) = (anyTo m t k i || (t.testBit i && meetM m i k)) := by
  simp [anyTo, List.range_succ]
theorem any_hit {m : List Int} {t k n : Nat} (hl : m.length = n) : anyTo m t k n = hitM m (t : Int) k := by
  subst hl
  simp only [anyTo, hitM, bit_nat]
end Go.Proofs.Ytekmagpokcloaaa

/- The walks over the document's stage of a plan, and Has. -/
namespace Go.Proofs.Ytekmagpokcloaaa
set_option maxRecDepth 100000
set_option linter.unusedVariables false
set_option linter.unusedSimpArgs false
open Go.RowKit

set_option maxHeartbeats 4000000 in
theorem rstage_any (p : Pl) (x : Stg) (w : World) (hp : PlIn w p) : Calls Try.prog 40 #[plV p, .agg #[.int .i64 x.g, .int .i64 x.mn, .int .i64 x.mx]] w fun e w' => e = .returned (.bool (stageB p.m x)) ∧ Below w.heap.size w w' := by
  obtain ⟨g, mn, mx⟩ := x
  simp only [plV]
  have hr : stageB p.m ⟨g, mn, mx⟩ = (freeM p.m g && (decide (g ≠ 0) && (decide (1 ≤ mn) && (decide (mn ≤ 200) && (decide (mn ≤ mx) && decide (mx ≤ 200)))))) := rfl
  obtain ⟨W, hW⟩ : ∃ W, (w.alloc (.cells #[.slice p.A p.n p.c, .slice p.B p.k p.d, .int .i64 p.am, .int .i64 p.rd, .int .i64 p.hd] 25)).alloc (.cells #[.int .i64 g, .int .i64 mn, .int .i64 mx] 39) = W := ⟨_, rfl⟩
  have hB : Below w.heap.size w W := by rw [← hW]; exact (one_alloc w _).alloc (by simp) _
  have HFR := Lib.hid (rgfree_any p.A p.n p.c p.m g W (hp.below hB).m)
  have hx : W.heap[w.heap.size + 1]? = some (.cells #[.int .i64 g, .int .i64 mn, .int .i64 mx] 39 (0, 0)) := by rw [← hW]; exact heap_alloc2_new w _ _
  have hlt : w.heap.size + 1 < W.heap.size := (Array.getElem?_eq_some_iff.1 hx).1
  have HXC := Lib.hid (show ∀ X, Below W.heap.size W X → X.cell? ⟨w.heap.size + 1, 0, none⟩ = some (.int .i64 g) ∧ X.cell? ⟨w.heap.size + 1, 1, none⟩ = some (.int .i64 mn) ∧ X.cell? ⟨w.heap.size + 1, 2, none⟩ = some (.int .i64 mx) from fun X hX => by
    have h := (hX.block _ hlt).trans hx
    exact ⟨(cell_of_row _ _ _ _ _ _ h).trans rfl, (cell_of_row _ _ _ _ _ _ h).trans rfl, (cell_of_row _ _ _ _ _ _ h).trans rfl⟩)
  obtain ⟨F, hF⟩ : ∃ F, freeM p.m g = F := ⟨_, rfl⟩
  obtain ⟨M, hM⟩ : ∃ M, stageB p.m ⟨g, mn, mx⟩ = M := ⟨_, rfl⟩
  rw [hF] at HFR hr
  rw [hM] at hr ⊢
  have HB := Lib.hid hB
  have HW := Lib.hid hW
  obtain ⟨A, n, c, m, B, k, d, s, am, rd, hd⟩ := p
  simp only at *
  clear hM hF hp hx hlt hB hW
  obtain ⟨p0, hp0⟩ : ∃ b, decide (g ≠ 0) = b := ⟨_, rfl⟩
  obtain ⟨p1, hp1⟩ : ∃ b, decide (1 ≤ mn) = b := ⟨_, rfl⟩
  obtain ⟨p2, hp2⟩ : ∃ b, decide (mn ≤ 200) = b := ⟨_, rfl⟩
  obtain ⟨p3, hp3⟩ : ∃ b, decide (mn ≤ mx) = b := ⟨_, rfl⟩
  obtain ⟨p4, hp4⟩ : ∃ b, decide (mx ≤ 200) = b := ⟨_, rfl⟩
  have ep0 : (g != 0) = p0 := by rw [← hp0, Bool.eq_iff_iff]; simp
  rw [hp0, hp1, hp2, hp3, hp4] at hr
  clear hp0
  cases F
  case' true =>
    cases p0
    case' true =>
      cases p1
      case' true =>
        cases p2
        case' true =>
          cases p3
  all_goals
    simp only [Bool.true_and, Bool.false_and, Bool.and_true, Bool.and_false] at hr
    subst hr
    go_enter Try.func40, Try.ntmps40
    go_wp2_with (first
      | (go_at_call 55
         rw [HW.out]
         (with_reducible refine (HFR.out).mono ?_)
         rintro e w1 ⟨rfl, hb1⟩
         obtain ⟨z0, z1, z2⟩ := HXC.out w1 hb1
         have HB1 := Lib.hid (HB.out.trans (hb1.mono HB.out.size))
         clear hb1))
    go_ret
    exact ⟨rfl, HB1.out⟩
/-- has stage k group i? -/
theorem rhas_any (p : Pl) (k i t : Nat) (w : World) (hp : PlIn w p) (hk : k < p.k) (hg : (p.s.getD k Stg.zero).g = (t : Int)) (ht : t < 4611686018427387904) (hi : i ≤ 40) : Calls Try.prog 28 #[plV p, .int .i64 (k : Int), .int .i64 (i : Int)] w fun e w' => e = .returned (.bool (t.testBit i)) ∧ Below w.heap.size w w' := by
  have hsm := hp.s.small
  simp only [plV]
  have hB := one_alloc w (.cells #[.slice p.A p.n p.c, .slice p.B p.k p.d, .int .i64 p.am, .int .i64 p.rd, .int .i64 p.hd] 25)
  have hsa := hp.s.below hB
  obtain ⟨b, off, x, hA, hx, -, -, z0, -, -⟩ := hsa.at_ k hk
  rw [hx] at hg
  rw [hg] at z0
  have q0 : 0 ≤ (k : Int) := by omega
  have q1 : (k : Int) < p.k := by omega
  have HI := Lib.hid (fun X => rin_any t i ht hi X)
  have HB := Lib.hid hB
  obtain ⟨A, n, c, m, B, kk, d, s, am, rd, hd⟩ := p
  simp only at *
  subst hA
  clear hp hsa hx hg hB
  go_enter Try.func28, Try.ntmps28
  go_wp2_with (go_at_call 29; (with_reducible refine (HI.out _).mono ?_); rintro e w1 ⟨rfl, rfl⟩)
  go_ret
  exact ⟨rfl, HB.out⟩
end Go.Proofs.Ytekmagpokcloaaa
