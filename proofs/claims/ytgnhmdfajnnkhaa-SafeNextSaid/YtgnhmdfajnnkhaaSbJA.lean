/- Joined texts: Worlds: what a call leaves as it was; blocks behind new blocks; cells that are overwritten. Slices of numbers of any kind: what they read as; the call's own, and one more appended. Groups, plainly: sets as numbers, matrices, which groups conflict, the greatest free sets, the groups of a set. What the laws of groups ask, plainly. Slices whose elements are rows of k cells (structs, or one cell): what they read as; the call's own; append. Plans, plainly: stages, which plans fit, alone and together, the next stage, the least green, the cycle. The operations on sets that Go has: and, or, shifts of small numbers. A region that draws its order, walked by hand: one operation after another, taken first. The steps of a region that draws its order, in short: what is reckoned is filled in. The walks over the document's pow and In. The walk over the document's May of a matrix. The walk over the document's Free of a set. The walk over the document's Against of a set. The walks over the document's stage of a plan, and Has. The walk over the document's Fit of a plan. A slice of numbers without its first ones. The walk over the document's Ints: are two lists of numbers the same? '==' between two stages. The walk over the document's Same of plans. The walks over the document's Next and Cycle of a plan. The walk over the document's Least of a plan. The walk over the document's All of plans. Lamps, plainly: rows, their texts, what a plan shows, what clashes. The signal machine, plainly: which machines may be, what a tick makes of one, what it shows, what several ticks make. The walk over the document's May of a machine. The document's May of a machine: a stage, a phase, or what is asked for, that there is not. The document's May of a machine: one that is held as it may not be. The document's May of a machine: amber, and all red. The document's May of a machine: green. The walk over the document's May of a machine. -/
import Derived.Test.YtgnhmdfajnnkhaaRows
import Derived.WalkKit
import Derived.WalkSpells
import Derived.WalkLawsBesides
import Derived.Deep.QuietTactic
import Derived.BigQuiet
import Derived.StillTailTactics
import Derived.Lib.Hide
import Derived.Laws.CopyOwn
import Derived.OwnWalk
import Derived.Deep.MidRow
import Derived.Deep.RegionHeld3
import Derived.Laws.AppendOwnNone
import Derived.Laws.OwnMore
import Derived.Laws.ResultCell
import Derived.Maps.AppendAt
import Derived.Laws.BitsAllLaws
import Derived.Laws.Concat
/- Worlds: what a call leaves as it was; blocks behind new blocks; cells that are overwritten. -/
namespace Go.Proofs.Ytgnhmdfajnnkhaa
open Go.RowKit

theorem two_below (w : World) (o1 o2 : Obj) : Below w.heap.size w ((w.alloc o1).alloc o2) := ((Below.refl _ _).alloc (Nat.le_refl _) _).alloc (by simp) _
theorem Below.grows {B g : Nat} {w w1 w2 : World} (h : Below B w w1) (hg : w1.grownBy w2 (some g)) (hB : B ≤ w1.heap.size) (hr : B ≤ g) : Below B w w2 :=
  h.grown hg hB (fun k e => by injection e with e; omega)
theorem ne_some {a b : Nat} (h : a ≠ b) : some a ≠ some b := fun e => h (Option.some.inj e)
theorem grown_setRow (w : World) (g : Nat) (cs : Array Value) : w.grownBy (w.setRow g cs) (some g) :=
  ⟨rfl, rfl, rfl, by simp, fun k _ hk => setRow_other w g k _ (fun e => hk (by rw [e]))⟩
theorem size_le_alloc (w : World) (o : Obj) : w.heap.size ≤ (w.alloc o).heap.size := by simp
theorem one_alloc (w : World) (o : Obj) : Below w.heap.size w (w.alloc o) := (Below.refl _ w).alloc (Nat.le_refl _) o
end Go.Proofs.Ytgnhmdfajnnkhaa


/- Slices of numbers of any kind: what they read as; the call's own, and one more appended. -/
namespace Go.Proofs.Ytgnhmdfajnnkhaa
open Go.RowKit

/-- numbers of kind K, as cells -/
def inv (K : IntKind) (l : List Int) : List Value := l.map (Value.int K)
theorem inv_length (K : IntKind) (l : List Int) : (inv K l).length = l.length := by simp [inv]
theorem inv_get (K : IntKind) (l : List Int) (i : Nat) (h : i < l.length) : (inv K l)[i]? = some (.int K (l.getD i 0)) := by
  simp [inv, List.getD_eq_getElem?_getD, h]
theorem inv_append (K : IntKind) (l m : List Int) : inv K (l ++ m) = inv K l ++ inv K m := by simp [inv]
theorem inv_one (K : IntKind) (l : List Int) : ∀ u ∈ inv K l, u.oneCell' = true := by
  intro u hu
  simp only [inv, List.mem_map] at hu
  obtain ⟨x, _, rfl⟩ := hu
  rfl

/-- the slice value A, n, cap reads as the numbers l, of kind K -/
structure Its (K : IntKind) (w : World) (A : Option Addr) (n cap : Nat) (l : List Int) : Prop where
  len : l.length = n
  le : n ≤ cap
  max : cap ≤ maxLen
  bare : A = none → cap = 0
  at_ : 0 < n → ∃ b off, A = some ⟨b, off, none⟩ ∧ ∀ j, j < n → w.cell? ⟨b, off + j, none⟩ = some (.int K (l.getD j 0))
section
variable {K : IntKind} {w w' : World} {A : Option Addr} {n cap : Nat} {l : List Int}
theorem Its.below (h : Its K w A n cap l) (hb : Below w.heap.size w w') : Its K w' A n cap l := by
  refine ⟨h.len, h.le, h.max, h.bare, fun hn => ?_⟩
  obtain ⟨b, off, hA, hc⟩ := h.at_ hn
  exact ⟨b, off, hA, fun j hj => (hb.cell (p := ⟨b, off + j, none⟩) (block_lt_of_cell (hc j hj))).trans (hc j hj)⟩
theorem Its.more (h : Its K w A n cap l) (o : Obj) : Its K (w.alloc o) A n cap l := h.below ((Below.refl _ _).alloc (Nat.le_refl _) _)
theorem Its.small (h : Its K w A n cap l) : n ≤ 9223372036854775807 := Nat.le_trans h.le (by have := h.max; unfold maxLen at this; omega)
theorem Its.grown {row : Option Nat} (h : Its K w A n cap l) (hg : w.grownBy w' row) (hne : ∀ b off, A = some ⟨b, off, none⟩ → some b ≠ row) : Its K w' A n cap l := by
  refine ⟨h.len, h.le, h.max, h.bare, fun hn => ?_⟩
  obtain ⟨b, off, hA, hc⟩ := h.at_ hn
  refine ⟨b, off, hA, fun j hj => ?_⟩
  rw [World.cell?_of_block (w := w) (a := ⟨b, off + j, none⟩) (hg.block b (block_lt_of_cell (hc j hj)) (hne b off hA))]
  exact hc j hj
end
theorem Its.nil (K : IntKind) (w : World) : Its K w none 0 0 [] := ⟨rfl, Nat.le_refl _, by unfold maxLen; omega, fun _ => rfl, fun h => by omega⟩

/-- a slice of numbers that the call made itself; e: the element's type -/
def OwnI (K : IntKind) (e : TypeId) (w : World) (base : Nat) (v : Value) (l : List Int) : Prop := w.ownsRow base e 1 v l.length (inv K l)
section
variable {K : IntKind} {e : TypeId} {w w' : World} {base : Nat} {v : Value} {l : List Int}
theorem OwnI.nil (K : IntKind) (e : TypeId) (w : World) (base : Nat) : OwnI K e w base (.slice none 0 0) [] := World.ownsRow_nil _ _ _ _
theorem OwnI.more (h : OwnI K e w base v l) (o : Obj) : OwnI K e (w.alloc o) base v l := World.ownsRow.alloc h o
theorem OwnI.size (h : OwnI K e w base v l) : ∀ k, v.ownBlock = some k → base ≤ k ∧ k < w.heap.size := World.ownsRow.lt h
theorem OwnI.mono {b : Nat} (h : OwnI K e w base v l) (hb : b ≤ base) : OwnI K e w b v l := by
  refine ⟨h.1, ?_⟩
  rcases h.2 with h0 | ⟨g, cap, cur, hv, hg, rest⟩
  · exact .inl h0
  · exact .inr ⟨g, cap, cur, hv, Nat.le_trans hb hg, rest⟩
theorem OwnI.below (h : OwnI K e w base v l) (hb : Below w.heap.size w w') : OwnI K e w' base v l := by
  refine ⟨h.1, ?_⟩
  rcases h.2 with h0 | ⟨g, cap, cur, hv, hg, hh, rest⟩
  · exact .inl h0
  · exact .inr ⟨g, cap, cur, hv, hg, (hb.block g (Array.getElem?_eq_some_iff.1 hh).1).trans hh, rest⟩
theorem OwnI.far {row : Option Nat} (h : OwnI K e w base v l) (hg : w.grownBy w' row) (hne : v.ownBlock = none ∨ v.ownBlock ≠ row) : OwnI K e w' base v l := World.ownsRow.kept h hg hne
theorem OwnI.its (h : OwnI K e w base v l) : ∃ A n cap, v = .slice A n cap ∧ Its K w A n cap l := by
  rcases h.2 with ⟨hv, hn⟩ | ⟨g, cap, cur, hv, _, hh, hnc, hcm, hcs, htake⟩
  · obtain rfl : l = [] := List.eq_nil_of_length_eq_zero hn
    exact ⟨none, 0, 0, hv, Its.nil K w⟩
  · refine ⟨some ⟨g, 0, none⟩, l.length, cap, hv, rfl, hnc, hcm, (fun e => by cases e), fun hn => ⟨g, 0, rfl, fun j hj => ?_⟩⟩
    rw [Nat.zero_add, cell_of_row _ _ _ _ _ _ hh, ← inv_get K l j hj, ← htake, List.getElem?_take, if_pos (by omega)]
    simp
end

/-- a literal of one number -/
theorem one_its (K : IntKind) (e : TypeId) (w : World) (x : Int) : Its K (w.alloc (.cells #[.int K x] e)) (some ⟨w.heap.size, 0, none⟩) 1 1 [x] := by
  refine ⟨rfl, Nat.le_refl _, by unfold maxLen; omega, (fun e => by cases e), fun _ => ⟨w.heap.size, 0, rfl, fun j hj => ?_⟩⟩
  obtain rfl : j = 0 := by omega
  exact (cell_of_row _ _ _ _ _ _ (heap_alloc_new w _)).trans rfl
/-- two slices that lie in blocks of their own -/
def Sep (a b : Value) : Prop := ∀ g, a.ownBlock = some g → b.ownBlock ≠ some g
theorem Sep.symm {a b : Value} (h : Sep a b) : Sep b a := fun g hb ha => h g ha hb
theorem Sep.nil (b : Value) : Sep (.slice none 0 0) b := fun g h => by simp [Value.ownBlock] at h
theorem Sep.row {a b : Value} (h : Sep a b) : a.ownBlock = none ∨ a.ownBlock ≠ b.ownBlock := by
  cases ha : a.ownBlock with
  | none => exact .inl rfl
  | some g => exact .inr fun e => h g ha e.symm
/-- one of them grows -/
theorem Sep.step {a a' b : Value} {n : Nat} (h : Sep a b) (hb : ∀ g, b.ownBlock = some g → g < n) (ha : a'.ownBlock = a.ownBlock ∨ a'.ownBlock = some n) : Sep a' b := by
  intro g hg hbg
  rcases ha with e | e
  · exact h g (e ▸ hg) hbg
  · rw [hg] at e
    have := hb g hbg
    injection e with e
    omega
end Go.Proofs.Ytgnhmdfajnnkhaa


/- Groups, plainly: sets as numbers, matrices, which groups conflict, the greatest free sets, the groups of a set. -/
namespace Go.Proofs.Ytgnhmdfajnnkhaa
set_option maxRecDepth 100000
set_option linter.unusedVariables false
set_option linter.unusedSimpArgs false
open Go

/-- is group i in the set s? -/
def bitI (s : Int) (i : Nat) : Bool := decide (s / 2 ^ i % 2 = 1)
theorem bit_nat (t i : Nat) : bitI (t : Int) i = t.testBit i := by
  rw [bitI, Nat.testBit_eq_decide_div_mod_eq]
  refine decide_eq_decide.2 ?_
  have e : ((2 : Int) ^ i) = ((2 ^ i : Nat) : Int) := by simp
  rw [e]
  omega
def meetM (m : List Int) (i k : Nat) : Bool := bitI (m.getD i 0) k
def rowsM (m : List Int) : Prop := ∀ i, i < m.length → 0 ≤ m.getD i 0 ∧ m.getD i 0 < 2 ^ m.length
def evenM (m : List Int) : Prop := ∀ i, i < m.length → ∀ k, k < m.length → meetM m i k = meetM m k i ∧ ¬ (meetM m i k = true ∧ i = k)
instance (m : List Int) : Decidable (rowsM m) := by unfold rowsM; infer_instance
instance (m : List Int) : Decidable (evenM m) := by unfold evenM; infer_instance
def mayM (m : List Int) : Bool := decide ((1 ≤ m.length ∧ m.length ≤ 8) ∧ rowsM m ∧ evenM m)
def setM (m : List Int) (s : Int) : Prop := 0 ≤ s ∧ s < 2 ^ m.length
instance (m : List Int) (s : Int) : Decidable (setM m s) := by unfold setM; infer_instance
def hitM (m : List Int) (s : Int) (k : Nat) : Bool := (List.range m.length).any fun i => bitI s i && meetM m i k
def sumN (f : Nat → Bool) : Nat → Nat
  | 0 => 0
  | k + 1 => sumN f k + (if f k then 2 ^ k else 0)
def againstM (m : List Int) (s : Int) : Int := if mayM m = true ∧ setM m s then (sumN (hitM m s) m.length : Nat) else -1
def noneM (m : List Int) (s : Int) : Prop := ∀ i, i < m.length → ∀ k, k < m.length → ¬ (bitI s i = true ∧ bitI s k = true ∧ meetM m i k = true)
instance (m : List Int) (s : Int) : Decidable (noneM m s) := by unfold noneM; infer_instance
def freeM (m : List Int) (s : Int) : Bool := decide (mayM m = true ∧ setM m s ∧ noneM m s)
def listM (s : Int) : List Int := if 0 ≤ s ∧ s < 256 then ((List.range 8).filter (bitI s)).map Int.ofNat else []
theorem may_all {m : List Int} (h : mayM m = true) : (1 ≤ m.length ∧ m.length ≤ 8) ∧ rowsM m ∧ evenM m := of_decide_eq_true h
theorem free_iff {m : List Int} {s : Int} : freeM m s = true ↔ mayM m = true ∧ setM m s ∧ noneM m s := decide_eq_true_iff
theorem pow_le {n : Nat} (h : n ≤ 8) : (2 : Nat) ^ n ≤ 256 := Nat.pow_le_pow_right (by omega) h
theorem pow_int (n : Nat) : ((2 : Int) ^ n) = ((2 ^ n : Nat) : Int) := by simp
theorem set_nat {m : List Int} {s : Int} (h : setM m s) : ∃ t : Nat, s = t ∧ t < 2 ^ m.length := by
  obtain ⟨h0, h1⟩ := h
  obtain ⟨t, rfl⟩ := Int.eq_ofNat_of_zero_le h0
  rw [pow_int] at h1
  exact ⟨t, rfl, by omega⟩
theorem nat_set {m : List Int} {t : Nat} (h : t < 2 ^ m.length) : setM m (t : Int) := by
  unfold setM
  rw [pow_int]
  omega
theorem sumN_lt (f : Nat → Bool) : ∀ n, sumN f n < 2 ^ n
  | 0 => by simp [sumN]
  | n + 1 => by
    have := sumN_lt f n
    rw [sumN, Nat.pow_succ]
    split <;> omega
theorem sumN_bit (f : Nat → Bool) (k : Nat) : ∀ n, (sumN f n).testBit k = (decide (k < n) && f k)
  | 0 => by simp [sumN]
  | n + 1 => by
    have ih := sumN_bit f k n
    have hlt := sumN_lt f n
    rw [sumN]
    by_cases hf : f n = true
    · rw [if_pos hf, Nat.add_comm]
      by_cases h1 : k < n
      · rw [Nat.testBit_two_pow_add_gt h1, ih, decide_eq_true h1, decide_eq_true (by omega : k < n + 1)]
      · by_cases h2 : k = n
        · subst h2
          rw [Nat.testBit_two_pow_add_eq, Nat.testBit_lt_two_pow hlt, hf]
          simp
        · rw [Nat.testBit_lt_two_pow (x := 2 ^ n + sumN f n) (i := k), decide_eq_false (by omega)]
          · rfl
          · have : 2 ^ (n + 1) ≤ 2 ^ k := Nat.pow_le_pow_right (by omega) (by omega)
            rw [Nat.pow_succ] at this
            omega
    · rw [if_neg hf, Nat.add_zero, ih]
      by_cases h1 : k < n
      · rw [decide_eq_true h1, decide_eq_true (by omega : k < n + 1)]
      · rw [decide_eq_false h1]
        by_cases h2 : k = n
        · subst h2; simp [hf]
        · rw [decide_eq_false (by omega)]
def risesTo (l : List Int) (k : Nat) : Prop := ∀ i, i < k → 0 < i → l.getD (i - 1) 0 < l.getD i 0
instance (l : List Int) (k : Nat) : Decidable (risesTo l k) := by unfold risesTo; infer_instance
theorem mem8 : ∀ (t : Fin 256) (x : Int), x ∈ listM (t.val : Int) ↔ ∃ j : Fin 8, x = (j.val : Int) ∧ bitI (t.val : Int) j.val = true := by
  intro t x
  have h : 0 ≤ ((t.val : Nat) : Int) ∧ ((t.val : Nat) : Int) < 256 := ⟨by omega, by have := t.isLt; omega⟩
  rw [listM, if_pos h, List.mem_map]
  constructor
  · rintro ⟨a, ha, rfl⟩
    rw [List.mem_filter, List.mem_range] at ha
    exact ⟨⟨a, ha.1⟩, rfl, ha.2⟩
  · rintro ⟨j, rfl, hj⟩
    exact ⟨j.val, List.mem_filter.2 ⟨List.mem_range.2 j.isLt, hj⟩, rfl⟩
end Go.Proofs.Ytgnhmdfajnnkhaa


/- What the laws of groups ask, plainly. -/
namespace Go.Proofs.Ytgnhmdfajnnkhaa
set_option maxRecDepth 100000
set_option linter.unusedVariables false
set_option linter.unusedSimpArgs false
open Go

/-! what is free, in bits -/
theorem none_nat {m : List Int} {t : Nat} : noneM m (t : Int) ↔ ∀ i, i < m.length → ∀ k, k < m.length → ¬ (t.testBit i = true ∧ t.testBit k = true ∧ meetM m i k = true) := by
  unfold noneM
  simp only [bit_nat]
theorem free_nat {m : List Int} {t : Nat} (hm : mayM m = true) (ht : t < 2 ^ m.length) : freeM m (t : Int) = true ↔ ∀ i, i < m.length → ∀ k, k < m.length → ¬ (t.testBit i = true ∧ t.testBit k = true ∧ meetM m i k = true) := by
  rw [free_iff, none_nat]
  exact ⟨fun h => h.2.2, fun h => ⟨hm, nat_set ht, h⟩⟩
/-! the greatest free sets -/
/-! against -/
theorem against_some {m : List Int} {t : Nat} (hm : mayM m = true) (ht : t < 2 ^ m.length) : againstM m (t : Int) = (sumN (hitM m (t : Int)) m.length : Nat) := by rw [againstM, if_pos ⟨hm, nat_set ht⟩]
theorem hit_nat {m : List Int} {t k : Nat} : hitM m (t : Int) k = true ↔ ∃ i, i < m.length ∧ t.testBit i = true ∧ meetM m i k = true := by
  simp only [hitM, List.any_eq_true, List.mem_range, Bool.and_eq_true, bit_nat]
theorem against_bit {m : List Int} {t k : Nat} : (sumN (hitM m (t : Int)) m.length).testBit k = true ↔ k < m.length ∧ ∃ i, i < m.length ∧ t.testBit i = true ∧ meetM m i k = true := by
  rw [sumN_bit, Bool.and_eq_true, decide_eq_true_iff, hit_nat]
theorem free_against {m : List Int} {t : Nat} (hm : mayM m = true) (ht : t < 2 ^ m.length) : freeM m (t : Int) = decide (sumN (hitM m (t : Int)) m.length &&& t = 0) := by
  rw [Bool.eq_iff_iff, free_nat hm ht, decide_eq_true_iff]
  constructor
  · intro h
    apply Nat.eq_of_testBit_eq
    intro k
    rw [Nat.zero_testBit]
    apply Bool.eq_false_iff.2
    intro hc
    rw [Nat.testBit_and, Bool.and_eq_true, against_bit] at hc
    obtain ⟨⟨hk, i, hi, hb, hme⟩, hbk⟩ := hc
    exact h i hi k hk ⟨hb, hbk, hme⟩
  · intro h i hi k hk hc
    have h1 : (sumN (hitM m (t : Int)) m.length &&& t).testBit k = true := by
      rw [Nat.testBit_and, Bool.and_eq_true, against_bit]
      exact ⟨⟨hk, i, hi, hc.1, hc.2.2⟩, hc.2.1⟩
    rw [h, Nat.zero_testBit] at h1
    cases h1
/-! a list and its set -/
end Go.Proofs.Ytgnhmdfajnnkhaa


/- Slices whose elements are rows of k cells (structs, or one cell): what they read as; the call's own; append. -/
namespace Go.Proofs.Ytgnhmdfajnnkhaa
open Go.RowKit

theorem flat_len {k : Nat} {rows : List (List Value)} (h : ∀ r ∈ rows, r.length = k) : rows.flatten.length = rows.length * k := by
  induction rows with
  | nil => simp
  | cons r rows ih =>
    rw [List.flatten_cons, List.length_append, h r (by simp), ih (fun x hx => h x (by simp [hx])), List.length_cons, Nat.add_mul, Nat.one_mul, Nat.add_comm]
theorem flat_get {k : Nat} {rows : List (List Value)} (h : ∀ r ∈ rows, r.length = k) (j i : Nat) (hj : j < rows.length) (hi : i < k) : rows.flatten[j * k + i]? = some ((rows.getD j []).getD i undef) := by
  induction rows generalizing j with
  | nil => simp at hj
  | cons r rows ih =>
    have hr := h r (by simp)
    rw [List.flatten_cons]
    cases j with
    | zero =>
      rw [Nat.zero_mul, Nat.zero_add, List.getElem?_append_left (by omega)]
      simp [List.getD_eq_getElem?_getD, List.getElem?_eq_getElem (show i < r.length by omega)]
    | succ j =>
      rw [Nat.add_mul, Nat.one_mul, List.getElem?_append_right (by rw [hr]; omega), hr, show j * k + k + i - k = j * k + i by omega]
      rw [ih (fun x hx => h x (by simp [hx])) j (by simpa using hj)]
      simp
/-- the slice value A, n, cap reads as the rows, of k cells each -/
structure Rws (k : Nat) (w : World) (A : Option Addr) (n cap : Nat) (rows : List (List Value)) : Prop where
  len : rows.length = n
  wid : ∀ r ∈ rows, r.length = k
  one : ∀ r ∈ rows, ∀ u ∈ r, u.oneCell' = true
  le : n ≤ cap
  max : cap ≤ maxLen
  bare : A = none → cap = 0
  at_ : 0 < n → ∃ b off, A = some ⟨b, off, none⟩ ∧ ∀ j, j < n → ∀ i, i < k → w.cell? ⟨b, off + j * k + i, none⟩ = some ((rows.getD j []).getD i undef)
section
variable {k : Nat} {w w' : World} {A : Option Addr} {n cap : Nat} {rows : List (List Value)}
theorem Rws.below (h : Rws k w A n cap rows) (hb : Below w.heap.size w w') : Rws k w' A n cap rows := by
  refine ⟨h.len, h.wid, h.one, h.le, h.max, h.bare, fun hn => ?_⟩
  obtain ⟨b, off, hA, hc⟩ := h.at_ hn
  exact ⟨b, off, hA, fun j hj i hi => (hb.cell (p := ⟨b, off + j * k + i, none⟩) (block_lt_of_cell (hc j hj i hi))).trans (hc j hj i hi)⟩
theorem Rws.more (h : Rws k w A n cap rows) (o : Obj) : Rws k (w.alloc o) A n cap rows := h.below ((Below.refl _ _).alloc (Nat.le_refl _) _)
theorem Rws.small (h : Rws k w A n cap rows) : n ≤ 9223372036854775807 := Nat.le_trans h.le (by have := h.max; unfold maxLen at this; omega)
theorem Rws.grown {row : Option Nat} (h : Rws k w A n cap rows) (hg : w.grownBy w' row) (hne : ∀ b off, A = some ⟨b, off, none⟩ → some b ≠ row) : Rws k w' A n cap rows := by
  refine ⟨h.len, h.wid, h.one, h.le, h.max, h.bare, fun hn => ?_⟩
  obtain ⟨b, off, hA, hc⟩ := h.at_ hn
  refine ⟨b, off, hA, fun j hj i hi => ?_⟩
  rw [World.cell?_of_block (w := w) (a := ⟨b, off + j * k + i, none⟩) (hg.block b (block_lt_of_cell (hc j hj i hi)) (hne b off hA))]
  exact hc j hj i hi
end
theorem Rws.nil (k : Nat) (w : World) : Rws k w none 0 0 [] := ⟨rfl, (fun _ h => by cases h), (fun _ h => by cases h), Nat.le_refl _, by unfold maxLen; omega, fun _ => rfl, fun h => by omega⟩
/-- a slice of rows that the call made itself; e: the element's type -/
structure OwnR (e : TypeId) (k : Nat) (w : World) (base : Nat) (v : Value) (rows : List (List Value)) : Prop where
  row : w.ownsRow base e k v rows.length rows.flatten
  wid : ∀ r ∈ rows, r.length = k
  one : ∀ r ∈ rows, ∀ u ∈ r, u.oneCell' = true
section
variable {e : TypeId} {k : Nat} {w w' : World} {base : Nat} {v : Value} {rows : List (List Value)}
theorem OwnR.nil (e : TypeId) (k : Nat) (w : World) (base : Nat) : OwnR e k w base (.slice none 0 0) [] := ⟨World.ownsRow_nil _ _ _ _, (fun _ h => by cases h), (fun _ h => by cases h)⟩
theorem OwnR.more (h : OwnR e k w base v rows) (o : Obj) : OwnR e k (w.alloc o) base v rows := ⟨World.ownsRow.alloc h.row o, h.wid, h.one⟩
theorem OwnR.size (h : OwnR e k w base v rows) : ∀ g, v.ownBlock = some g → base ≤ g ∧ g < w.heap.size := World.ownsRow.lt h.row
theorem OwnR.below (h : OwnR e k w base v rows) (hb : Below w.heap.size w w') : OwnR e k w' base v rows := by
  refine ⟨⟨h.row.1, ?_⟩, h.wid, h.one⟩
  rcases h.row.2 with h0 | ⟨g, cap, cur, hv, hg, hh, rest⟩
  · exact .inl h0
  · exact .inr ⟨g, cap, cur, hv, hg, (hb.block g (Array.getElem?_eq_some_iff.1 hh).1).trans hh, rest⟩
theorem OwnR.far {row : Option Nat} (h : OwnR e k w base v rows) (hg : w.grownBy w' row) (hne : v.ownBlock = none ∨ v.ownBlock ≠ row) : OwnR e k w' base v rows := ⟨World.ownsRow.kept h.row hg hne, h.wid, h.one⟩
theorem OwnR.rws (h : OwnR e k w base v rows) : ∃ A n cap, v = .slice A n cap ∧ Rws k w A n cap rows := by
  rcases h.row.2 with ⟨hv, hn⟩ | ⟨g, cap, cur, hv, _, hh, hnc, hcm, hcs, htake⟩
  · obtain rfl : rows = [] := List.eq_nil_of_length_eq_zero hn
    exact ⟨none, 0, 0, hv, Rws.nil k w⟩
  · refine ⟨some ⟨g, 0, none⟩, rows.length, cap, hv, rfl, h.wid, h.one, hnc, hcm, (fun e => by cases e), fun hn => ⟨g, 0, rfl, fun j hj i hi => ?_⟩⟩
    have hlt : j * k + i < rows.length * k := by
      have : (j + 1) * k ≤ rows.length * k := Nat.mul_le_mul_right _ hj
      rw [Nat.add_mul, Nat.one_mul] at this
      omega
    rw [Nat.zero_add, cell_of_row _ _ _ _ _ _ hh, ← flat_get h.wid j i hj hi, ← htake, List.getElem?_take, if_pos hlt]
    simp
end
theorem Rws.news {k : Nat} {w : World} {b off n cap : Nat} {rows : List (List Value)} (h : Rws k w (some ⟨b, off, none⟩) n cap rows) (hk : 0 < k) : ∀ (j : Nat) (u : Value), rows.flatten[j]? = some u → w.cell? ((⟨b, off, none⟩ : Addr).add j) = some u := by
  intro j u hu
  have hj : j < rows.length * k := by
    have := (List.getElem?_eq_some_iff.1 hu).1
    rwa [flat_len h.wid] at this
  have hq : j / k < rows.length := (Nat.div_lt_iff_lt_mul hk).2 hj
  have hr : j % k < k := Nat.mod_lt _ hk
  have hjk : j / k * k + j % k = j := by rw [Nat.mul_comm]; exact Nat.div_add_mod j k
  rw [← hjk, flat_get h.wid _ _ hq hr] at hu
  obtain ⟨b', off', hA, hc⟩ := h.at_ (by rw [← h.len]; exact Nat.lt_of_le_of_lt (Nat.zero_le _) hq)
  injection hA with hA
  injection hA with e1 e2 _
  subst e1 e2
  have hadd : (⟨b, off, none⟩ : Addr).add j = ⟨b, off + j, none⟩ := by
    unfold Addr.add
    split
    · rename_i h0; subst h0; rfl
    · rfl
  have := hc (j / k) (by rw [← h.len]; exact hq) (j % k) hr
  rw [Nat.add_assoc, hjk] at this
  rw [hadd, this, hu]
theorem flat_one {rows : List (List Value)} (h : ∀ r ∈ rows, ∀ u ∈ r, u.oneCell' = true) : ∀ u ∈ rows.flatten, u.oneCell' = true := by
  intro u hu
  obtain ⟨r, hr, hu⟩ := List.mem_flatten.1 hu
  exact h r hr u hu
theorem mem_app {α : Type} {p : α → Prop} {l m : List α} (h : ∀ x ∈ l, p x) (k : ∀ x ∈ m, p x) : ∀ x ∈ l ++ m, p x := fun x hx => (List.mem_append.1 hx).elim (h x) (k x)
/-- append(v, s...): v the call's own, s whatever; t: the slice's type, e the element's, of k cells and B bytes -/
theorem wp_append_r {P : Program} {w : World} {o : Oper} {a : Act} {K : Act → World → Prop} {Q : Exit → Act → World → Prop} (t e : TypeId) (k B : Nat) (s x : Operand)
    (ho : o.op = .call { callee := .builtin .append, args := #[s, x], argTypes := #[t, t] }) (hu : P.underlying t = some (.slice e)) (hinfo : (P.info? e).map (fun i => (i.zero.map (·.cells.size), i.size, i.bytes)) = some (some k, k, B)) (hk : 0 < k)
    (base : Nat) (v : Value) (rows : List (List Value)) (hs : a.eval s = v) (hown : OwnR e k w base v rows) (A : Option Addr) (m c : Nat) (news : List (List Value)) (hx : a.eval x = .slice A m c) (hr : Rws k w A m c news)
    (hsmall : (rows.length + m) * B ≤ 140737488355328) (hm63 : rows.length + m ≤ 140737488355328) (hbase : base ≤ w.heap.size)
    (h : ∀ v' w', OwnR e k w' base v' (rows ++ news) → w.grownBy w' v.ownBlock → K (a.put o.dst v') w') : o.wp P a w K Q := by
  cases hi : P.info? e with
  | none => simp [hi] at hinfo
  | some i =>
    simp only [hi, Option.map_some, Option.some.injEq, Prod.mk.injEq] at hinfo
    obtain ⟨hz, h1, h2⟩ := hinfo
    cases hzz : i.zero with
    | none => simp [hzz] at hz
    | some z =>
      simp only [hzz, Option.map_some, Option.some.injEq] at hz
      rcases A with _ | ad
      · obtain rfl := hr.bare rfl
        have hm : m = 0 := by have := hr.le; omega
        subst hm
        obtain rfl : news = [] := List.eq_nil_of_length_eq_zero hr.len
        have hrun := run_append_owned_none (P := P) (w := w) base t o.type e i k hu hi v rows.length rows.flatten hown.row
        unfold Oper.wp
        simp [execOp, ho, resolve, invoke, builtin, hs, hx, hrun, Result.andThen]
        exact h v w (by simpa using hown) (World.grownBy.refl w _)
      · have hnews : ∀ (j : Nat) (u : Value), news.flatten[j]? = some u → w.cell? (ad.add j) = some u := by
          intro j u hu
          have hm0 : 0 < m := by
            have h3 := (List.getElem?_eq_some_iff.1 hu).1
            rw [flat_len hr.wid, hr.len] at h3
            rcases Nat.eq_zero_or_pos m with h4 | h4
            · rw [h4, Nat.zero_mul] at h3; omega
            · exact h4
          obtain ⟨b, off, hA, _⟩ := hr.at_ hm0
          injection hA with hA
          subst hA
          exact hr.news hk j u hu
        refine wp_append_own (P := P) w s x t ho base e i z k B hu hi hzz h1 h2 hz hk v rows.length rows.flatten hs hown.row ad m c news.flatten hx (by rw [flat_len hr.wid, hr.len]) hnews (flat_one hr.one) (by unfold maxLen; omega) hsmall hbase ?_
        intro v' w' hown' hg _
        refine h v' w' ⟨?_, mem_app hown.wid hr.wid, mem_app hown.one hr.one⟩ hg
        rw [List.flatten_append, List.length_append, hr.len]
        exact hown'
theorem wpList_append_r {P : Program} {w : World} {ops : Array Oper} {rest : List Oper} {o : Oper} {a : Act} {Q : Exit → Act → World → Prop} (hgd : o.guard = none) (t e : TypeId) (k B : Nat) (s x : Operand)
    (ho : o.op = .call { callee := .builtin .append, args := #[s, x], argTypes := #[t, t] }) (hu : P.underlying t = some (.slice e)) (hinfo : (P.info? e).map (fun i => (i.zero.map (·.cells.size), i.size, i.bytes)) = some (some k, k, B)) (hk : 0 < k)
    (base : Nat) (v : Value) (rows : List (List Value)) (hs : a.eval s = v) (hown : OwnR e k w base v rows) (A : Option Addr) (m c : Nat) (news : List (List Value)) (hx : a.eval x = .slice A m c) (hr : Rws k w A m c news)
    (hsmall : (rows.length + m) * B ≤ 140737488355328) (hm63 : rows.length + m ≤ 140737488355328) (hbase : base ≤ w.heap.size)
    (h : ∀ v' w', OwnR e k w' base v' (rows ++ news) → w.grownBy w' v.ownBlock → wpList P ops Q rest (a.put o.dst v') w') : wpList P ops Q (o :: rest) a w :=
  wpList_plain hgd fun _ hK => wp_append_r t e k B s x ho hu hinfo hk base v rows hs hown A m c news hx hr hsmall hm63 hbase fun v' w' h2 h3 => hK _ _ (h v' w' h2 h3)
/-- the same as one step of a region that draws its order -/
theorem step_append_r {P : Program} {ops : Array Oper} {o : Oper} {a : Act} {w : World} {K : Act → World → Prop} {Q : Exit → Act → World → Prop} {E : Prop} (t e : TypeId) (k B : Nat) (s x : Operand)
    (ho : o.op = .call { callee := .builtin .append, args := #[s, x], argTypes := #[t, t] }) (hu : P.underlying t = some (.slice e)) (hinfo : (P.info? e).map (fun i => (i.zero.map (·.cells.size), i.size, i.bytes)) = some (some k, k, B)) (hk : 0 < k)
    (base : Nat) (v : Value) (rows : List (List Value)) (hs : a.eval s = v) (hown : OwnR e k w base v rows) (A : Option Addr) (m c : Nat) (news : List (List Value)) (hx : a.eval x = .slice A m c) (hr : Rws k w A m c news)
    (hsmall : (rows.length + m) * B ≤ 140737488355328) (hm63 : rows.length + m ≤ 140737488355328) (hbase : base ≤ w.heap.size) (hw : Region.wanted o (yielded ops a.tmps) = true)
    (h : ∀ v' w', OwnR e k w' base v' (rows ++ news) → w.grownBy w' v.ownBlock → K (a.put o.dst v') w') : if Region.wanted o (yielded ops a.tmps) = true then Oper.wp P o a w K Q else E := by
  rw [if_pos hw]
  exact wp_append_r t e k B s x ho hu hinfo hk base v rows hs hown A m c news hx hr hsmall hm63 hbase h
/-- the same, and where it lies -/
theorem wpList_append_r_at {P : Program} {w : World} {ops : Array Oper} {rest : List Oper} {o : Oper} {a : Act} {Q : Exit → Act → World → Prop} (hgd : o.guard = none) (t e : TypeId) (k B : Nat) (s x : Operand)
    (ho : o.op = .call { callee := .builtin .append, args := #[s, x], argTypes := #[t, t] }) (hu : P.underlying t = some (.slice e)) (hinfo : (P.info? e).map (fun i => (i.zero.map (·.cells.size), i.size, i.bytes)) = some (some k, k, B)) (hk : 0 < k)
    (base : Nat) (v : Value) (rows : List (List Value)) (hs : a.eval s = v) (hown : OwnR e k w base v rows) (A : Option Addr) (m c : Nat) (news : List (List Value)) (hx : a.eval x = .slice A m c) (hr : Rws k w A m c news)
    (hsmall : (rows.length + m) * B ≤ 140737488355328) (hm63 : rows.length + m ≤ 140737488355328) (hbase : base ≤ w.heap.size)
    (h : ∀ v' w', OwnR e k w' base v' (rows ++ news) → w.grownBy w' v.ownBlock → (v'.ownBlock = v.ownBlock ∨ v'.ownBlock = some w.heap.size) → wpList P ops Q rest (a.put o.dst v') w') : wpList P ops Q (o :: rest) a w := by
  cases hi : P.info? e with
  | none => simp [hi] at hinfo
  | some i =>
    simp only [hi, Option.map_some, Option.some.injEq, Prod.mk.injEq] at hinfo
    obtain ⟨hz, h1, h2⟩ := hinfo
    cases hzz : i.zero with
    | none => simp [hzz] at hz
    | some z =>
      simp only [hzz, Option.map_some, Option.some.injEq] at hz
      rcases A with _ | ad
      · obtain rfl := hr.bare rfl
        have hm : m = 0 := by have := hr.le; omega
        subst hm
        obtain rfl : news = [] := List.eq_nil_of_length_eq_zero hr.len
        refine wpList_append_own_none hgd s x t ho base e i k hu hi v rows.length rows.flatten hs hown.row hx ?_
        exact h v w (by simpa using hown) (World.grownBy.refl w _) (.inl rfl)
      · have hnews : ∀ (j : Nat) (u : Value), news.flatten[j]? = some u → w.cell? (ad.add j) = some u := by
          intro j u hu
          have hm0 : 0 < m := by
            have h3 := (List.getElem?_eq_some_iff.1 hu).1
            rw [flat_len hr.wid, hr.len] at h3
            rcases Nat.eq_zero_or_pos m with h4 | h4
            · rw [h4, Nat.zero_mul] at h3; omega
            · exact h4
          obtain ⟨b, off, hA, _⟩ := hr.at_ hm0
          injection hA with hA
          subst hA
          exact hr.news hk j u hu
        refine wpList_append_own_at (P := P) w hgd s x t ho base e i z k B hu hi hzz h1 h2 hz hk v rows.length rows.flatten hs hown.row ad m c news.flatten hx (by rw [flat_len hr.wid, hr.len]) hnews (flat_one hr.one) (by unfold maxLen; omega) hsmall hbase ?_
        intro v' w' hown' hg _ hat
        refine h v' w' ⟨?_, mem_app hown.wid hr.wid, mem_app hown.one hr.one⟩ hg hat
        rw [List.flatten_append, List.length_append, hr.len]
        exact hown'
/-- a literal of one row -/
theorem one_rws (k : Nat) (e : TypeId) (w : World) (r : List Value) (hr : r.length = k) (h1 : ∀ u ∈ r, u.oneCell' = true) : Rws k (w.alloc (.cells r.toArray e)) (some ⟨w.heap.size, 0, none⟩) 1 1 [r] := by
  refine ⟨rfl, fun x hx => ?_, fun x hx => ?_, Nat.le_refl _, by unfold maxLen; omega, (fun e => by cases e), fun _ => ⟨w.heap.size, 0, rfl, fun j hj i hi => ?_⟩⟩
  · rw [List.mem_singleton.1 hx]; exact hr
  · rw [List.mem_singleton.1 hx]; exact h1
  · obtain rfl : j = 0 := by omega
    rw [Nat.zero_mul, Nat.add_zero, Nat.zero_add, cell_of_row _ _ _ _ _ _ (heap_alloc_new w _)]
    simp [List.getD_eq_getElem?_getD, List.getElem?_eq_getElem (show i < r.length by omega)]
end Go.Proofs.Ytgnhmdfajnnkhaa


/- Plans, plainly: stages, which plans fit, alone and together, the next stage, the least green, the cycle. -/
namespace Go.Proofs.Ytgnhmdfajnnkhaa
set_option maxRecDepth 100000
set_option linter.unusedVariables false
set_option linter.unusedSimpArgs false
open Go.RowKit

/-- a stage: its groups, at least so many ticks, at most so many -/
structure Stg where
  g : Int
  mn : Int
  mx : Int
deriving DecidableEq
def Stg.zero : Stg := ⟨0, 0, 0⟩
def Stg.row (x : Stg) : List Value := [.int .i64 x.g, .int .i64 x.mn, .int .i64 x.mx]
/-- a plan: where its matrix lies, and what it is; its stages likewise; amber, red, hold -/
structure Pl where
  A : Option Addr
  n : Nat
  c : Nat
  m : List Int
  B : Option Addr
  k : Nat
  d : Nat
  s : List Stg
  am : Int
  rd : Int
  hd : Int
def Pl.zero : Pl := ⟨none, 0, 0, [], none, 0, 0, [], 0, 0, 0⟩
def Pl.row (p : Pl) : List Value := [.slice p.A p.n p.c, .slice p.B p.k p.d, .int .i64 p.am, .int .i64 p.rd, .int .i64 p.hd]
def plV (p : Pl) : Value := .agg #[.slice p.A p.n p.c, .slice p.B p.k p.d, .int .i64 p.am, .int .i64 p.rd, .int .i64 p.hd]
/-- a slice of stages -/
def Sts (w : World) (B : Option Addr) (k d : Nat) (l : List Stg) : Prop := Rws 3 w B k d (l.map Stg.row)
section
variable {w w' : World} {A : Option Addr} {n c : Nat} {l : List Stg}
theorem Sts.len (h : Sts w A n c l) : l.length = n := by rw [← Rws.len h, List.length_map]
theorem Sts.small (h : Sts w A n c l) : n ≤ 9223372036854775807 := Rws.small h
theorem Sts.below (h : Sts w A n c l) (hb : Below w.heap.size w w') : Sts w' A n c l := Rws.below h hb
theorem Sts.at_ (h : Sts w A n c l) (j : Nat) (hj : j < n) : ∃ b off x, A = some ⟨b, off, none⟩ ∧ l.getD j Stg.zero = x ∧ x ∈ l ∧ l[j]? = some x ∧ w.cell? ⟨b, off + j * 3, none⟩ = some (.int .i64 x.g) ∧ w.cell? ⟨b, off + j * 3 + 1, none⟩ = some (.int .i64 x.mn) ∧ w.cell? ⟨b, off + j * 3 + 2, none⟩ = some (.int .i64 x.mx) := by
  obtain ⟨b, off, hA, hc⟩ := Rws.at_ h (by omega)
  have hl : j < l.length := by rw [h.len]; exact hj
  have hm : l[j] ∈ l := List.getElem_mem hl
  have hr : (l.map Stg.row).getD j [] = l[j].row := by simp [List.getD_eq_getElem?_getD, hl]
  refine ⟨b, off, l[j], hA, by simp [List.getD_eq_getElem?_getD, hl], hm, by simp [hl], ?_, ?_, ?_⟩
  · have := hc j hj 0 (by omega)
    rw [hr] at this
    exact this
  · have := hc j hj 1 (by omega)
    rw [hr] at this
    exact this
  · have := hc j hj 2 (by omega)
    rw [hr] at this
    exact this
end
/-- a plan whose matrix and stages lie so -/
structure PlIn (w : World) (p : Pl) : Prop where
  m : Its .i64 w p.A p.n p.c p.m
  s : Sts w p.B p.k p.d p.s
section
variable {w w' : World} {p : Pl}
theorem PlIn.below (h : PlIn w p) (hb : Below w.heap.size w w') : PlIn w' p := ⟨h.m.below hb, h.s.below hb⟩
end
/-- a block that holds a plan -/
def BoxP (w : World) (g : Nat) (p : Pl) : Prop := w.heap[g]? = some (.cells #[.slice p.A p.n p.c, .slice p.B p.k p.d, .int .i64 p.am, .int .i64 p.rd, .int .i64 p.hd] 47 (0, 0))
section
variable {w w' : World} {g : Nat} {p : Pl}
theorem BoxP.new (w : World) (p : Pl) : BoxP (w.alloc (.cells #[.slice p.A p.n p.c, .slice p.B p.k p.d, .int .i64 p.am, .int .i64 p.rd, .int .i64 p.hd] 47)) w.heap.size p := heap_alloc_new w _
theorem BoxP.lt (h : BoxP w g p) : g < w.heap.size := (Array.getElem?_eq_some_iff.1 h).1
theorem BoxP.below (h : BoxP w g p) (hb : Below w.heap.size w w') : BoxP w' g p := (hb.block g h.lt).trans h
theorem BoxP.low {B : Nat} (h : BoxP w g p) (hb : Below B w w') (hg : g < B) : BoxP w' g p := (hb.block g hg).trans h
theorem BoxP.cells (h : BoxP w g p) : w.cell? ⟨g, 0, none⟩ = some (.slice p.A p.n p.c) ∧ w.cell? ⟨g, 1, none⟩ = some (.slice p.B p.k p.d) ∧ w.cell? ⟨g, 2, none⟩ = some (.int .i64 p.am) ∧ w.cell? ⟨g, 3, none⟩ = some (.int .i64 p.rd) ∧ w.cell? ⟨g, 4, none⟩ = some (.int .i64 p.hd) :=
  ⟨(cell_of_row _ _ _ _ _ _ h).trans rfl, (cell_of_row _ _ _ _ _ _ h).trans rfl, (cell_of_row _ _ _ _ _ _ h).trans rfl, (cell_of_row _ _ _ _ _ _ h).trans rfl, (cell_of_row _ _ _ _ _ _ h).trans rfl⟩
end
/-- a slice of plans -/
structure Pls (w : World) (A : Option Addr) (n c : Nat) (l : List Pl) : Prop where
  rws : Rws 5 w A n c (l.map Pl.row)
  pl : ∀ p ∈ l, PlIn w p
section
variable {w w' : World} {A : Option Addr} {n c : Nat} {l : List Pl}
theorem Pls.len (h : Pls w A n c l) : l.length = n := by rw [← h.rws.len, List.length_map]
theorem Pls.small (h : Pls w A n c l) : n ≤ 9223372036854775807 := h.rws.small
theorem Pls.below (h : Pls w A n c l) (hb : Below w.heap.size w w') : Pls w' A n c l := ⟨h.rws.below hb, fun p hp => (h.pl p hp).below hb⟩
theorem Pls.nil (w : World) : Pls w none 0 0 [] := ⟨Rws.nil 5 w, fun p hp => by cases hp⟩
theorem Pls.at_ (h : Pls w A n c l) (j : Nat) (hj : j < n) : ∃ b off p, A = some ⟨b, off, none⟩ ∧ l.getD j Pl.zero = p ∧ p ∈ l ∧ l[j]? = some p ∧ PlIn w p ∧ w.cell? ⟨b, off + j * 5, none⟩ = some (.slice p.A p.n p.c) ∧ w.cell? ⟨b, off + j * 5 + 1, none⟩ = some (.slice p.B p.k p.d) ∧
    w.cell? ⟨b, off + j * 5 + 2, none⟩ = some (.int .i64 p.am) ∧ w.cell? ⟨b, off + j * 5 + 3, none⟩ = some (.int .i64 p.rd) ∧ w.cell? ⟨b, off + j * 5 + 4, none⟩ = some (.int .i64 p.hd) := by
  obtain ⟨b, off, hA, hc⟩ := h.rws.at_ (by omega)
  have hl : j < l.length := by rw [h.len]; exact hj
  have hm : l[j] ∈ l := List.getElem_mem hl
  have hr : (l.map Pl.row).getD j [] = l[j].row := by simp [List.getD_eq_getElem?_getD, hl]
  refine ⟨b, off, l[j], hA, by simp [List.getD_eq_getElem?_getD, hl], hm, by simp [hl], h.pl _ hm, ?_, ?_, ?_, ?_, ?_⟩
  · have := hc j hj 0 (by omega)
    rw [hr] at this
    exact this
  · have := hc j hj 1 (by omega)
    rw [hr] at this
    exact this
  · have := hc j hj 2 (by omega)
    rw [hr] at this
    exact this
  · have := hc j hj 3 (by omega)
    rw [hr] at this
    exact this
  · have := hc j hj 4 (by omega)
    rw [hr] at this
    exact this
end
/-- may this stage be, of this matrix? -/
def stageB (m : List Int) (x : Stg) : Bool := freeM m x.g && (decide (x.g ≠ 0) && (decide (1 ≤ x.mn) && (decide (x.mn ≤ 200) && (decide (x.mn ≤ x.mx) && decide (x.mx ≤ 200)))))
/-- has some stage group g? -/
def someB (s : List Stg) (g : Nat) : Bool := s.any fun x => bitI x.g g
def spanB (p : Pl) : Bool := decide (1 ≤ p.am) && (decide (p.am ≤ 200) && (decide (1 ≤ p.rd) && (decide (p.rd ≤ 200) && (decide (0 ≤ p.hd) && decide (p.hd ≤ 300)))))
def fitP (p : Pl) : Bool := mayM p.m && (decide (2 ≤ p.s.length ∧ p.s.length ≤ 6) && (p.s.all (stageB p.m) && ((List.range p.m.length).all (someB p.s) && spanB p)))
def nextP (p : Pl) (k : Int) : Int := if fitP p = true ∧ 0 ≤ k ∧ k < p.s.length then (if k = p.s.length - 1 then 0 else k + 1) else -1
def allP (l : List Pl) : Bool := decide (1 ≤ l.length ∧ l.length ≤ 3) && l.all fun p => fitP p && decide (p.m.length = (l.headD Pl.zero).m.length)
/-- what a plan that fits has -/
structure Fits (p : Pl) : Prop where
  may : mayM p.m = true
  two : 2 ≤ p.s.length
  six : p.s.length ≤ 6
  stage : ∀ x ∈ p.s, freeM p.m x.g = true ∧ x.g ≠ 0 ∧ 1 ≤ x.mn ∧ x.mn ≤ 200 ∧ x.mn ≤ x.mx ∧ x.mx ≤ 200
  some : ∀ g, g < p.m.length → ∃ x ∈ p.s, bitI x.g g = true
  am1 : 1 ≤ p.am
  am2 : p.am ≤ 200
  rd1 : 1 ≤ p.rd
  rd2 : p.rd ≤ 200
  hd1 : 0 ≤ p.hd
  hd2 : p.hd ≤ 300
theorem stage_iff {m : List Int} {x : Stg} : stageB m x = true ↔ freeM m x.g = true ∧ x.g ≠ 0 ∧ 1 ≤ x.mn ∧ x.mn ≤ 200 ∧ x.mn ≤ x.mx ∧ x.mx ≤ 200 := by
  simp only [stageB, Bool.and_eq_true, decide_eq_true_eq]
theorem span_iff {p : Pl} : spanB p = true ↔ 1 ≤ p.am ∧ p.am ≤ 200 ∧ 1 ≤ p.rd ∧ p.rd ≤ 200 ∧ 0 ≤ p.hd ∧ p.hd ≤ 300 := by
  simp only [spanB, Bool.and_eq_true, decide_eq_true_eq]
theorem some_iff {s : List Stg} {g : Nat} : someB s g = true ↔ ∃ x ∈ s, bitI x.g g = true := List.any_eq_true
theorem fit_iff {p : Pl} : fitP p = true ↔ Fits p := by
  simp only [fitP, Bool.and_eq_true, decide_eq_true_eq, List.all_eq_true, stage_iff, span_iff, some_iff, List.mem_range]
  exact ⟨fun ⟨h1, ⟨h2, h3⟩, h4, h5, a, b, c, d, e, f⟩ => ⟨h1, h2, h3, h4, h5, a, b, c, d, e, f⟩, fun h => ⟨h.may, ⟨h.two, h.six⟩, h.stage, h.some, h.am1, h.am2, h.rd1, h.rd2, h.hd1, h.hd2⟩⟩
theorem all_iff {l : List Pl} : allP l = true ↔ (1 ≤ l.length ∧ l.length ≤ 3) ∧ ∀ p ∈ l, fitP p = true ∧ p.m.length = (l.headD Pl.zero).m.length := by
  simp only [allP, Bool.and_eq_true, decide_eq_true_eq, List.all_eq_true]
end Go.Proofs.Ytgnhmdfajnnkhaa


/- The operations on sets that Go has: and, or, shifts of small numbers. -/
namespace Go.Proofs.Ytgnhmdfajnnkhaa
set_option maxRecDepth 100000
set_option linter.unusedVariables false
set_option linter.unusedSimpArgs false
open Go

theorem ofInt_nat64 (a : Nat) (ha : a < 9223372036854775808) : (BitVec.ofInt 64 (a : Int)).toNat = a := by
  rw [BitVec.ofInt_natCast, BitVec.toNat_ofNat]
  exact Nat.mod_eq_of_lt (by omega)
theorem and_set (a b : Nat) (ha : a < 512) (hb : b < 512) : bits .and .i64 (a : Int) (b : Int) = ((a &&& b : Nat) : Int) := by
  have hx : a &&& b ≤ a := Nat.and_le_left
  show IntKind.i64.wrap ((BitVec.ofInt 64 (a : Int) &&& BitVec.ofInt 64 (b : Int)).toNat : Int) = _
  rw [BitVec.toNat_and, ofInt_nat64 a (by omega), ofInt_nat64 b (by omega), IntKind.wrap_i64]
  omega
theorem or_set (a b : Nat) (ha : a < 512) (hb : b < 512) : bits .or .i64 (a : Int) (b : Int) = ((a ||| b : Nat) : Int) := by
  have hx : a ||| b < 2 ^ 9 := Nat.or_lt_two_pow (by omega) (by omega)
  show IntKind.i64.wrap ((BitVec.ofInt 64 (a : Int) ||| BitVec.ofInt 64 (b : Int)).toNat : Int) = _
  rw [BitVec.toNat_or, ofInt_nat64 a (by omega), ofInt_nat64 b (by omega), IntKind.wrap_i64]
  omega
end Go.Proofs.Ytgnhmdfajnnkhaa


/- A region that draws its order, walked by hand: one operation after another, taken first. -/
namespace Go.Proofs.Ytgnhmdfajnnkhaa
open Go.RowKit

section
variable {P : Program} {l : List Oper} {Q : Exit → Act → World → Prop} {md : Region.Mode} {S : World → Prop} {oi : Oper} {fuel : Nat} {listed : Array Bool} {a : Act} {w : World}
/-- one operation of a region that draws its order, taken first: what it yields hangs on no world -/
theorem take_run (i : Nat) (v : Value) (hi : l[i]? = some oi) (hs : Region.noSelect l.toArray = true) (hf : Region.free md l.toArray listed i = true) (hr : (Region.ready md l.toArray listed).contains i = true)
    (hQ : ∀ c a w, Q (.panic c) (a.put oi.dst v) w → Q (.panic c) a w) (hw : Region.wanted oi (yielded l.toArray a.tmps) = true) (hS : S w) (hrun : ∀ w, (execOp a.eval oi).run P w = .ok (.value v) w)
    (h : wpAnyH P md l.toArray Q S fuel (listed.setIfInBounds i true) (a.put oi.dst v) w) : wpAnyH P md l.toArray Q S (fuel + 1) listed a w :=
  wpAnyH_take (by simpa using hi) hs hf hr hQ (.inl ⟨hw, fun w _ => hrun w⟩) hS h
/-- one that a guard leaves out -/
theorem take_off (i : Nat) (hi : l[i]? = some oi) (hs : Region.noSelect l.toArray = true) (hf : Region.free md l.toArray listed i = true) (hr : (Region.ready md l.toArray listed).contains i = true)
    (hQ : ∀ c a w, Q (.panic c) (a.put oi.dst undef) w → Q (.panic c) a w) (hw : Region.wanted oi (yielded l.toArray a.tmps) = false) (hS : S w)
    (h : wpAnyH P md l.toArray Q S fuel (listed.setIfInBounds i true) (a.put oi.dst undef) w) : wpAnyH P md l.toArray Q S (fuel + 1) listed a w :=
  wpAnyH_take (by simpa using hi) hs hf hr hQ (.inr ⟨hw, rfl⟩) hS h
/-- the only one that may come up -/
theorem one_step (i : Nat) (hr : Region.ready md l.toArray listed = [i]) (hi : l[i]? = some oi)
    (h : ∀ K' : Act → World → Prop, Shut (∀ a w, S w → (S w → wpAnyH P md l.toArray Q S fuel (listed.setIfInBounds i true) a w) → K' a w) → if Region.wanted oi (yielded l.toArray a.tmps) = true then Oper.wp P oi a w K' Q else K' (a.put oi.dst undef) w) :
    wpAnyH P md l.toArray Q S (fuel + 1) listed a w :=
  wpAnyH_ready hr (by simp) (AllReadyH.cons (by simpa using hi) h AllReadyH.nil)
end
section
variable {P : Program} {l : List Oper} {Q : Exit → Act → World → Prop} {md : Region.Mode} {S S' : World → Prop} {oi : Oper} {fuel : Nat} {listed : Array Bool} {a : Act} {w : World}
theorem take_if (i : Nat) (v : Value) (hi : l[i]? = some oi) (hs : Region.noSelect l.toArray = true) (hf : Region.free md l.toArray listed i = true) (hr : (Region.ready md l.toArray listed).contains i = true)
    (hQ : ∀ c a w, Q (.panic c) (a.put oi.dst v) w → Q (.panic c) a w) (hw : Region.wanted oi (yielded l.toArray a.tmps) = true) (hS : S w) (hrun : ∀ w, S w → (execOp a.eval oi).run P w = .ok (.value v) w)
    (h : wpAnyH P md l.toArray Q S fuel (listed.setIfInBounds i true) (a.put oi.dst v) w) : wpAnyH P md l.toArray Q S (fuel + 1) listed a w :=
  wpAnyH_take (by simpa using hi) hs hf hr hQ (.inl ⟨hw, hrun⟩) hS h
end
section
variable {P : Program} {l : List Oper} {Q : Exit → Act → World → Prop} {md : Region.Mode} {S : World → Prop} {oi oj ok : Oper} {fuel : Nat} {listed : Array Bool} {a : Act} {w : World}
/-- two, or three, that may come up -/
theorem two_steps (i j : Nat) (hr : Region.ready md l.toArray listed = [i, j]) (hi : l[i]? = some oi) (hj : l[j]? = some oj)
    (h1 : ∀ K' : Act → World → Prop, Shut (∀ a w, S w → (S w → wpAnyH P md l.toArray Q S fuel (listed.setIfInBounds i true) a w) → K' a w) → if Region.wanted oi (yielded l.toArray a.tmps) = true then Oper.wp P oi a w K' Q else K' (a.put oi.dst undef) w)
    (h2 : ∀ K' : Act → World → Prop, Shut (∀ a w, S w → (S w → wpAnyH P md l.toArray Q S fuel (listed.setIfInBounds j true) a w) → K' a w) → if Region.wanted oj (yielded l.toArray a.tmps) = true then Oper.wp P oj a w K' Q else K' (a.put oj.dst undef) w) :
    wpAnyH P md l.toArray Q S (fuel + 1) listed a w :=
  wpAnyH_ready hr (by simp) (AllReadyH.cons (by simpa using hi) h1 (AllReadyH.cons (by simpa using hj) h2 AllReadyH.nil))
end
end Go.Proofs.Ytgnhmdfajnnkhaa


/- The steps of a region that draws its order, in short: what is reckoned is filled in. -/
namespace Go.Proofs.Ytgnhmdfajnnkhaa
open Go.RowKit

section
variable {P : Program} {l : List Oper} {Q : Exit → Act → World → Prop} {md : Region.Mode} {S : World → Prop} {oi : Oper} {fuel : Nat} {listed : Array Bool} {a : Act} {w : World}
/-- one operation that yields v in each world -/
theorem tk (i : Nat) (v : Value) (hS : S w) (hrun : ∀ w, (execOp a.eval oi).run P w = .ok (.value v) w)
    (h : wpAnyH P md l.toArray Q S fuel (listed.setIfInBounds i true) (a.put oi.dst v) w)
    (hi : l[i]? = some oi := by rfl) (hs : Region.noSelect l.toArray = true := by kernel_rfl) (hf : Region.free md l.toArray listed i = true := by kernel_rfl) (hr : (Region.ready md l.toArray listed).contains i = true := by kernel_rfl)
    (hQ : ∀ c a w, Q (.panic c) (a.put oi.dst v) w → Q (.panic c) a w := by exact fun _ _ _ h => h) (hw : Region.wanted oi (yielded l.toArray a.tmps) = true := by rfl) : wpAnyH P md l.toArray Q S (fuel + 1) listed a w :=
  take_run i v hi hs hf hr hQ hw hS hrun h
/-- one that yields v in each world that meets S -/
theorem tkS (i : Nat) (v : Value) (hS : S w) (hrun : ∀ w, S w → (execOp a.eval oi).run P w = .ok (.value v) w)
    (h : wpAnyH P md l.toArray Q S fuel (listed.setIfInBounds i true) (a.put oi.dst v) w)
    (hi : l[i]? = some oi := by rfl) (hs : Region.noSelect l.toArray = true := by kernel_rfl) (hf : Region.free md l.toArray listed i = true := by kernel_rfl) (hr : (Region.ready md l.toArray listed).contains i = true := by kernel_rfl)
    (hQ : ∀ c a w, Q (.panic c) (a.put oi.dst v) w → Q (.panic c) a w := by exact fun _ _ _ h => h) (hw : Region.wanted oi (yielded l.toArray a.tmps) = true := by rfl) : wpAnyH P md l.toArray Q S (fuel + 1) listed a w :=
  take_if i v hi hs hf hr hQ hw hS hrun h
/-- one that a guard leaves out -/
theorem tkO (i : Nat) (hS : S w) (h : wpAnyH P md l.toArray Q S fuel (listed.setIfInBounds i true) (a.put oi.dst undef) w)
    (hi : l[i]? = some oi := by rfl) (hs : Region.noSelect l.toArray = true := by kernel_rfl) (hf : Region.free md l.toArray listed i = true := by kernel_rfl) (hr : (Region.ready md l.toArray listed).contains i = true := by kernel_rfl)
    (hQ : ∀ c a w, Q (.panic c) (a.put oi.dst undef) w → Q (.panic c) a w := by exact fun _ _ _ h => h) (hw : Region.wanted oi (yielded l.toArray a.tmps) = false := by rfl) : wpAnyH P md l.toArray Q S (fuel + 1) listed a w :=
  take_off i hi hs hf hr hQ hw hS h
/-- the frame behind an operation, reckoned: 'simp only [PT]' -/
theorem PT : (∀ (a : Act) (d : Nat) (v : Value), a.put (some d) v = { a with tmps := a.tmps.setIfInBounds d v }) ∧ (∀ (a : Act) (v : Value), a.put none v = a) ∧ (∀ (l : List Value) (i : Nat) (x : Value), l.toArray.setIfInBounds i x = (l.set i x).toArray) ∧ (∀ (l : List Bool) (i : Nat) (x : Bool), l.toArray.setIfInBounds i x = (l.set i x).toArray) ∧
    (∀ (y : Value) (l : List Value) (x : Value), (y :: l).set 0 x = x :: l) ∧ (∀ (y : Value) (l : List Value) (i : Nat) (x : Value), (y :: l).set (i + 1) x = y :: l.set i x) ∧ (∀ (y : Bool) (l : List Bool) (x : Bool), (y :: l).set 0 x = x :: l) ∧ (∀ (y : Bool) (l : List Bool) (i : Nat) (x : Bool), (y :: l).set (i + 1) x = y :: l.set i x) :=
  ⟨fun _ _ _ => rfl, fun _ _ => rfl, fun _ _ _ => List.setIfInBounds_toArray .., fun _ _ _ => List.setIfInBounds_toArray .., fun _ _ _ => rfl, fun _ _ _ _ => rfl, fun _ _ _ => rfl, fun _ _ _ _ => rfl⟩
end
end Go.Proofs.Ytgnhmdfajnnkhaa


/- The walks over the document's pow and In. -/
namespace Go.Proofs.Ytgnhmdfajnnkhaa
set_option maxRecDepth 100000
set_option linter.unusedVariables false
set_option linter.unusedSimpArgs false
open Go.RowKit

end Go.Proofs.Ytgnhmdfajnnkhaa


/- The walk over the document's May of a matrix. -/
namespace Go.Proofs.Ytgnhmdfajnnkhaa
set_option maxRecDepth 100000
set_option linter.unusedVariables false
set_option linter.unusedSimpArgs false
open Go.RowKit

def fineM (m : List Int) (i k : Nat) : Prop := meetM m i k = meetM m k i ∧ ¬ (meetM m i k = true ∧ i = k)
theorem may_of_all {m : List Int} {n : Nat} (hn : m.length = n) (h : 1 ≤ n ∧ n ≤ 8) (h1 : ∀ k, k < n → 0 ≤ m.getD k 0 ∧ m.getD k 0 < ((2 ^ n : Nat) : Int)) (h2 : ∀ i, i < n → ∀ k, k < n → fineM m i k) : mayM m = true := by
  subst hn
  exact decide_eq_true ⟨h, fun i hi => by rw [pow_int]; exact h1 i hi, h2⟩
theorem may_short {m : List Int} {n : Nat} (hn : m.length = n) (h : n < 1 ∨ 8 < n) : mayM m = false := decide_eq_false (by rw [hn]; omega)
theorem may_row {m : List Int} {n j : Nat} (hn : m.length = n) (hj : j < n) (h : m.getD j 0 < 0 ∨ ((2 ^ n : Nat) : Int) ≤ m.getD j 0) : mayM m = false := decide_eq_false fun hh => by
  subst hn
  have := hh.2.1 j hj
  rw [pow_int] at this
  omega
theorem may_not {m : List Int} {n i k : Nat} (hn : m.length = n) (hi : i < n) (hk : k < n) (h : ¬ fineM m i k) : mayM m = false := decide_eq_false fun hh => by
  subst hn
  exact h (hh.2.2 i hi k hk)
end Go.Proofs.Ytgnhmdfajnnkhaa


/- The walk over the document's Free of a set. -/
namespace Go.Proofs.Ytgnhmdfajnnkhaa
set_option maxRecDepth 100000
set_option linter.unusedVariables false
set_option linter.unusedSimpArgs false
open Go.RowKit

theorem may_rows {m : List Int} {n : Nat} (hl : m.length = n) (h : mayM m = true) : n ≤ 8 ∧ ∀ k, k < n → 0 ≤ m.getD k 0 ∧ m.getD k 0 < ((2 ^ n : Nat) : Int) := by
  subst hl
  obtain ⟨⟨-, h8⟩, h1, -⟩ := may_all h
  refine ⟨h8, fun k hk => ?_⟩
  have := h1 k hk
  rw [pow_int] at this
  exact this
end Go.Proofs.Ytgnhmdfajnnkhaa


/- The walk over the document's Against of a set. -/
namespace Go.Proofs.Ytgnhmdfajnnkhaa
set_option maxRecDepth 100000
set_option linter.unusedVariables false
set_option linter.unusedSimpArgs false
open Go.RowKit

theorem against_bad {m : List Int} {s : Int} (h : mayM m = false ∨ s < 0 ∨ ((2 ^ m.length : Nat) : Int) ≤ s) : againstM m s = -1 := if_neg fun hh => by
  obtain ⟨h1, h2, h3⟩ := hh
  rw [pow_int] at h3
  rcases h with h | h | h
  · rw [h] at h1; cases h1
  · omega
  · omega
end Go.Proofs.Ytgnhmdfajnnkhaa


/- The walks over the document's stage of a plan, and Has. -/
namespace Go.Proofs.Ytgnhmdfajnnkhaa
set_option maxRecDepth 100000
set_option linter.unusedVariables false
set_option linter.unusedSimpArgs false
open Go.RowKit

end Go.Proofs.Ytgnhmdfajnnkhaa


/- The walk over the document's Fit of a plan. -/
namespace Go.Proofs.Ytgnhmdfajnnkhaa
set_option maxRecDepth 100000
set_option linter.unusedVariables false
set_option linter.unusedSimpArgs false
open Go.RowKit

theorem not_fit {p : Pl} (h : ¬ Fits p) : fitP p = false := by
  rw [← Bool.not_eq_true, fit_iff]
  exact h
theorem fit_stage {p : Pl} {j : Nat} (hj : j < p.s.length) (h : stageB p.m (p.s.getD j Stg.zero) = false) : fitP p = false := not_fit fun hf => by
  have h1 : stageB p.m (p.s.getD j Stg.zero) = true := stage_iff.2 (hf.stage _ (by rw [List.getD_eq_getElem?_getD, List.getElem?_eq_getElem hj]; exact List.getElem_mem hj))
  rw [h] at h1
  cases h1
def someTo (s : List Stg) (i k : Nat) : Bool := someB (s.take k) i
theorem some_zero (s : List Stg) (i : Nat) : someTo s i 0 = false := rfl
theorem some_next {s : List Stg} {k : Nat} (i : Nat) (hk : k < s.length) : someTo s i (k + 1) = (someTo s i k || bitI (s.getD k Stg.zero).g i) := by
  rw [someTo, List.take_succ_eq_append_getElem hk, someB, List.any_append]
  simp [List.getD_eq_getElem?_getD, hk, someTo, someB]
theorem some_all (s : List Stg) (i : Nat) : someTo s i s.length = someB s i := by rw [someTo, List.take_length]
theorem fit_rest {p : Pl} (h1 : mayM p.m = true) (h2 : 2 ≤ p.s.length) (h6 : p.s.length ≤ 6) (hs : ∀ j, j < p.s.length → stageB p.m (p.s.getD j Stg.zero) = true) (hg : ∀ i, i < p.m.length → someB p.s i = true) : fitP p = spanB p := by
  unfold fitP
  have ha : p.s.all (stageB p.m) = true := List.all_eq_true.2 fun x hx => by
    obtain ⟨j, hj, rfl⟩ := List.getElem_of_mem hx
    have := hs j hj
    rwa [List.getD_eq_getElem?_getD, List.getElem?_eq_getElem hj] at this
  have hb : (List.range p.m.length).all (someB p.s) = true := List.all_eq_true.2 fun i hi => hg i (List.mem_range.1 hi)
  rw [h1, ha, hb, decide_eq_true ⟨h2, h6⟩]
  rfl
end Go.Proofs.Ytgnhmdfajnnkhaa


/- A slice of numbers without its first ones. -/
namespace Go.Proofs.Ytgnhmdfajnnkhaa
open Go.RowKit

end Go.Proofs.Ytgnhmdfajnnkhaa


/- The walk over the document's Ints: are two lists of numbers the same? -/
namespace Go.Proofs.Ytgnhmdfajnnkhaa
set_option maxRecDepth 100000
set_option linter.unusedVariables false
set_option linter.unusedSimpArgs false
open Go.RowKit

end Go.Proofs.Ytgnhmdfajnnkhaa


/- '==' between two stages. -/
namespace Go.Proofs.Ytgnhmdfajnnkhaa
set_option maxRecDepth 100000
set_option linter.unusedVariables false
set_option linter.unusedSimpArgs false
open Go.RowKit

theorem stg_part {P : Program} (t : TypeId) (k : IntKind) (cs : Array Value) (off : Nat) (v : Value) (h : P.underlying t = some (.int k)) (hv : cs[off]? = some v) (w : World) : (part t cs off).run P w = .ok v w := by
  simp [part, isAgg, run_underlying h, hv, go_sem]
theorem stg_fields {P : Program} {d : Nat} {xs ys : Array Value} {f : Field} {fs : List Field} {a b : Value} {r : Bool} {w : World} (hn : f.name ≠ "_") (ha : (part f.type xs f.offset).run P w = .ok a w) (hb : (part f.type ys f.offset).run P w = .ok b w) (he : (Op.equalIn d f.type a b).run P w = .ok r w) :
    (Op.eqFields d xs ys (f :: fs)).run P w = if r then (Op.eqFields d xs ys fs).run P w else .ok false w := by
  simp only [Op.eqFields, if_pos hn, Sem.run_bind, ha, hb, he, Result.andThen_ok]
  cases r <;> simp
theorem stg_if (r s : Bool) (w : World) : (if r then (Result.ok s w : Result Bool) else .ok false w) = .ok (r && s) w := by cases r <;> rfl
end Go.Proofs.Ytgnhmdfajnnkhaa


/- The walk over the document's Same of plans. -/
namespace Go.Proofs.Ytgnhmdfajnnkhaa
set_option maxRecDepth 100000
set_option linter.unusedVariables false
set_option linter.unusedSimpArgs false
open Go.RowKit

end Go.Proofs.Ytgnhmdfajnnkhaa


/- The walks over the document's Next and Cycle of a plan. -/
namespace Go.Proofs.Ytgnhmdfajnnkhaa
set_option maxRecDepth 100000
set_option linter.unusedVariables false
set_option linter.unusedSimpArgs false
open Go.RowKit

end Go.Proofs.Ytgnhmdfajnnkhaa


/- The walk over the document's Least of a plan. -/
namespace Go.Proofs.Ytgnhmdfajnnkhaa
set_option maxRecDepth 100000
set_option linter.unusedVariables false
set_option linter.unusedSimpArgs false
open Go.RowKit

end Go.Proofs.Ytgnhmdfajnnkhaa


/- The walk over the document's All of plans. -/
namespace Go.Proofs.Ytgnhmdfajnnkhaa
set_option maxRecDepth 100000
set_option linter.unusedVariables false
set_option linter.unusedSimpArgs false
open Go.RowKit

theorem all_no {l : List Pl} {j : Nat} (hj : j < l.length) (h : fitP (l.getD j Pl.zero) = false ∨ (l.getD j Pl.zero).m.length ≠ (l.getD 0 Pl.zero).m.length) : allP l = false := by
  rw [← Bool.not_eq_true, all_iff]
  rintro ⟨-, hal⟩
  have h0 : l.headD Pl.zero = l.getD 0 Pl.zero := by cases l <;> rfl
  have := hal (l.getD j Pl.zero) (by rw [List.getD_eq_getElem?_getD, List.getElem?_eq_getElem hj]; exact List.getElem_mem hj)
  rw [h0] at this
  rcases h with h | h
  · rw [this.1] at h; cases h
  · exact h this.2
theorem all_yes {l : List Pl} (h : 1 ≤ l.length ∧ l.length ≤ 3) (ha : ∀ j, j < l.length → fitP (l.getD j Pl.zero) = true ∧ (l.getD j Pl.zero).m.length = (l.getD 0 Pl.zero).m.length) : allP l = true := by
  rw [all_iff]
  have h0 : l.headD Pl.zero = l.getD 0 Pl.zero := by cases l <;> rfl
  refine ⟨h, fun p hp => ?_⟩
  obtain ⟨j, hj, rfl⟩ := List.getElem_of_mem hp
  have := ha j hj
  rw [h0]
  rwa [show l[j] = l.getD j Pl.zero by rw [List.getD_eq_getElem?_getD, List.getElem?_eq_getElem hj]; rfl]
end Go.Proofs.Ytgnhmdfajnnkhaa


/- Lamps, plainly: rows, their texts, what a plan shows, what clashes. -/
namespace Go.Proofs.Ytgnhmdfajnnkhaa
set_option maxRecDepth 100000
set_option linter.unusedVariables false
set_option linter.unusedSimpArgs false
open Go.RowKit

/-- a lamp's letter, a letter's lamp -/
def letU (x : Int) : UInt8 := if x = 0 then 114 else if x = 1 then 97 else 103
def okL (x : Int) : Prop := 0 ≤ x ∧ x < 3
instance (x : Int) : Decidable (okL x) := by unfold okL; infer_instance
def mayR (l : List Int) : Bool := decide ((1 ≤ l.length ∧ l.length ≤ 8) ∧ ∀ x ∈ l, okL x)
def txt (l : List Int) : ByteArray := ⟨(l.map letU).toArray⟩
def textR (l : List Int) : ByteArray := if mayR l = true then txt l else ⟨#[]⟩
def lampP (t : Int) (ph : Int) (g : Nat) : Int := if bitI t g = true ∧ ph = 0 then 2 else if bitI t g = true ∧ ph = 1 then 1 else 0
def showR (p : Pl) (st ph : Int) : List Int := if fitP p = true ∧ (0 ≤ st ∧ st < p.s.length) ∧ (0 ≤ ph ∧ ph < 3) then (List.range p.m.length).map (lampP (p.s.getD st.toNat Stg.zero).g ph) else []
def hitR (m l : List Int) (g h : Nat) : Prop := meetM m g h = true ∧ l.getD g 0 ≠ 0 ∧ l.getD h 0 ≠ 0
instance (m l : List Int) (g h : Nat) : Decidable (hitR m l g h) := by unfold hitR; infer_instance
theorem may_iff {l : List Int} : mayR l = true ↔ (1 ≤ l.length ∧ l.length ≤ 8) ∧ ∀ x ∈ l, 0 ≤ x ∧ x < 3 := decide_eq_true_iff
end Go.Proofs.Ytgnhmdfajnnkhaa


/- The signal machine, plainly: which machines may be, what a tick makes of one, what it shows, what several ticks make. -/
namespace Go.Proofs.Ytgnhmdfajnnkhaa
set_option maxRecDepth 100000
set_option linter.unusedVariables false
set_option linter.unusedSimpArgs false
open Go.RowKit

structure Sg where
  pl : Int
  st : Int
  nx : Int
  ph : Int
  t : Int
  hd : Int
  hl : Int
  ak : Int
  wt : Int
  sp : Bool
deriving DecidableEq
/-- a machine of numbers, as far as that is asked for -/
abbrev SmG (s : Sg) : Prop := s.t < 9223372036854775808 ∧ s.hl < 9223372036854775808
def Sg.arr (s : Sg) : Array Value := #[.int .i64 s.pl, .int .i64 s.st, .int .i64 s.nx, .int .i64 s.ph, .int .i64 s.t, .int .i64 s.hd, .int .i64 s.hl, .int .i64 s.ak, .int .i64 s.wt, .bool s.sp]
def Sg.zero : Sg := ⟨0, 0, 0, 0, 0, 0, 0, 0, 0, false⟩
def sgV (s : Sg) : Value := .agg #[.int .i64 s.pl, .int .i64 s.st, .int .i64 s.nx, .int .i64 s.ph, .int .i64 s.t, .int .i64 s.hd, .int .i64 s.hl, .int .i64 s.ak, .int .i64 s.wt, .bool s.sp]
theorem sgV_arr (s : Sg) : sgV s = .agg s.arr := rfl
/-- a block that holds a machine -/
def BoxG (w : World) (b : Nat) (s : Sg) : Prop := w.heap[b]? = some (.cells #[.int .i64 s.pl, .int .i64 s.st, .int .i64 s.nx, .int .i64 s.ph, .int .i64 s.t, .int .i64 s.hd, .int .i64 s.hl, .int .i64 s.ak, .int .i64 s.wt, .bool s.sp] 24 (0, 0))
structure CellsG (w : World) (b : Nat) (s : Sg) : Prop where
  c0 : w.cell? ⟨b, 0, none⟩ = some (.int .i64 s.pl)
  c1 : w.cell? ⟨b, 1, none⟩ = some (.int .i64 s.st)
  c2 : w.cell? ⟨b, 2, none⟩ = some (.int .i64 s.nx)
  c3 : w.cell? ⟨b, 3, none⟩ = some (.int .i64 s.ph)
  c4 : w.cell? ⟨b, 4, none⟩ = some (.int .i64 s.t)
  c5 : w.cell? ⟨b, 5, none⟩ = some (.int .i64 s.hd)
  c6 : w.cell? ⟨b, 6, none⟩ = some (.int .i64 s.hl)
  c7 : w.cell? ⟨b, 7, none⟩ = some (.int .i64 s.ak)
  c8 : w.cell? ⟨b, 8, none⟩ = some (.int .i64 s.wt)
  c9 : w.cell? ⟨b, 9, none⟩ = some (.bool s.sp)
section
variable {w w' : World} {b : Nat} {s : Sg}
theorem BoxG.new (w : World) (s : Sg) : BoxG (w.alloc (.cells #[.int .i64 s.pl, .int .i64 s.st, .int .i64 s.nx, .int .i64 s.ph, .int .i64 s.t, .int .i64 s.hd, .int .i64 s.hl, .int .i64 s.ak, .int .i64 s.wt, .bool s.sp] 24)) w.heap.size s := heap_alloc_new w _
theorem BoxG.lt (h : BoxG w b s) : b < w.heap.size := (Array.getElem?_eq_some_iff.1 h).1
theorem BoxG.below (h : BoxG w b s) (hb : Below w.heap.size w w') : BoxG w' b s := (hb.block b h.lt).trans h
theorem BoxG.low {B : Nat} (h : BoxG w b s) (hb : Below B w w') (hg : b < B) : BoxG w' b s := (hb.block b hg).trans h
theorem BoxG.cells (h : BoxG w b s) : CellsG w b s :=
  ⟨(cell_of_row _ _ _ _ _ _ h).trans rfl, (cell_of_row _ _ _ _ _ _ h).trans rfl, (cell_of_row _ _ _ _ _ _ h).trans rfl, (cell_of_row _ _ _ _ _ _ h).trans rfl, (cell_of_row _ _ _ _ _ _ h).trans rfl, (cell_of_row _ _ _ _ _ _ h).trans rfl, (cell_of_row _ _ _ _ _ _ h).trans rfl, (cell_of_row _ _ _ _ _ _ h).trans rfl, (cell_of_row _ _ _ _ _ _ h).trans rfl, (cell_of_row _ _ _ _ _ _ h).trans rfl⟩
end
/-- a row of lamps: where it lies, and what it is -/
structure Rw where
  A : Option Addr
  n : Nat
  c : Nat
  l : List Int
def Rw.zero : Rw := ⟨none, 0, 0, []⟩
def Rw.row (r : Rw) : List Value := [.slice r.A r.n r.c]
/-- a slice of rows -/
structure Lns (w : World) (A : Option Addr) (n c : Nat) (l : List Rw) : Prop where
  rws : Rws 1 w A n c (l.map Rw.row)
  its : ∀ r ∈ l, Its .i64 w r.A r.n r.c r.l
section
variable {w w' : World} {A : Option Addr} {n c : Nat} {l : List Rw}
theorem Lns.len (h : Lns w A n c l) : l.length = n := by rw [← h.rws.len, List.length_map]
theorem Lns.small (h : Lns w A n c l) : n ≤ 9223372036854775807 := h.rws.small
theorem Lns.below (h : Lns w A n c l) (hb : Below w.heap.size w w') : Lns w' A n c l := ⟨h.rws.below hb, fun r hr => (h.its r hr).below hb⟩
theorem Lns.nil (w : World) : Lns w none 0 0 [] := ⟨Rws.nil 1 w, fun p hp => by cases hp⟩
theorem Lns.at_ (h : Lns w A n c l) (j : Nat) (hj : j < n) : ∃ b off r, A = some ⟨b, off, none⟩ ∧ l.getD j Rw.zero = r ∧ r ∈ l ∧ l[j]? = some r ∧ Its .i64 w r.A r.n r.c r.l ∧ w.cell? ⟨b, off + j, none⟩ = some (.slice r.A r.n r.c) := by
  obtain ⟨b, off, hA, hc⟩ := h.rws.at_ (by omega)
  have hl : j < l.length := by rw [h.len]; exact hj
  have hm : l[j] ∈ l := List.getElem_mem hl
  have hr : (l.map Rw.row).getD j [] = l[j].row := by simp [List.getD_eq_getElem?_getD, hl]
  refine ⟨b, off, l[j], hA, by simp [List.getD_eq_getElem?_getD, hl], hm, by simp [hl], h.its _ hm, ?_⟩
  have := hc j hj 0 (by omega)
  rw [hr, Nat.mul_one] at this
  exact this
end
/-- a machine's plan, a plan's stage -/
def planAt (l : List Pl) (k : Int) : Pl := l.getD k.toNat Pl.zero
def stgAt (p : Pl) (k : Int) : Stg := p.s.getD k.toNat Stg.zero
/-- may a machine be, of its plan? -/
structure RangeS (p : Pl) (n : Nat) (s : Sg) : Prop where
  s0 : 0 ≤ s.st
  s1 : s.st < p.s.length
  n0 : 0 ≤ s.nx
  n1 : s.nx < p.s.length
  p0 : 0 ≤ s.ph
  p1 : s.ph < 3
  a0 : -1 ≤ s.ak
  a1 : s.ak < p.s.length
  w0 : -1 ≤ s.wt
  w1 : s.wt < n
structure HeldS (p : Pl) (s : Sg) : Prop where
  h0 : 0 ≤ s.hd
  h1 : 0 ≤ s.hl
  h2 : s.hl ≤ p.hd
  h3 : s.hd ≤ p.hd - s.hl
structure GreenS (p : Pl) (s : Sg) : Prop where
  t0 : s.hl ≤ s.t
  t1 : s.t - s.hl < (stgAt p s.st).mx
  t2 : s.sp = true → s.hd = 0
structure OtherS (p : Pl) (s : Sg) : Prop where
  d : s.hd = 0
  l : s.hl = 0
  a : s.ak = -1
  t : 0 ≤ s.t
  am : s.ph = 1 → s.t < p.am
  rd : s.ph ≠ 1 → s.t ≤ p.rd
structure MayS (l : List Pl) (s : Sg) : Prop where
  all : allP l = true
  p0 : 0 ≤ s.pl
  p1 : s.pl < l.length
  range : RangeS (planAt l s.pl) l.length s
  held : HeldS (planAt l s.pl) s
  green : s.ph = 0 → GreenS (planAt l s.pl) s
  other : s.ph ≠ 0 → OtherS (planAt l s.pl) s
def rangeB (p : Pl) (n : Nat) (s : Sg) : Bool := decide (0 ≤ s.st ∧ s.st < p.s.length ∧ 0 ≤ s.nx ∧ s.nx < p.s.length ∧ 0 ≤ s.ph ∧ s.ph < 3 ∧ -1 ≤ s.ak ∧ s.ak < p.s.length ∧ -1 ≤ s.wt ∧ s.wt < n)
def heldB (p : Pl) (s : Sg) : Bool := decide (0 ≤ s.hd ∧ 0 ≤ s.hl ∧ s.hl ≤ p.hd ∧ s.hd ≤ p.hd - s.hl)
def timeB (p : Pl) (s : Sg) : Bool := if s.ph = 0 then decide (s.hl ≤ s.t ∧ s.t - s.hl < (stgAt p s.st).mx ∧ (s.sp = true → s.hd = 0)) else decide (s.hd = 0 ∧ s.hl = 0 ∧ s.ak = -1 ∧ 0 ≤ s.t ∧ (s.ph = 1 → s.t < p.am) ∧ (s.ph ≠ 1 → s.t ≤ p.rd))
def mayS (l : List Pl) (s : Sg) : Bool := allP l && (decide (0 ≤ s.pl ∧ s.pl < l.length) && (rangeB (planAt l s.pl) l.length s && (heldB (planAt l s.pl) s && timeB (planAt l s.pl) s)))
theorem range_iff {p : Pl} {n : Nat} {s : Sg} : rangeB p n s = true ↔ RangeS p n s := by
  rw [rangeB, decide_eq_true_eq]
  exact ⟨fun ⟨a, b, c, d, e, f, g, h, i, j⟩ => ⟨a, b, c, d, e, f, g, h, i, j⟩, fun ⟨a, b, c, d, e, f, g, h, i, j⟩ => ⟨a, b, c, d, e, f, g, h, i, j⟩⟩
theorem held_iff {p : Pl} {s : Sg} : heldB p s = true ↔ HeldS p s := by
  rw [heldB, decide_eq_true_eq]
  exact ⟨fun ⟨a, b, c, d⟩ => ⟨a, b, c, d⟩, fun ⟨a, b, c, d⟩ => ⟨a, b, c, d⟩⟩
theorem time_iff {p : Pl} {s : Sg} : timeB p s = true ↔ (s.ph = 0 → GreenS p s) ∧ (s.ph ≠ 0 → OtherS p s) := by
  rw [timeB]
  by_cases h : s.ph = 0
  · rw [if_pos h, decide_eq_true_eq]
    exact ⟨fun ⟨a, b, c⟩ => ⟨fun _ => ⟨a, b, c⟩, fun n => (n h).elim⟩, fun ⟨g, _⟩ => ⟨(g h).t0, (g h).t1, (g h).t2⟩⟩
  · rw [if_neg h, decide_eq_true_eq]
    exact ⟨fun ⟨a, b, c, d, e, f⟩ => ⟨fun n => (h n).elim, fun _ => ⟨a, b, c, d, e, f⟩⟩, fun ⟨_, g⟩ => ⟨(g h).d, (g h).l, (g h).a, (g h).t, (g h).am, (g h).rd⟩⟩
theorem mayS_iff {l : List Pl} {s : Sg} : mayS l s = true ↔ MayS l s := by
  rw [mayS, Bool.and_eq_true, Bool.and_eq_true, Bool.and_eq_true, Bool.and_eq_true, decide_eq_true_eq, range_iff, held_iff, time_iff]
  exact ⟨fun ⟨a, ⟨b, c⟩, d, e, f, g⟩ => ⟨a, b, c, d, e, f, g⟩, fun ⟨a, b, c, d, e, f, g⟩ => ⟨a, ⟨b, c⟩, d, e, f, g⟩⟩
/-- what a tick makes of it -/
def endsS (p : Pl) (s : Sg) : Bool := decide ((stgAt p s.st).mn ≤ s.t + 1) && (s.sp || (decide (s.ak ≠ -1) || (decide (s.wt ≠ -1) || decide ((stgAt p s.st).mx ≤ s.t + 1))))
def greenT (p : Pl) (s : Sg) : Sg :=
  if 0 < s.hd then { s with t := s.t + 1, hd := s.hd - 1, hl := s.hl + 1 }
  else if endsS p s = true then { s with ph := 1, t := 0, hl := 0, nx := if s.ak = -1 then nextP p s.st else s.ak, ak := -1 }
  else { s with t := s.t + 1 }
def redN (p : Pl) (s : Sg) : Int := if s.t < p.rd then s.t + 1 else s.t
def redT (p : Pl) (s : Sg) : Sg :=
  if redN p s < p.rd ∨ s.sp = true then { s with t := redN p s }
  else if s.wt = -1 then { s with ph := 0, st := s.nx, t := 0 }
  else { s with pl := s.wt, wt := -1, nx := 0, ph := 0, st := 0, t := 0 }
def amberT (p : Pl) (s : Sg) : Sg := if s.t + 1 = p.am then { s with ph := 2, t := 0 } else { s with t := s.t + 1 }
def tickS (l : List Pl) (s : Sg) : Sg := if mayS l s = true then (if s.ph = 0 then greenT (planAt l s.pl) s else if s.ph = 1 then amberT (planAt l s.pl) s else redT (planAt l s.pl) s) else s
def lampsS (l : List Pl) (s : Sg) : List Int := if mayS l s = true then showR (planAt l s.pl) s.st s.ph else []
def ticksS (l : List Pl) (s : Sg) : Nat → Sg
  | 0 => s
  | k + 1 => tickS l (ticksS l s k)
def rowsS (l : List Pl) (s : Sg) : Nat → List (List Int)
  | 0 => []
  | k + 1 => rowsS l s k ++ [lampsS l (ticksS l s (k + 1))]
def runOk (l : List Pl) (s : Sg) (n : Int) : Bool := mayS l s && decide (0 ≤ n ∧ n ≤ 2000)
def runG (l : List Pl) (s : Sg) (n : Int) : Sg := if runOk l s n = true then ticksS l s n.toNat else s
def runL (l : List Pl) (s : Sg) (n : Int) : List (List Int) := if runOk l s n = true then rowsS l s n.toNat else []
def newG : Sg := ⟨0, 0, 0, 2, 0, 0, 0, -1, -1, false⟩
/-- what a call gives: a row; a machine and rows -/
def GivesG (s : Sg) (X : World) : Ending → World → Prop := fun e w' => e = .returned (sgV s) ∧ Below X.heap.size X w'
def GivesGL (s : Sg) (L : List (List Int)) (X : World) : Ending → World → Prop := fun e w' => ∃ A n c r, e = .returned (.tuple #[sgV s, .slice A n c]) ∧ Lns w' A n c r ∧ r.map Rw.l = L ∧ Below X.heap.size X w'
end Go.Proofs.Ytgnhmdfajnnkhaa


/- The walk over the document's May of a machine. -/
namespace Go.Proofs.Ytgnhmdfajnnkhaa
set_option maxRecDepth 100000
set_option linter.unusedVariables false
set_option linter.unusedSimpArgs false
open Go.RowKit

/-- a plan of a list that fits, out of it -/
theorem plan_of {w : World} {A : Option Addr} {n c : Nat} {l : List Pl} (h : Pls w A n c l) {j : Nat} (hj : j < n) : PlIn w (planAt l (j : Int)) ∧ planAt l (j : Int) ∈ l := by
  obtain ⟨b, off, p, -, hp, hm, -, hi, -⟩ := h.at_ j hj
  rw [planAt, Int.toNat_natCast, hp]
  exact ⟨hi, hm⟩
theorem all_fit {l : List Pl} (h : allP l = true) {p : Pl} (hp : p ∈ l) : fitP p = true := ((all_iff.1 h).2 p hp).1
end Go.Proofs.Ytgnhmdfajnnkhaa


/- The document's May of a machine: a stage, a phase, or what is asked for, that there is not. -/
namespace Go.Proofs.Ytgnhmdfajnnkhaa
set_option maxRecDepth 100000
set_option linter.unusedVariables false
set_option linter.unusedSimpArgs false
open Go.RowKit

end Go.Proofs.Ytgnhmdfajnnkhaa


/- The document's May of a machine: one that is held as it may not be. -/
namespace Go.Proofs.Ytgnhmdfajnnkhaa
set_option maxRecDepth 100000
set_option linter.unusedVariables false
set_option linter.unusedSimpArgs false
open Go.RowKit

end Go.Proofs.Ytgnhmdfajnnkhaa


/- The document's May of a machine: amber, and all red. -/
namespace Go.Proofs.Ytgnhmdfajnnkhaa
set_option maxRecDepth 100000
set_option linter.unusedVariables false
set_option linter.unusedSimpArgs false
open Go.RowKit

end Go.Proofs.Ytgnhmdfajnnkhaa


/- The document's May of a machine: green. -/
namespace Go.Proofs.Ytgnhmdfajnnkhaa
set_option maxRecDepth 100000
set_option linter.unusedVariables false
set_option linter.unusedSimpArgs false
open Go.RowKit

end Go.Proofs.Ytgnhmdfajnnkhaa


/- The walk over the document's May of a machine. -/
namespace Go.Proofs.Ytgnhmdfajnnkhaa
set_option maxRecDepth 100000
set_option linter.unusedVariables false
set_option linter.unusedSimpArgs false
open Go.RowKit

end Go.Proofs.Ytgnhmdfajnnkhaa

