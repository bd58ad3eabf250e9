/- Frames as bytes, as functions of lists. -/
import Derived.Test.YtadcbikdbekmgaaNumPure
namespace Go.Proofs.Ytadcbikdbekmgaa
set_option linter.unusedVariables false
set_option linter.unusedSimpArgs false
open Go

/-- a frame: its numbers, and its tag -/
structure Fr where
  kind : Int
  user : Int
  sess : Int
  cn : Int
  epoch : Int
  count : Int
  cmd : Int
  arg : Int
  tag : List Int
/-- what any value of the frame's type is -/
structure Fr.ok (f : Fr) : Prop where
  kind : -9223372036854775808 ≤ f.kind ∧ f.kind ≤ 9223372036854775807
  user : -9223372036854775808 ≤ f.user ∧ f.user ≤ 9223372036854775807
  sess : 0 ≤ f.sess ∧ f.sess < 18446744073709551616
  cn : 0 ≤ f.cn ∧ f.cn < 18446744073709551616
  epoch : -9223372036854775808 ≤ f.epoch ∧ f.epoch ≤ 9223372036854775807
  count : 0 ≤ f.count ∧ f.count < 18446744073709551616
  cmd : -9223372036854775808 ≤ f.cmd ∧ f.cmd ≤ 9223372036854775807
  arg : -9223372036854775808 ≤ f.arg ∧ f.arg ≤ 9223372036854775807
  len : f.tag.length = 32
  bytes : ∀ j, 0 ≤ f.tag.getD j 0 ∧ f.tag.getD j 0 < 256
def noTag : List Int := List.replicate 32 0
def Fr.zero : Fr := ⟨0, 0, 0, 0, 0, 0, 0, 0, noTag⟩
def Fr.nums (f : Fr) : List Int := [f.kind, f.user, f.sess, f.cn, f.epoch, f.count, f.cmd, f.arg]
theorem Fr.ext' {f g : Fr} (h : f.nums = g.nums) (ht : f.tag = g.tag) : f = g := by
  rcases f with ⟨a0, a1, a2, a3, a4, a5, a6, a7, t⟩
  rcases g with ⟨b0, b1, b2, b3, b4, b5, b6, b7, u⟩
  simp only [Fr.nums, List.cons.injEq, and_true] at h
  obtain ⟨rfl, rfl, rfl, rfl, rfl, rfl, rfl, rfl⟩ := h
  subst ht
  rfl

/-- how many bytes each number of a kind's frames takes -/
def szK : Nat → List Nat
  | 0 => [1, 1, 0, 8, 0, 0, 0, 0]
  | 1 => [1, 0, 8, 0, 4, 0, 0, 0]
  | 2 => [1, 0, 8, 0, 0, 0, 0, 0]
  | 3 => [1, 0, 8, 0, 0, 0, 0, 0]
  | 4 => [1, 0, 8, 0, 0, 8, 1, 2]
  | 5 => [1, 0, 8, 0, 0, 8, 1, 2]
  | 6 => [1, 0, 0, 0, 0, 0, 1, 0]
  | _ => [0, 0, 0, 0, 0, 0, 0, 0]
/-- has it a tag? -/
def tagK : Nat → Bool
  | 2 => true
  | 3 => true
  | 4 => true
  | 5 => true
  | _ => false
def kindB (k : Int) : Bool := decide (0 ≤ k ∧ k ≤ 6)
def folL (S : List Nat) (t : Bool) : Nat := S.sum + if t then 32 else 0
/-- the numbers that are there, each with its size -/
def pick : List Nat → List Nat → List (Nat × Nat)
  | n :: ns, s :: S => if 0 < s then (n, s) :: pick ns S else pick ns S
  | _, _ => []
/-- the sizes that are there -/
def there (S : List Nat) : List Nat := S.filter fun s => decide (0 < s)
/-- numbers, each to its place -/
def spread : List Nat → List Nat → List Nat
  | [], _ => []
  | s :: S, l => if 0 < s then l.headD 0 :: spread S l.tail else 0 :: spread S l
/-- what is none of its fields is nought -/
def blankB : List Int → List Nat → Bool
  | n :: ns, s :: S => (decide (0 < s) || decide (n = 0)) && blankB ns S
  | _, _ => true
def rangeB (f : Fr) : Bool := decide (0 ≤ f.user ∧ f.user ≤ 255 ∧ 0 ≤ f.epoch ∧ f.epoch ≤ 1073741824 ∧ 0 ≤ f.cmd ∧ f.cmd ≤ 255 ∧ 0 ≤ f.arg ∧ f.arg ≤ 65535)
/-- plain by a shape -/
def plainS (f : Fr) (S : List Nat) (t : Bool) : Bool := rangeB f && (blankB f.nums S && (t || f.tag == noTag))
def plainB (f : Fr) : Bool := kindB f.kind && plainS f (szK f.kind.toNat) (tagK f.kind.toNat)
def natsOf (f : Fr) : List Nat := f.nums.map Int.toNat
def rowS (f : Fr) (S : List Nat) (t : Bool) : List (Nat × Nat) := (folL S t, 2) :: pick (natsOf f) S
def frontF (f : Fr) : List Int := catL (rowS f (szK f.kind.toNat) (tagK f.kind.toNat))
/-- a plain frame's bytes -/
def putF (f : Fr) : List Int := frontF f ++ if tagK f.kind.toNat then f.tag else []

theorem pick_length : ∀ ns S : List Nat, ns.length = S.length → (pick ns S).map (·.2) = there S
  | [], [], _ => rfl
  | n :: ns, s :: S, h => by
    have ih := pick_length ns S (by simpa using h)
    rw [pick, there, List.filter_cons]
    by_cases hs : 0 < s
    · rw [if_pos hs, if_pos (by simpa using hs), List.map_cons, ih]; rfl
    · rw [if_neg hs, if_neg (by simpa using hs), ih]; rfl
  | [], _ :: _, h => by simp at h
  | _ :: _, [], h => by simp at h
theorem there_sum (S : List Nat) : (there S).sum = S.sum := by
  induction S with
  | nil => rfl
  | cons s S ih =>
    rw [there, List.filter_cons, List.sum_cons]
    by_cases hs : 0 < s
    · rw [if_pos (by simpa using hs), List.sum_cons, ← ih]; rfl
    · rw [if_neg (by simpa using hs), ← ih]
      have : s = 0 := by omega
      subst this
      rw [Nat.zero_add]
      rfl
theorem spread_pick : ∀ (ns : List Int) (S : List Nat), ns.length = S.length → blankB ns S = true → spread S ((pick (ns.map Int.toNat) S).map (·.1)) = ns.map Int.toNat
  | [], [], _, _ => rfl
  | n :: ns, s :: S, h, hb => by
    rw [blankB, Bool.and_eq_true] at hb
    have ih := spread_pick ns S (by simpa using h) hb.2
    rw [List.map_cons, pick, spread]
    by_cases hs : 0 < s
    · rw [if_pos hs, if_pos hs, List.map_cons, List.headD_cons, List.tail_cons, ih]
    · rw [if_neg hs, if_neg hs, ih]
      have : n = 0 := by
        have := hb.1
        simpa [hs] using this
      subst this
      rfl
  | [], _ :: _, h, _ => by simp at h
  | _ :: _, [], h, _ => by simp at h
theorem spread_length : ∀ (S l : List Nat), (spread S l).length = S.length
  | [], _ => rfl
  | s :: S, l => by
    rw [spread]
    split <;> simp [spread_length S]
theorem szK_length (k : Nat) : (szK k).length = 8 := by
  unfold szK
  split <;> rfl
theorem natsOf_length (f : Fr) : (natsOf f).length = 8 := rfl
theorem folK_small (k : Nat) : folL (szK k) (tagK k) ≤ 52 := by
  by_cases h : k < 7
  · have : k = 0 ∨ k = 1 ∨ k = 2 ∨ k = 3 ∨ k = 4 ∨ k = 5 ∨ k = 6 := by omega
    rcases this with rfl | rfl | rfl | rfl | rfl | rfl | rfl <;> decide
  · have e1 : szK k = [0, 0, 0, 0, 0, 0, 0, 0] := by unfold szK; split <;> first | rfl | omega
    have e2 : tagK k = false := by unfold tagK; split <;> first | rfl | omega
    rw [e1, e2]
    decide
theorem kind_cases {k : Int} (h : kindB k = true) : k = 0 ∨ k = 1 ∨ k = 2 ∨ k = 3 ∨ k = 4 ∨ k = 5 ∨ k = 6 := by
  unfold kindB at h
  rw [decide_eq_true_eq] at h
  omega
end Go.Proofs.Ytadcbikdbekmgaa
