/- Groups, plainly: sets as numbers, matrices, which groups conflict, the greatest free sets, the groups of a set. -/
import Derived.Test.YtjjjfckkglcdfaaBasInts
import Derived.Laws.BitsAllLaws
namespace Go.Proofs.Ytjjjfckkglcdfaa
set_option maxRecDepth 100000
set_option linter.unusedVariables false
set_option linter.unusedSimpArgs false
open Go

/-- is group i in the set s? -/
def bitI (s : Int) (i : Nat) : Bool := decide (s / 2 ^ i % 2 = 1)
theorem bit_nat (t i : Nat) : bitI (t : Int) i = t.testBit i := by
  rw [bitI, Nat.testBit_eq_decide_div_mod_eq]
  refine decide_eq_decide.2 ?_
  have e : ((2 : Int) ^ i) = ((2 ^ i : Nat) : Int) := by simp
  rw [e]
  omega
def meetM (m : List Int) (i k : Nat) : Bool := bitI (m.getD i 0) k
def rowsM (m : List Int) : Prop := ∀ i, i < m.length → 0 ≤ m.getD i 0 ∧ m.getD i 0 < 2 ^ m.length
def evenM (m : List Int) : Prop := ∀ i, i < m.length → ∀ k, k < m.length → meetM m i k = meetM m k i ∧ ¬ (meetM m i k = true ∧ i = k)
instance (m : List Int) : Decidable (rowsM m) := by unfold rowsM; infer_instance
instance (m : List Int) : Decidable (evenM m) := by unfold evenM; infer_instance
def mayM (m : List Int) : Bool := decide ((1 ≤ m.length ∧ m.length ≤ 8) ∧ rowsM m ∧ evenM m)
def setM (m : List Int) (s : Int) : Prop := 0 ≤ s ∧ s < 2 ^ m.length
instance (m : List Int) (s : Int) : Decidable (setM m s) := by unfold setM; infer_instance
def hitM (m : List Int) (s : Int) (k : Nat) : Bool := (List.range m.length).any fun i => bitI s i && meetM m i k
def sumN (f : Nat → Bool) : Nat → Nat
  | 0 => 0
  | k + 1 => sumN f k + (if f k then 2 ^ k else 0)
def againstM (m : List Int) (s : Int) : Int := if mayM m = true ∧ setM m s then (sumN (hitM m s) m.length : Nat) else -1
def noneM (m : List Int) (s : Int) : Prop := ∀ i, i < m.length → ∀ k, k < m.length → ¬ (bitI s i = true ∧ bitI s k = true ∧ meetM m i k = true)
instance (m : List Int) (s : Int) : Decidable (noneM m s) := by unfold noneM; infer_instance
def freeM (m : List Int) (s : Int) : Bool := decide (mayM m = true ∧ setM m s ∧ noneM m s)
def mostM (m : List Int) (s : Int) : Bool := decide (freeM m s = true ∧ ∀ i, i < m.length → ¬ (bitI s i = false ∧ freeM m (s + 2 ^ i) = true))
def setsM (m : List Int) : List Int := if mayM m = true then ((List.range (2 ^ m.length)).filter fun t : Nat => mostM m (t : Int)).map Int.ofNat else []
def listM (s : Int) : List Int := if 0 ≤ s ∧ s < 256 then ((List.range 8).filter (bitI s)).map Int.ofNat else []
def ofF : List Int → Int → Int
  | [], o => o
  | x :: l, o => if x < 0 ∨ 7 < x then -1 else if bitI o x.toNat = true then -1 else ofF l (o + 2 ^ x.toNat)
def ofM (l : List Int) : Int := ofF l 0

theorem may_all {m : List Int} (h : mayM m = true) : (1 ≤ m.length ∧ m.length ≤ 8) ∧ rowsM m ∧ evenM m := of_decide_eq_true h
theorem free_iff {m : List Int} {s : Int} : freeM m s = true ↔ mayM m = true ∧ setM m s ∧ noneM m s := decide_eq_true_iff
theorem most_iff {m : List Int} {s : Int} : mostM m s = true ↔ freeM m s = true ∧ ∀ i, i < m.length → ¬ (bitI s i = false ∧ freeM m (s + 2 ^ i) = true) := decide_eq_true_iff
theorem pow_le {n : Nat} (h : n ≤ 8) : (2 : Nat) ^ n ≤ 256 := Nat.pow_le_pow_right (by omega) h
theorem pow_int (n : Nat) : ((2 : Int) ^ n) = ((2 ^ n : Nat) : Int) := by simp
theorem set_nat {m : List Int} {s : Int} (h : setM m s) : ∃ t : Nat, s = t ∧ t < 2 ^ m.length := by
  obtain ⟨h0, h1⟩ := h
  obtain ⟨t, rfl⟩ := Int.eq_ofNat_of_zero_le h0
  rw [pow_int] at h1
  exact ⟨t, rfl, by omega⟩
theorem nat_set {m : List Int} {t : Nat} (h : t < 2 ^ m.length) : setM m (t : Int) := by
  unfold setM
  rw [pow_int]
  omega
theorem sumN_lt (f : Nat → Bool) : ∀ n, sumN f n < 2 ^ n
  | 0 => by simp [sumN]
  | n + 1 => by
    have := sumN_lt f n
    rw [sumN, Nat.pow_succ]
    split <;> omega
theorem sumN_bit (f : Nat → Bool) (k : Nat) : ∀ n, (sumN f n).testBit k = (decide (k < n) && f k)
  | 0 => by simp [sumN]
  | n + 1 => by
    have ih := sumN_bit f k n
    have hlt := sumN_lt f n
    rw [sumN]
    by_cases hf : f n = true
    · rw [if_pos hf, Nat.add_comm]
      by_cases h1 : k < n
      · rw [Nat.testBit_two_pow_add_gt h1, ih, decide_eq_true h1, decide_eq_true (by omega : k < n + 1)]
      · by_cases h2 : k = n
        · subst h2
          rw [Nat.testBit_two_pow_add_eq, Nat.testBit_lt_two_pow hlt, hf]
          simp
        · rw [Nat.testBit_lt_two_pow (x := 2 ^ n + sumN f n) (i := k), decide_eq_false (by omega)]
          · rfl
          · have : 2 ^ (n + 1) ≤ 2 ^ k := Nat.pow_le_pow_right (by omega) (by omega)
            rw [Nat.pow_succ] at this
            omega
    · rw [if_neg hf, Nat.add_zero, ih]
      by_cases h1 : k < n
      · rw [decide_eq_true h1, decide_eq_true (by omega : k < n + 1)]
      · rw [decide_eq_false h1]
        by_cases h2 : k = n
        · subst h2; simp [hf]
        · rw [decide_eq_false (by omega)]
/-- numbers below 256 -/
theorem or_pow8 : ∀ (t : Fin 256) (i : Fin 8), (t.val ||| 2 ^ i.val) = if t.val.testBit i.val then t.val else t.val + 2 ^ i.val := by decide +kernel
theorem and_up8 : ∀ (t : Fin 256) (i : Fin 8), t.val.testBit i.val = false → (t.val + 2 ^ i.val) &&& t.val = t.val := by decide +kernel
theorem back8 : ∀ t : Fin 256, ofM (listM (t.val : Int)) = (t.val : Int) := by decide +kernel
def risesTo (l : List Int) (k : Nat) : Prop := ∀ i, i < k → 0 < i → l.getD (i - 1) 0 < l.getD i 0
instance (l : List Int) (k : Nat) : Decidable (risesTo l k) := by unfold risesTo; infer_instance
def risesB (l : List Int) : Bool := decide (risesTo l l.length)
theorem rise8 : ∀ t : Fin 256, risesB (listM (t.val : Int)) = true := by decide +kernel
theorem more8 : ∀ (t : Fin 256) (x : Fin 8), bitI (t.val : Int) x.val = false → t.val + 2 ^ x.val < 256 ∧ (listM ((t.val + 2 ^ x.val : Nat) : Int)).length = (listM (t.val : Int)).length + 1 ∧ ∀ j : Fin 8, bitI ((t.val + 2 ^ x.val : Nat) : Int) j.val = (bitI (t.val : Int) j.val || decide (j = x)) := by decide +kernel
theorem mem8 : ∀ (t : Fin 256) (x : Int), x ∈ listM (t.val : Int) ↔ ∃ j : Fin 8, x = (j.val : Int) ∧ bitI (t.val : Int) j.val = true := by
  intro t x
  have h : 0 ≤ ((t.val : Nat) : Int) ∧ ((t.val : Nat) : Int) < 256 := ⟨by omega, by have := t.isLt; omega⟩
  rw [listM, if_pos h, List.mem_map]
  constructor
  · rintro ⟨a, ha, rfl⟩
    rw [List.mem_filter, List.mem_range] at ha
    exact ⟨⟨a, ha.1⟩, rfl, ha.2⟩
  · rintro ⟨j, rfl, hj⟩
    exact ⟨j.val, List.mem_filter.2 ⟨List.mem_range.2 j.isLt, hj⟩, rfl⟩
end Go.Proofs.Ytjjjfckkglcdfaa
