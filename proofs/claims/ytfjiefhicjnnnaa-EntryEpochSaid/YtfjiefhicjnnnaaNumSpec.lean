/- Numbers as bytes, the highest byte first, as functions of lists. -/
import GoSem.Claim
namespace Go.Proofs.Ytfjiefhicjnnnaa
open Go

/-- the byte of N at place i of k -/
def putAt (N k i : Nat) : Int := ((N / 256 ^ (k - 1 - i) % 256 : Nat) : Int)
def putL (N k : Nat) : List Int := (List.range k).map (putAt N k)
/-- the number of bytes -/
def numOf : List Int → Nat → Nat
  | [], a => a
  | x :: l, a => numOf l (256 * a + x.toNat)
def numL (l : List Int) : Nat := numOf l 0
/-- filled from behind: the last j bytes are set -/
def fillBack (N k : Nat) : Nat → List Int
  | 0 => List.replicate k 0
  | j + 1 => (fillBack N k j).set (k - 1 - j) ((N / 256 ^ j % 256 : Nat) : Int)

theorem putL_length (N k : Nat) : (putL N k).length = k := by simp [putL]
theorem putAt_ok (N k i : Nat) : 0 ≤ putAt N k i ∧ putAt N k i < 256 := by unfold putAt; omega
theorem fillBack_length (N k j : Nat) : (fillBack N k j).length = k := by
  induction j with
  | zero => simp [fillBack]
  | succ j ih => simp [fillBack, ih]
theorem fillBack_get (N k j i : Nat) (hj : j ≤ k) (hi : i < k) : (fillBack N k j)[i]? = some (if k - j ≤ i then putAt N k i else 0) := by
  induction j with
  | zero => simp [fillBack, hi]; omega
  | succ j ih =>
    have ih := ih (by omega)
    rw [fillBack, List.getElem?_set, fillBack_length]
    by_cases h : k - 1 - j = i
    · rw [if_pos h, if_pos (by omega), if_pos (by omega)]
      subst h
      rw [putAt, show k - 1 - (k - 1 - j) = j by omega]
    · rw [if_neg h, ih]
      by_cases h2 : k - j ≤ i
      · rw [if_pos h2, if_pos (by omega)]
      · rw [if_neg h2, if_neg (by omega)]
theorem fillBack_all (N k : Nat) : fillBack N k k = putL N k := by
  apply List.ext_getElem?
  intro i
  by_cases hi : i < k
  · rw [fillBack_get N k k i (Nat.le_refl _) hi, if_pos (by omega)]
    simp [putL, hi]
  · rw [List.getElem?_eq_none (by rw [fillBack_length]; omega), List.getElem?_eq_none (by rw [putL_length]; omega)]

theorem numOf_append (l m : List Int) (a : Nat) : numOf (l ++ m) a = numOf m (numOf l a) := by
  induction l generalizing a with
  | nil => rfl
  | cons x l ih => rw [List.cons_append, numOf, numOf, ih]
theorem numOf_bound (l : List Int) (hl : ∀ x ∈ l, 0 ≤ x ∧ x < 256) (a : Nat) : numOf l a < (a + 1) * 256 ^ l.length := by
  induction l generalizing a with
  | nil => simp [numOf]
  | cons x l ih =>
    have hx := hl x (by simp)
    have h := ih (fun y hy => hl y (by simp [hy])) (256 * a + x.toNat)
    rw [numOf, List.length_cons, Nat.pow_succ]
    refine Nat.lt_of_lt_of_le h ?_
    have : 256 * a + x.toNat + 1 ≤ (a + 1) * 256 := by omega
    calc (256 * a + x.toNat + 1) * 256 ^ l.length ≤ ((a + 1) * 256) * 256 ^ l.length := Nat.mul_le_mul_right _ this
      _ = (a + 1) * (256 ^ l.length * 256) := by rw [Nat.mul_assoc, Nat.mul_comm 256]
theorem numL_bound (l : List Int) (hl : ∀ x ∈ l, 0 ≤ x ∧ x < 256) : numL l < 256 ^ l.length := by
  have := numOf_bound l hl 0
  simpa [numL] using this
theorem putL_succ (N k : Nat) : putL N (k + 1) = putL (N / 256) k ++ [((N % 256 : Nat) : Int)] := by
  rw [putL, putL, List.range_succ, List.map_append]
  congr 1
  · apply List.map_congr_left
    intro i hi
    have hi : i < k := List.mem_range.1 hi
    rw [putAt, putAt, Nat.div_div_eq_div_mul, show k + 1 - 1 - i = (k - 1 - i) + 1 by omega, Nat.pow_succ, Nat.mul_comm]
  · simp [putAt]
/-- what is put is got -/
theorem num_put (N k : Nat) (h : N < 256 ^ k) : numL (putL N k) = N := by
  induction k generalizing N with
  | zero => simp at h; subst h; rfl
  | succ k ih =>
    have h2 : N / 256 < 256 ^ k := by
      rw [Nat.div_lt_iff_lt_mul (by omega)]
      rw [Nat.pow_succ] at h
      exact h
    have := ih (N / 256) h2
    rw [putL_succ, numL, numOf_append]
    rw [numL] at this
    rw [this]
    simp only [numOf]
    omega
theorem numOf_snoc (l : List Int) (x : Int) (a : Nat) : numOf (l ++ [x]) a = 256 * numOf l a + x.toNat := by
  rw [numOf_append]; rfl
/-- what is got is put as the same bytes -/
theorem put_num (l : List Int) (hl : ∀ x ∈ l, 0 ≤ x ∧ x < 256) : putL (numL l) l.length = l := by
  obtain ⟨k, hk⟩ : ∃ k, k = l.length := ⟨_, rfl⟩
  induction k generalizing l with
  | zero =>
    have : l = [] := List.eq_nil_of_length_eq_zero hk.symm
    subst this
    rfl
  | succ k ih =>
    have hne : l ≠ [] := by intro h; subst h; simp at hk
    obtain ⟨m, x, rfl⟩ : ∃ m x, l = m ++ [x] := ⟨l.dropLast, l.getLast hne, (List.dropLast_concat_getLast hne).symm⟩
    have hm : m.length = k := by simp at hk; omega
    have hx := hl x (by simp)
    have h := ih m (fun y hy => hl y (by simp [hy])) hm.symm
    rw [List.length_append, List.length_cons, List.length_nil, Nat.zero_add, hm, putL_succ, numL, numOf_snoc]
    rw [numL, hm] at h
    rw [show (256 * numOf m 0 + x.toNat) / 256 = numOf m 0 by omega, h, show (256 * numOf m 0 + x.toNat) % 256 = x.toNat by omega]
    congr 2
    omega
end Go.Proofs.Ytfjiefhicjnnnaa
