/- What package group's own ways come to: rows together are the groups against; a greatest free set is one that just all others are against. -/
import Derived.Test.YtjjjfckkglcdfaaGrpOver
namespace Go.Proofs.Ytjjjfckkglcdfaa
set_option maxRecDepth 100000
set_option linter.unusedVariables false
open Go.RowKit

theorem bit_row {m : List Int} {i k : Nat} (h : 0 ≤ m.getD i 0) : (m.getD i 0).toNat.testBit k = meetM m i k := by
  obtain ⟨r, hr⟩ := Int.eq_ofNat_of_zero_le h
  unfold meetM
  rw [hr, bit_nat]
  rfl
theorem over_is {m : List Int} {t : Nat} (hm : mayM m = true) (ht : t < 2 ^ m.length) : orN m (listTo t 8) = sumN (hitM m (t : Int)) m.length := by
  obtain ⟨⟨-, h8⟩, hrow, -⟩ := may_all hm
  refine Nat.eq_of_testBit_eq fun k => ?_
  rw [Bool.eq_iff_iff, against_bit, orN_bit, List.any_eq_true]
  constructor
  · rintro ⟨x, hx, hb⟩
    obtain ⟨i, rfl, hi, hti⟩ := list_mem hx
    have hil := bit_lt ht hti
    rw [Int.toNat_natCast] at hb
    obtain ⟨r, hr⟩ := Int.eq_ofNat_of_zero_le (hrow i hil).1
    have hk : k < m.length := by
      have h2 := (hrow i hil).2
      rw [hr, pow_int] at h2
      rw [hr] at hb
      exact bit_lt (by omega) hb
    exact ⟨hk, i, hil, hti, by rw [← bit_row (hrow i hil).1]; exact hb⟩
  · rintro ⟨hk, i, hi, hti, hmt⟩
    refine ⟨(i : Int), ?_, by rw [Int.toNat_natCast, bit_row (hrow i hi).1]; exact hmt⟩
    rw [listTo, List.mem_map]
    exact ⟨i, List.mem_filter.2 ⟨List.mem_range.2 (by omega), hti⟩, rfl⟩
theorem up_bit {t k j : Nat} (ht : t < 256) (hk : k < 8) (hj : j < 8) (h : t.testBit k = false) : (t + 2 ^ k).testBit j = (t.testBit j || decide (j = k)) := by
  obtain ⟨-, -, h3⟩ := more8 ⟨t, ht⟩ ⟨k, hk⟩ (by rw [bit_nat]; exact h)
  have := h3 ⟨j, hj⟩
  simp only [bit_nat] at this
  rw [this]
  congr 1
  exact decide_eq_decide.2 ⟨fun e => by injection e, fun e => by subst e; rfl⟩
theorem most_against {m : List Int} {t : Nat} (hm : mayM m = true) (ht : t < 2 ^ m.length) : mostM m (t : Int) = decide (sumN (hitM m (t : Int)) m.length = 2 ^ m.length - 1 - t) := by
  obtain ⟨⟨-, h8⟩, hrow, hev⟩ := may_all hm
  have h256 := pow_le h8
  obtain ⟨A, hA⟩ : ∃ A, sumN (hitM m (t : Int)) m.length = A := ⟨_, rfl⟩
  have hbit := fun k => against_bit (m := m) (t := t) (k := k)
  have hAl := sumN_lt (hitM m (t : Int)) m.length
  rw [hA] at hbit hAl ⊢
  have hcomp : ∀ k, (2 ^ m.length - 1 - t).testBit k = (decide (k < m.length) && !t.testBit k) := fun k => by
    rw [show 2 ^ m.length - 1 - t = 2 ^ m.length - (t + 1) by omega]
    exact Nat.testBit_two_pow_sub_succ ht k
  rw [Bool.eq_iff_iff, most_iff, decide_eq_true_iff]
  constructor
  · rintro ⟨hf, hmax⟩
    rw [free_nat hm ht] at hf
    refine Nat.eq_of_testBit_eq fun k => ?_
    rw [hcomp, Bool.eq_iff_iff, hbit]
    by_cases hk : k < m.length
    · rw [decide_eq_true hk, Bool.true_and]
      cases htk : t.testBit k
      · refine ⟨fun _ => rfl, fun _ => ⟨hk, ?_⟩⟩
        refine Classical.byContradiction fun hno => hmax k hk ⟨by rw [bit_nat]; exact htk, ?_⟩
        have e : (t : Int) + 2 ^ k = ((t + 2 ^ k : Nat) : Int) := by simp
        rw [e, free_nat hm (up_lt hk ht htk h8)]
        rintro i hi j hj ⟨h1, h2, h3⟩
        rw [up_bit (by omega) (by omega) (by omega) htk] at h1 h2
        have hij := hev i hi j hj
        by_cases e1 : i = k
        · by_cases e2 : j = k
          · exact hij.2 ⟨h3, by rw [e1, e2]⟩
          · simp only [e2, decide_false, Bool.or_false] at h2
            subst e1
            exact hno ⟨j, hj, h2, by rw [← hij.1]; exact h3⟩
        · simp only [e1, decide_false, Bool.or_false] at h1
          by_cases e2 : j = k
          · subst e2
            exact hno ⟨i, hi, h1, h3⟩
          · simp only [e2, decide_false, Bool.or_false] at h2
            exact hf i hi j hj ⟨h1, h2, h3⟩
      · refine ⟨?_, fun h => by simp at h⟩
        rintro ⟨-, i, hi, h1, h2⟩
        exact (hf i hi k hk ⟨h1, htk, h2⟩).elim
    · rw [decide_eq_false hk, Bool.false_and]
      exact ⟨fun h => (hk h.1).elim, fun h => by simp at h⟩
  · intro hAe
    have hiff : ∀ k, k < m.length → ((∃ i, i < m.length ∧ t.testBit i = true ∧ meetM m i k = true) ↔ t.testBit k = false) := fun k hk => by
      have h1 := hbit k
      rw [hAe, hcomp, decide_eq_true hk, Bool.true_and] at h1
      constructor
      · intro h
        have := h1.2 ⟨hk, h⟩
        simpa using this
      · intro h
        exact (h1.1 (by rw [h]; rfl)).2
    refine ⟨(free_nat hm ht).2 fun i hi k hk h => ?_, fun k hk h => ?_⟩
    · have := (hiff k hk).1 ⟨i, hi, h.1, h.2.2⟩
      rw [h.2.1] at this
      cases this
    · obtain ⟨hbk, hfr⟩ := h
      rw [bit_nat] at hbk
      obtain ⟨i, hi, h1, h2⟩ := (hiff k hk).2 hbk
      have e : (t : Int) + 2 ^ k = ((t + 2 ^ k : Nat) : Int) := by simp
      rw [e, free_nat hm (up_lt hk ht hbk h8)] at hfr
      refine hfr i hi k hk ⟨?_, ?_, h2⟩
      · rw [up_bit (by omega) (by omega) (by omega) hbk, h1]; rfl
      · rw [up_bit (by omega) (by omega) (by omega) hbk]; simp
end Go.Proofs.Ytjjjfckkglcdfaa
