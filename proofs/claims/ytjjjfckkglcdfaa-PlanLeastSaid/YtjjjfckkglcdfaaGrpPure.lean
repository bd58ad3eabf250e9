/- What the laws of groups ask, plainly. -/
import Derived.Test.YtjjjfckkglcdfaaGrpSpec
namespace Go.Proofs.Ytjjjfckkglcdfaa
set_option maxRecDepth 100000
set_option linter.unusedVariables false
set_option linter.unusedSimpArgs false
open Go

/-! what is free, in bits -/
theorem none_nat {m : List Int} {t : Nat} : noneM m (t : Int) ↔ ∀ i, i < m.length → ∀ k, k < m.length → ¬ (t.testBit i = true ∧ t.testBit k = true ∧ meetM m i k = true) := by
  unfold noneM
  simp only [bit_nat]
theorem free_nat {m : List Int} {t : Nat} (hm : mayM m = true) (ht : t < 2 ^ m.length) : freeM m (t : Int) = true ↔ ∀ i, i < m.length → ∀ k, k < m.length → ¬ (t.testBit i = true ∧ t.testBit k = true ∧ meetM m i k = true) := by
  rw [free_iff, none_nat]
  exact ⟨fun h => h.2.2, fun h => ⟨hm, nat_set ht, h⟩⟩
/-- what is part of a free set is free -/
theorem free_part {m : List Int} {s p : Nat} (h : freeM m (s : Int) = true) (hs : p &&& s = p) : freeM m (p : Int) = true := by
  obtain ⟨hm, hin, hn⟩ := free_iff.1 h
  obtain ⟨t, ht, htl⟩ := set_nat hin
  obtain rfl : s = t := by omega
  have hp : p < 2 ^ m.length := by
    have : p &&& s ≤ s := Nat.and_le_right
    omega
  rw [free_nat hm hp]
  rw [none_nat] at hn
  intro i hi k hk hc
  have hb : ∀ j, p.testBit j = true → s.testBit j = true := fun j hj => by
    rw [← hs, Nat.testBit_and, Bool.and_eq_true] at hj
    exact hj.2
  exact hn i hi k hk ⟨hb i hc.1, hb k hc.2.1, hc.2.2⟩
theorem low_bit {t n : Nat} (h : t < 2 ^ n) {k : Nat} (hk : n ≤ k) : t.testBit k = false := by
  refine Nat.testBit_lt_two_pow ?_
  have : 2 ^ n ≤ 2 ^ k := Nat.pow_le_pow_right (by omega) hk
  omega
theorem up_lt {n t i : Nat} (hi : i < n) (ht : t < 2 ^ n) (hb : t.testBit i = false) (hn : n ≤ 8) : t + 2 ^ i < 2 ^ n := by
  have h8 := pow_le hn
  have e := or_pow8 ⟨t, by omega⟩ ⟨i, by omega⟩
  simp only [hb, Bool.false_eq_true, if_false] at e
  rw [← e]
  exact Nat.or_lt_two_pow ht (Nat.pow_lt_pow_right (by omega) hi)
theorem and_up {n t i : Nat} (hi : i < n) (ht : t < 2 ^ n) (hb : t.testBit i = false) (hn : n ≤ 8) : (t + 2 ^ i) &&& t = t := by
  have h8 := pow_le hn
  exact and_up8 ⟨t, by omega⟩ ⟨i, by omega⟩ hb
/-- each free set is part of one of the greatest -/
theorem grow {m : List Int} (hm : mayM m = true) : ∀ (d t : Nat), 2 ^ m.length - t ≤ d → freeM m (t : Int) = true → t < 2 ^ m.length → ∃ u : Nat, u < 2 ^ m.length ∧ mostM m (u : Int) = true ∧ u &&& t = t
  | 0, t, h, _, ht => by omega
  | d + 1, t, h, hf, ht => by
    obtain ⟨⟨h1, h8⟩, -, -⟩ := may_all hm
    by_cases hmo : mostM m (t : Int) = true
    · exact ⟨t, ht, hmo, Nat.and_self t⟩
    · have hex : ∃ i, i < m.length ∧ bitI (t : Int) i = false ∧ freeM m ((t : Int) + 2 ^ i) = true := by
        apply Classical.byContradiction
        intro hc
        exact hmo (most_iff.2 ⟨hf, fun i hi hh => hc ⟨i, hi, hh⟩⟩)
      obtain ⟨i, hi, hb, hfi⟩ := hex
      rw [bit_nat] at hb
      have e : (t : Int) + 2 ^ i = ((t + 2 ^ i : Nat) : Int) := by simp
      rw [e] at hfi
      have hlt := up_lt hi ht hb h8
      have hpos : 0 < 2 ^ i := Nat.pow_pos (by omega)
      obtain ⟨u, hu, hmu, ha⟩ := grow hm d (t + 2 ^ i) (by omega) hfi hlt
      refine ⟨u, hu, hmu, ?_⟩
      have h2 := and_up hi ht hb h8
      calc u &&& t = u &&& ((t + 2 ^ i) &&& t) := by rw [h2]
        _ = (u &&& (t + 2 ^ i)) &&& t := by rw [Nat.and_assoc]
        _ = (t + 2 ^ i) &&& t := by rw [ha]
        _ = t := h2
theorem free_zero {m : List Int} (hm : mayM m = true) : freeM m ((0 : Nat) : Int) = true := by
  rw [free_nat hm (Nat.pow_pos (by omega))]
  intro i _ k _ h
  simp at h
/-! the greatest free sets -/
theorem mem_sets {m : List Int} {x : Int} (hm : mayM m = true) : x ∈ setsM m ↔ ∃ t : Nat, x = t ∧ t < 2 ^ m.length ∧ mostM m (t : Int) = true := by
  rw [setsM, if_pos hm, List.mem_map]
  constructor
  · rintro ⟨t, ht, rfl⟩
    rw [List.mem_filter, List.mem_range] at ht
    exact ⟨t, rfl, ht.1, ht.2⟩
  · rintro ⟨t, rfl, h1, h2⟩
    exact ⟨t, List.mem_filter.2 ⟨List.mem_range.2 h1, h2⟩, rfl⟩
theorem sets_some {m : List Int} (hm : mayM m = true) : 0 < (setsM m).length := by
  obtain ⟨u, h1, h2, -⟩ := grow hm _ 0 (Nat.le_refl _) (free_zero hm) (Nat.pow_pos (by omega))
  exact List.length_pos_of_mem ((mem_sets hm).2 ⟨u, rfl, h1, h2⟩)
theorem sets_rise {m : List Int} : (setsM m).Pairwise (· < ·) := by
  rw [setsM]
  split
  · rw [List.pairwise_map]
    refine (List.Pairwise.filter _ List.pairwise_lt_range).imp ?_
    intro a b h
    exact Int.ofNat_lt.2 h
  · exact List.Pairwise.nil
/-! against -/
theorem against_some {m : List Int} {t : Nat} (hm : mayM m = true) (ht : t < 2 ^ m.length) : againstM m (t : Int) = (sumN (hitM m (t : Int)) m.length : Nat) := by rw [againstM, if_pos ⟨hm, nat_set ht⟩]
theorem hit_nat {m : List Int} {t k : Nat} : hitM m (t : Int) k = true ↔ ∃ i, i < m.length ∧ t.testBit i = true ∧ meetM m i k = true := by
  simp only [hitM, List.any_eq_true, List.mem_range, Bool.and_eq_true, bit_nat]
theorem against_bit {m : List Int} {t k : Nat} : (sumN (hitM m (t : Int)) m.length).testBit k = true ↔ k < m.length ∧ ∃ i, i < m.length ∧ t.testBit i = true ∧ meetM m i k = true := by
  rw [sumN_bit, Bool.and_eq_true, decide_eq_true_iff, hit_nat]
theorem free_against {m : List Int} {t : Nat} (hm : mayM m = true) (ht : t < 2 ^ m.length) : freeM m (t : Int) = decide (sumN (hitM m (t : Int)) m.length &&& t = 0) := by
  rw [Bool.eq_iff_iff, free_nat hm ht, decide_eq_true_iff]
  constructor
  · intro h
    apply Nat.eq_of_testBit_eq
    intro k
    rw [Nat.zero_testBit]
    apply Bool.eq_false_iff.2
    intro hc
    rw [Nat.testBit_and, Bool.and_eq_true, against_bit] at hc
    obtain ⟨⟨hk, i, hi, hb, hme⟩, hbk⟩ := hc
    exact h i hi k hk ⟨hb, hbk, hme⟩
  · intro h i hi k hk hc
    have h1 : (sumN (hitM m (t : Int)) m.length &&& t).testBit k = true := by
      rw [Nat.testBit_and, Bool.and_eq_true, against_bit]
      exact ⟨⟨hk, i, hi, hc.1, hc.2.2⟩, hc.2.1⟩
    rw [h, Nat.zero_testBit] at h1
    cases h1
theorem against_more {m : List Int} {t i : Nat} : sumN (hitM m ((t ||| 2 ^ i : Nat) : Int)) m.length = sumN (hitM m (t : Int)) m.length ||| sumN (hitM m ((2 ^ i : Nat) : Int)) m.length := by
  apply Nat.eq_of_testBit_eq
  intro k
  rw [Bool.eq_iff_iff, Nat.testBit_or, Bool.or_eq_true, against_bit, against_bit, against_bit]
  constructor
  · rintro ⟨hk, j, hj, hb, hme⟩
    rw [Nat.testBit_or, Bool.or_eq_true] at hb
    rcases hb with hb | hb
    · exact .inl ⟨hk, j, hj, hb, hme⟩
    · exact .inr ⟨hk, j, hj, hb, hme⟩
  · rintro (⟨hk, j, hj, hb, hme⟩ | ⟨hk, j, hj, hb, hme⟩)
    · exact ⟨hk, j, hj, by rw [Nat.testBit_or, hb]; rfl, hme⟩
    · exact ⟨hk, j, hj, by rw [Nat.testBit_or, hb]; simp, hme⟩
theorem against_one {m : List Int} {i k : Nat} (hi : i < m.length) (hk : k < m.length) : (sumN (hitM m ((2 ^ i : Nat) : Int)) m.length).testBit k = meetM m i k := by
  rw [Bool.eq_iff_iff, against_bit]
  constructor
  · rintro ⟨-, j, hj, hb, hme⟩
    rw [Nat.testBit_two_pow] at hb
    obtain rfl : i = j := of_decide_eq_true hb
    exact hme
  · intro h
    exact ⟨hk, i, hi, Nat.testBit_two_pow_self, h⟩
/-! a list and its set -/
theorem of_step (l : List Int) : ∀ (t : Nat), t < 256 → (ofF l (t : Int) = -1) ∨ (∃ r : Nat, ofF l (t : Int) = r ∧ r < 256 ∧ (listM (r : Int)).length = (listM (t : Int)).length + l.length ∧ (∀ j, j < 8 → (bitI (r : Int) j = true ↔ bitI (t : Int) j = true ∨ (j : Int) ∈ l)) ∧ ∀ x ∈ l, 0 ≤ x ∧ x ≤ 7) := by
  induction l with
  | nil => exact fun t ht => .inr ⟨t, rfl, ht, rfl, fun j _ => by simp, fun x hx => by cases hx⟩
  | cons x l ih =>
    intro t ht
    rw [ofF]
    by_cases h1 : x < 0 ∨ 7 < x
    · rw [if_pos h1]; exact .inl rfl
    · rw [if_neg h1]
      obtain ⟨y, rfl⟩ := Int.eq_ofNat_of_zero_le (show 0 ≤ x by omega)
      rw [Int.toNat_natCast]
      by_cases h2 : bitI (t : Int) y = true
      · rw [if_pos h2]; exact .inl rfl
      · rw [if_neg h2]
        have hy : y < 8 := by omega
        obtain ⟨m1, m2, m3⟩ := more8 ⟨t, ht⟩ ⟨y, hy⟩ (by simpa using h2)
        simp only at m1 m2 m3
        have e : (t : Int) + 2 ^ y = ((t + 2 ^ y : Nat) : Int) := by simp
        rw [e]
        rcases ih (t + 2 ^ y) m1 with h | ⟨r, r1, r2, r3, r4, r5⟩
        · exact .inl h
        · refine .inr ⟨r, r1, r2, by rw [r3, m2, List.length_cons]; omega, fun j hj => ?_, fun z hz => ?_⟩
          · rw [r4 j hj]
            have := m3 ⟨j, hj⟩
            simp only at this
            rw [this, Bool.or_eq_true, decide_eq_true_iff, Fin.mk.injEq, List.mem_cons]
            constructor
            · rintro ((h | h) | h)
              · exact .inl h
              · exact .inr (.inl (by rw [h]))
              · exact .inr (.inr h)
            · rintro (h | h | h)
              · exact .inl (.inl h)
              · exact .inl (.inr (by exact Int.ofNat.inj h))
              · exact .inr h
          · rcases List.mem_cons.1 hz with rfl | hz
            · omega
            · exact r5 z hz
theorem of_list (l : List Int) : ofM l = -1 ∨ ∃ r : Nat, ofM l = r ∧ r < 256 ∧ (listM (r : Int)).length = l.length ∧ ∀ x, x ∈ listM (r : Int) ↔ x ∈ l := by
  rcases of_step l 0 (by omega) with h | ⟨r, r1, r2, r3, r4, r5⟩
  · exact .inl h
  · refine .inr ⟨r, r1, r2, by rw [r3]; show 0 + l.length = _; omega, fun x => ?_⟩
    rw [mem8 ⟨r, r2⟩ x]
    constructor
    · rintro ⟨j, rfl, hj⟩
      rcases (r4 j.val j.isLt).1 hj with h | h
      · rw [show ((0 : Nat) : Int) = 0 by rfl] at h
        simp [bitI] at h
      · exact h
    · intro hx
      obtain ⟨h0, h7⟩ := r5 x hx
      obtain ⟨y, rfl⟩ := Int.eq_ofNat_of_zero_le h0
      exact ⟨⟨y, by omega⟩, rfl, (r4 y (by omega)).2 (.inr hx)⟩
theorem of_none {l : List Int} (h : ofM l = -1) : 0 < l.length := by
  cases l with
  | nil => simp [ofM, ofF] at h
  | cons x l => simp
theorem rise_pair : ∀ (l : List Int), risesB l = true → l.Pairwise (· < ·)
  | [], _ => List.Pairwise.nil
  | [x], _ => List.pairwise_singleton _ _
  | x :: y :: l, h => by
    have h0 : risesTo (x :: y :: l) (x :: y :: l).length := of_decide_eq_true h
    have hxy : x < y := h0 1 (by simp) (by omega)
    have ht : risesB (y :: l) = true := decide_eq_true fun i hi hp => by
      have := h0 (i + 1) (by simpa using hi) (by omega)
      obtain ⟨j, rfl⟩ : ∃ j, i = j + 1 := ⟨i - 1, by omega⟩
      simpa using this
    have ih := rise_pair (y :: l) ht
    refine List.pairwise_cons.2 ⟨fun z hz => ?_, ih⟩
    rcases List.mem_cons.1 hz with rfl | hz
    · exact hxy
    · exact Int.lt_trans hxy ((List.pairwise_cons.1 ih).1 z hz)
theorem pair_rise {l : List Int} (h : l.Pairwise (· < ·)) : risesB l = true := decide_eq_true fun i hi hp => by
  have h1 := List.pairwise_iff_getElem.1 h (i - 1) i (by omega) hi (by omega)
  simpa [List.getD_eq_getElem?_getD, hi, show i - 1 < l.length by omega] using h1
theorem pair_ext : ∀ {a b : List Int}, a.Pairwise (· < ·) → b.Pairwise (· < ·) → (∀ x, x ∈ a ↔ x ∈ b) → a = b
  | [], [], _, _, _ => rfl
  | [], y :: b, _, _, h => by have := (h y).2 (by simp); simp at this
  | x :: a, [], _, _, h => by have := (h x).1 (by simp); simp at this
  | x :: a, y :: b, ha, hb, h => by
    have ha' := List.pairwise_cons.1 ha
    have hb' := List.pairwise_cons.1 hb
    have hxy : x = y := by
      rcases List.mem_cons.1 ((h x).1 (by simp)) with e | e
      · exact e
      · rcases List.mem_cons.1 ((h y).2 (by simp)) with e2 | e2
        · exact e2.symm
        · have h1 := hb'.1 x e
          have h2 := ha'.1 y e2
          omega
    subst hxy
    congr 1
    refine pair_ext ha'.2 hb'.2 fun z => ?_
    constructor
    · intro hz
      rcases List.mem_cons.1 ((h z).1 (List.mem_cons_of_mem _ hz)) with rfl | e
      · have := ha'.1 z hz; omega
      · exact e
    · intro hz
      rcases List.mem_cons.1 ((h z).2 (List.mem_cons_of_mem _ hz)) with rfl | e
      · have := hb'.1 z hz; omega
      · exact e
/-- what a list's set gives back is the list just if it rises -/
theorem same_rise {l : List Int} {r : Nat} (h : ofM l = r) : decide (listM (ofM l) = l) = risesB l := by
  rcases of_list l with h1 | ⟨r2, h1, h2, h3, h4⟩
  · rw [h] at h1; omega
  · rw [h1]
    have hr := rise_pair _ (rise8 ⟨r2, h2⟩)
    rw [Bool.eq_iff_iff, decide_eq_true_iff]
    constructor
    · intro e
      rw [← e]
      exact rise8 ⟨r2, h2⟩
    · intro e
      exact pair_ext hr (rise_pair _ e) h4
theorem back_list {s : Int} (h : 0 ≤ s ∧ s < 256) : ofM (listM s) = s ∧ risesB (listM s) = true := by
  obtain ⟨t, rfl⟩ := Int.eq_ofNat_of_zero_le h.1
  exact ⟨back8 ⟨t, by omega⟩, rise8 ⟨t, by omega⟩⟩
end Go.Proofs.Ytjjjfckkglcdfaa
