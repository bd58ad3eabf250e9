/- What is done to stores, plainly: what stays, and what a crash leaves. -/
import Derived.Test.YtoohcpckdkbngaaStoTop
namespace Go.Proofs.Ytoohcpckdkbngaa
set_option linter.unusedVariables false
set_option linter.unusedSimpArgs false
open Go.RowKit

theorem write_cases {s : Sp} {b : List Int} (hm : mayP s = true) : writeP s b = (s, 12) ∧ s.cap - s.data.length < b.length ∨ writeP s b = (⟨s.cap, s.data ++ b, s.sure⟩, 0) ∧ ¬ s.cap - s.data.length < b.length := by
  rw [writeP, if_pos hm]
  unfold fwriteP
  split
  · rename_i h; exact .inl ⟨rfl, h⟩
  · rename_i h; exact .inr ⟨rfl, h⟩
theorem may_data {s : Sp} (hm : mayP s = true) : 0 ≤ s.cap ∧ s.cap ≤ 16384 ∧ (s.data.length : Int) ≤ s.cap ∧ 0 ≤ s.sure ∧ s.sure ≤ (s.data.length : Int) := mayT_iff.1 hm
theorem may_of {s : Sp} (h : 0 ≤ s.cap ∧ s.cap ≤ 16384 ∧ (s.data.length : Int) ≤ s.cap ∧ 0 ≤ s.sure ∧ s.sure ≤ (s.data.length : Int)) : mayP s = true := mayT_iff.2 h
theorem write_may {s t : Sp} {b : List Int} {e : Int} (hm : mayP s = true) (h : writeP s b = (t, e)) : mayP t = true ∧ t.cap = s.cap ∧ t.sure = s.sure ∧ s.data.length ≤ t.data.length ∧ t.data.take s.data.length = s.data := by
  obtain ⟨q1, q2, q3, q4, q5⟩ := may_data hm
  rcases write_cases (b := b) hm with ⟨h1, h2⟩ | ⟨h1, h2⟩
  · rw [h1] at h
    injection h with h3 h4
    subst h3
    exact ⟨hm, rfl, rfl, Nat.le_refl _, List.take_length⟩
  · rw [h1] at h
    injection h with h3 h4
    subst h3
    refine ⟨may_of ?_, rfl, rfl, ?_, ?_⟩
    · simp only [List.length_append]; omega
    · simp only [List.length_append]; omega
    · simp
theorem write_few {s t : Sp} {b : List Int} {e : Int} (hm : mayP s = true) (h : writeP s b = (t, e)) : t.data.length ≤ 16384 := by
  obtain ⟨h1, _⟩ := write_may hm h
  have := may_data h1
  omega
theorem kept_at {s : Sp} {keep : Int} (hm : mayP s = true) : ∃ j : Nat, keptP s keep = j ∧ s.sure ≤ j ∧ j ≤ s.data.length ∧ crashP s keep = ⟨s.cap, s.data.take j, j⟩ := by
  obtain ⟨q1, q2, q3, q4, q5⟩ := may_data hm
  obtain ⟨j, hj⟩ := Int.eq_ofNat_of_zero_le (show 0 ≤ keptP s keep by unfold keptP; omega)
  refine ⟨j, hj, by unfold keptP at hj; omega, by unfold keptP at hj; omega, ?_⟩
  rw [crashP, if_pos hm, hj]
  rfl
theorem crash_may {s t : Sp} {keep : Int} (hm : mayP s = true) (h : crashP s keep = t) : mayP t = true ∧ t.cap = s.cap ∧ t.sure = (t.data.length : Int) ∧ s.sure ≤ (t.data.length : Int) ∧ t.data.length ≤ s.data.length ∧ t.data = s.data.take t.data.length := by
  obtain ⟨q1, q2, q3, q4, q5⟩ := may_data hm
  obtain ⟨j, hj, h1, h2, h3⟩ := kept_at (keep := keep) hm
  rw [h3] at h
  subst h
  have hl : (s.data.take j).length = j := by rw [List.length_take]; omega
  refine ⟨may_of ?_, rfl, ?_, ?_, ?_, ?_⟩
  · simp only [hl]; omega
  · simp only [hl]
  · simp only [hl]; exact h1
  · simp only [hl]; omega
  · simp only [hl]
theorem crash_more {s t u : Sp} {a b : Int} (hm : mayP s = true) (hab : a ≤ b) (h1 : crashP s a = t) (h2 : crashP s b = u) : t.data.length ≤ u.data.length ∧ t.data = u.data.take t.data.length := by
  obtain ⟨j, hj, j1, j2, j3⟩ := kept_at (keep := a) hm
  obtain ⟨k, hk, k1, k2, k3⟩ := kept_at (keep := b) hm
  have hjk : j ≤ k := by unfold keptP at hj hk; omega
  rw [j3] at h1
  rw [k3] at h2
  subst h1 h2
  have l1 : (s.data.take j).length = j := by rw [List.length_take]; omega
  have l2 : (s.data.take k).length = k := by rw [List.length_take]; omega
  simp only [l1, l2]
  exact ⟨hjk, by rw [List.take_take, Nat.min_eq_left hjk]⟩
theorem crash_all {s t : Sp} (hm : mayP s = true) (h : crashP s s.data.length = t) : t.data = s.data := by
  obtain ⟨q1, q2, q3, q4, q5⟩ := may_data hm
  obtain ⟨j, hj, j1, j2, j3⟩ := kept_at (keep := s.data.length) hm
  have e : j = s.data.length := by unfold keptP at hj; omega
  rw [j3] at h
  subst h e
  exact List.take_length
/-- of a store of which all is sure a crash takes nothing -/
theorem crash_again {t : Sp} {k : Int} (hm : mayP t = true) (hs : t.sure = (t.data.length : Int)) : crashP t k = t := by
  obtain ⟨j, hj, j1, j2, j3⟩ := kept_at (keep := k) hm
  have e : j = t.data.length := by omega
  rw [j3, e, List.take_length, ← hs]
theorem write_no {s : Sp} {b : List Int} (hm : mayP s = false) : writeP s b = (s, 1) := by rw [writeP, if_neg (by rw [hm]; simp)]
theorem cut_no {s : Sp} {k : Int} (hm : mayP s = false) : cutP s k = (s, 1) := by rw [cutP, if_neg (by rw [hm]; simp)]
theorem crash_no {s : Sp} {k : Int} (hm : mayP s = false) : crashP s k = s := by rw [crashP, if_neg (by rw [hm]; simp)]
theorem cut_cases {s : Sp} {k : Int} (hm : mayP s = true) : (cutP s k = (s, 1) ∧ ¬ (0 ≤ k ∧ k ≤ (s.data.length : Int))) ∨ ∃ j : Nat, k = j ∧ j ≤ s.data.length ∧ cutP s k = (⟨s.cap, s.data.take j, j⟩, 0) := by
  rw [cutP, if_pos hm]
  unfold fcutP
  split
  · rename_i h; exact .inl ⟨rfl, by omega⟩
  · rename_i h
    obtain ⟨j, rfl⟩ := Int.eq_ofNat_of_zero_le (show 0 ≤ k by omega)
    exact .inr ⟨j, rfl, by omega, rfl⟩
theorem write_stays {s t : Sp} {b : List Int} {e : Int} (h : writeP s b = (t, e)) : mayP t = mayP s ∧ t.cap = s.cap ∧ (e ≠ 0 → t = s) := by
  cases hm : mayP s with
  | false =>
    rw [write_no hm] at h
    injection h with h1 h2
    subst h1
    exact ⟨hm, rfl, fun _ => rfl⟩
  | true =>
    refine ⟨(write_may hm h).1, (write_may hm h).2.1, fun he => ?_⟩
    rcases write_cases (b := b) hm with ⟨h1, _⟩ | ⟨h1, _⟩
    · rw [h1] at h; injection h with h3 h4; exact h3.symm
    · rw [h1] at h; injection h with h3 h4; exact absurd h4.symm he
theorem cut_stays {s t : Sp} {k e : Int} (h : cutP s k = (t, e)) : mayP t = mayP s ∧ t.cap = s.cap ∧ (e ≠ 0 → t = s) := by
  cases hm : mayP s with
  | false =>
    rw [cut_no hm] at h
    injection h with h1 h2
    subst h1
    exact ⟨hm, rfl, fun _ => rfl⟩
  | true =>
    obtain ⟨q1, q2, q3, q4, q5⟩ := may_data hm
    rcases cut_cases (k := k) hm with ⟨h1, _⟩ | ⟨j, rfl, hj, h1⟩
    · rw [h1] at h; injection h with h3 h4; subst h3; exact ⟨hm, rfl, fun _ => rfl⟩
    · rw [h1] at h; injection h with h3 h4; subst h3
      refine ⟨may_of ?_, rfl, fun he => absurd h4.symm he⟩
      have l1 : (s.data.take j).length = j := by rw [List.length_take]; omega
      simp only [l1]
      omega
theorem crash_stays {s t : Sp} {k : Int} (h : crashP s k = t) : mayP t = mayP s ∧ t.cap = s.cap := by
  cases hm : mayP s with
  | false => rw [crash_no hm] at h; subst h; exact ⟨hm, rfl⟩
  | true => exact ⟨(crash_may hm h).1, (crash_may hm h).2.1⟩
theorem sync_ok {s : Sp} (hm : mayP s = true) : syncP s = (⟨s.cap, s.data, s.data.length⟩, 0) := by
  rcases cut_cases (k := s.data.length) hm with ⟨h1, h2⟩ | ⟨j, hj, hj2, h1⟩
  · exact absurd ⟨by omega, Int.le_refl _⟩ h2
  · have e : j = s.data.length := by omega
    rw [syncP, h1]
    subst e
    rw [List.take_length]
/-- the errors of all three, one way or another -/
theorem three_ways (s : Sp) (b : List Int) (k : Int) : (mayP s = false ∧ (writeP s b).2 = 1 ∧ (syncP s).2 = 1 ∧ (cutP s k).2 = 1) ∨ mayP s = true ∧ (syncP s).2 = 0 ∧ ((writeP s b).2 = 0 ∨ (writeP s b).2 = 12) ∧ ((cutP s k).2 = 0 ∨ (cutP s k).2 = 1) := by
  cases hm : mayP s with
  | false => exact .inl ⟨rfl, by rw [write_no hm], by rw [syncP, cut_no hm], by rw [cut_no hm]⟩
  | true =>
    refine .inr ⟨rfl, by rw [sync_ok hm], ?_, ?_⟩
    · rcases write_cases (b := b) hm with ⟨h1, _⟩ | ⟨h1, _⟩
      · exact .inr (by rw [h1])
      · exact .inl (by rw [h1])
    · rcases cut_cases (k := k) hm with ⟨h1, _⟩ | ⟨j, _, _, h1⟩
      · exact .inr (by rw [h1])
      · exact .inl (by rw [h1])
end Go.Proofs.Ytoohcpckdkbngaa
