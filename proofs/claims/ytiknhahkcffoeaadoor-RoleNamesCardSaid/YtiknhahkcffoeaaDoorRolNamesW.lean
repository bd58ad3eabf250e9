/- The law RoleNames, walked. -/
import Derived.Test.YtiknhahkcffoeaaDoorRolAwake
namespace Go.Proofs.YtiknhahkcffoeaaDoor
set_option linter.unusedVariables false
set_option linter.unusedSimpArgs false
open Go.RowKit

theorem name_there {c : Int} (h : cmdB c = true) : (nameB c).toList.isEmpty = false := by
  rcases eight_of h with rfl | rfl | rfl | rfl | rfl | rfl | rfl | rfl <;> decide +kernel
theorem name_no {c : Int} (h : cmdB c = false) : nameB c = ⟨#[]⟩ := by simp [nameB, h]
theorem read_name {c : Int} (h : cmdB c = true) : readB (nameB c) = c := by
  rcases eight_of h with rfl | rfl | rfl | rfl | rfl | rfl | rfl | rfl <;> decide +kernel
theorem name_other {c k : Int} (h : cmdB c = true) (hk : c ≠ k) : ((nameB k).toList == (nameB c).toList) = false := by
  cases h2 : cmdB k
  · rw [name_no h2]
    rcases eight_of h with rfl | rfl | rfl | rfl | rfl | rfl | rfl | rfl <;> decide +kernel
  · rcases eight_of h with rfl | rfl | rfl | rfl | rfl | rfl | rfl | rfl <;> rcases eight_of h2 with rfl | rfl | rfl | rfl | rfl | rfl | rfl | rfl <;>
      first | (exact absurd rfl hk) | decide +kernel
theorem readL_cases (s : ByteArray) : ∀ (l : List ByteArray) (i : Int), readL s l i = -1 ∨ ∃ (j : Nat) (x : ByteArray), l[j]? = some x ∧ (x.toList == s.toList) = true ∧ readL s l i = i + j
  | [], _ => .inl rfl
  | n :: r, i => by
    cases h : (n.toList == s.toList)
    · simp only [readL, h, Bool.false_eq_true, if_false]
      rcases readL_cases s r (i + 1) with h1 | ⟨j, x, hx, he, hr⟩
      · exact .inl h1
      · exact .inr ⟨j + 1, x, by simpa using hx, he, by rw [hr]; push_cast; omega⟩
    · exact .inr ⟨0, n, rfl, h, by simp [readL, h]⟩
theorem read_cases (s : ByteArray) : readB s = -1 ∨ ∃ j : Nat, j < 8 ∧ readB s = (j : Int) ∧ ((nameB (j : Int)).toList == s.toList) = true := by
  rcases readL_cases s namesT 0 with h | ⟨j, x, hx, he, hr⟩
  · exact .inl h
  · have hj : j < 8 := (List.getElem?_eq_some_iff.1 hx).1
    rw [names_at j hj] at hx
    cases hx
    refine .inr ⟨j, hj, by unfold readB; rw [hr]; omega, ?_⟩
    rw [nm_name j hj]
    exact he

theorem names_not (c k : Int) (s : ByteArray) (w : World) (hT : Tabs w) (h : (40 : Int) < s.size) : Calls Tryd.prog 4 #[.int .i64 c, .int .i64 k, .string s] w fun e w' => e = .returned (.bool true) ∧ Below w.heap.size w w' := by
  go_enter Tryd.func4, Tryd.ntmps4
  go_wp2_with (go_at_call 8; refine (awake_any _ hT).mono ?_; rintro e w1 ⟨rfl, hB1⟩)
  go_ret
  exact ⟨rfl, hB1⟩
set_option maxHeartbeats 1000000 in
theorem names_low_none (c k : Int) (s : ByteArray) (w : World) (hT : Tabs w) (h : ¬ (40 : Int) < s.size) (h0 : ¬ 0 ≤ c) (hn : nameB c = ⟨#[]⟩) (hx : readB s = -1) :
    Calls Tryd.prog 4 #[.int .i64 c, .int .i64 k, .string s] w fun e w' => e = .returned (.bool true) ∧ Below w.heap.size w w' := by
  have HN := Lib.hid hn
  clear hn
  have HX := Lib.hid hx
  clear hx
  skip
  · skip
    go_enter Tryd.func4, Tryd.ntmps4
    go_wp2_with (first
      | (go_at_call 8; refine (awake_any _ hT).mono ?_; rintro e w1 ⟨rfl, hB1⟩; have hT1 := hT.below hB1)
      | (go_at_call 20; (with_reducible refine (name_any c _ hT1).mono ?_); rintro e w9 ⟨he, rfl⟩; rw [HN.out] at he; subst he)
      | (go_at_call 22; (with_reducible refine (read_any s _ hT1).mono ?_); rintro e w9 ⟨he, rfl⟩; rw [HX.out] at he; subst he))
    go_ret
    exact ⟨by simp [*], hB1⟩
set_option maxHeartbeats 1000000 in
theorem names_high_none (c k : Int) (s : ByteArray) (w : World) (hT : Tabs w) (h : ¬ (40 : Int) < s.size) (h0 : 0 ≤ c) (h8 : ¬ c < 8) (hn : nameB c = ⟨#[]⟩) (hx : readB s = -1) :
    Calls Tryd.prog 4 #[.int .i64 c, .int .i64 k, .string s] w fun e w' => e = .returned (.bool true) ∧ Below w.heap.size w w' := by
  have HN := Lib.hid hn
  clear hn
  have HX := Lib.hid hx
  clear hx
  skip
  · have hd : decide (c < 8) = false := by simp only [decide_eq_false_iff_not]; exact h8
    go_enter Tryd.func4, Tryd.ntmps4
    go_wp2_with (first
      | (go_at_call 8; refine (awake_any _ hT).mono ?_; rintro e w1 ⟨rfl, hB1⟩; have hT1 := hT.below hB1)
      | (go_at_call 20; (with_reducible refine (name_any c _ hT1).mono ?_); rintro e w9 ⟨he, rfl⟩; rw [HN.out] at he; subst he)
      | (go_at_call 22; (with_reducible refine (read_any s _ hT1).mono ?_); rintro e w9 ⟨he, rfl⟩; rw [HX.out] at he; subst he))
    go_ret
    exact ⟨by simp [*], hB1⟩
set_option maxHeartbeats 1000000 in
theorem names_in_none_same (c k : Int) (s z : ByteArray) (w : World) (hT : Tabs w) (h : ¬ (40 : Int) < s.size) (h0 : 0 ≤ c) (h8 : c < 8) (hn : nameB c = z) (hz : z.toList.isEmpty = false) (hr : readB z = c) (hk : (c != k) = false) (hx : readB s = -1) :
    Calls Tryd.prog 4 #[.int .i64 c, .int .i64 k, .string s] w fun e w' => e = .returned (.bool true) ∧ Below w.heap.size w w' := by
  have HN := Lib.hid hn
  have HR := Lib.hid hr
  skip
  clear hn hr
  have HX := Lib.hid hx
  clear hx
  skip
  · go_enter Tryd.func4, Tryd.ntmps4
    go_wp2_with (first
      | (go_at_call 8; refine (awake_any _ hT).mono ?_; rintro e w1 ⟨rfl, hB1⟩; have hT1 := hT.below hB1)
      | (go_at_call 20; (with_reducible refine (name_any c _ hT1).mono ?_); rintro e w9 ⟨he, rfl⟩; rw [HN.out] at he; subst he)
      | (go_at_call 22; (with_reducible refine (read_any z _ hT1).mono ?_); rintro e w9 ⟨he, rfl⟩; rw [HR.out] at he; subst he)
      | (go_at_call 20; (with_reducible refine (name_any k _ hT1).mono ?_); rintro e w9 ⟨he, rfl⟩; rw [HY.out] at he; subst he)
      | (go_at_call 22; (with_reducible refine (read_any s _ hT1).mono ?_); rintro e w9 ⟨he, rfl⟩; rw [HX.out] at he; subst he))
    go_ret
    exact ⟨by simp [*], hB1⟩
set_option maxHeartbeats 1000000 in
theorem names_in_none_other (c k : Int) (s z : ByteArray) (w : World) (hT : Tabs w) (h : ¬ (40 : Int) < s.size) (h0 : 0 ≤ c) (h8 : c < 8) (hn : nameB c = z) (hz : z.toList.isEmpty = false) (hr : readB z = c) (hk : (c != k) = true) (u : ByteArray) (hu : nameB k = u) (hv : (u.toList == z.toList) = false) (hx : readB s = -1) :
    Calls Tryd.prog 4 #[.int .i64 c, .int .i64 k, .string s] w fun e w' => e = .returned (.bool true) ∧ Below w.heap.size w w' := by
  have HN := Lib.hid hn
  have HR := Lib.hid hr
  have HY := Lib.hid hu
  clear hn hr hu
  have HX := Lib.hid hx
  clear hx
  skip
  · go_enter Tryd.func4, Tryd.ntmps4
    go_wp2_with (first
      | (go_at_call 8; refine (awake_any _ hT).mono ?_; rintro e w1 ⟨rfl, hB1⟩; have hT1 := hT.below hB1)
      | (go_at_call 20; (with_reducible refine (name_any c _ hT1).mono ?_); rintro e w9 ⟨he, rfl⟩; rw [HN.out] at he; subst he)
      | (go_at_call 22; (with_reducible refine (read_any z _ hT1).mono ?_); rintro e w9 ⟨he, rfl⟩; rw [HR.out] at he; subst he)
      | (go_at_call 20; (with_reducible refine (name_any k _ hT1).mono ?_); rintro e w9 ⟨he, rfl⟩; rw [HY.out] at he; subst he)
      | (go_at_call 22; (with_reducible refine (read_any s _ hT1).mono ?_); rintro e w9 ⟨he, rfl⟩; rw [HX.out] at he; subst he))
    go_ret
    exact ⟨by simp [*], hB1⟩
set_option maxHeartbeats 1000000 in
theorem names_low_some (c k : Int) (s : ByteArray) (w : World) (hT : Tabs w) (h : ¬ (40 : Int) < s.size) (h0 : ¬ 0 ≤ c) (hn : nameB c = ⟨#[]⟩) (j : Nat) (hj : j < 8) (hx : readB s = (j : Int)) (y : ByteArray) (hy : nameB (j : Int) = y) (hq : (y.toList == s.toList) = true) :
    Calls Tryd.prog 4 #[.int .i64 c, .int .i64 k, .string s] w fun e w' => e = .returned (.bool true) ∧ Below w.heap.size w w' := by
  have HN := Lib.hid hn
  clear hn
  have HX := Lib.hid hx
  clear hx
  have HJ := Lib.hid hy
  have hj0 : 0 ≤ (j : Int) := by omega
  have hj8 : (j : Int) < 8 := by omega
  have hjm : ((j : Int) == -1) = false := by simp only [beq_eq_false_iff_ne, ne_eq]; omega
  clear hy hj
  skip
  · skip
    go_enter Tryd.func4, Tryd.ntmps4
    go_wp2_with (first
      | (go_at_call 8; refine (awake_any _ hT).mono ?_; rintro e w1 ⟨rfl, hB1⟩; have hT1 := hT.below hB1)
      | (go_at_call 20; (with_reducible refine (name_any c _ hT1).mono ?_); rintro e w9 ⟨he, rfl⟩; rw [HN.out] at he; subst he)
      | (go_at_call 20; (with_reducible refine (name_any (j : Int) _ hT1).mono ?_); rintro e w9 ⟨he, rfl⟩; rw [HJ.out] at he; subst he)
      | (go_at_call 22; (with_reducible refine (read_any s _ hT1).mono ?_); rintro e w9 ⟨he, rfl⟩; rw [HX.out] at he; subst he))
    go_ret
    exact ⟨by simp [*], hB1⟩
set_option maxHeartbeats 1000000 in
theorem names_high_some (c k : Int) (s : ByteArray) (w : World) (hT : Tabs w) (h : ¬ (40 : Int) < s.size) (h0 : 0 ≤ c) (h8 : ¬ c < 8) (hn : nameB c = ⟨#[]⟩) (j : Nat) (hj : j < 8) (hx : readB s = (j : Int)) (y : ByteArray) (hy : nameB (j : Int) = y) (hq : (y.toList == s.toList) = true) :
    Calls Tryd.prog 4 #[.int .i64 c, .int .i64 k, .string s] w fun e w' => e = .returned (.bool true) ∧ Below w.heap.size w w' := by
  have HN := Lib.hid hn
  clear hn
  have HX := Lib.hid hx
  clear hx
  have HJ := Lib.hid hy
  have hj0 : 0 ≤ (j : Int) := by omega
  have hj8 : (j : Int) < 8 := by omega
  have hjm : ((j : Int) == -1) = false := by simp only [beq_eq_false_iff_ne, ne_eq]; omega
  clear hy hj
  skip
  · have hd : decide (c < 8) = false := by simp only [decide_eq_false_iff_not]; exact h8
    go_enter Tryd.func4, Tryd.ntmps4
    go_wp2_with (first
      | (go_at_call 8; refine (awake_any _ hT).mono ?_; rintro e w1 ⟨rfl, hB1⟩; have hT1 := hT.below hB1)
      | (go_at_call 20; (with_reducible refine (name_any c _ hT1).mono ?_); rintro e w9 ⟨he, rfl⟩; rw [HN.out] at he; subst he)
      | (go_at_call 20; (with_reducible refine (name_any (j : Int) _ hT1).mono ?_); rintro e w9 ⟨he, rfl⟩; rw [HJ.out] at he; subst he)
      | (go_at_call 22; (with_reducible refine (read_any s _ hT1).mono ?_); rintro e w9 ⟨he, rfl⟩; rw [HX.out] at he; subst he))
    go_ret
    exact ⟨by simp [*], hB1⟩
set_option maxHeartbeats 1000000 in
theorem names_in_some_same (c k : Int) (s z : ByteArray) (w : World) (hT : Tabs w) (h : ¬ (40 : Int) < s.size) (h0 : 0 ≤ c) (h8 : c < 8) (hn : nameB c = z) (hz : z.toList.isEmpty = false) (hr : readB z = c) (hk : (c != k) = false) (j : Nat) (hj : j < 8) (hx : readB s = (j : Int)) (y : ByteArray) (hy : nameB (j : Int) = y) (hq : (y.toList == s.toList) = true) :
    Calls Tryd.prog 4 #[.int .i64 c, .int .i64 k, .string s] w fun e w' => e = .returned (.bool true) ∧ Below w.heap.size w w' := by
  have HN := Lib.hid hn
  have HR := Lib.hid hr
  skip
  clear hn hr
  have HX := Lib.hid hx
  clear hx
  have HJ := Lib.hid hy
  have hj0 : 0 ≤ (j : Int) := by omega
  have hj8 : (j : Int) < 8 := by omega
  have hjm : ((j : Int) == -1) = false := by simp only [beq_eq_false_iff_ne, ne_eq]; omega
  clear hy hj
  skip
  · go_enter Tryd.func4, Tryd.ntmps4
    go_wp2_with (first
      | (go_at_call 8; refine (awake_any _ hT).mono ?_; rintro e w1 ⟨rfl, hB1⟩; have hT1 := hT.below hB1)
      | (go_at_call 20; (with_reducible refine (name_any c _ hT1).mono ?_); rintro e w9 ⟨he, rfl⟩; rw [HN.out] at he; subst he)
      | (go_at_call 22; (with_reducible refine (read_any z _ hT1).mono ?_); rintro e w9 ⟨he, rfl⟩; rw [HR.out] at he; subst he)
      | (go_at_call 20; (with_reducible refine (name_any k _ hT1).mono ?_); rintro e w9 ⟨he, rfl⟩; rw [HY.out] at he; subst he)
      | (go_at_call 20; (with_reducible refine (name_any (j : Int) _ hT1).mono ?_); rintro e w9 ⟨he, rfl⟩; rw [HJ.out] at he; subst he)
      | (go_at_call 22; (with_reducible refine (read_any s _ hT1).mono ?_); rintro e w9 ⟨he, rfl⟩; rw [HX.out] at he; subst he))
    go_ret
    exact ⟨by simp [*], hB1⟩
set_option maxHeartbeats 1000000 in
theorem names_in_some_other (c k : Int) (s z : ByteArray) (w : World) (hT : Tabs w) (h : ¬ (40 : Int) < s.size) (h0 : 0 ≤ c) (h8 : c < 8) (hn : nameB c = z) (hz : z.toList.isEmpty = false) (hr : readB z = c) (hk : (c != k) = true) (u : ByteArray) (hu : nameB k = u) (hv : (u.toList == z.toList) = false) (j : Nat) (hj : j < 8) (hx : readB s = (j : Int)) (y : ByteArray) (hy : nameB (j : Int) = y) (hq : (y.toList == s.toList) = true) :
    Calls Tryd.prog 4 #[.int .i64 c, .int .i64 k, .string s] w fun e w' => e = .returned (.bool true) ∧ Below w.heap.size w w' := by
  have HN := Lib.hid hn
  have HR := Lib.hid hr
  have HY := Lib.hid hu
  clear hn hr hu
  have HX := Lib.hid hx
  clear hx
  have HJ := Lib.hid hy
  have hj0 : 0 ≤ (j : Int) := by omega
  have hj8 : (j : Int) < 8 := by omega
  have hjm : ((j : Int) == -1) = false := by simp only [beq_eq_false_iff_ne, ne_eq]; omega
  clear hy hj
  skip
  · go_enter Tryd.func4, Tryd.ntmps4
    go_wp2_with (first
      | (go_at_call 8; refine (awake_any _ hT).mono ?_; rintro e w1 ⟨rfl, hB1⟩; have hT1 := hT.below hB1)
      | (go_at_call 20; (with_reducible refine (name_any c _ hT1).mono ?_); rintro e w9 ⟨he, rfl⟩; rw [HN.out] at he; subst he)
      | (go_at_call 22; (with_reducible refine (read_any z _ hT1).mono ?_); rintro e w9 ⟨he, rfl⟩; rw [HR.out] at he; subst he)
      | (go_at_call 20; (with_reducible refine (name_any k _ hT1).mono ?_); rintro e w9 ⟨he, rfl⟩; rw [HY.out] at he; subst he)
      | (go_at_call 20; (with_reducible refine (name_any (j : Int) _ hT1).mono ?_); rintro e w9 ⟨he, rfl⟩; rw [HJ.out] at he; subst he)
      | (go_at_call 22; (with_reducible refine (read_any s _ hT1).mono ?_); rintro e w9 ⟨he, rfl⟩; rw [HX.out] at he; subst he))
    go_ret
    exact ⟨by simp [*], hB1⟩
theorem names_any (c k : Int) (s : ByteArray) (w : World) (hT : Tabs w) : Calls Tryd.prog 4 #[.int .i64 c, .int .i64 k, .string s] w fun e w' => e = .returned (.bool true) ∧ Below w.heap.size w w' := by
  by_cases h : (40 : Int) < s.size
  · exact names_not c k s w hT h
  cases hc : cmdB c
  · have h2 : ¬ (0 ≤ c ∧ c < 8) := by
      intro h3
      simp [cmdB, h3.1, h3.2] at hc
    rcases read_cases s with hx | ⟨j, hj, hx, hq⟩
    · by_cases h0 : 0 ≤ c
      · exact names_high_none c k s w hT h h0 (by omega) (name_no hc) hx
      · exact names_low_none c k s w hT h h0 (name_no hc) hx
    · by_cases h0 : 0 ≤ c
      · exact names_high_some c k s w hT h h0 (by omega) (name_no hc) j hj hx _ rfl hq
      · exact names_low_some c k s w hT h h0 (name_no hc) j hj hx _ rfl hq
  · have h2 : 0 ≤ c ∧ c < 8 := by simpa [cmdB] using hc
    by_cases hk : c = k
    · have hk2 : (c != k) = false := by simp [hk]
      rcases read_cases s with hx | ⟨j, hj, hx, hq⟩
      · exact names_in_none_same c k s _ w hT h h2.1 h2.2 rfl (name_there hc) (read_name hc) hk2 hx
      · exact names_in_some_same c k s _ w hT h h2.1 h2.2 rfl (name_there hc) (read_name hc) hk2 j hj hx _ rfl hq
    · have hk2 : (c != k) = true := by simp [hk]
      rcases read_cases s with hx | ⟨j, hj, hx, hq⟩
      · exact names_in_none_other c k s _ w hT h h2.1 h2.2 rfl (name_there hc) (read_name hc) hk2 _ rfl (name_other hc hk) hx
      · exact names_in_some_other c k s _ w hT h h2.1 h2.2 rfl (name_there hc) (read_name hc) hk2 _ rfl (name_other hc hk) j hj hx _ rfl hq
end Go.Proofs.YtiknhahkcffoeaaDoor
