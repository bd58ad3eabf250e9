/- The walks over package term's isNode, and over the document's nodes: may a node be, may all nodes be? -/
import Derived.Test.YtcpeaeefphgbaaaTrmSame
namespace Go.Proofs.Ytcpeaeefphgbaaa
set_option linter.unusedVariables false
set_option linter.unusedSimpArgs false
open Go.RowKit

theorem nodeB_no {k n : Int} {m : Nat} (h : ¬ ((k = 0 ∨ k = 1) ∧ 0 ≤ n ∧ m = 0 ∨ (k = 2 ∨ k = 3) ∧ n = 0 ∧ m = 2)) : nodeB k n m = false := decide_eq_false h
theorem nodeB_yes {k n : Int} {m : Nat} (h : (k = 0 ∨ k = 1) ∧ 0 ≤ n ∧ m = 0 ∨ (k = 2 ∨ k = 3) ∧ n = 0 ∧ m = 2) : nodeB k n m = true := decide_eq_true h

set_option maxHeartbeats 1000000 in
theorem isNode_any (k n : Int) (A : Option Addr) (m c : Nat) (w : World) (hm : m ≤ 9223372036854775807) :
    Calls Try.prog 42 #[.agg #[.int .i64 k, .int .i64 n, .slice A m c]] w (GivesB (nodeB k n m) w) := by
  by_cases h01 : k = 0 ∨ k = 1
  · by_cases hn : 0 ≤ n
    · by_cases h0 : m = 0
      · rw [nodeB_yes (by omega)]
        subst h0
        rcases h01 with rfl | rfl
        all_goals
          go_enter Try.func42, Try.ntmps42
          go_wp2
          go_ret
          exact ⟨rfl, one_alloc _ _⟩
      · rw [nodeB_no (by omega)]
        have hm0 : ((m : Int) == 0) = false := by rw [beq_eq_false_iff_ne]; omega
        rcases h01 with rfl | rfl
        all_goals
          go_enter Try.func42, Try.ntmps42
          go_wp2
          go_ret
          exact ⟨rfl, one_alloc _ _⟩
    · rw [nodeB_no (by omega)]
      have hn2 : decide (0 ≤ n) = false := by rw [decide_eq_false_iff_not]; exact hn
      rcases h01 with rfl | rfl
      all_goals
        go_enter Try.func42, Try.ntmps42
        go_wp2
        go_ret
        exact ⟨rfl, one_alloc _ _⟩
  · have hk0 : (k == 0) = false := by rw [beq_eq_false_iff_ne]; omega
    have hk1 : (k == 1) = false := by rw [beq_eq_false_iff_ne]; omega
    by_cases h23 : k = 2 ∨ k = 3
    · by_cases hn : n = 0
      · by_cases h0 : m = 2
        · rw [nodeB_yes (by omega)]
          subst h0 hn
          rcases h23 with rfl | rfl
          all_goals
            go_enter Try.func42, Try.ntmps42
            go_wp2
            go_ret
            exact ⟨rfl, one_alloc _ _⟩
        · rw [nodeB_no (by omega)]
          have hm0 : ((m : Int) == 2) = false := by rw [beq_eq_false_iff_ne]; omega
          subst hn
          rcases h23 with rfl | rfl
          all_goals
            go_enter Try.func42, Try.ntmps42
            go_wp2
            go_ret
            exact ⟨rfl, one_alloc _ _⟩
      · rw [nodeB_no (by omega)]
        have hn2 : (n == 0) = false := by rw [beq_eq_false_iff_ne]; exact hn
        rcases h23 with rfl | rfl
        all_goals
          go_enter Try.func42, Try.ntmps42
          go_wp2
          go_ret
          exact ⟨rfl, one_alloc _ _⟩
    · rw [nodeB_no (by omega)]
      have hk2 : (k == 2) = false := by rw [beq_eq_false_iff_ne]; omega
      have hk3 : (k == 3) = false := by rw [beq_eq_false_iff_ne]; omega
      go_enter Try.func42, Try.ntmps42
      go_wp2
      go_ret
      exact ⟨rfl, one_alloc _ _⟩
end Go.Proofs.Ytcpeaeefphgbaaa
