/- The walks over package frame's shapeOf, following, sizes, upTo: a kind's fields. -/
import Derived.Test.YtadcbikdbekmgaaFrmSpec
import Derived.Test.YtadcbikdbekmgaaNumGives
import Derived.WalkMore
namespace Go.Proofs.Ytadcbikdbekmgaa
set_option linter.unusedVariables false
set_option linter.unusedSimpArgs false
open Go.RowKit

/-- a shape, as a value -/
def shC (S : List Nat) (t : Bool) : List Value := S.map (fun s : Nat => Value.int .i64 (s : Int)) ++ [.bool t]
def shV (S : List Nat) (t : Bool) : Value := .agg (shC S t).toArray
theorem ret_shape {a : Value} {S : List Nat} {t b : Bool} (h : a = shV S t) : Ending.returned (.tuple #[a, .bool b]) = .returned (.tuple #[shV S t, .bool b]) := by rw [h]

set_option maxHeartbeats 2000000 in
theorem shape_no (k : Int) (w : World) (h : kindB k = false) :
    Calls Try.prog 19 #[.int .i64 k] w fun e w' => e = .returned (.tuple #[shV [0, 0, 0, 0, 0, 0, 0, 0] false, .bool false]) ∧ Below w.heap.size w w' := by
  have h' : ¬ (0 ≤ k ∧ k ≤ 6) := by unfold kindB at h; simpa using h
  have e0 : (k == 0) = false := by rw [beq_eq_false_iff_ne]; omega
  have e1 : (k == 1) = false := by rw [beq_eq_false_iff_ne]; omega
  have e2 : (k == 2) = false := by rw [beq_eq_false_iff_ne]; omega
  have e3 : (k == 3) = false := by rw [beq_eq_false_iff_ne]; omega
  have e4 : (k == 4) = false := by rw [beq_eq_false_iff_ne]; omega
  have e5 : (k == 5) = false := by rw [beq_eq_false_iff_ne]; omega
  have e6 : (k == 6) = false := by rw [beq_eq_false_iff_ne]; omega
  clear h h'
  go_enter Try.func19, Try.ntmps19
  go_wp2
  refine bodyPost_ret (v := .tuple #[shV [0, 0, 0, 0, 0, 0, 0, 0] false, .bool false]) (by simp [results, Try.results19, go_sem]; rfl) rfl ⟨rfl, ?_⟩

  exact two_below _ _ _
set_option maxHeartbeats 4000000 in
theorem shape_yes (k : Int) (w : World) (h : kindB k = true) :
    Calls Try.prog 19 #[.int .i64 k] w fun e w' => e = .returned (.tuple #[shV (szK k.toNat) (tagK k.toNat), .bool true]) ∧ Below w.heap.size w w' := by
  rcases kind_cases h with rfl | rfl | rfl | rfl | rfl | rfl | rfl
  all_goals
    clear h
    go_enter Try.func19, Try.ntmps19
    go_wp2
    refine bodyPost_ret (v := .tuple #[shV _ _, .bool true]) (by simp [results, Try.results19, go_sem]; rfl) rfl ⟨rfl, ?_⟩

    exact two_below _ _ _
end Go.Proofs.Ytadcbikdbekmgaa
