/- Package group's small calls: has, isSet, groups. -/
import Derived.Test.YtjjjfckkglcdfaaGrpRList
import Derived.Test.YtjjjfckkglcdfaaBasTakeIn
import Derived.Test.YtjjjfckkglcdfaaBasFence
import Derived.Laws.EntriesVeiled
namespace Go.Proofs.Ytjjjfckkglcdfaa
set_option maxRecDepth 100000
set_option linter.unusedVariables false
set_option linter.unusedSimpArgs false
open Go.RowKit

theorem and_one (x : Int) : bits .and .i64 x 1 = x % 2 := by
  show IntKind.i64.wrap ((BitVec.ofInt 64 x &&& BitVec.ofInt 64 1).toNat : Int) = _
  rw [BitVec.toNat_and, BitVec.toNat_ofInt, show (BitVec.ofInt 64 1).toNat = 1 by rfl, Nat.and_one_is_mod, IntKind.wrap_i64]
  omega
set_option maxHeartbeats 1000000 in
theorem has_int (s : Int) (i : Nat) (hi : i < 8) (w : World) : Calls Try.prog 44 #[.int .i64 s, .int .i64 (i : Int)] w fun e w' => e = .returned (.bool (bitI s i)) ∧ w = w' := by
  go_enter Try.func44, Try.ntmps44
  go_wp2
  go_ret
  rw [and_one]
  refine ⟨?_, rfl⟩
  rw [bitI]
  congr 2
theorem has_any (t i : Nat) (ht : t < 256) (hi : i < 8) (w : World) : Calls Try.prog 44 #[.int .i64 (t : Int), .int .i64 (i : Int)] w fun e w' => e = .returned (.bool (t.testBit i)) ∧ w = w' := by
  rw [← bit_nat]
  exact has_int _ i hi w
theorem is_set (s : Int) (n : Nat) : (decide (0 ≤ s ∧ s < ((2 ^ n : Nat) : Int))) = (decide (0 ≤ s) && decide (s < ((2 ^ n : Nat) : Int))) := by
  by_cases h : 0 ≤ s <;> simp [h]
set_option maxHeartbeats 1000000 in
theorem isSet_any (s : Int) (n : Nat) (hn : n ≤ 8) (w : World) : Calls Try.prog 35 #[.int .i64 s, .int .i64 (n : Int)] w fun e w' => e = .returned (.bool (decide (0 ≤ s ∧ s < ((2 ^ n : Nat) : Int)))) ∧ w = w' := by
  have h8 := pow_le hn
  obtain ⟨P, hP⟩ : ∃ P : Nat, 2 ^ n = P := ⟨_, rfl⟩
  have hPi : (2 : Int) ^ n = (P : Int) := by rw [pow_int, hP]
  have hw : IntKind.i64.wrap (1 * (2 : Int) ^ n) = (P : Int) := by rw [hPi, IntKind.wrap_i64]; omega
  rw [is_set, hP]
  by_cases h0 : 0 ≤ s
  · rw [decide_eq_true h0]
    go_enter Try.func35, Try.ntmps35
    go_wp2
    go_ret
    exact ⟨rfl, rfl⟩
  · rw [decide_eq_false h0]
    go_enter Try.func35, Try.ntmps35
    go_wp2
    go_ret
    exact ⟨rfl, rfl⟩
theorem groups_any (s : Int) (w : World) : Calls Try.prog 45 #[.int .i64 s] w fun e w' => e = .returned (.func (.func 47) #[] #[.pointer (some ⟨w.heap.size, 0, none⟩)]) ∧ w.alloc (.cells #[.int .i64 s] 3) = w' := by
  go_enter Try.func45, Try.ntmps45
  go_wp2
  go_ret
  exact ⟨rfl, rfl⟩
end Go.Proofs.Ytjjjfckkglcdfaa
