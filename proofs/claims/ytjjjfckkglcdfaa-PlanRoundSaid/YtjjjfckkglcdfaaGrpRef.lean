/- The walks over the document's pow and In. -/
import Derived.Test.YtjjjfckkglcdfaaGrpBits
import Derived.Test.YtjjjfckkglcdfaaBasTakeS
namespace Go.Proofs.Ytjjjfckkglcdfaa
set_option maxRecDepth 100000
set_option linter.unusedVariables false
set_option linter.unusedSimpArgs false
open Go.RowKit

theorem rpow_any (n : Nat) (hn : n ≤ 40) (w : World) : Calls Try.prog 37 #[.int .i64 (n : Int)] w fun e w' => e = .returned (.int .i64 ((2 ^ n : Nat) : Int)) ∧ w = w' := by
  have HP := Lib.hid (show ∀ j, j < n → IntKind.i64.wrap (2 * ((2 ^ j : Nat) : Int)) = ((2 ^ (j + 1) : Nat) : Int) from fun j hj => by
    have h1 : 2 ^ j ≤ 2 ^ 40 := Nat.pow_le_pow_right (by omega) (by omega)
    rw [IntKind.wrap_i64, Nat.pow_succ]
    omega)
  go_enter Try.func37, Try.ntmps37
  go_wp2
  go_loop [3, 4] (fun o i => ∃ j : Nat, j ≤ n ∧ i = .int .i64 j ∧ ∃ x : Int, o = .int .i64 x ∧ x = ((2 ^ j : Nat) : Int)) (fun _ i => n - (intOf i).toNat)
  case atStart => exact ⟨0, by omega, rfl, 1, rfl, rfl⟩
  case round =>
    obtain ⟨j, hj, rfl, x, rfl, hx⟩ := hrel
    by_cases hlt : j < n
    · have h1 := HP.out j hlt
      rw [← hx] at h1
      have h2 : (j : Int) < n := by omega
      have h3 : IntKind.i64.wrap ((j : Int) + 1) = (j : Int) + 1 := by rw [IntKind.wrap_i64]; omega
      obtain ⟨y, hy⟩ : ∃ y : Int, ((2 ^ (j + 1) : Nat) : Int) = y := ⟨_, rfl⟩
      rw [hy] at h1
      have HY := Lib.hid hy
      clear hy hx
      go_wp2
      go_round
      case rel => exact ⟨j + 1, by omega, by go_num, _, rfl, HY.out.symm⟩
      case measure => simp [intOf]; omega
    · obtain rfl : j = n := by omega
      have HX := Lib.hid hx
      have h2 : ¬ (j : Int) < j := by omega
      clear hx
      go_wp2
      go_ret
      exact ⟨by rw [HX.out]; rfl, rfl⟩
theorem bit_go (t i : Nat) (ht : t < 4611686018427387904) : ((wrap64 ((t : Int) / ((2 ^ i : Nat) : Int))).tmod 2 == 1) = t.testBit i := by
  have hle : t / 2 ^ i ≤ t := Nat.div_le_self _ _
  rw [Nat.testBit_eq_decide_div_mod_eq, ← Int.natCast_ediv]
  obtain ⟨D, hD⟩ : ∃ D : Nat, t / 2 ^ i = D := ⟨_, rfl⟩
  rw [hD] at hle ⊢
  have e2 : wrap64 (D : Int) = (D : Int) := by unfold wrap64; omega
  have hm : (D : Int).tmod 2 = ((D % 2 : Nat) : Int) := by rw [show (2 : Int) = ((2 : Nat) : Int) by rfl, ← Int.ofNat_tmod]
  rw [e2, hm, Bool.eq_iff_iff, beq_iff_eq, decide_eq_true_iff]
  omega
theorem rin_any (t i : Nat) (ht : t < 4611686018427387904) (hi : i ≤ 40) (w : World) : Calls Try.prog 38 #[.int .i64 (t : Int), .int .i64 (i : Int)] w fun e w' => e = .returned (.bool (t.testBit i)) ∧ w = w' := by
  have HW := Lib.hid (fun X => rpow_any i hi X)
  have hpp : 0 < ((2 ^ i : Nat) : Int) := Int.natCast_pos.2 (Nat.pow_pos (by omega))
  have HB := Lib.hid (bit_go t i ht)
  obtain ⟨P, hPe⟩ : ∃ P : Int, ((2 ^ i : Nat) : Int) = P := ⟨_, rfl⟩
  simp only [hPe] at HW hpp HB
  have hp0 : ¬ (P = 0) := by omega
  have hp1 : ¬ (P = -1) := by omega
  have hP0 : 0 ≤ P := by omega
  obtain ⟨B, hB⟩ : ∃ B, t.testBit i = B := ⟨_, rfl⟩
  rw [hB] at HB ⊢
  clear hPe hB
  go_enter Try.func38, Try.ntmps38
  go_wp2_with (go_at_call 37; (with_reducible refine (HW.out _).mono ?_); rintro e w1 ⟨rfl, rfl⟩)
  go_ret
  refine ⟨?_, rfl⟩
  rw [← HB.out]
  rfl
end Go.Proofs.Ytjjjfckkglcdfaa
