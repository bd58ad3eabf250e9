/- The walk over the laws' Few. -/
import Derived.Test.YtcfkpepohnjdfaaDoorUsrSpec
namespace Go.Proofs.YtcfkpepohnjdfaaDoor
set_option linter.unusedVariables false
set_option linter.unusedSimpArgs false
open Go.RowKit

def fewU (l : List Us) : Bool := decide (l.length ≤ 10) && l.all fun u => decide (u.n ≤ 100)
set_option maxHeartbeats 1000000 in
theorem few_any (A : Option Addr) (n c : Nat) (l : List Us) (w : World) (hl : Uss w A n c l) :
    Calls Tryd.prog 10 #[.slice A n c] w fun e w' => e = .returned (.bool (fewU l)) ∧ w' = w := by
  have hn := hl.small
  have HLL := Lib.hid hl.len
  go_enter Tryd.func10, Tryd.ntmps10
  go_wp2
  go_loopw [3] (fun i wr => ∃ k : Nat, k ≤ n ∧ k ≤ 11 ∧ i = .int .i64 k ∧ (l.take k).all (fun u => decide (u.n ≤ 100)) = true ∧ wr = w) (fun i _ => n - (intOf i).toNat)
  case atStart => exact ⟨0, by omega, by omega, rfl, rfl, rfl⟩
  case round =>
    obtain ⟨k, hk, hk10, rfl, hm, rfl⟩ := hrel
    by_cases hlt : k < n
    · have hlt' : (k : Int) < n := by omega
      by_cases hten : k ≤ 10
      · have hten' : (k : Int) ≤ 10 := by omega
        obtain ⟨b, off, u, rfl, -, hul, hu, -, -, z2, -, -⟩ := hl.at_ k hlt
        have q0 : 0 ≤ (k : Int) := by omega
        by_cases hx : u.n ≤ 100
        · have hx' : (u.n : Int) ≤ 100 := by omega
          have hnext : (l.take (k + 1)).all (fun u => decide (u.n ≤ 100)) = true := by
            rw [take_more hu, List.all_append, hm]
            simp [hx]
          have HN := Lib.hid hnext
          obtain ⟨m, hm2⟩ : ∃ m, u.n = m := ⟨_, rfl⟩
          rw [hm2] at z2 hx'
          clear hnext hm hul hu hx hm2
          go_wp2
          go_roundw
          case rel => exact ⟨k + 1, by omega, by omega, by go_num, HN.out, trivial⟩
          case measure => simp [intOf]; omega
        · have hx' : (100 : Int) < u.n := by omega
          have hr : false = fewU l := by
            rw [fewU, eq_comm, ← Bool.not_eq_true, Bool.and_eq_true, List.all_eq_true]
            intro h
            have := h.2 u hul
            rw [decide_eq_true_eq] at this
            exact hx this
          have HR := Lib.hid hr
          obtain ⟨m, hm2⟩ : ∃ m, u.n = m := ⟨_, rfl⟩
          rw [hm2] at z2 hx'
          clear hr hm hul hu hx hm2
          go_wp2
          go_ret
          exact ⟨by rw [← HR.out]; rfl, rfl⟩
      · have hten' : ¬ ((k : Int) ≤ 10) := by omega
        have hr : decide ((n : Int) ≤ 10) = fewU l := by
          rw [fewU, HLL.out, decide_eq_false (show ¬ n ≤ 10 by omega), Bool.false_and, decide_eq_false_iff_not]
          omega
        have HR := Lib.hid hr
        clear hr hm
        go_wp2
        go_ret
        exact ⟨by rw [← HR.out]; rfl, rfl⟩
    · have hkn : k = n := by omega
      have hge : ¬ ((k : Int) < n) := by omega
      have hr : decide ((n : Int) ≤ 10) = fewU l := by
        rw [hkn, List.take_of_length_le (by rw [HLL.out]; exact Nat.le_refl _)] at hm
        rw [fewU, HLL.out, hm, Bool.and_true, Bool.eq_iff_iff, decide_eq_true_eq, decide_eq_true_eq]
        omega
      have HR := Lib.hid hr
      clear hr hm
      go_wp2
      go_ret
      exact ⟨by rw [← HR.out]; rfl, rfl⟩
end Go.Proofs.YtcfkpepohnjdfaaDoor
