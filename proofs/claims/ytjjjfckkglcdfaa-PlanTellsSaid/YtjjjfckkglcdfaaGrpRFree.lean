/- The walk over the document's Free of a set. -/
import Derived.Test.YtjjjfckkglcdfaaGrpRMay
namespace Go.Proofs.Ytjjjfckkglcdfaa
set_option maxRecDepth 100000
set_option linter.unusedVariables false
set_option linter.unusedSimpArgs false
open Go.RowKit

theorem free_bad {m : List Int} {s : Int} (h : mayM m = false ∨ s < 0 ∨ ((2 ^ m.length : Nat) : Int) ≤ s) : freeM m s = false := decide_eq_false fun hh => by
  obtain ⟨h1, ⟨h2, h3⟩, -⟩ := hh
  rw [pow_int] at h3
  rcases h with h | h | h
  · rw [h] at h1; cases h1
  · omega
  · omega
theorem free_no {m : List Int} {t i k : Nat} (hi : i < m.length) (hk : k < m.length) (h : t.testBit i = true ∧ t.testBit k = true ∧ meetM m i k = true) : freeM m (t : Int) = false := decide_eq_false fun hh => (none_nat.1 hh.2.2) i hi k hk h
theorem may_rows {m : List Int} {n : Nat} (hl : m.length = n) (h : mayM m = true) : n ≤ 8 ∧ ∀ k, k < n → 0 ≤ m.getD k 0 ∧ m.getD k 0 < ((2 ^ n : Nat) : Int) := by
  subst hl
  obtain ⟨⟨-, h8⟩, h1, -⟩ := may_all h
  refine ⟨h8, fun k hk => ?_⟩
  have := h1 k hk
  rw [pow_int] at this
  exact this
set_option maxHeartbeats 4000000 in
theorem rgfree_any (A : Option Addr) (n c : Nat) (m : List Int) (s : Int) (w : World) (hb : Its .i64 w A n c m) : Calls Try.prog 39 #[.slice A n c, .int .i64 s] w fun e w' => e = .returned (.bool (freeM m s)) ∧ Below w.heap.size w w' := by
  have hsm := hb.small
  have HL := Lib.hid hb.len
  have HMY := Lib.hid (fun (X : World) (hX : Its .i64 X A n c m) => rgmay_any A n c m X hX)
  have HMZ := Lib.hid (show Calls Try.prog 27 #[.slice A n c] w fun e w' => e = .returned (.bool (mayM m)) ∧ Below w.heap.size w w' from rgmay_any A n c m w hb)
  cases hm : mayM m with
  | false =>
    rw [hm] at HMZ
    have HR := Lib.hid (free_bad (s := s) (.inl hm))
    clear hb HMY hm
    go_enter Try.func39, Try.ntmps39
    go_wp2_with (go_at_call 27; (with_reducible refine (HMZ.out).mono ?_); rintro e w1 ⟨rfl, hb1⟩; have HB1 := Lib.hid hb1; clear hb1)
    go_ret
    exact ⟨by rw [HR.out]; rfl, HB1.out⟩
  | true =>
    rw [hm] at HMZ
    obtain ⟨hn8, hrw⟩ := may_rows hb.len hm
    have HRW := Lib.hid hrw
    have HPW := Lib.hid (fun X => rpow_any n (by omega) X)
    obtain ⟨PW, hPW⟩ : ∃ x : Int, ((2 ^ n : Nat) : Int) = x := ⟨_, rfl⟩
    have hp0 : 0 ≤ PW := by rw [← hPW]; exact Int.natCast_nonneg _
    have HPE := Lib.hid hPW
    rw [hPW] at HPW
    clear hPW hrw
    by_cases h1 : s < 0
    · have HR := Lib.hid (free_bad (m := m) (.inr (.inl h1)))
      clear hb HMY hm
      go_enter Try.func39, Try.ntmps39
      go_wp2_with (go_at_call 27; (with_reducible refine (HMZ.out).mono ?_); rintro e w1 ⟨rfl, hb1⟩; have HB1 := Lib.hid hb1; clear hb1)
      go_ret
      exact ⟨by rw [HR.out]; rfl, HB1.out⟩
    · by_cases h2 : PW ≤ s
      · have HR := Lib.hid (free_bad (m := m) (.inr (.inr (by rw [HL.out, HPE.out]; exact h2))))
        clear hb HMY hm
        go_enter Try.func39, Try.ntmps39
        go_wp2_with (first
          | (go_at_call 27; (with_reducible refine (HMZ.out).mono ?_); rintro e w1 ⟨rfl, hb1⟩; have HB1 := Lib.hid hb1; clear hb1)
          | (go_at_call 37; (with_reducible refine (HPW.out _).mono ?_); rintro e wp ⟨rfl, rfl⟩))
        go_ret
        exact ⟨by rw [HR.out]; rfl, HB1.out⟩
      · have hM := Lib.hid hm
        obtain ⟨t, rfl⟩ := Int.eq_ofNat_of_zero_le (show 0 ≤ s by omega)
        have hn1 : 1 ≤ n := by have := (may_all hm).1.1; rw [hb.len] at this; exact this
        obtain ⟨b, off, rfl, hc⟩ := hb.at_ (by omega)
        have ht8 : (t : Int) < 256 := by
          have e := pow_le hn8
          have e2 := HPE.out
          omega
        have htn : t < 2 ^ n := by have e2 := HPE.out; omega
        have HC := Lib.hid hc
        have HTN := Lib.hid htn
        clear hb HMY hm hc htn
        go_enter Try.func39, Try.ntmps39
        go_wp2_with (first
          | (go_at_call 27; (with_reducible refine (HMZ.out).mono ?_); rintro e w1 ⟨rfl, hb1⟩; have HB1 := Lib.hid hb1; clear hb1)
          | (go_at_call 37; (with_reducible refine (HPW.out _).mono ?_); rintro e wp ⟨rfl, rfl⟩))
        go_loopw [6] (fun v wr => ∃ i : Nat, i ≤ n ∧ v = .int .i64 i ∧ (∀ i', i' < i → ∀ k, k < n → ¬ (t.testBit i' = true ∧ t.testBit k = true ∧ meetM m i' k = true)) ∧ Below w.heap.size w wr) (fun v _ => n - (intOf v).toNat)
        case atStart => exact ⟨0, by omega, rfl, fun k hk => by omega, HB1.out⟩
        case round =>
          obtain ⟨i, hi, rfl, hout, hbw2⟩ := hrel
          have HO := Lib.hid hout
          have HB2 := Lib.hid hbw2
          clear hout hbw2
          by_cases hil : i < n
          · have q0 : 0 ≤ (i : Int) := by omega
            have q1 : (i : Int) < n := by omega
            go_wp2
            go_loopw [7] (fun v wr => ∃ k : Nat, k ≤ n ∧ v = .int .i64 k ∧ (∀ k', k' < k → ¬ (t.testBit i = true ∧ t.testBit k' = true ∧ meetM m i k' = true)) ∧ Below w.heap.size w wr) (fun v _ => n - (intOf v).toNat)
            case atStart => exact ⟨0, by omega, rfl, fun k hk => by omega, HB2.out⟩
            case round =>
              obtain ⟨k, hk, rfl, hin, hbw3⟩ := hrel
              have HI := Lib.hid hin
              have HB3 := Lib.hid hbw3
              clear hin hbw3
              by_cases hkl : k < n
              · have q2 : 0 ≤ (k : Int) := by omega
                have q3 : (k : Int) < n := by omega
                obtain ⟨u, hu, hu8⟩ := row_nat HRW.out hn8 hil
                have x1 : wr.cell? ⟨b, off + i, none⟩ = some (.int .i64 (u : Int)) := by rw [← hu]; exact (HB3.out.cell (p := ⟨b, off + i, none⟩) (block_lt_of_cell (HC.out i hil))).trans (HC.out i hil)
                have HI1 := Lib.hid (fun X => rin_any t i (by omega) (by omega) X)
                have HI2 := Lib.hid (fun X => rin_any t k (by omega) (by omega) X)
                have HI3 := Lib.hid (fun X => rin_any u k (by omega) (by omega) X)
                have hme : meetM m i k = u.testBit k := by rw [meetM, hu, bit_nat]
                have HNX := Lib.hid (fun (hf : ¬ (t.testBit i = true ∧ t.testBit k = true ∧ u.testBit k = true)) => (show ∀ k', k' < k + 1 → ¬ (t.testBit i = true ∧ t.testBit k' = true ∧ meetM m i k' = true) from fun k' hk' => by
                  by_cases e : k' = k
                  · subst e; rw [hme]; exact hf
                  · exact HI.out k' (by omega)))
                have HNO := Lib.hid (fun (hf : t.testBit i = true ∧ t.testBit k = true ∧ u.testBit k = true) => free_no (m := m) (t := t) (by rw [HL.out]; exact hil) (by rw [HL.out]; exact hkl) (by rw [hme]; exact hf))
                obtain ⟨B1, hB1⟩ : ∃ x, t.testBit i = x := ⟨_, rfl⟩
                obtain ⟨B2, hB2⟩ : ∃ x, t.testBit k = x := ⟨_, rfl⟩
                obtain ⟨B3, hB3⟩ : ∃ x, u.testBit k = x := ⟨_, rfl⟩
                simp only [hB1] at HI1
                simp only [hB2] at HI2
                simp only [hB3] at HI3
                have HBB := Lib.hid (And.intro hB1 (And.intro hB2 hB3))
                clear hB1 hB2 hB3 hu hme
                cases B1
                all_goals cases B2
                all_goals cases B3
                all_goals first
                  | (have HF := Lib.hid (HNX.out (fun h => by
                      have hh := HBB.out
                      rw [hh.1, hh.2.1, hh.2.2] at h
                      simp at h))
                     go_wp2_with (first
                       | (go_at_call 38; (with_reducible refine (HI1.out _).mono ?_); rintro e w1 ⟨rfl, rfl⟩)
                       | (go_at_call 38; (with_reducible refine (HI2.out _).mono ?_); rintro e w1 ⟨rfl, rfl⟩)
                       | (go_at_call 38; (with_reducible refine (HI3.out _).mono ?_); rintro e w1 ⟨rfl, rfl⟩))
                     go_roundw
                     case rel => exact ⟨k + 1, by omega, by go_num, HF.out, HB3.out⟩
                     case measure => simp [intOf]; omega)
                  | (have HF := Lib.hid (HNO.out HBB.out)
                     go_wp2_with (first
                       | (go_at_call 38; (with_reducible refine (HI1.out _).mono ?_); rintro e w1 ⟨rfl, rfl⟩)
                       | (go_at_call 38; (with_reducible refine (HI2.out _).mono ?_); rintro e w1 ⟨rfl, rfl⟩)
                       | (go_at_call 38; (with_reducible refine (HI3.out _).mono ?_); rintro e w1 ⟨rfl, rfl⟩))
                     go_ret
                     exact ⟨by rw [HF.out]; rfl, HB3.out⟩)
              · obtain rfl : k = n := by omega
                have HF := Lib.hid (show ∀ i', i' < i + 1 → ∀ k', k' < k → ¬ (t.testBit i' = true ∧ t.testBit k' = true ∧ meetM m i' k' = true) from fun i' hi' k' hk' => by
                  by_cases e : i' = i
                  · subst e; exact HI.out k' hk'
                  · exact HO.out i' (by omega) k' hk')
                go_wp2
                go_roundw
                case rel => exact ⟨i + 1, by omega, by go_num, HF.out, HB3.out⟩
                case measure => simp [intOf]; omega
          · obtain rfl : i = n := by omega
            have HR := Lib.hid (show freeM m (t : Int) = true from (free_nat hM.out (by rw [HL.out]; exact HTN.out)).2 (by rw [HL.out]; exact HO.out))
            go_wp2
            go_ret
            exact ⟨by rw [HR.out]; rfl, HB2.out⟩
end Go.Proofs.Ytjjjfckkglcdfaa
