/- The walk over the document's May of a matrix. -/
import Derived.Test.YtjjjfckkglcdfaaGrpRef
namespace Go.Proofs.Ytjjjfckkglcdfaa
set_option maxRecDepth 100000
set_option linter.unusedVariables false
set_option linter.unusedSimpArgs false
open Go.RowKit

theorem row_nat {m : List Int} {n i : Nat} (h : ∀ k, k < n → 0 ≤ m.getD k 0 ∧ m.getD k 0 < ((2 ^ n : Nat) : Int)) (hn : n ≤ 8) (hi : i < n) : ∃ t : Nat, m.getD i 0 = t ∧ t < 256 := by
  obtain ⟨h0, h1⟩ := h i hi
  obtain ⟨t, ht⟩ := Int.eq_ofNat_of_zero_le h0
  have h8 := pow_le hn
  exact ⟨t, ht, by omega⟩
def fineM (m : List Int) (i k : Nat) : Prop := meetM m i k = meetM m k i ∧ ¬ (meetM m i k = true ∧ i = k)
theorem may_of_all {m : List Int} {n : Nat} (hn : m.length = n) (h : 1 ≤ n ∧ n ≤ 8) (h1 : ∀ k, k < n → 0 ≤ m.getD k 0 ∧ m.getD k 0 < ((2 ^ n : Nat) : Int)) (h2 : ∀ i, i < n → ∀ k, k < n → fineM m i k) : mayM m = true := by
  subst hn
  exact decide_eq_true ⟨h, fun i hi => by rw [pow_int]; exact h1 i hi, h2⟩
theorem may_short {m : List Int} {n : Nat} (hn : m.length = n) (h : n < 1 ∨ 8 < n) : mayM m = false := decide_eq_false (by rw [hn]; omega)
theorem may_row {m : List Int} {n j : Nat} (hn : m.length = n) (hj : j < n) (h : m.getD j 0 < 0 ∨ ((2 ^ n : Nat) : Int) ≤ m.getD j 0) : mayM m = false := decide_eq_false fun hh => by
  subst hn
  have := hh.2.1 j hj
  rw [pow_int] at this
  omega
theorem may_not {m : List Int} {n i k : Nat} (hn : m.length = n) (hi : i < n) (hk : k < n) (h : ¬ fineM m i k) : mayM m = false := decide_eq_false fun hh => by
  subst hn
  exact h (hh.2.2 i hi k hk)
set_option maxHeartbeats 4000000 in
theorem rgmay_any (A : Option Addr) (n c : Nat) (m : List Int) (w : World) (hb : Its .i64 w A n c m) : Calls Try.prog 27 #[.slice A n c] w fun e w' => e = .returned (.bool (mayM m)) ∧ Below w.heap.size w w' := by
  have hsm := hb.small
  have HL := Lib.hid hb.len
  by_cases h1 : n < 1 ∨ 8 < n
  · have HR := Lib.hid (may_short HL.out h1)
    rcases h1 with h1 | h1
    all_goals
      clear hb
      go_enter Try.func27, Try.ntmps27
      go_wp2
      go_ret
      exact ⟨by rw [HR.out]; rfl, Below.refl _ _⟩
  · have hn1 : 1 ≤ n := by omega
    have hn8 : n ≤ 8 := by omega
    have h1a : ¬ ((n : Int) < 1) := by omega
    have h1b : ¬ (8 < (n : Int)) := by omega
    obtain ⟨b, off, rfl, hc⟩ := hb.at_ (by omega)
    have HC := Lib.hid hc
    have HPW := Lib.hid (fun X => rpow_any n (by omega) X)
    obtain ⟨PW, hPW⟩ : ∃ x : Int, ((2 ^ n : Nat) : Int) = x := ⟨_, rfl⟩
    have HPE := Lib.hid hPW
    rw [hPW] at HPW
    clear hPW hb hc h1
    go_enter Try.func27, Try.ntmps27
    go_wp2
    go_loopw [4] (fun v wr => ∃ j : Nat, j ≤ n ∧ v = .int .i64 j ∧ (∀ k, k < j → 0 ≤ m.getD k 0 ∧ m.getD k 0 < PW) ∧ Below w.heap.size w wr) (fun v _ => n - (intOf v).toNat)
    case atStart => exact ⟨0, by omega, rfl, fun k hk => by omega, Below.refl _ _⟩
    case round =>
      obtain ⟨j, hj, rfl, hrow, hbw⟩ := hrel
      have HBW := Lib.hid hbw
      have HRW := Lib.hid hrow
      clear hrow
      by_cases hlt : j < n
      · have hcx : wr.drew.cell? ⟨b, off + j, none⟩ = some (.int .i64 (m.getD j 0)) := (hbw.cell (p := ⟨b, off + j, none⟩) (block_lt_of_cell (HC.out j hlt))).trans (HC.out j hlt)
        obtain ⟨x, hx⟩ : ∃ x, m.getD j 0 = x := ⟨_, rfl⟩
        rw [hx] at hcx
        have q0 : 0 ≤ (j : Int) := by omega
        have q1 : (j : Int) < n := by omega
        clear hbw
        by_cases hneg : x < 0
        · have HR := Lib.hid (may_row HL.out hlt (.inl (by rw [hx]; exact hneg)))
          clear hx
          go_wp2
          refine wp_region_held_drew (S := fun X => X.cell? ⟨b, off + j, none⟩ = some (.int .i64 x)) (by kernel_rfl) hcx (fun hHeld => ?_)
          refine tk 0 (.slice (some ⟨b, off, none⟩) n c) hHeld (fun w => ?_) ?_
          · go_simp
          simp only [PT]
          refine tk 1 (.int .i64 j) hHeld (fun w => ?_) ?_
          · go_simp
          simp only [PT]
          refine tk 2 (.pointer (some ⟨b, off + j, none⟩)) hHeld (fun w => ?_) ?_
          · go_simp
          simp only [PT]
          refine tkS 3 (.int .i64 x) hHeld (fun w hq => ?_) ?_
          · go_simp
          simp only [PT]
          refine tk 4 (.bool true) hHeld (fun w => ?_) ?_
          · go_simp
          simp only [PT]
          refine tk 5 (.bool true) hHeld (fun w => ?_) ?_
          · go_simp
          simp only [PT]
          refine tkO 6 hHeld ?_
          simp only [PT]
          refine tkO 7 hHeld ?_
          simp only [PT]
          refine tkO 8 hHeld ?_
          simp only [PT]
          refine tkO 9 hHeld ?_
          simp only [PT]
          refine tkO 10 hHeld ?_
          simp only [PT]
          refine tkO 11 hHeld ?_
          simp only [PT]
          refine tkO 12 hHeld ?_
          simp only [PT]
          refine tk 13 (.bool true) hHeld (fun w => ?_) ?_
          · go_simp
          simp only [PT]
          refine wpAnyH_done (by kernel_rfl) ?_ _
          clear hHeld hcx
          go_wp2
          go_ret
          exact ⟨by rw [HR.out]; rfl, HBW.out.drew⟩
        · by_cases hbig : PW ≤ x
          · have HR := Lib.hid (may_row HL.out hlt (.inr (by rw [hx, HPE.out]; exact hbig)))
            clear hx
            go_wp2
            refine wp_region_held_drew (S := fun X => X.cell? ⟨b, off + j, none⟩ = some (.int .i64 x)) (by kernel_rfl) hcx (fun hHeld => ?_)
            refine tk 0 (.slice (some ⟨b, off, none⟩) n c) hHeld (fun w => ?_) ?_
            · go_simp
            simp only [PT]
            refine tk 1 (.int .i64 j) hHeld (fun w => ?_) ?_
            · go_simp
            simp only [PT]
            refine tk 2 (.pointer (some ⟨b, off + j, none⟩)) hHeld (fun w => ?_) ?_
            · go_simp
            simp only [PT]
            refine tkS 3 (.int .i64 x) hHeld (fun w hq => ?_) ?_
            · go_simp
            simp only [PT]
            refine tk 4 (.bool false) hHeld (fun w => ?_) ?_
            · go_simp
            simp only [PT]
            refine tk 5 (.bool false) hHeld (fun w => ?_) ?_
            · go_simp
            simp only [PT]
            refine tk 6 (.slice (some ⟨b, off, none⟩) n c) hHeld (fun w => ?_) ?_
            · go_simp
            simp only [PT]
            refine tk 7 (.int .i64 j) hHeld (fun w => ?_) ?_
            · go_simp
            simp only [PT]
            refine tk 8 (.pointer (some ⟨b, off + j, none⟩)) hHeld (fun w => ?_) ?_
            · go_simp
            simp only [PT]
            refine tkS 9 (.int .i64 x) hHeld (fun w hq => ?_) ?_
            · go_simp
            simp only [PT]
            refine tk 10 (.int .i64 n) hHeld (fun w => ?_) ?_
            · go_simp
            simp only [PT]
            refine one_step 11 (by kernel_rfl) rfl (fun Kq hKq => ?_)
            go_simp
            go_at_call 37
            refine (HPW.out _).mono ?_
            rintro e y1 ⟨rfl, rfl⟩
            refine hKq.out _ _ hcx (fun hHeld0 => ?_)
            clear hKq Kq hHeld
            have hHeld := hHeld0
            clear hHeld0
            try simp only [PT]
            refine tk 12 (.bool true) hHeld (fun w => ?_) ?_
            · go_simp
            simp only [PT]
            refine tk 13 (.bool true) hHeld (fun w => ?_) ?_
            · go_simp
            simp only [PT]
            refine wpAnyH_done (by kernel_rfl) ?_ _
            clear hHeld hcx
            go_wp2
            go_ret
            exact ⟨by rw [HR.out]; rfl, HBW.out.drew⟩
          · have HN := Lib.hid (show ∀ k, k < j + 1 → 0 ≤ m.getD k 0 ∧ m.getD k 0 < PW from fun k hk => by
              by_cases e : k = j
              · subst e; rw [hx]; omega
              · exact HRW.out k (by omega))
            clear hx
            go_wp2
            refine wp_region_held_drew (S := fun X => X.cell? ⟨b, off + j, none⟩ = some (.int .i64 x)) (by kernel_rfl) hcx (fun hHeld => ?_)
            refine tk 0 (.slice (some ⟨b, off, none⟩) n c) hHeld (fun w => ?_) ?_
            · go_simp
            simp only [PT]
            refine tk 1 (.int .i64 j) hHeld (fun w => ?_) ?_
            · go_simp
            simp only [PT]
            refine tk 2 (.pointer (some ⟨b, off + j, none⟩)) hHeld (fun w => ?_) ?_
            · go_simp
            simp only [PT]
            refine tkS 3 (.int .i64 x) hHeld (fun w hq => ?_) ?_
            · go_simp
            simp only [PT]
            refine tk 4 (.bool false) hHeld (fun w => ?_) ?_
            · go_simp
            simp only [PT]
            refine tk 5 (.bool false) hHeld (fun w => ?_) ?_
            · go_simp
            simp only [PT]
            refine tk 6 (.slice (some ⟨b, off, none⟩) n c) hHeld (fun w => ?_) ?_
            · go_simp
            simp only [PT]
            refine tk 7 (.int .i64 j) hHeld (fun w => ?_) ?_
            · go_simp
            simp only [PT]
            refine tk 8 (.pointer (some ⟨b, off + j, none⟩)) hHeld (fun w => ?_) ?_
            · go_simp
            simp only [PT]
            refine tkS 9 (.int .i64 x) hHeld (fun w hq => ?_) ?_
            · go_simp
            simp only [PT]
            refine tk 10 (.int .i64 n) hHeld (fun w => ?_) ?_
            · go_simp
            simp only [PT]
            refine one_step 11 (by kernel_rfl) rfl (fun Kq hKq => ?_)
            go_simp
            go_at_call 37
            refine (HPW.out _).mono ?_
            rintro e y1 ⟨rfl, rfl⟩
            refine hKq.out _ _ hcx (fun hHeld0 => ?_)
            clear hKq Kq hHeld
            have hHeld := hHeld0
            clear hHeld0
            try simp only [PT]
            refine tk 12 (.bool false) hHeld (fun w => ?_) ?_
            · go_simp
            simp only [PT]
            refine tk 13 (.bool false) hHeld (fun w => ?_) ?_
            · go_simp
            simp only [PT]
            refine wpAnyH_done (by kernel_rfl) ?_ _
            clear hHeld hcx
            go_wp2
            go_roundw
            case rel => exact ⟨j + 1, by omega, by go_num, HN.out, HBW.out.drew⟩
            case measure => simp [intOf]; omega
      · obtain rfl : j = n := by omega
        rw [← HPE.out] at HRW
        clear hbw
        go_wp2
        go_loopw [5] (fun v wr => ∃ i : Nat, i ≤ j ∧ v = .int .i64 i ∧ (∀ i', i' < i → ∀ k, k < j → fineM m i' k) ∧ Below w.heap.size w wr) (fun v _ => j - (intOf v).toNat)
        case atStart => exact ⟨0, by omega, rfl, fun k hk => by omega, HBW.out⟩
        case round =>
          obtain ⟨i, hi, rfl, hout, hbw2⟩ := hrel
          have HO := Lib.hid hout
          have HB2 := Lib.hid hbw2
          clear hout hbw2
          by_cases hil : i < j
          · have q0 : 0 ≤ (i : Int) := by omega
            have q1 : (i : Int) < j := by omega
            go_wp2
            go_loopw [6] (fun v wr => ∃ k : Nat, k ≤ j ∧ v = .int .i64 k ∧ (∀ k', k' < k → fineM m i k') ∧ Below w.heap.size w wr) (fun v _ => j - (intOf v).toNat)
            case atStart => exact ⟨0, by omega, rfl, fun k hk => by omega, HB2.out⟩
            case round =>
              obtain ⟨k, hk, rfl, hin, hbw3⟩ := hrel
              have HI := Lib.hid hin
              have HB3 := Lib.hid hbw3
              clear hin hbw3
              by_cases hkl : k < j
              · have q2 : 0 ≤ (k : Int) := by omega
                have q3 : (k : Int) < j := by omega
                by_cases hik : i = k
                · subst hik
                  obtain ⟨t, ht, ht8⟩ := row_nat HRW.out hn8 hil
                  have x1 : wr.cell? ⟨b, off + i, none⟩ = some (.int .i64 (t : Int)) := by rw [← ht]; exact (HB3.out.cell (p := ⟨b, off + i, none⟩) (block_lt_of_cell (HC.out i hil))).trans (HC.out i hil)
                  have HI1 := Lib.hid (fun X => rin_any t i (by omega) (by omega) X)
                  have HM1 := Lib.hid (show meetM m i i = t.testBit i by rw [meetM, ht, bit_nat])
                  obtain ⟨B1, hB1⟩ : ∃ x, t.testBit i = x := ⟨_, rfl⟩
                  rw [hB1] at HI1 HM1
                  clear hB1 ht
                  cases B1
                  · have HF := Lib.hid (show ∀ k', k' < i + 1 → fineM m i k' from fun k' hk' => by
                      by_cases e : k' = i
                      · subst e; exact ⟨rfl, fun h => by rw [HM1.out] at h; cases h.1⟩
                      · exact HI.out k' (by omega))
                    go_wp2_with (go_at_call 38; (with_reducible refine (HI1.out _).mono ?_); rintro e w1 ⟨rfl, rfl⟩)
                    go_roundw
                    case rel => exact ⟨i + 1, by omega, by go_num, HF.out, HB3.out⟩
                    case measure => simp [intOf]; omega
                  · have HF := Lib.hid (may_not HL.out hil hkl (fun h => h.2 ⟨HM1.out, rfl⟩))
                    go_wp2_with (go_at_call 38; (with_reducible refine (HI1.out _).mono ?_); rintro e w1 ⟨rfl, rfl⟩)
                    go_ret
                    exact ⟨by rw [HF.out]; rfl, HB3.out⟩
                · skip
                  obtain ⟨t, ht, ht8⟩ := row_nat HRW.out hn8 hil
                  obtain ⟨u, hu, hu8⟩ := row_nat HRW.out hn8 hkl
                  have x1 : wr.cell? ⟨b, off + i, none⟩ = some (.int .i64 (t : Int)) := by rw [← ht]; exact (HB3.out.cell (p := ⟨b, off + i, none⟩) (block_lt_of_cell (HC.out i hil))).trans (HC.out i hil)
                  have x2 : wr.cell? ⟨b, off + k, none⟩ = some (.int .i64 (u : Int)) := by rw [← hu]; exact (HB3.out.cell (p := ⟨b, off + k, none⟩) (block_lt_of_cell (HC.out k hkl))).trans (HC.out k hkl)
                  have HI1 := Lib.hid (fun X => rin_any t k (by omega) (by omega) X)
                  have HI2 := Lib.hid (fun X => rin_any u i (by omega) (by omega) X)
                  have HM1 := Lib.hid (show meetM m i k = t.testBit k by rw [meetM, ht, bit_nat])
                  have HM2 := Lib.hid (show meetM m k i = u.testBit i by rw [meetM, hu, bit_nat])
                  obtain ⟨B1, hB1⟩ : ∃ x, t.testBit k = x := ⟨_, rfl⟩
                  obtain ⟨B2, hB2⟩ : ∃ x, u.testBit i = x := ⟨_, rfl⟩
                  rw [hB1] at HI1 HM1
                  rw [hB2] at HI2 HM2
                  clear hB1 hB2 ht hu
                  have HNX := Lib.hid (fun (hf : fineM m i k) => (show ∀ k', k' < k + 1 → fineM m i k' from fun k' hk' => by
                    by_cases e : k' = k
                    · subst e; exact hf
                    · exact HI.out k' (by omega)))
                  have HNO := Lib.hid (fun (hf : ¬ fineM m i k) => may_not HL.out hil hkl hf)
                  cases B1
                  all_goals cases B2
                  · have HF := Lib.hid (HNX.out ⟨by rw [HM1.out, HM2.out], fun h => by rw [HM1.out] at h; cases h.1⟩)
                    go_wp2_with (first
                      | (go_at_call 38; (with_reducible refine (HI1.out _).mono ?_); rintro e w1 ⟨rfl, rfl⟩)
                      | (go_at_call 38; (with_reducible refine (HI2.out _).mono ?_); rintro e w1 ⟨rfl, rfl⟩))
                    go_roundw
                    case rel => exact ⟨k + 1, by omega, by go_num, HF.out, HB3.out⟩
                    case measure => simp [intOf]; omega
                  · have HF := Lib.hid (HNO.out (fun h => by have := h.1; rw [HM1.out, HM2.out] at this; cases this))
                    go_wp2_with (first
                      | (go_at_call 38; (with_reducible refine (HI1.out _).mono ?_); rintro e w1 ⟨rfl, rfl⟩)
                      | (go_at_call 38; (with_reducible refine (HI2.out _).mono ?_); rintro e w1 ⟨rfl, rfl⟩))
                    go_ret
                    exact ⟨by rw [HF.out]; rfl, HB3.out⟩
                  · have HF := Lib.hid (HNO.out (fun h => by have := h.1; rw [HM1.out, HM2.out] at this; cases this))
                    go_wp2_with (first
                      | (go_at_call 38; (with_reducible refine (HI1.out _).mono ?_); rintro e w1 ⟨rfl, rfl⟩)
                      | (go_at_call 38; (with_reducible refine (HI2.out _).mono ?_); rintro e w1 ⟨rfl, rfl⟩))
                    go_ret
                    exact ⟨by rw [HF.out]; rfl, HB3.out⟩
                  · have HF := Lib.hid (HNX.out ⟨by rw [HM1.out, HM2.out], fun h => hik h.2⟩)
                    have hike : ¬ ((i : Int) = k) := by omega
                    go_wp2_with (first
                      | (go_at_call 38; (with_reducible refine (HI1.out _).mono ?_); rintro e w1 ⟨rfl, rfl⟩)
                      | (go_at_call 38; (with_reducible refine (HI2.out _).mono ?_); rintro e w1 ⟨rfl, rfl⟩))
                    go_roundw
                    case rel => exact ⟨k + 1, by omega, by go_num, HF.out, HB3.out⟩
                    case measure => simp [intOf]; omega
              · obtain rfl : k = j := by omega
                have HF := Lib.hid (show ∀ i', i' < i + 1 → ∀ k', k' < k → fineM m i' k' from fun i' hi' k' hk' => by
                  by_cases e : i' = i
                  · subst e; exact HI.out k' hk'
                  · exact HO.out i' (by omega) k' hk')
                go_wp2
                go_roundw
                case rel => exact ⟨i + 1, by omega, by go_num, HF.out, HB3.out⟩
                case measure => simp [intOf]; omega
          · obtain rfl : i = j := by omega
            have HR := Lib.hid (may_of_all HL.out ⟨hn1, hn8⟩ HRW.out HO.out)
            go_wp2
            go_ret
            exact ⟨by rw [HR.out]; rfl, HB2.out⟩
end Go.Proofs.Ytjjjfckkglcdfaa
