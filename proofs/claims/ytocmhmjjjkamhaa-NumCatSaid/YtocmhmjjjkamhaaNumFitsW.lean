/- The walk over the law NumFits: of sizes a number fits all from some one on. -/
import Derived.Test.YtocmhmjjjkamhaaNumAwake
namespace Go.Proofs.Ytocmhmjjjkamhaa
set_option linter.unusedVariables false
set_option linter.unusedSimpArgs false
open Go.RowKit

theorem then_below {w w1 w2 : World} (h : Below w.heap.size w w1) (h2 : Below w1.heap.size w1 w2) : Below w.heap.size w w2 := h.trans (h2.mono h.size)
theorem fit8 (n : Int) (h0 : 0 ≤ n) (h1 : n < 18446744073709551616) : fitB n 8 = true := by
  unfold fitB
  rw [decide_eq_true_eq]
  exact ⟨by omega, by omega, by simp; omega⟩
theorem top7 : fitB 18446744073709551615 7 = false := by decide +kernel

theorem fit_more (N K : Nat) (h1 : 1 ≤ K) (h2 : K < 8) (h3 : N < 256 ^ K) : fitB N ((K : Int) + 1) = true := by
  have h := fit_of N (K + 1) (by omega) (by omega) (by rw [Nat.pow_succ]; omega)
  simpa using h
theorem fit_nine (n : Int) : fitB n 9 = false := by
  unfold fitB
  rw [decide_eq_false_iff_not]
  omega
theorem fit_low (n k : Int) (h : fitB n k = true) : 1 ≤ k ∧ k ≤ 8 := by
  unfold fitB at h
  rw [decide_eq_true_eq] at h
  exact ⟨h.1, h.2.1⟩

set_option maxRecDepth 100000 in
set_option maxHeartbeats 1000000 in
theorem nfits_eight (n : Int) (w : World) (h0 : 0 ≤ n) (h1 : n < 18446744073709551616) :
    Calls Try.prog 6 #[.int .u64 n, .int .i64 8] w fun e w' => e = .returned (.bool true) ∧ Below w.heap.size w w' := by
  have H8 := Lib.hid (fit8 n h0 h1)
  have H7 := Lib.hid top7
  have H9 := Lib.hid (fit_nine n)
  have HN := Lib.hid h1
  clear h1
  go_enter Try.func6, Try.ntmps6
  go_wp2_with (first
    | (go_at_call 9; refine (nawake_any _).mono ?_; rintro e w1 ⟨rfl, hB1⟩)
    | (go_at_call 10; (with_reducible refine (put_b n 8 true w1 h0 HN.out H8.out).mono ?_); rintro e w2 ⟨V2, rfl, hb2⟩
       have hB2 := then_below hB1 hb2
       clear hb2)
    | (go_at_call 10; (with_reducible refine (put_b n 9 false w2 h0 HN.out H9.out).mono ?_); rintro e w3 ⟨V3, rfl, hb3⟩
       have hB3 := then_below hB2 hb3
       clear hb3)
    | (go_at_call 10; (with_reducible refine (put_b n 8 true w3 h0 HN.out H8.out).mono ?_); rintro e w4 ⟨V4, rfl, hb4⟩
       have hB4 := then_below hB3 hb4
       clear hb4)
    | (go_at_call 10; (with_reducible refine (put_b 18446744073709551615 7 false w4 (by decide) (by decide) H7.out).mono ?_); rintro e w5 ⟨V5, rfl, hb5⟩
       have hB5 := then_below hB4 hb5
       clear hb5))
  go_ret
  exact ⟨rfl, hB5⟩

set_option maxRecDepth 100000 in
set_option maxHeartbeats 1000000 in
theorem nfits_yes (n k : Int) (w : World) (h0 : 0 ≤ n) (h1 : n < 18446744073709551616) (hk1 : 1 ≤ k) (hk2 : k < 8) (hf : fitB n k = true) (hf2 : fitB n (k + 1) = true) :
    Calls Try.prog 6 #[.int .u64 n, .int .i64 k] w fun e w' => e = .returned (.bool true) ∧ Below w.heap.size w w' := by
  have H8 := Lib.hid (fit8 n h0 h1)
  have H7 := Lib.hid top7
  have HF := Lib.hid hf
  have HF2 := Lib.hid hf2
  have HN := Lib.hid h1
  clear h1 hf hf2
  go_enter Try.func6, Try.ntmps6
  go_wp2_with (first
    | (go_at_call 9; refine (nawake_any _).mono ?_; rintro e w1 ⟨rfl, hB1⟩)
    | (go_at_call 10; (with_reducible refine (put_b n k true w1 h0 HN.out HF.out).mono ?_); rintro e w2 ⟨V2, rfl, hb2⟩
       have hB2 := then_below hB1 hb2
       clear hb2)
    | (go_at_call 10; (with_reducible refine (put_b n (k + 1) true w2 h0 HN.out HF2.out).mono ?_); rintro e w3 ⟨V3, rfl, hb3⟩
       have hB3 := then_below hB2 hb3
       clear hb3)
    | (go_at_call 10; (with_reducible refine (put_b n 8 true w3 h0 HN.out H8.out).mono ?_); rintro e w4 ⟨V4, rfl, hb4⟩
       have hB4 := then_below hB3 hb4
       clear hb4)
    | (go_at_call 10; (with_reducible refine (put_b 18446744073709551615 7 false w4 (by decide) (by decide) H7.out).mono ?_); rintro e w5 ⟨V5, rfl, hb5⟩
       have hB5 := then_below hB4 hb5
       clear hb5))
  all_goals
    go_ret
    exact ⟨rfl, hB5⟩

set_option maxRecDepth 100000 in
set_option maxHeartbeats 1000000 in
theorem nfits_no (n k : Int) (w : World) (h0 : 0 ≤ n) (h1 : n < 18446744073709551616) (hf : fitB n k = false) :
    Calls Try.prog 6 #[.int .u64 n, .int .i64 k] w fun e w' => e = .returned (.bool true) ∧ Below w.heap.size w w' := by
  have H8 := Lib.hid (fit8 n h0 h1)
  have H7 := Lib.hid top7
  have HF := Lib.hid hf
  have HN := Lib.hid h1
  clear h1 hf
  go_enter Try.func6, Try.ntmps6
  go_wp2_with (first
    | (go_at_call 9; refine (nawake_any _).mono ?_; rintro e w1 ⟨rfl, hB1⟩)
    | (go_at_call 10; (with_reducible refine (put_b n k false w1 h0 HN.out HF.out).mono ?_); rintro e w2 ⟨V2, rfl, hb2⟩
       have hB2 := then_below hB1 hb2
       clear hb2)
    | (go_at_call 10; (with_reducible refine (put_b n 8 true w3 h0 HN.out H8.out).mono ?_); rintro e w4 ⟨V4, rfl, hb4⟩
       have hB4 := then_below hB3 hb4
       clear hb4)
    | (go_at_call 10; (with_reducible refine (put_b 18446744073709551615 7 false w4 (by decide) (by decide) H7.out).mono ?_); rintro e w5 ⟨V5, rfl, hb5⟩
       have hB5 := then_below hB4 hb5
       clear hb5)
    | (go_at_call 10; (with_reducible refine (put_some n _ w2 h0 HN.out).mono ?_); rintro e w3 ⟨V3, rfl, hb3⟩
       have hB3 := then_below hB2 hb3
       clear hb3))
  all_goals
    go_ret
    exact ⟨rfl, hB5⟩

theorem nfits_all (n k : Int) (w : World) (h0 : 0 ≤ n) (h1 : n < 18446744073709551616) :
    Calls Try.prog 6 #[.int .u64 n, .int .i64 k] w fun e w' => e = .returned (.bool true) ∧ Below w.heap.size w w' := by
  cases hf : fitB n k with
  | false => exact nfits_no n k w h0 h1 hf
  | true =>
    obtain ⟨N, K, rfl, rfl, h2, h3, h4⟩ := fit_nat h0 hf
    by_cases h8 : K = 8
    · subst h8
      exact nfits_eight N w h0 h1
    · exact nfits_yes N K w h0 h1 (by omega) (by omega) hf (fit_more N K h2 (by omega) h4)
end Go.Proofs.Ytocmhmjjjkamhaa
