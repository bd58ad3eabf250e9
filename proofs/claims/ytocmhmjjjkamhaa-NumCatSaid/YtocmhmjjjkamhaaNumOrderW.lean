/- The walk over the law NumOrder: of two numbers that fit a size the lesser one's bytes stand ahead. -/
import Derived.Test.YtocmhmjjjkamhaaNumFitsW
namespace Go.Proofs.Ytocmhmjjjkamhaa
set_option linter.unusedVariables false
set_option linter.unusedSimpArgs false
open Go.RowKit

theorem bstr_u8s (l : List Int) : (bstr l).toList = u8s l := by
  have e : ∀ b : ByteArray, b.toList = b.data.toList := fun b => by
    rcases b with ⟨⟨d⟩⟩
    simp
  rw [e]
  rfl
theorem less_bstr (N M K : Nat) (hN : N < 256 ^ K) (hM : M < 256 ^ K) : Op.bytesLess (bstr (putL N K)).toList (bstr (putL M K)).toList = decide (N < M) := by
  rw [bstr_u8s, bstr_u8s, less_put N M K hN hM]
theorem putL_ok (N K : Nat) : ∀ j, 0 ≤ (putL N K).getD j 0 ∧ (putL N K).getD j 0 < 256 := ok_map _ (fun i => putAt_ok N K i) K
theorem conv_row {w : World} {g K : Nat} {l : List Int} (h : RowB w g 5 l) (hl : l.length = K) (hm : K ≤ maxLen) (hok : ∀ j, 0 ≤ l.getD j 0 ∧ l.getD j 0 < 256) :
    (convert 23 9 (.slice (some ⟨g, 0, none⟩) K K)).run Try.prog w = .ok (.string (bstr l)) w := conv_bts (h.bts hl hm hok)

set_option maxRecDepth 100000 in
set_option maxHeartbeats 1000000 in
theorem nord_no (n m k : Int) (w : World) (h0 : 0 ≤ n) (h1 : n < 18446744073709551616) (h2 : 0 ≤ m) (h3 : m < 18446744073709551616) (h : (fitB n k && fitB m k) = false) :
    Calls Try.prog 5 #[.int .u64 n, .int .u64 m, .int .i64 k] w fun e w' => e = .returned (.bool true) ∧ Below w.heap.size w w' := by
  obtain ⟨a, ha⟩ : ∃ a, fitB n k = a := ⟨_, rfl⟩
  obtain ⟨b, hb⟩ : ∃ b, fitB m k = b := ⟨_, rfl⟩
  rw [ha, hb] at h
  have HA := Lib.hid ha
  have HB := Lib.hid hb
  have HN := Lib.hid h1
  have HM := Lib.hid h3
  clear h1 h3 ha hb
  cases a with
  | false =>
    go_enter Try.func5, Try.ntmps5
    go_wp2_with (first
      | (go_at_call 9; refine (nawake_any _).mono ?_; rintro e w1 ⟨rfl, hB1⟩)
      | (go_at_call 10; (with_reducible refine (put_b n k false w1 h0 HN.out HA.out).mono ?_); rintro e w2 ⟨V2, rfl, hb2⟩
         have hB2 := then_below hB1 hb2
         clear hb2)
      | (go_at_call 10; (with_reducible refine (put_b m k b w2 h2 HM.out HB.out).mono ?_); rintro e w3 ⟨V3, rfl, hb3⟩
         have hB3 := then_below hB2 hb3
         clear hb3))
    all_goals
      go_ret
      exact ⟨rfl, hB3⟩
  | true =>
    cases b with
    | true => simp at h
    | false =>
      go_enter Try.func5, Try.ntmps5
      go_wp2_with (first
        | (go_at_call 9; refine (nawake_any _).mono ?_; rintro e w1 ⟨rfl, hB1⟩)
        | (go_at_call 10; (with_reducible refine (put_b n k true w1 h0 HN.out HA.out).mono ?_); rintro e w2 ⟨V2, rfl, hb2⟩
           have hB2 := then_below hB1 hb2
           clear hb2)
        | (go_at_call 10; (with_reducible refine (put_b m k false w2 h2 HM.out HB.out).mono ?_); rintro e w3 ⟨V3, rfl, hb3⟩
           have hB3 := then_below hB2 hb3
           clear hb3))
      all_goals
        go_ret
        exact ⟨rfl, hB3⟩

theorem one_more (N K : Nat) (h : N < 256 ^ K) : bstr (putL N (K + 1)) = bstr ([0] ++ putL N K) := by rw [put_long N K h]; rfl
theorem zero_str (l : List Int) (hl : l.length ≤ 8388608) (w : World) : (Op.stringOp .add ⟨#[0]⟩ (bstr l)).run Try.prog w = .ok (.string (bstr ([0] ++ l))) w := by
  have := add_bstr [0] l (by simp) hl w
  exact this
set_option maxRecDepth 100000 in
set_option maxHeartbeats 1000000 in
theorem nord_yes (N M K : Nat) (w : World) (h1 : 1 ≤ K) (h2 : K < 8) (h3 : N < 256 ^ K) (h4 : M < 256 ^ K) (D : Bool) (hD : decide ((N : Int) < M) = D) :
    Calls Try.prog 5 #[.int .u64 N, .int .u64 M, .int .i64 K] w fun e w' => e = .returned (.bool true) ∧ Below w.heap.size w w' := by
  obtain ⟨sA, hsA⟩ : ∃ s, bstr (putL N K) = s := ⟨_, rfl⟩
  obtain ⟨sB, hsB⟩ : ∃ s, bstr (putL M K) = s := ⟨_, rfl⟩
  obtain ⟨sC, hsC⟩ : ∃ s, bstr (putL N (K + 1)) = s := ⟨_, rfl⟩
  have hless : Op.bytesLess sA.toList sB.toList = D := by
    rw [← hsA, ← hsB, less_bstr N M K h3 h4, ← hD]
    simp
  have hadd : ∀ w, (Op.stringOp .add ⟨#[0]⟩ sA).run Try.prog w = .ok (.string sC) w := fun w => by
    rw [← hsA, ← hsC, one_more N K h3]
    exact zero_str _ (by rw [putL_length]; omega) w
  have h5 : N < 256 ^ (K + 1) := by rw [Nat.pow_succ]; omega
  have h6 : (K : Int) + 1 = ((K + 1 : Nat) : Int) := by omega
  have hK : (K : Int) < 8 := by omega
  have H3 := Lib.hid h3
  have H4 := Lib.hid h4
  have H5 := Lib.hid h5
  have H6 := Lib.hid h6
  have HA := Lib.hid hsA
  have HB := Lib.hid hsB
  have HC := Lib.hid hsC
  clear h3 h4 h5 h6 hsA hsB hsC
  cases D with
  | true =>
    have hlt := of_decide_eq_true hD
    clear hD
    go_enter Try.func5, Try.ntmps5
    go_wp2_with (first
      | (go_at_call 9; refine (nawake_any _).mono ?_; rintro e w1 ⟨rfl, hB1⟩)
      | (go_at_call 10; (with_reducible refine (put_yes N K w1 h1 (by omega) H3.out).mono ?_); rintro e w2 ⟨rfl, hX2, hb2⟩
         have hB2 := then_below hB1 hb2)
      | (go_at_call 10; (with_reducible refine (put_yes M K w2 h1 (by omega) H4.out).mono ?_); rintro e w3 ⟨rfl, hX3, hb3⟩
         have hB3 := then_below hB2 hb3)
      | (go_at_call 10; (with_reducible refine (put_at N (K + 1) N (K + 1) w3 rfl H6.out (by omega) (by omega) H5.out).mono ?_); rintro e w4 ⟨rfl, hX4, hb4⟩
         have hB4 := then_below hB3 hb4
         have kA := conv_row ((hX2.keep hb3).keep hb4) (putL_length N K) (by unfold maxLen; omega) (putL_ok N K)
         have kB := conv_row (hX3.keep hb4) (putL_length M K) (by unfold maxLen; omega) (putL_ok M K)
         have kC := conv_row hX4 (putL_length N (K + 1)) (by unfold maxLen; omega) (putL_ok N (K + 1))
         rw [HA.out] at kA
         rw [HB.out] at kB
         rw [HC.out] at kC
         clear hb2 hb3 hb4 hX2 hX3 hX4))
    all_goals
      go_ret
      exact ⟨by simp <;> omega, hB4⟩
  | false =>
    have hlt := of_decide_eq_false hD
    have hle : M ≤ N := by omega
    have hdc : decide (M ≤ N) = true := decide_eq_true hle
    clear hD hlt
    go_enter Try.func5, Try.ntmps5
    go_wp2_with (first
      | (go_at_call 9; refine (nawake_any _).mono ?_; rintro e w1 ⟨rfl, hB1⟩)
      | (go_at_call 10; (with_reducible refine (put_yes N K w1 h1 (by omega) H3.out).mono ?_); rintro e w2 ⟨rfl, hX2, hb2⟩
         have hB2 := then_below hB1 hb2)
      | (go_at_call 10; (with_reducible refine (put_yes M K w2 h1 (by omega) H4.out).mono ?_); rintro e w3 ⟨rfl, hX3, hb3⟩
         have hB3 := then_below hB2 hb3)
      | (go_at_call 10; (with_reducible refine (put_at N (K + 1) N (K + 1) w3 rfl H6.out (by omega) (by omega) H5.out).mono ?_); rintro e w4 ⟨rfl, hX4, hb4⟩
         have hB4 := then_below hB3 hb4
         have kA := conv_row ((hX2.keep hb3).keep hb4) (putL_length N K) (by unfold maxLen; omega) (putL_ok N K)
         have kB := conv_row (hX3.keep hb4) (putL_length M K) (by unfold maxLen; omega) (putL_ok M K)
         have kC := conv_row hX4 (putL_length N (K + 1)) (by unfold maxLen; omega) (putL_ok N (K + 1))
         rw [HA.out] at kA
         rw [HB.out] at kB
         rw [HC.out] at kC
         clear hb2 hb3 hb4 hX2 hX3 hX4))
    all_goals
      go_ret
      exact ⟨by simp <;> omega, hB4⟩

/-- a slice that tells this text -/
def ConvTo (w : World) (v : Value) (s : ByteArray) : Prop := ∃ A n c l, v = .slice A n c ∧ bstr l = s ∧ Bts w A n c l
theorem ConvTo.keep {w w' : World} {v : Value} {s : ByteArray} (h : ConvTo w v s) (hb : Below w.heap.size w w') : ConvTo w' v s := by
  obtain ⟨A, n, c, l, rfl, rfl, h⟩ := h
  exact ⟨A, n, c, l, rfl, rfl, h.below hb⟩
theorem ConvTo.run {w : World} {v : Value} {s : ByteArray} (h : ConvTo w v s) : (convert 23 9 v).run Try.prog w = .ok (.string s) w := by
  obtain ⟨A, n, c, l, rfl, rfl, h⟩ := h
  exact conv_bts h
set_option maxRecDepth 100000 in
set_option maxHeartbeats 1000000 in
theorem nord_eight (N M : Nat) (w : World) (h3 : N < 256 ^ 8) (h4 : M < 256 ^ 8) (D : Bool) (hD : decide ((N : Int) < M) = D) :
    Calls Try.prog 5 #[.int .u64 N, .int .u64 M, .int .i64 8] w fun e w' => e = .returned (.bool true) ∧ Below w.heap.size w w' := by
  obtain ⟨sA, hsA⟩ : ∃ s, bstr (putL N 8) = s := ⟨_, rfl⟩
  obtain ⟨sB, hsB⟩ : ∃ s, bstr (putL M 8) = s := ⟨_, rfl⟩
  have hless : Op.bytesLess sA.toList sB.toList = D := by
    rw [← hsA, ← hsB, less_bstr N M 8 h3 h4, ← hD]
    simp
  have HN : Hid ((N : Int) < 18446744073709551616) := Lib.hid (by omega)
  have H9 := Lib.hid (fit_nine (N : Int))
  have PA : ∀ w, Calls Try.prog 10 #[.int .u64 N, .int .i64 8] w fun e w' => ∃ A c, e = .returned (.tuple #[.slice A 8 c, .bool true]) ∧ ConvTo w' (.slice A 8 c) sA ∧ Below w.heap.size w w' := fun w =>
    (put_at N 8 N 8 w rfl rfl (by omega) (by omega) h3).mono fun e w' ⟨he, hX, hB⟩ => ⟨_, _, he, hsA ▸ ⟨_, _, _, _, rfl, rfl, hX.bts (putL_length N 8) (by unfold maxLen; omega) (putL_ok N 8)⟩, hB⟩
  have PB : ∀ w, Calls Try.prog 10 #[.int .u64 M, .int .i64 8] w fun e w' => ∃ A c, e = .returned (.tuple #[.slice A 8 c, .bool true]) ∧ ConvTo w' (.slice A 8 c) sB ∧ Below w.heap.size w w' := fun w =>
    (put_at M 8 M 8 w rfl rfl (by omega) (by omega) h4).mono fun e w' ⟨he, hX, hB⟩ => ⟨_, _, he, hsB ▸ ⟨_, _, _, _, rfl, rfl, hX.bts (putL_length M 8) (by unfold maxLen; omega) (putL_ok M 8)⟩, hB⟩
  have HPA := Lib.hid PA
  have HPB := Lib.hid PB
  clear h3 h4 hsA hsB PA PB
  cases D with
  | true =>
    have hlt := of_decide_eq_true hD
    clear hD
    go_enter Try.func5, Try.ntmps5
    go_wp2_with (first
      | (go_at_call 9; refine (nawake_any _).mono ?_; rintro e w1 ⟨rfl, hB1⟩)
      | (go_at_call 10; (with_reducible refine (HPA.out w1).mono ?_); rintro e w2 ⟨A2, c2, rfl, hX2, hb2⟩
         have hB2 := then_below hB1 hb2)
      | (go_at_call 10; (with_reducible refine (HPB.out w2).mono ?_); rintro e w3 ⟨A3, c3, rfl, hX3, hb3⟩
         have hB3 := then_below hB2 hb3)
      | (go_at_call 10; (with_reducible refine (put_no N 9 w3 (by omega) HN.out H9.out).mono ?_); rintro e w4 ⟨rfl, rfl⟩
         have kA := (hX2.keep hb3).run
         have kB := hX3.run
         clear hb2 hb3 hX2 hX3))
    all_goals
      go_ret
      exact ⟨by simp <;> omega, hB3⟩
  | false =>
    have hlt := of_decide_eq_false hD
    have hle : M ≤ N := by omega
    have hdc : decide (M ≤ N) = true := decide_eq_true hle
    clear hD hlt
    go_enter Try.func5, Try.ntmps5
    go_wp2_with (first
      | (go_at_call 9; refine (nawake_any _).mono ?_; rintro e w1 ⟨rfl, hB1⟩)
      | (go_at_call 10; (with_reducible refine (HPA.out w1).mono ?_); rintro e w2 ⟨A2, c2, rfl, hX2, hb2⟩
         have hB2 := then_below hB1 hb2)
      | (go_at_call 10; (with_reducible refine (HPB.out w2).mono ?_); rintro e w3 ⟨A3, c3, rfl, hX3, hb3⟩
         have hB3 := then_below hB2 hb3)
      | (go_at_call 10; (with_reducible refine (put_no N 9 w3 (by omega) HN.out H9.out).mono ?_); rintro e w4 ⟨rfl, rfl⟩
         have kA := (hX2.keep hb3).run
         have kB := hX3.run
         clear hb2 hb3 hX2 hX3))
    all_goals
      go_ret
      exact ⟨by simp <;> omega, hB3⟩

theorem nord_all (n m k : Int) (w : World) (h0 : 0 ≤ n) (h1 : n < 18446744073709551616) (h2 : 0 ≤ m) (h3 : m < 18446744073709551616) :
    Calls Try.prog 5 #[.int .u64 n, .int .u64 m, .int .i64 k] w fun e w' => e = .returned (.bool true) ∧ Below w.heap.size w w' := by
  cases h : (fitB n k && fitB m k) with
  | false => exact nord_no n m k w h0 h1 h2 h3 h
  | true =>
    rw [Bool.and_eq_true] at h
    obtain ⟨N, K, rfl, rfl, a1, a2, a3⟩ := fit_nat h0 h.1
    obtain ⟨M, K2, rfl, hk, b1, b2, b3⟩ := fit_nat h2 h.2
    obtain rfl : K2 = K := by omega
    by_cases h8 : K2 = 8
    · subst h8
      exact nord_eight N M w a3 b3 _ rfl
    · exact nord_yes N M K2 w a1 (by omega) a3 b3 _ rfl
end Go.Proofs.Ytocmhmjjjkamhaa
