/- The walks over package num's isSize, fits and Put: a number's bytes. -/
import Derived.Test.YtfjiefhicjnnnaaNumPure
import Derived.Test.YtfjiefhicjnnnaaBasOpen
namespace Go.Proofs.Ytfjiefhicjnnnaa
set_option linter.unusedVariables false
set_option linter.unusedSimpArgs false
open Go.RowKit

def sizeB (k : Int) : Bool := decide (1 ≤ k ∧ k ≤ 8)
def fitB (n : Int) (k : Int) : Bool := decide (1 ≤ k ∧ k ≤ 8 ∧ n.toNat < 256 ^ k.toNat)

theorem size_any (k : Int) (w : World) : Calls Try.prog 43 #[.int .i64 k] w fun e w' => e = .returned (.bool (sizeB k)) ∧ w = w' := by
  have k1 : 1 ≤ k → decide (k ≤ 8) = sizeB k := by
    intro h; unfold sizeB; rw [Bool.eq_iff_iff]; simp; omega
  have k2 : k < 1 → false = sizeB k := by
    intro h; unfold sizeB; rw [Bool.eq_iff_iff]; simp; omega
  have K1 := Lib.hid k1
  have K2 := Lib.hid k2
  clear k1 k2
  by_cases h : 1 ≤ k
  · go_enter Try.func43, Try.ntmps43
    go_wp2
    go_ret
    exact ⟨ret_bool (K1.out h), rfl⟩
  · have h2 : k < 1 := by omega
    clear h
    go_enter Try.func43, Try.ntmps43
    go_wp2
    go_ret
    exact ⟨ret_bool (K2.out h2), rfl⟩
theorem size_yes (k : Int) (w : World) (h1 : 1 ≤ k) (h2 : k ≤ 8) : Calls Try.prog 43 #[.int .i64 k] w fun e w' => e = .returned (.bool true) ∧ w = w' := by
  refine (size_any k w).mono fun e w' ⟨he, hw⟩ => ⟨he.trans (ret_bool ?_), hw⟩
  unfold sizeB; simp; omega
theorem size_no (k : Int) (w : World) (h : k < 1 ∨ 8 < k) : Calls Try.prog 43 #[.int .i64 k] w fun e w' => e = .returned (.bool false) ∧ w = w' := by
  refine (size_any k w).mono fun e w' ⟨he, hw⟩ => ⟨he.trans (ret_bool ?_), hw⟩
  unfold sizeB; simp; omega

set_option maxHeartbeats 1000000 in
theorem fits_any (n : Int) (k : Int) (w : World) (h0 : 0 ≤ n) (h1 : n < 18446744073709551616) :
    Calls Try.prog 42 #[.int .u64 n, .int .i64 k] w fun e w' => e = .returned (.bool (fitB n k)) ∧ w = w' := by
  by_cases h : 1 ≤ k ∧ k ≤ 8
  · obtain ⟨ha, hb⟩ := h
    have hk : k = 1 ∨ k = 2 ∨ k = 3 ∨ k = 4 ∨ k = 5 ∨ k = 6 ∨ k = 7 ∨ k = 8 := by omega
    rcases hk with rfl | rfl | rfl | rfl | rfl | rfl | rfl | rfl
    all_goals
      go_enter Try.func42, Try.ntmps42
      go_wp2_with (go_at_call 43; refine (size_yes _ _ (by omega) (by omega)).mono ?_; rintro e w1 ⟨rfl, rfl⟩)
      go_ret
      exact ⟨ret_bool (by unfold fitB; rw [Bool.eq_iff_iff]; simp; omega), rfl⟩
  · have hr : false = fitB n k := by unfold fitB; rw [Bool.eq_iff_iff]; simp; omega
    have HR := Lib.hid hr
    clear hr
    go_enter Try.func42, Try.ntmps42
    go_wp2_with (go_at_call 43; refine (size_no _ _ (by omega)).mono ?_; rintro e w1 ⟨rfl, rfl⟩)
    go_ret
    exact ⟨ret_bool HR.out, rfl⟩
theorem fits_yes (N K : Nat) (w : World) (h1 : 1 ≤ K) (h2 : K ≤ 8) (h3 : N < 256 ^ K) :
    Calls Try.prog 42 #[.int .u64 N, .int .i64 K] w fun e w' => e = .returned (.bool true) ∧ w = w' := by
  have hN : N < 256 ^ 8 := Nat.lt_of_lt_of_le h3 (Nat.pow_le_pow_right (by omega) h2)
  refine (fits_any N K w (by omega) (by omega)).mono fun e w' ⟨he, hw⟩ => ⟨he.trans (ret_bool ?_), hw⟩
  unfold fitB; rw [decide_eq_true_eq]
  exact ⟨by omega, by omega, by simpa using h3⟩
theorem fits_no (n k : Int) (w : World) (h0 : 0 ≤ n) (h1 : n < 18446744073709551616) (h : fitB n k = false) :
    Calls Try.prog 42 #[.int .u64 n, .int .i64 k] w fun e w' => e = .returned (.bool false) ∧ w = w' := by
  exact (fits_any n k w h0 h1).mono fun e w' ⟨he, hw⟩ => ⟨he.trans (ret_bool h), hw⟩

theorem put_no (n k : Int) (w : World) (h0 : 0 ≤ n) (h1 : n < 18446744073709551616) (h : fitB n k = false) :
    Calls Try.prog 34 #[.int .u64 n, .int .i64 k] w fun e w' => e = .returned (.tuple #[.slice none 0 0, .bool false]) ∧ w = w' := by
  have H := Lib.hid h
  clear h
  go_enter Try.func34, Try.ntmps34
  go_wp2_with (go_at_call 42; refine (fits_no _ _ _ h0 h1 H.out).mono ?_; rintro e w1 ⟨rfl, rfl⟩)
  go_ret2
  exact ⟨rfl, rfl⟩

set_option maxHeartbeats 1000000 in
theorem put_yes (N K : Nat) (w : World) (h1 : 1 ≤ K) (h2 : K ≤ 8) (h3 : N < 256 ^ K) :
    Calls Try.prog 34 #[.int .u64 N, .int .i64 K] w fun e w' => e = .returned (.tuple #[.slice (some ⟨w.heap.size, 0, none⟩) K K, .bool true]) ∧ RowB w' w.heap.size 5 (putL N K) ∧ Below w.heap.size w w' := by
  have hN : N < 256 ^ 8 := Nat.lt_of_lt_of_le h3 (Nat.pow_le_pow_right (by omega) h2)
  have HN := Lib.hid hN
  have H3 := Lib.hid h3
  clear h3 hN
  go_enter Try.func34, Try.ntmps34
  go_wp2_with (first
    | (go_at_call 42; refine (fits_yes _ _ _ h1 h2 H3.out).mono ?_; rintro e w1 ⟨rfl, rfl⟩)
    | (at_make
       refine wpList_make_n rfl _ _ rfl K K K rfl rfl rfl rfl (by omega) ?_
       intro w1 hX1 hg1 hs1
       have hB1 : Below w.heap.size w w1 := (Below.refl _ _).grown hg1 (Nat.le_refl _) (fun k hk => by cases hk)))
  go_loopw [0, 7] (fun n i wr => ∃ M x : Nat, M ≤ K ∧ n = .int .u64 x ∧ x = N / 256 ^ (K - M) ∧ i = .int .i64 ((M : Int) - 1) ∧ RowB wr w.heap.size 5 (fillBack N K (K - M)) ∧ Below w.heap.size w wr) (fun _ i _ => (intOf i + 1).toNat)
  case atStart => exact ⟨K, N, Nat.le_refl _, rfl, by simp, rfl, by rw [Nat.sub_self]; exact hX1, hB1⟩
  case round =>
    clear hX1 hg1 hs1 hB1
    obtain ⟨M, x, hM, rfl, hx, rfl, hX, hB⟩ := hrel
    have hxb : x < 256 ^ 8 := by rw [hx]; exact Nat.lt_of_le_of_lt (Nat.div_le_self _ _) HN.out
    have HX := Lib.hid hx
    clear hx
    rcases M with _ | m
    · rw [Nat.sub_zero, fillBack_all] at hX
      go_wp2
      go_ret2
      exact ⟨rfl, hX, hB⟩
    · have e : (((m + 1 : Nat) : Int) - 1) = m := by omega
      rw [e]
      have hl : (fillBack N K (K - (m + 1))).length = K := fillBack_length _ _ _
      have hcell := hX.cell m (by omega)
      have hfr := hX.free m
      have hnext : fillBack N K (K - m) = (fillBack N K (K - (m + 1))).set m ((x : Int) % 256) := by
        rw [show K - m = (K - (m + 1)) + 1 by omega, fillBack, HX.out, show K - 1 - (K - (m + 1)) = m by omega]
        rfl
      have hx2 : x / 256 = N / 256 ^ (K - m) := by
        rw [HX.out, show K - m = (K - (m + 1)) + 1 by omega, Nat.div_div_eq_div_mul, Nat.pow_succ]
      have HP := Lib.hid (hX.put m ((x : Int) % 256))
      have HNX := Lib.hid hnext
      have HX2 := Lib.hid hx2
      have HBB := Lib.hid hB
      obtain ⟨c, hc⟩ : ∃ c, c = (fillBack N K (K - (m + 1))).getD m 0 := ⟨_, rfl⟩
      rw [← hc] at hcell
      clear hc e hl hnext hx2 hX hB
      go_wp2
      go_roundw
      case rel =>
        exact ⟨m, x / 256, by omega, by go_num, HX2.out, rfl, by rw [HNX.out]; exact HP.out, HBB.out.setCell (p := ⟨_, m, none⟩) (Nat.le_refl _) _⟩
      case measure => simp [intOf]
theorem put_at (n k : Int) (N K : Nat) (w : World) (hn : n = N) (hk : k = K) (h1 : 1 ≤ K) (h2 : K ≤ 8) (h3 : N < 256 ^ K) :
    Calls Try.prog 34 #[.int .u64 n, .int .i64 k] w fun e w' => e = .returned (.tuple #[.slice (some ⟨w.heap.size, 0, none⟩) K K, .bool true]) ∧ RowB w' w.heap.size 5 (putL N K) ∧ Below w.heap.size w w' := by
  subst hn hk
  exact put_yes N K w h1 h2 h3
theorem fit_nat {n k : Int} (h0 : 0 ≤ n) (h : fitB n k = true) : ∃ N K : Nat, n = N ∧ k = K ∧ 1 ≤ K ∧ K ≤ 8 ∧ N < 256 ^ K := by
  unfold fitB at h
  rw [decide_eq_true_eq] at h
  refine ⟨n.toNat, k.toNat, by omega, by omega, by omega, by omega, h.2.2⟩
theorem fit_of (N K : Nat) (h1 : 1 ≤ K) (h2 : K ≤ 8) (h3 : N < 256 ^ K) : fitB N K = true := by
  unfold fitB
  rw [decide_eq_true_eq]
  exact ⟨by omega, by omega, by simpa using h3⟩
/-- whatever is put: a slice, and whether it fits -/
theorem put_some (n k : Int) (w : World) (h0 : 0 ≤ n) (h1 : n < 18446744073709551616) :
    Calls Try.prog 34 #[.int .u64 n, .int .i64 k] w fun e w' => ∃ V, e = .returned (.tuple #[V, .bool (fitB n k)]) ∧ Below w.heap.size w w' := by
  cases h : fitB n k with
  | false => exact (put_no n k w h0 h1 h).mono fun e w' ⟨he, hw⟩ => ⟨_, he, by subst hw; exact Below.refl _ _⟩
  | true =>
    obtain ⟨N, K, rfl, rfl, h2, h3, h4⟩ := fit_nat h0 h
    exact (put_yes N K w h2 h3 h4).mono fun e w' ⟨he, _, hw⟩ => ⟨_, he, hw⟩
theorem put_b (n k : Int) (b : Bool) (w : World) (h0 : 0 ≤ n) (h1 : n < 18446744073709551616) (h : fitB n k = b) :
    Calls Try.prog 34 #[.int .u64 n, .int .i64 k] w fun e w' => ∃ V, e = .returned (.tuple #[V, .bool b]) ∧ Below w.heap.size w w' := by
  subst h
  exact put_some n k w h0 h1
end Go.Proofs.Ytfjiefhicjnnnaa
