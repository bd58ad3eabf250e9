/- The walk over package num's Get: the number of some bytes. -/
import Derived.Test.YtfjiefhicjnnnaaNumPut
import Derived.WalkMore
import Derived.ScopeJumps
namespace Go.Proofs.Ytfjiefhicjnnnaa
set_option linter.unusedVariables false
set_option linter.unusedSimpArgs false
open Go.RowKit

/-- may a number be read there? -/
def mayGet (n at_ k : Int) : Bool := decide (1 ≤ k ∧ k ≤ 8 ∧ 0 ≤ at_ ∧ at_ + k ≤ n)

set_option maxHeartbeats 1000000 in
theorem get_no (A : Option Addr) (n c : Nat) (l : List Int) (at_ k : Int) (w : World) (hb : Bts w A n c l) (ha0 : -9223372036854775808 ≤ at_) (ha1 : at_ ≤ 9223372036854775807) (hk0 : -9223372036854775808 ≤ k) (hk1 : k ≤ 9223372036854775807) (h : mayGet n at_ k = false) :
    Calls Try.prog 37 #[.slice A n c, .int .i64 at_, .int .i64 k] w fun e w' => e = .returned (.tuple #[.int .u64 0, .int .i64 (-1)]) ∧ w = w' := by
  have hn := hb.small
  have h' : ¬ (1 ≤ k ∧ k ≤ 8 ∧ 0 ≤ at_ ∧ at_ + k ≤ n) := by
    unfold mayGet at h; simpa using h
  clear h
  by_cases h1 : 1 ≤ k ∧ k ≤ 8
  · obtain ⟨h1, h2⟩ := h1
    by_cases h3 : 0 ≤ at_
    · have h4 : n - at_ < k := by omega
      clear h'
      go_enter Try.func37, Try.ntmps37
      go_wp2
      go_step3
      go_wp2_with (go_at_call 43; refine (size_yes _ _ (by omega) (by omega)).mono ?_; rintro e w1 ⟨rfl, rfl⟩)
      rw [Exit.noGoto_ret]
      go_ret2
      exact ⟨rfl, rfl⟩
    · have h4 : at_ < 0 := by omega
      clear h' h3
      go_enter Try.func37, Try.ntmps37
      go_wp2
      go_step3
      go_wp2_with (go_at_call 43; refine (size_yes _ _ (by omega) (by omega)).mono ?_; rintro e w1 ⟨rfl, rfl⟩)
      rw [Exit.noGoto_ret]
      go_ret2
      exact ⟨rfl, rfl⟩
  · have h4 : k < 1 ∨ 8 < k := by omega
    clear h' h1
    go_enter Try.func37, Try.ntmps37
    go_wp2
    go_step3
    go_wp2_with (go_at_call 43; refine (size_no _ _ h4).mono ?_; rintro e w1 ⟨rfl, rfl⟩)
    rw [Exit.noGoto_ret]
    go_ret2
    exact ⟨rfl, rfl⟩

theorem orStep (y : Nat) (z : Int) (hy : y < 256 ^ 7) (h0 : 0 ≤ z) (h1 : z < 256) : bits .or .u64 (IntKind.u64.wrap ((y : Int) * 256)) z = ((256 * y + z.toNat : Nat) : Int) := by
  obtain ⟨x, rfl⟩ := Int.eq_ofNat_of_zero_le h0
  have e : IntKind.u64.wrap ((y : Int) * 256) = ((256 * y : Nat) : Int) := by
    rw [IntKind.wrap_u64]
    omega
  have hx : x < 2 ^ 8 := by omega
  rw [e, u64_or_nat _ _ (by omega) (by omega), Int.toNat_natCast]
  have := Nat.two_pow_add_eq_or_of_lt hx y
  rw [show 2 ^ 8 = 256 by rfl] at this
  rw [this]
theorem orStart (z : Int) (h0 : 0 ≤ z) (h1 : z < 256) : bits .or .u64 0 z = ((z.toNat : Nat) : Int) := by
  have := orStep 0 z (by omega) h0 h1
  simpa [IntKind.wrap_u64] using this
theorem num_one (l : List Int) (a : Nat) (h : a < l.length) : numL ((l.drop a).take 1) = (l.getD a 0).toNat := by
  rw [List.drop_eq_getElem_cons h, List.take_succ_cons, List.take_zero]
  simp [numL, numOf, h]
theorem num_next (l : List Int) (a j : Nat) (h : a + j < l.length) : numL ((l.drop a).take (j + 1)) = 256 * numL ((l.drop a).take j) + (l.getD (a + j) 0).toNat := by
  rw [List.take_succ_eq_append_getElem (by rw [List.length_drop]; omega), numL, numOf_snoc, numL]
  simp [h]
theorem mem_ok {l : List Int} (h : ∀ j, 0 ≤ l.getD j 0 ∧ l.getD j 0 < 256) : ∀ x ∈ l, 0 ≤ x ∧ x < 256 := by
  intro x hx
  obtain ⟨i, hi, rfl⟩ := List.getElem_of_mem hx
  have := h i
  simpa [List.getD_eq_getElem?_getD, hi] using this

set_option maxHeartbeats 1000000 in
theorem get_yes (A : Option Addr) (n c : Nat) (l : List Int) (at_ k : Nat) (w : World) (hb : Bts w A n c l) (h1 : 1 ≤ k) (h2 : k ≤ 8) (h3 : at_ + k ≤ n) :
    Calls Try.prog 37 #[.slice A n c, .int .i64 at_, .int .i64 k] w fun e w' => e = .returned (.tuple #[.int .u64 (numL ((l.drop at_).take k)), .int .i64 ((at_ + k : Nat) : Int)]) ∧ w = w' := by
  have hn := hb.small
  obtain ⟨b, off, rfl, hc⟩ := hb.at_ (by omega)
  have h4 : (at_ : Int) + k ≤ n := by omega
  go_enter Try.func37, Try.ntmps37
  go_wp2
  obtain ⟨x, hx⟩ : ∃ x, x = l.getD at_ 0 := ⟨_, rfl⟩
  have hc0 := hc at_ (by omega)
  rw [← hx] at hc0
  obtain ⟨hx0, hx1⟩ := hb.ok at_
  rw [← hx] at hx0 hx1
  have HX := Lib.hid hx
  have HC := Lib.hid hc
  have HO := Lib.hid hb.ok
  have HL := Lib.hid hb.len
  clear hx hc hb
  refine wp_scope_jumps 0 (fun a' w' => w = w' ∧ ∃ (j : Nat) (y : Nat) (u10 u11 u12 u13 u14 u15 u16 u17 u18 u19 u20 u21 u22 u23 u24 u25 u26 u27 u28 u29 u30 u31 u32 u33 u34 u35 u36 u37 u38 u39 u40 : Value), a' = { tmps := #[.slice (some ⟨b, off, none⟩) n c, .int .i64 ((at_ + j : Nat) : Int), .int .i64 k, undef, undef, undef, .int .u64 0, .int .i64 0, .int .i64 ((at_ : Int) + k), .int .u64 y, u10, u11, u12, u13, u14, u15, u16, u17, u18, u19, u20, u21, u22, u23, u24, u25, u26, u27, u28, u29, u30, u31, u32, u33, u34, u35, u36, u37, u38, u39, u40, undef, undef], defers := [] } ∧ 1 ≤ j ∧ j < k ∧ y = numL ((l.drop at_).take j)) (fun a' _ => (at_ + k - intOf (a'.tmps.getD 1 undef)).toNat) rfl ?_ ?_
  · go_wp2_with (go_at_call 43; refine (size_yes _ _ (by omega) (by omega)).mono ?_; rintro e w1 ⟨rfl, rfl⟩)
    go_step3
    go_wp2
    · go_step3
      rw [orStart x hx0 hx1]
      refine ⟨rfl, rfl, 1, x.toNat, _, _, _, _, _, _, _, _, _, _, _, _, _, _, _, _, _, _, _, _, _, _, _, _, _, _, _, _, _, _, _, rfl, by omega, by omega, ?_⟩
      rw [num_one l at_ (by rw [HL.out]; omega), HX.out]
    · simp only [Exit.jump]
      go_ret2
      rw [orStart x hx0 hx1]
      obtain rfl : k = 1 := by omega
      rw [num_one l at_ (by rw [HL.out]; omega), HX.out]
      exact ⟨rfl, rfl⟩
  · rintro a' w' ⟨rfl, j, y, u10, u11, u12, u13, u14, u15, u16, u17, u18, u19, u20, u21, u22, u23, u24, u25, u26, u27, u28, u29, u30, u31, u32, u33, u34, u35, u36, u37, u38, u39, u40, rfl, hj1, hjk, hy⟩
    have hcj := HC.out (at_ + j) (by omega)
    obtain ⟨z, hz⟩ : ∃ z, z = l.getD (at_ + j) 0 := ⟨_, rfl⟩
    rw [← hz] at hcj
    obtain ⟨hz0, hz1⟩ := HO.out (at_ + j)
    rw [← hz] at hz0 hz1
    have hy8 : y < 256 ^ 7 := by
      have hb := numL_bound ((l.drop at_).take j) (fun x hx => mem_ok HO.out x (List.mem_of_mem_drop (List.mem_of_mem_take hx)))
      rw [← hy] at hb
      refine Nat.lt_of_lt_of_le hb (Nat.pow_le_pow_right (by omega) ?_)
      rw [List.length_take]
      omega
    have hst := orStep y z hy8 hz0 hz1
    have hnx : 256 * y + z.toNat = numL ((l.drop at_).take (j + 1)) := by
      rw [num_next l at_ j (by rw [HL.out]; omega), hy, hz]
    have HST := Lib.hid hst
    have HNX := Lib.hid hnx
    clear hy hz hy8 hst hnx
    go_wp2
    · go_step3
      rw [HST.out]
      refine ⟨rfl, ⟨rfl, j + 1, 256 * y + z.toNat, _, _, _, _, _, _, _, _, _, _, _, _, _, _, _, _, _, _, _, _, _, _, _, _, _, _, _, _, _, _, _, rfl, by omega, by omega, HNX.out⟩, ?_⟩
      simp [intOf]
      omega
    · simp only [Exit.jump]
      go_ret2
      rw [HST.out, HNX.out]
      obtain rfl : k = j + 1 := by omega
      exact ⟨rfl, rfl⟩
theorem get_at (A : Option Addr) (n c : Nat) (l : List Int) (i j : Int) (at_ k : Nat) (w : World) (hi : i = at_) (hj : j = k) (hb : Bts w A n c l) (h1 : 1 ≤ k) (h2 : k ≤ 8) (h3 : at_ + k ≤ n) :
    Calls Try.prog 37 #[.slice A n c, .int .i64 i, .int .i64 j] w fun e w' => e = .returned (.tuple #[.int .u64 (numL ((l.drop at_).take k)), .int .i64 ((at_ + k : Nat) : Int)]) ∧ w = w' := by
  subst hi hj
  exact get_yes A n c l at_ k w hb h1 h2 h3
end Go.Proofs.Ytfjiefhicjnnnaa
