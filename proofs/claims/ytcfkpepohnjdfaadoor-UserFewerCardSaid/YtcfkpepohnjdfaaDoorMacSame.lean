/- The walk over package mac's Same: two texts, held against one another to the end. -/
import Derived.Test.YtcfkpepohnjdfaaDoorMacRow
import Derived.BigQuiet
namespace Go.Proofs.YtcfkpepohnjdfaaDoor
open Go.RowKit

/-- what the first k bytes differ in -/
def orAcc (a b : List Int) : Nat → Int
  | 0 => 0
  | k + 1 => bits .or .u8 (orAcc a b k) (bits .xor .u8 (a.getD k 0) (b.getD k 0))
theorem or_u8_range (a x : Int) : 0 ≤ bits .or .u8 a x ∧ bits .or .u8 a x < 256 := by
  have h : ∃ y : Int, bits .or .u8 a x = IntKind.u8.wrap y := ⟨_, rfl⟩
  obtain ⟨y, h⟩ := h
  rw [h, IntKind.wrap_u8']
  omega
theorem orAcc_range (a b : List Int) (k : Nat) : 0 ≤ orAcc a b k ∧ orAcc a b k < 256 := by
  cases k with
  | zero => simp [orAcc]
  | succ k => exact or_u8_range _ _
theorem nat_or_zero (x y : Nat) : x ||| y = 0 ↔ x = 0 ∧ y = 0 := by
  constructor
  · intro h
    refine ⟨?_, ?_⟩
    · have := @Nat.left_le_or x y
      omega
    · have := @Nat.right_le_or x y
      omega
  · rintro ⟨rfl, rfl⟩
    rfl
theorem nat_xor_zero (x y : Nat) : x ^^^ y = 0 ↔ x = y := by
  constructor
  · intro h
    have h2 : x ^^^ (x ^^^ y) = x := by rw [h, Nat.xor_zero]
    rw [← Nat.xor_assoc, Nat.xor_self, Nat.zero_xor] at h2
    exact h2.symm
  · rintro rfl
    exact Nat.xor_self _
theorem or_zero (x y : Int) (hx : 0 ≤ x ∧ x < 256) (hy : 0 ≤ y ∧ y < 256) : bits .or .u8 x y = 0 ↔ x = 0 ∧ y = 0 := by
  rw [u8_or x y hx.1 hx.2 hy.1 hy.2]
  have := nat_or_zero x.toNat y.toNat
  omega
theorem xor_zero (x y : Int) (hx : 0 ≤ x ∧ x < 256) (hy : 0 ≤ y ∧ y < 256) : bits .xor .u8 x y = 0 ↔ x = y := by
  rw [u8_xor x y hx.1 hx.2 hy.1 hy.2]
  have := nat_xor_zero x.toNat y.toNat
  omega
theorem orAcc_zero (a b : List Int) (ha : ∀ j, 0 ≤ a.getD j 0 ∧ a.getD j 0 < 256) (hb : ∀ j, 0 ≤ b.getD j 0 ∧ b.getD j 0 < 256) (k : Nat) : orAcc a b k = 0 ↔ ∀ j, j < k → a.getD j 0 = b.getD j 0 := by
  induction k with
  | zero => simp [orAcc]
  | succ k ih =>
    rw [orAcc, or_zero _ _ (orAcc_range a b k) (xor_u8_range _ _), ih, xor_zero _ _ (ha k) (hb k)]
    constructor
    · rintro ⟨h1, h2⟩ j hj
      by_cases e : j = k
      · rw [e]; exact h2
      · exact h1 j (by omega)
    · intro h
      exact ⟨fun j hj => h j (by omega), h k (by omega)⟩
theorem same_eq (a b : List Int) (ha : ∀ j, 0 ≤ a.getD j 0 ∧ a.getD j 0 < 256) (hb : ∀ j, 0 ≤ b.getD j 0 ∧ b.getD j 0 < 256) (n : Nat) (hn : a.length = n) (hm : b.length = n) : (orAcc a b n == 0) = (a == b) := by
  rw [Bool.eq_iff_iff, beq_iff_eq, beq_iff_eq, orAcc_zero a b ha hb]
  constructor
  · intro h
    exact ext_getD (hn.trans hm.symm) (fun j hj => h j (by omega))
  · rintro rfl j _
    rfl
theorem not_same (a b : List Int) (h : a.length ≠ b.length) : false = (a == b) := by
  rw [eq_comm, beq_eq_false_iff_ne]
  rintro rfl
  exact h rfl

set_option maxHeartbeats 1000000 in
theorem msame_any (A B : Option Addr) (n c m d : Nat) (a b : List Int) (w : World) (ha : Bts w A n c a) (hb : Bts w B m d b) :
    Calls Tryd.prog 30 #[.slice A n c, .slice B m d] w fun e w' => e = .returned (.bool (a == b)) ∧ ∃ j, w' = w.drewN j := by
  have hna : n ≤ 9223372036854775807 := Nat.le_trans ha.le (by have := ha.max; unfold maxLen at this; omega)
  have hmb : m ≤ 9223372036854775807 := Nat.le_trans hb.le (by have := hb.max; unfold maxLen at this; omega)
  by_cases hnm : n = m
  · subst hnm
    have hres := same_eq a b ha.ok hb.ok n ha.len hb.len
    have hne : ((n : Int) != (n : Int)) = false := by simp
    have HR := Lib.hid hres
    clear hres
    go_enter Tryd.func30, Tryd.ntmps30
    go_wp2
    go_loopw [5, 14] (fun v i wr => ∃ k : Nat, k ≤ n ∧ i = .int .i64 k ∧ v = .int .u8 (orAcc a b k) ∧ ∃ j, wr = w.drewN j) (fun _ i _ => n - (intOf i).toNat)
    case atStart => exact ⟨0, by omega, rfl, rfl, 0, rfl⟩
    case round =>
      obtain ⟨k, hk, rfl, rfl, j, rfl⟩ := hrel
      by_cases hlt : k < n
      · obtain ⟨ba, oa, rfl, hca⟩ := ha.at_ (by omega)
        obtain ⟨bb, ob, rfl, hcb⟩ := hb.at_ (by omega)
        have hxa := hca k hlt
        have hxb := hcb k hlt
        obtain ⟨x, hx⟩ : ∃ x, x = a.getD k 0 := ⟨_, rfl⟩
        obtain ⟨y, hy⟩ : ∃ y, y = b.getD k 0 := ⟨_, rfl⟩
        obtain ⟨acc, hacc⟩ : ∃ z, z = orAcc a b k := ⟨_, rfl⟩
        have hnext : orAcc a b (k + 1) = bits .or .u8 acc (bits .xor .u8 x y) := by rw [orAcc, hx, hy, hacc]
        rw [← hacc]
        rw [← hx] at hxa
        rw [← hy] at hxb
        have hp0 : 0 ≤ (k : Int) := by omega
        have hp1 : (k : Int) < n := by omega
        have HN := Lib.hid hnext
        clear hx hy hacc hnext hca hcb
        go_wp2
        go_quiet (fail)
        go_wp2
        go_roundw
        case rel => exact ⟨k + 1, by omega, by go_num, by rw [HN.out], _, rfl⟩
        case measure => simp [intOf]; omega
      · have hkn : k = n := by omega
        subst hkn
        have hge : ¬ ((k : Int) < k) := by omega
        go_wp2
        go_ret
        exact ⟨congrArg (fun b => Ending.returned (Value.bool b)) HR.out, _, rfl⟩
  · have hne : ((n : Int) != (m : Int)) = true := by rw [bne_iff_ne]; omega
    have hres := not_same a b (by rw [ha.len, hb.len]; exact hnm)
    have HR := Lib.hid hres
    clear hres hnm
    go_enter Tryd.func30, Tryd.ntmps30
    go_wp2
    go_ret
    exact ⟨congrArg (fun b => Ending.returned (Value.bool b)) HR.out, 0, rfl⟩
end Go.Proofs.YtcfkpepohnjdfaaDoor
