/- The walk over the law GroupAgainst: a set is free just if none of its groups is against it. -/
import Derived.Test.YtlejeecnkbapmaaGrpSetsW
namespace Go.Proofs.Ytlejeecnkbapmaa
set_option maxRecDepth 100000
set_option linter.unusedVariables false
set_option linter.unusedSimpArgs false
open Go.RowKit

set_option maxHeartbeats 8000000 in
theorem gagn_rows (HG : GrpOk) (A : Option Addr) (n c : Nat) (m : List Int) (s i k : Int) (w : World) (hm : Its .i64 w A n c m) (h1 : 10 < n) :
    Calls Try.prog 5 #[.slice A n c, .int .i64 s, .int .i64 i, .int .i64 k] w fun e w' => e = .returned (.bool true) ∧ Below w.heap.size w w' := by
  have hns := hm.small
  have h1a : (10 : Int) < n := by omega
  clear hm
  go_enter Try.func5, Try.ntmps5
  go_wp2_with (first
    | (go_at_call 8
       (with_reducible refine (gawake_any HG _).mono ?_)
       rintro e w1 ⟨rfl, hb1⟩
       have HB1 := Lib.hid hb1
       clear hb1))
  go_ret
  exact ⟨rfl, HB1.out⟩
set_option maxHeartbeats 8000000 in
theorem gagn_not (HG : GrpOk) (A : Option Addr) (n c : Nat) (m : List Int) (s i k : Int) (w : World) (hm : Its .i64 w A n c m) (h1 : ¬ 10 < n) (hf : mayM m = false) :
    Calls Try.prog 5 #[.slice A n c, .int .i64 s, .int .i64 i, .int .i64 k] w fun e w' => e = .returned (.bool true) ∧ Below w.heap.size w w' := by
  have hns := hm.small
  have h1a : ¬ (10 : Int) < n := by omega
  have HMY := Lib.hid (fun (X : World) (hX : Below w.heap.size w X) => HG.may A n c m X (hm.below hX) (by omega))
  rw [hf] at HMY
  clear hm hf
  go_enter Try.func5, Try.ntmps5
  go_wp2_with (first
    | (go_at_call 8
       (with_reducible refine (gawake_any HG _).mono ?_)
       rintro e w1 ⟨rfl, hb1⟩
       have HB1 := Lib.hid hb1
       clear hb1)
    | (go_at_call 16
       (with_reducible refine (HMY.out _ HB1.out).mono ?_)
       rintro e w2 ⟨rfl, hbx⟩
       have HB2 := Lib.hid (HB1.out.trans (hbx.mono HB1.out.size))
       clear hbx))
  go_ret
  exact ⟨rfl, HB2.out⟩
set_option maxHeartbeats 8000000 in
theorem gagn_a (HG : GrpOk) (A : Option Addr) (n c : Nat) (m : List Int) (s i k : Int) (w : World) (hm : Its .i64 w A n c m) (h1 : ¬ 10 < n) (hf : mayM m = true) (h2 : i < 0) :
    Calls Try.prog 5 #[.slice A n c, .int .i64 s, .int .i64 i, .int .i64 k] w fun e w' => e = .returned (.bool true) ∧ Below w.heap.size w w' := by
  have hns := hm.small
  have h1a : ¬ (10 : Int) < n := by omega
  have HMY := Lib.hid (fun (X : World) (hX : Below w.heap.size w X) => HG.may A n c m X (hm.below hX) (by omega))
  rw [hf] at HMY
  clear hm hf
  go_enter Try.func5, Try.ntmps5
  go_wp2_with (first
    | (go_at_call 8
       (with_reducible refine (gawake_any HG _).mono ?_)
       rintro e w1 ⟨rfl, hb1⟩
       have HB1 := Lib.hid hb1
       clear hb1)
    | (go_at_call 16
       (with_reducible refine (HMY.out _ HB1.out).mono ?_)
       rintro e w2 ⟨rfl, hbx⟩
       have HB2 := Lib.hid (HB1.out.trans (hbx.mono HB1.out.size))
       clear hbx))
  go_ret
  exact ⟨rfl, HB2.out⟩
set_option maxHeartbeats 8000000 in
theorem gagn_b (HG : GrpOk) (A : Option Addr) (n c : Nat) (m : List Int) (s i k : Int) (w : World) (hm : Its .i64 w A n c m) (h1 : ¬ 10 < n) (hf : mayM m = true) (h2 : ¬ i < 0) (h3 : k < 0) :
    Calls Try.prog 5 #[.slice A n c, .int .i64 s, .int .i64 i, .int .i64 k] w fun e w' => e = .returned (.bool true) ∧ Below w.heap.size w w' := by
  have hns := hm.small
  have h1a : ¬ (10 : Int) < n := by omega
  have HMY := Lib.hid (fun (X : World) (hX : Below w.heap.size w X) => HG.may A n c m X (hm.below hX) (by omega))
  rw [hf] at HMY
  clear hm hf
  go_enter Try.func5, Try.ntmps5
  go_wp2_with (first
    | (go_at_call 8
       (with_reducible refine (gawake_any HG _).mono ?_)
       rintro e w1 ⟨rfl, hb1⟩
       have HB1 := Lib.hid hb1
       clear hb1)
    | (go_at_call 16
       (with_reducible refine (HMY.out _ HB1.out).mono ?_)
       rintro e w2 ⟨rfl, hbx⟩
       have HB2 := Lib.hid (HB1.out.trans (hbx.mono HB1.out.size))
       clear hbx))
  go_ret
  exact ⟨rfl, HB2.out⟩
set_option maxHeartbeats 8000000 in
theorem gagn_c (HG : GrpOk) (A : Option Addr) (n c : Nat) (m : List Int) (s i k : Int) (w : World) (hm : Its .i64 w A n c m) (h1 : ¬ 10 < n) (hf : mayM m = true) (h2 : ¬ i < 0) (h3 : ¬ k < 0) (h4 : (n : Int) ≤ i) :
    Calls Try.prog 5 #[.slice A n c, .int .i64 s, .int .i64 i, .int .i64 k] w fun e w' => e = .returned (.bool true) ∧ Below w.heap.size w w' := by
  have hns := hm.small
  have h1a : ¬ (10 : Int) < n := by omega
  have HMY := Lib.hid (fun (X : World) (hX : Below w.heap.size w X) => HG.may A n c m X (hm.below hX) (by omega))
  rw [hf] at HMY
  clear hm hf
  go_enter Try.func5, Try.ntmps5
  go_wp2_with (first
    | (go_at_call 8
       (with_reducible refine (gawake_any HG _).mono ?_)
       rintro e w1 ⟨rfl, hb1⟩
       have HB1 := Lib.hid hb1
       clear hb1)
    | (go_at_call 16
       (with_reducible refine (HMY.out _ HB1.out).mono ?_)
       rintro e w2 ⟨rfl, hbx⟩
       have HB2 := Lib.hid (HB1.out.trans (hbx.mono HB1.out.size))
       clear hbx))
  go_ret
  exact ⟨rfl, HB2.out⟩
set_option maxHeartbeats 8000000 in
theorem gagn_d (HG : GrpOk) (A : Option Addr) (n c : Nat) (m : List Int) (s i k : Int) (w : World) (hm : Its .i64 w A n c m) (h1 : ¬ 10 < n) (hf : mayM m = true) (h2 : ¬ i < 0) (h3 : ¬ k < 0) (h4 : ¬ (n : Int) ≤ i) (h5 : (n : Int) ≤ k) :
    Calls Try.prog 5 #[.slice A n c, .int .i64 s, .int .i64 i, .int .i64 k] w fun e w' => e = .returned (.bool true) ∧ Below w.heap.size w w' := by
  have hns := hm.small
  have h1a : ¬ (10 : Int) < n := by omega
  have HMY := Lib.hid (fun (X : World) (hX : Below w.heap.size w X) => HG.may A n c m X (hm.below hX) (by omega))
  rw [hf] at HMY
  clear hm hf
  go_enter Try.func5, Try.ntmps5
  go_wp2_with (first
    | (go_at_call 8
       (with_reducible refine (gawake_any HG _).mono ?_)
       rintro e w1 ⟨rfl, hb1⟩
       have HB1 := Lib.hid hb1
       clear hb1)
    | (go_at_call 16
       (with_reducible refine (HMY.out _ HB1.out).mono ?_)
       rintro e w2 ⟨rfl, hbx⟩
       have HB2 := Lib.hid (HB1.out.trans (hbx.mono HB1.out.size))
       clear hbx))
  go_ret
  exact ⟨rfl, HB2.out⟩
set_option maxHeartbeats 8000000 in
theorem gagn_low (HG : GrpOk) (A : Option Addr) (n c : Nat) (m : List Int) (s i k : Int) (w : World) (hm : Its .i64 w A n c m) (h1 : ¬ 10 < n) (hf : mayM m = true) (ii kk : Nat) (hi : i = (ii : Int)) (hk : k = (kk : Int)) (h4 : ii < n) (h5 : kk < n) (h6 : s < 0) :
    Calls Try.prog 5 #[.slice A n c, .int .i64 s, .int .i64 i, .int .i64 k] w fun e w' => e = .returned (.bool true) ∧ Below w.heap.size w w' := by
  have hns := hm.small
  have h1a : ¬ (10 : Int) < n := by omega
  have HMY := Lib.hid (fun (X : World) (hX : Below w.heap.size w X) => HG.may A n c m X (hm.below hX) (by omega))
  rw [hf] at HMY
  subst hi
  subst hk
  have q0 : decide ((ii : Int) < 0) = false := decide_eq_false (by omega)
  have q1 : decide ((kk : Int) < 0) = false := decide_eq_false (by omega)
  have q2 : decide ((n : Int) ≤ ii) = false := decide_eq_false (by omega)
  have q3 : decide ((n : Int) ≤ kk) = false := decide_eq_false (by omega)
  have p0 : 0 ≤ (ii : Int) := by omega
  have p1 : 0 ≤ (kk : Int) := by omega
  have p2 : ¬ (n : Int) ≤ ii := by omega
  have p3 : ¬ (n : Int) ≤ kk := by omega
  have hn8 : n ≤ 8 := by have := (may_all hf).1.2; rw [hm.len] at this; exact this
  have hnl := hm.len
  have HAG := Lib.hid (fun (X : World) (hX : Below w.heap.size w X) => HG.against A n c m s X (hm.below hX) (by omega))
  have HFR := Lib.hid (fun (X : World) (hX : Below w.heap.size w X) => HG.free A n c m s X (hm.below hX) (by omega))
  rw [against_bad (m := m) (.inr (.inl h6))] at HAG
  rw [free_bad (m := m) (.inr (.inl h6))] at HFR
  clear hm hf
  go_enter Try.func5, Try.ntmps5
  go_wp2_with (first
    | (go_at_call 8
       (with_reducible refine (gawake_any HG _).mono ?_)
       rintro e w1 ⟨rfl, hb1⟩
       have HB1 := Lib.hid hb1
       clear hb1)
    | (go_at_call 16
       (with_reducible refine (HMY.out _ HB1.out).mono ?_)
       rintro e w2 ⟨rfl, hbx⟩
       have HB2 := Lib.hid (HB1.out.trans (hbx.mono HB1.out.size))
       clear hbx)
    | (go_at_call 18
       (with_reducible refine (HAG.out _ HB2.out).mono ?_)
       rintro e w3 ⟨rfl, hbx⟩
       have HB3 := Lib.hid (HB2.out.trans (hbx.mono HB2.out.size))
       clear hbx)
    | (go_at_call 17
       (with_reducible refine (HFR.out _ HB3.out).mono ?_)
       rintro e w4 ⟨rfl, hbx⟩
       have HB4 := Lib.hid (HB3.out.trans (hbx.mono HB3.out.size))
       clear hbx))
  go_ret
  exact ⟨rfl, HB4.out⟩
set_option maxHeartbeats 8000000 in
theorem gagn_high (HG : GrpOk) (A : Option Addr) (n c : Nat) (m : List Int) (s i k : Int) (w : World) (hm : Its .i64 w A n c m) (h1 : ¬ 10 < n) (hf : mayM m = true) (ii kk : Nat) (hi : i = (ii : Int)) (hk : k = (kk : Int)) (h4 : ii < n) (h5 : kk < n) (h6 : ¬ s < 0) (h7 : ((2 ^ n : Nat) : Int) ≤ s) :
    Calls Try.prog 5 #[.slice A n c, .int .i64 s, .int .i64 i, .int .i64 k] w fun e w' => e = .returned (.bool true) ∧ Below w.heap.size w w' := by
  have hns := hm.small
  have h1a : ¬ (10 : Int) < n := by omega
  have HMY := Lib.hid (fun (X : World) (hX : Below w.heap.size w X) => HG.may A n c m X (hm.below hX) (by omega))
  rw [hf] at HMY
  subst hi
  subst hk
  have q0 : decide ((ii : Int) < 0) = false := decide_eq_false (by omega)
  have q1 : decide ((kk : Int) < 0) = false := decide_eq_false (by omega)
  have q2 : decide ((n : Int) ≤ ii) = false := decide_eq_false (by omega)
  have q3 : decide ((n : Int) ≤ kk) = false := decide_eq_false (by omega)
  have p0 : 0 ≤ (ii : Int) := by omega
  have p1 : 0 ≤ (kk : Int) := by omega
  have p2 : ¬ (n : Int) ≤ ii := by omega
  have p3 : ¬ (n : Int) ≤ kk := by omega
  have hn8 : n ≤ 8 := by have := (may_all hf).1.2; rw [hm.len] at this; exact this
  have hnl := hm.len
  have HAG := Lib.hid (fun (X : World) (hX : Below w.heap.size w X) => HG.against A n c m s X (hm.below hX) (by omega))
  have HFR := Lib.hid (fun (X : World) (hX : Below w.heap.size w X) => HG.free A n c m s X (hm.below hX) (by omega))
  rw [against_bad (m := m) (.inr (.inr (by rw [hnl]; exact h7)))] at HAG
  rw [free_bad (m := m) (.inr (.inr (by rw [hnl]; exact h7)))] at HFR
  have hpn := pow_int n
  have h256 := pow_le hn8
  obtain ⟨PN, hPN⟩ : ∃ P : Nat, 2 ^ n = P := ⟨_, rfl⟩
  rw [hPN] at hpn h7 h256
  have hwn : wrap64 (PN : Int) = (PN : Int) := by unfold wrap64; omega
  clear hm hf hPN hnl
  go_enter Try.func5, Try.ntmps5
  go_wp2_with (first
    | (go_at_call 8
       (with_reducible refine (gawake_any HG _).mono ?_)
       rintro e w1 ⟨rfl, hb1⟩
       have HB1 := Lib.hid hb1
       clear hb1)
    | (go_at_call 16
       (with_reducible refine (HMY.out _ HB1.out).mono ?_)
       rintro e w2 ⟨rfl, hbx⟩
       have HB2 := Lib.hid (HB1.out.trans (hbx.mono HB1.out.size))
       clear hbx)
    | (go_at_call 18
       (with_reducible refine (HAG.out _ HB2.out).mono ?_)
       rintro e w3 ⟨rfl, hbx⟩
       have HB3 := Lib.hid (HB2.out.trans (hbx.mono HB2.out.size))
       clear hbx)
    | (go_at_call 17
       (with_reducible refine (HFR.out _ HB3.out).mono ?_)
       rintro e w4 ⟨rfl, hbx⟩
       have HB4 := Lib.hid (HB3.out.trans (hbx.mono HB3.out.size))
       clear hbx))
  go_ret
  exact ⟨rfl, HB4.out⟩
set_option maxHeartbeats 8000000 in
theorem gagn_main (HG : GrpOk) (A : Option Addr) (n c : Nat) (m : List Int) (s i k : Int) (w : World) (hm : Its .i64 w A n c m) (h1 : ¬ 10 < n) (hf : mayM m = true) (ii kk : Nat) (hi : i = (ii : Int)) (hk : k = (kk : Int)) (h4 : ii < n) (h5 : kk < n) (t : Nat) (hs : s = (t : Int)) (h6 : t < 2 ^ n) :
    Calls Try.prog 5 #[.slice A n c, .int .i64 s, .int .i64 i, .int .i64 k] w fun e w' => e = .returned (.bool true) ∧ Below w.heap.size w w' := by
  have hns := hm.small
  have h1a : ¬ (10 : Int) < n := by omega
  have HMY := Lib.hid (fun (X : World) (hX : Below w.heap.size w X) => HG.may A n c m X (hm.below hX) (by omega))
  rw [hf] at HMY
  subst hi
  subst hk
  have q0 : decide ((ii : Int) < 0) = false := decide_eq_false (by omega)
  have q1 : decide ((kk : Int) < 0) = false := decide_eq_false (by omega)
  have q2 : decide ((n : Int) ≤ ii) = false := decide_eq_false (by omega)
  have q3 : decide ((n : Int) ≤ kk) = false := decide_eq_false (by omega)
  have p0 : 0 ≤ (ii : Int) := by omega
  have p1 : 0 ≤ (kk : Int) := by omega
  have p2 : ¬ (n : Int) ≤ ii := by omega
  have p3 : ¬ (n : Int) ≤ kk := by omega
  have hn8 : n ≤ 8 := by have := (may_all hf).1.2; rw [hm.len] at this; exact this
  have hnl := hm.len
  have HAG := Lib.hid (fun (X : World) (hX : Below w.heap.size w X) => HG.against A n c m s X (hm.below hX) (by omega))
  have HFR := Lib.hid (fun (X : World) (hX : Below w.heap.size w X) => HG.free A n c m s X (hm.below hX) (by omega))
  subst hs
  have htl : t < 2 ^ m.length := by rw [hnl]; exact h6
  have h256 : 2 ^ n ≤ 256 := pow_le hn8
  have hi8 : 2 ^ ii < 2 ^ n := Nat.pow_lt_pow_right (by omega) h4
  have hk8 : 2 ^ kk < 2 ^ n := Nat.pow_lt_pow_right (by omega) h5
  have hor : t ||| 2 ^ ii < 2 ^ n := Nat.or_lt_two_pow h6 hi8
  have hal := sumN_lt (hitM m (t : Int)) m.length
  have h1l := sumN_lt (hitM m ((2 ^ ii : Nat) : Int)) m.length
  have h2l := sumN_lt (hitM m ((2 ^ kk : Nat) : Int)) m.length
  have hA1 := Lib.hid (fun (X : World) (hX : Below w.heap.size w X) => HG.against A n c m ((2 ^ ii : Nat) : Int) X (hm.below hX) (by omega))
  have hA2 := Lib.hid (fun (X : World) (hX : Below w.heap.size w X) => HG.against A n c m ((2 ^ kk : Nat) : Int) X (hm.below hX) (by omega))
  have hA3 := Lib.hid (fun (X : World) (hX : Below w.heap.size w X) => HG.against A n c m ((t ||| 2 ^ ii : Nat) : Int) X (hm.below hX) (by omega))
  rw [against_some hf htl] at HAG
  rw [against_some hf (by rw [hnl]; exact hi8)] at hA1
  rw [against_some hf (by rw [hnl]; exact hk8)] at hA2
  rw [against_some hf (by rw [hnl]; exact hor), against_more] at hA3
  rw [free_against hf htl] at HFR
  have hb1 := against_one (m := m) (i := ii) (k := kk) (by rw [hnl]; exact h4) (by rw [hnl]; exact h5)
  have hb2 := against_one (m := m) (i := kk) (k := ii) (by rw [hnl]; exact h5) (by rw [hnl]; exact h4)
  have hb3 := against_one (m := m) (i := ii) (k := ii) (by rw [hnl]; exact h4) (by rw [hnl]; exact h4)
  obtain ⟨-, -, hev⟩ := may_all hf
  have hsy := (hev ii (by rw [hnl]; exact h4) kk (by rw [hnl]; exact h5)).1
  have hse := (hev ii (by rw [hnl]; exact h4) ii (by rw [hnl]; exact h4)).2
  have hse2 : meetM m ii ii = false := by
    cases hq : meetM m ii ii with
    | false => rfl
    | true => exact absurd ⟨hq, rfl⟩ hse
  rw [hse2] at hb3
  rw [← hsy] at hb2
  rw [hnl] at hal h1l h2l HAG hA1 hA2 hA3 HFR hb1 hb2 hb3
  obtain ⟨a0, ha0⟩ : ∃ x, sumN (hitM m (t : Int)) n = x := ⟨_, rfl⟩
  obtain ⟨o1, ho1⟩ : ∃ x, sumN (hitM m ((2 ^ ii : Nat) : Int)) n = x := ⟨_, rfl⟩
  obtain ⟨o2, ho2⟩ : ∃ x, sumN (hitM m ((2 ^ kk : Nat) : Int)) n = x := ⟨_, rfl⟩
  rw [ha0] at hal HAG hA3 HFR
  rw [ho1] at h1l hA1 hA3 hb1 hb3
  rw [ho2] at h2l hA2 hb2
  have h19a := bit_and o1 kk (by omega)
  have h24a := bit_and o2 ii (by omega)
  have h32a := bit_and o1 ii (by omega)
  rw [hb1] at h19a
  rw [hb2] at h24a
  rw [hb3] at h32a
  have h12a := or_set a0 o1 (by omega) (by omega)
  have h5a := and_set a0 t (by omega) (by omega)
  have hora := or_set t (2 ^ ii) (by omega) (by omega)
  have hdv : ∀ x y : Nat, ((x / y : Nat) : Int) = (x : Int) / (y : Int) := fun x y => by simp
  rw [hdv] at h19a h24a h32a
  have fd1 : (o1 : Int).fdiv ((2 ^ kk : Nat) : Int) = (o1 : Int) / ((2 ^ kk : Nat) : Int) := Int.fdiv_eq_ediv_of_nonneg _ (Int.natCast_nonneg _)
  have fd2 : (o2 : Int).fdiv ((2 ^ ii : Nat) : Int) = (o2 : Int) / ((2 ^ ii : Nat) : Int) := Int.fdiv_eq_ediv_of_nonneg _ (Int.natCast_nonneg _)
  have fd3 : (o1 : Int).fdiv ((2 ^ ii : Nat) : Int) = (o1 : Int) / ((2 ^ ii : Nat) : Int) := Int.fdiv_eq_ediv_of_nonneg _ (Int.natCast_nonneg _)
  have hpi := pow_int ii
  have hpk := pow_int kk
  have hbn : ∀ p : Nat, p < 2 ^ n → wrap64 (p : Int) = (p : Int) := fun p hp => by unfold wrap64; omega
  have hwi := hbn _ hi8
  have hwk := hbn _ hk8
  have hat : ¬ ((a0 : Nat) : Int) < 0 := by omega
  obtain ⟨F, hF⟩ : ∃ F, decide (a0 &&& t = 0) = F := ⟨_, rfl⟩
  rw [hF] at HFR
  have h6a : (((a0 &&& t : Nat) : Int) == 0) = F := by
    rw [← hF, Bool.eq_iff_iff, beq_iff_eq, decide_eq_true_iff]
    omega
  obtain ⟨B, hB⟩ : ∃ B, meetM m ii kk = B := ⟨_, rfl⟩
  rw [hB] at h19a h24a
  obtain ⟨V1, hV⟩ : ∃ V : Int, (if B = true then (1 : Int) else 0) = V := ⟨_, rfl⟩
  rw [hV] at h19a h24a
  have h20a : (V1 == 1) = B := by rw [← hV]; cases B <;> rfl
  clear hV
  obtain ⟨V2, hV2⟩ : ∃ V : Int, V1 = V := ⟨_, rfl⟩
  rw [hV2] at h24a
  have h25a : (V2 == 1) = B := by rw [← hV2]; exact h20a
  simp only [Bool.false_eq_true, if_false] at h32a
  clear hV2
  obtain ⟨AN, hAN⟩ : ∃ x : Int, ((a0 &&& t : Nat) : Int) = x := ⟨_, rfl⟩
  rw [hAN] at h5a h6a
  obtain ⟨MO, hMO⟩ : ∃ x : Int, ((a0 ||| o1 : Nat) : Int) = x := ⟨_, rfl⟩
  rw [hMO] at h12a hA3
  obtain ⟨OR, hOR⟩ : ∃ x : Int, ((t ||| 2 ^ ii : Nat) : Int) = x := ⟨_, rfl⟩
  rw [hOR] at hora hA3
  obtain ⟨P, hP⟩ : ∃ x : Int, ((2 ^ ii : Nat) : Int) = x := ⟨_, rfl⟩
  obtain ⟨PK, hPK⟩ : ∃ x : Int, ((2 ^ kk : Nat) : Int) = x := ⟨_, rfl⟩
  simp only [hP] at hA1 hora h24a h32a fd2 fd3 hpi hwi
  simp only [hPK] at hA2 h19a fd1 hpk hwk
  obtain ⟨AT, hAT⟩ : ∃ x : Int, (a0 : Int) = x := ⟨_, rfl⟩
  obtain ⟨O1, hO1⟩ : ∃ x : Int, (o1 : Int) = x := ⟨_, rfl⟩
  obtain ⟨O2, hO2⟩ : ∃ x : Int, (o2 : Int) = x := ⟨_, rfl⟩
  simp only [hAT] at HAG h12a h5a hat
  simp only [hO1] at hA1 h12a h19a h32a fd1 fd3
  simp only [hO2] at hA2 h24a fd2
  obtain ⟨s, hs⟩ : ∃ x : Int, (t : Int) = x := ⟨_, rfl⟩
  rw [hs] at HAG HFR hora h5a ⊢
  have h5h := Lib.hid h5a
  have h6h := Lib.hid h6a
  have h12h := Lib.hid h12a
  have h19h := Lib.hid h19a
  have h20h := Lib.hid h20a
  have h24h := Lib.hid h24a
  have h25h := Lib.hid h25a
  have h32h := Lib.hid h32a
  clear hm hf htl h256 hi8 hk8 hor hal h1l h2l hb1 hb2 hb3 hev hsy hse hse2 ha0 ho1 ho2 hdv hbn hF hB hAN hMO hOR hP hPK hAT hO1 hO2 hs h5a h6a h12a h19a h20a h24a h25a h32a hnl h6 hn8
  go_enter Try.func5, Try.ntmps5
  go_wp2_with (first
    | (go_at_call 8
       (with_reducible refine (gawake_any HG _).mono ?_)
       rintro e w1 ⟨rfl, hb1⟩
       have HB1 := Lib.hid hb1
       clear hb1)
    | (go_at_call 16
       (with_reducible refine (HMY.out _ HB1.out).mono ?_)
       rintro e w2 ⟨rfl, hbx⟩
       have HB2 := Lib.hid (HB1.out.trans (hbx.mono HB1.out.size))
       clear hbx)
    | (go_at_call 18
       (with_reducible refine (HAG.out _ HB2.out).mono ?_)
       rintro e w3 ⟨rfl, hbx⟩
       have HB3 := Lib.hid (HB2.out.trans (hbx.mono HB2.out.size))
       clear hbx)
    | (go_at_call 18
       (with_reducible refine (hA1.out _ HB3.out).mono ?_)
       rintro e w4 ⟨rfl, hbx⟩
       have HB4 := Lib.hid (HB3.out.trans (hbx.mono HB3.out.size))
       clear hbx)
    | (go_at_call 18
       (with_reducible refine (hA2.out _ HB4.out).mono ?_)
       rintro e w5 ⟨rfl, hbx⟩
       have HB5 := Lib.hid (HB4.out.trans (hbx.mono HB4.out.size))
       clear hbx)
    | (go_at_call 18
       (with_reducible refine (hA3.out _ HB5.out).mono ?_)
       rintro e w6 ⟨rfl, hbx⟩
       have HB6 := Lib.hid (HB5.out.trans (hbx.mono HB5.out.size))
       clear hbx))
  have hSd : Below w.heap.size w w6.drew := HB6.out.drew
  refine wp_region_held_drew (S := fun X => Below w.heap.size w X) (by kernel_rfl) hSd (fun hHeld => ?_)
  refine tk 0 (.slice A n c) hHeld (fun w' => ?_) ?_
  · go_simp
  simp only [PT]
  refine tk 1 (.int .i64 s) hHeld (fun w' => ?_) ?_
  · go_simp
  simp only [PT]
  refine tk 3 (.int .i64 AT) hHeld (fun w' => ?_) ?_
  · go_simp
  simp only [PT]
  refine tk 4 (.int .i64 s) hHeld (fun w' => ?_) ?_
  · go_simp
  simp only [PT]
  refine tk 5 (.int .i64 AN) hHeld (fun w' => ?_) ?_
  · have hq := h5h.out
    go_simp
  simp only [PT]
  refine tk 6 (.bool F) hHeld (fun w' => ?_) ?_
  · have hq := h6h.out
    go_simp
  simp only [PT]
  refine one_step 2 (by kernel_rfl) rfl (fun Kq hKq => ?_)
  go_simp
  go_at_call 17
  refine (HFR.out _ hSd).mono ?_
  rintro e w7 ⟨rfl, hbx⟩
  have hS7 : Below w.heap.size w w7 := hSd.trans (hbx.mono hSd.size)
  clear hbx
  refine hKq.out _ _ hS7 (fun hHeld0 => ?_)
  clear hKq Kq hHeld
  have hHeld := hHeld0
  clear hHeld0
  try simp only [PT]
  refine tk 7 (.bool true) hHeld (fun w' => ?_) ?_
  · go_simp
  simp only [PT]
  refine tk 8 (.bool true) hHeld (fun w' => ?_) ?_
  · go_simp
  simp only [PT]
  refine tk 9 (.int .i64 MO) hHeld (fun w' => ?_) ?_
  · go_simp
  simp only [PT]
  refine tk 10 (.int .i64 AT) hHeld (fun w' => ?_) ?_
  · go_simp
  simp only [PT]
  refine tk 11 (.int .i64 O1) hHeld (fun w' => ?_) ?_
  · go_simp
  simp only [PT]
  refine tk 12 (.int .i64 MO) hHeld (fun w' => ?_) ?_
  · have hq := h12h.out
    go_simp
  simp only [PT]
  refine tk 13 (.bool true) hHeld (fun w' => ?_) ?_
  · go_simp
  simp only [PT]
  refine tk 14 (.bool true) hHeld (fun w' => ?_) ?_
  · go_simp
  simp only [PT]
  refine tk 15 (.bool true) hHeld (fun w' => ?_) ?_
  · go_simp
  simp only [PT]
  refine tk 16 (.int .i64 O1) hHeld (fun w' => ?_) ?_
  · go_simp
  simp only [PT]
  refine tk 17 (.int .i64 kk) hHeld (fun w' => ?_) ?_
  · go_simp
  simp only [PT]
  refine tk 18 (.int .i64 (O1 / PK)) hHeld (fun w' => ?_) ?_
  · have hq := hpk
    have hq2 := fd1
    go_simp
  simp only [PT]
  refine tk 19 (.int .i64 V1) hHeld (fun w' => ?_) ?_
  · have hq := h19h.out
    go_simp
  simp only [PT]
  refine tk 20 (.bool B) hHeld (fun w' => ?_) ?_
  · have hq := h20h.out
    go_simp
  simp only [PT]
  refine tk 21 (.int .i64 O2) hHeld (fun w' => ?_) ?_
  · go_simp
  simp only [PT]
  refine tk 22 (.int .i64 ii) hHeld (fun w' => ?_) ?_
  · go_simp
  simp only [PT]
  refine tk 23 (.int .i64 (O2 / P)) hHeld (fun w' => ?_) ?_
  · have hq := hpi
    have hq2 := fd2
    go_simp
  simp only [PT]
  refine tk 24 (.int .i64 V2) hHeld (fun w' => ?_) ?_
  · have hq := h24h.out
    go_simp
  simp only [PT]
  refine tk 25 (.bool B) hHeld (fun w' => ?_) ?_
  · have hq := h25h.out
    go_simp
  simp only [PT]
  refine tk 26 (.bool true) hHeld (fun w' => ?_) ?_
  · go_simp
  simp only [PT]
  refine tk 27 (.bool true) hHeld (fun w' => ?_) ?_
  · go_simp
  simp only [PT]
  refine tk 28 (.bool true) hHeld (fun w' => ?_) ?_
  · go_simp
  simp only [PT]
  refine tk 29 (.int .i64 O1) hHeld (fun w' => ?_) ?_
  · go_simp
  simp only [PT]
  refine tk 30 (.int .i64 ii) hHeld (fun w' => ?_) ?_
  · go_simp
  simp only [PT]
  refine tk 31 (.int .i64 (O1 / P)) hHeld (fun w' => ?_) ?_
  · have hq := hpi
    have hq2 := fd3
    go_simp
  simp only [PT]
  refine tk 32 (.int .i64 0) hHeld (fun w' => ?_) ?_
  · have hq := h32h.out
    go_simp
  simp only [PT]
  refine tk 33 (.bool true) hHeld (fun w' => ?_) ?_
  · go_simp
  simp only [PT]
  refine tk 34 (.bool true) hHeld (fun w' => ?_) ?_
  · go_simp
  simp only [PT]
  refine tk 35 (.bool true) hHeld (fun w' => ?_) ?_
  · go_simp
  simp only [PT]
  refine wpAnyH_done (by kernel_rfl) ?_ _
  have HB7 := Lib.hid hS7
  clear hHeld hSd hS7
  go_wp2
  go_ret
  exact ⟨rfl, HB7.out⟩
theorem gagn_any (HG : GrpOk) (A : Option Addr) (n c : Nat) (m : List Int) (s i k : Int) (w : World) (hm : Its .i64 w A n c m) :
    Calls Try.prog 5 #[.slice A n c, .int .i64 s, .int .i64 i, .int .i64 k] w fun e w' => e = .returned (.bool true) ∧ Below w.heap.size w w' := by
  by_cases h1 : 10 < n
  · exact gagn_rows HG A n c m s i k w hm h1
  · cases hf : mayM m with
    | false => exact gagn_not HG A n c m s i k w hm h1 hf
    | true =>
      by_cases h2 : i < 0
      · exact gagn_a HG A n c m s i k w hm h1 hf h2
      · by_cases h3 : k < 0
        · exact gagn_b HG A n c m s i k w hm h1 hf h2 h3
        · by_cases h4 : (n : Int) ≤ i
          · exact gagn_c HG A n c m s i k w hm h1 hf h2 h3 h4
          · by_cases h5 : (n : Int) ≤ k
            · exact gagn_d HG A n c m s i k w hm h1 hf h2 h3 h4 h5
            · obtain ⟨ii, hi⟩ := Int.eq_ofNat_of_zero_le (show 0 ≤ i by omega)
              obtain ⟨kk, hk⟩ := Int.eq_ofNat_of_zero_le (show 0 ≤ k by omega)
              by_cases h6 : s < 0
              · exact gagn_low HG A n c m s i k w hm h1 hf ii kk hi hk (by omega) (by omega) h6
              · by_cases h7 : ((2 ^ n : Nat) : Int) ≤ s
                · exact gagn_high HG A n c m s i k w hm h1 hf ii kk hi hk (by omega) (by omega) h6 h7
                · obtain ⟨t, hs⟩ := Int.eq_ofNat_of_zero_le (show 0 ≤ s by omega)
                  exact gagn_main HG A n c m s i k w hm h1 hf ii kk hi hk (by omega) (by omega) t hs (by rw [hs] at h7; omega)
end Go.Proofs.Ytlejeecnkbapmaa
