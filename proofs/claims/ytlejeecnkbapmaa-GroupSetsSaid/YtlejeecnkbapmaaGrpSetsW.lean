/- The walk over the law GroupSets: each of the greatest free sets is free, with any group more it is not; they rise. -/
import Derived.Test.YtlejeecnkbapmaaGrpPartW
namespace Go.Proofs.Ytlejeecnkbapmaa
set_option maxRecDepth 100000
set_option linter.unusedVariables false
set_option linter.unusedSimpArgs false
open Go.RowKit

theorem sets_most {m : List Int} {j : Nat} (hm : mayM m = true) (hj : j < (setsM m).length) : ∃ u : Nat, (setsM m).getD j 0 = u ∧ u < 2 ^ m.length ∧ mostM m (u : Int) = true := by
  obtain ⟨u, h1, h2, h3⟩ := (mem_sets hm).1 (List.getElem_mem hj)
  exact ⟨u, by rw [List.getD_eq_getElem?_getD, List.getElem?_eq_getElem hj, Option.getD_some, h1], h2, h3⟩
theorem sets_le {m : List Int} (hm : mayM m = true) : (setsM m).length ≤ 256 := by
  rw [setsM, if_pos hm, List.length_map]
  exact Nat.le_trans (List.length_filter_le _ _) (by rw [List.length_range]; exact pow_le (may_all hm).1.2)
theorem sets_up {m : List Int} {j : Nat} (hj : j + 1 < (setsM m).length) : (setsM m).getD j 0 < (setsM m).getD (j + 1) 0 := by
  have h := List.pairwise_iff_getElem.1 (sets_rise (m := m)) j (j + 1) (by omega) hj (by omega)
  simpa [List.getD_eq_getElem?_getD, hj, show j < (setsM m).length by omega] using h
set_option maxHeartbeats 8000000 in
theorem gsets_rows (HG : GrpOk) (A : Option Addr) (n c : Nat) (m : List Int) (x i : Int) (w : World) (hm : Its .i64 w A n c m) (h1 : 10 < n) :
    Calls Try.prog 6 #[.slice A n c, .int .i64 x, .int .i64 i] w fun e w' => e = .returned (.bool true) ∧ Below w.heap.size w w' := by
  have hns := hm.small
  have h1a : (10 : Int) < n := by omega
  clear hm
  go_enter Try.func6, Try.ntmps6
  go_wp2_with (first
    | (go_at_call 8
       (with_reducible refine (gawake_any HG _).mono ?_)
       rintro e w1 ⟨rfl, hb1⟩
       have HB1 := Lib.hid hb1
       clear hb1))
  go_ret
  exact ⟨rfl, HB1.out⟩
set_option maxHeartbeats 8000000 in
theorem gsets_not (HG : GrpOk) (A : Option Addr) (n c : Nat) (m : List Int) (x i : Int) (w : World) (hm : Its .i64 w A n c m) (h1 : ¬ 10 < n) (hf : mayM m = false) :
    Calls Try.prog 6 #[.slice A n c, .int .i64 x, .int .i64 i] w fun e w' => e = .returned (.bool true) ∧ Below w.heap.size w w' := by
  have hns := hm.small
  have h1a : ¬ (10 : Int) < n := by omega
  have HSE := Lib.hid (fun (X : World) (hX : Below w.heap.size w X) => HG.sets A n c m X (hm.below hX) (by omega))
  have HMY := Lib.hid (fun (X : World) (hX : Below w.heap.size w X) => HG.may A n c m X (hm.below hX) (by omega))
  have HNL := Lib.hid hm.len
  rw [hf] at HMY
  rw [show setsM m = [] by rw [setsM, if_neg (by rw [hf]; simp)]] at HSE
  clear hm hf
  go_enter Try.func6, Try.ntmps6
  go_wp2_with (first
    | (go_at_call 8
       (with_reducible refine (gawake_any HG _).mono ?_)
       rintro e w1 ⟨rfl, hb1⟩
       have HB1 := Lib.hid hb1
       clear hb1)
    | (go_at_call 12
       (with_reducible refine (HSE.out _ HB1.out).mono ?_)
       rintro e w2 ⟨B, k, d, rfl, hi2, hbx⟩
       have HI2 := Lib.hid hi2
       have hk0 := hi2.small
       have HKL := Lib.hid hi2.len
       have HB2 := Lib.hid (HB1.out.trans (hbx.mono HB1.out.size))
       obtain rfl : 0 = k := HKL.out
       clear hbx hi2)
    | (go_at_call 16
       (with_reducible refine (HMY.out _ HB2.out).mono ?_)
       rintro e w3 ⟨rfl, hbx⟩
       have HB3 := Lib.hid (HB2.out.trans (hbx.mono HB2.out.size))
       have HI3 := Lib.hid (HI2.out.below hbx)
       clear hbx))
  go_ret
  exact ⟨rfl, HB3.out⟩
set_option maxHeartbeats 8000000 in
theorem gsets_neg (HG : GrpOk) (A : Option Addr) (n c : Nat) (m : List Int) (x i : Int) (w : World) (hm : Its .i64 w A n c m) (h1 : ¬ 10 < n) (hf : mayM m = true) (h2 : x < 0) :
    Calls Try.prog 6 #[.slice A n c, .int .i64 x, .int .i64 i] w fun e w' => e = .returned (.bool true) ∧ Below w.heap.size w w' := by
  have hns := hm.small
  have h1a : ¬ (10 : Int) < n := by omega
  have HSE := Lib.hid (fun (X : World) (hX : Below w.heap.size w X) => HG.sets A n c m X (hm.below hX) (by omega))
  have HMY := Lib.hid (fun (X : World) (hX : Below w.heap.size w X) => HG.may A n c m X (hm.below hX) (by omega))
  have HNL := Lib.hid hm.len
  rw [hf] at HMY
  have hsl := sets_some hf
  obtain ⟨S, hS⟩ : ∃ x, setsM m = x := ⟨_, rfl⟩
  rw [hS] at hsl HSE
  clear hm hf hS
  go_enter Try.func6, Try.ntmps6
  go_wp2_with (first
    | (go_at_call 8
       (with_reducible refine (gawake_any HG _).mono ?_)
       rintro e w1 ⟨rfl, hb1⟩
       have HB1 := Lib.hid hb1
       clear hb1)
    | (go_at_call 12
       (with_reducible refine (HSE.out _ HB1.out).mono ?_)
       rintro e w2 ⟨B, k, d, rfl, hi2, hbx⟩
       have HI2 := Lib.hid hi2
       have hk0 := hi2.small
       have HKL := Lib.hid hi2.len
       have HB2 := Lib.hid (HB1.out.trans (hbx.mono HB1.out.size))
       have hkp : 0 < k := by rw [← HKL.out]; exact hsl
       have hk1 : ¬ (k : Int) = 0 := by omega
       clear hbx hi2)
    | (go_at_call 16
       (with_reducible refine (HMY.out _ HB2.out).mono ?_)
       rintro e w3 ⟨rfl, hbx⟩
       have HB3 := Lib.hid (HB2.out.trans (hbx.mono HB2.out.size))
       have HI3 := Lib.hid (HI2.out.below hbx)
       clear hbx))
  go_ret
  exact ⟨rfl, HB3.out⟩
set_option maxHeartbeats 8000000 in
theorem gsets_far (HG : GrpOk) (A : Option Addr) (n c : Nat) (m : List Int) (x i : Int) (w : World) (hm : Its .i64 w A n c m) (h1 : ¬ 10 < n) (hf : mayM m = true) (h2 : ¬ x < 0) (h3 : (setsM m).length ≤ x) :
    Calls Try.prog 6 #[.slice A n c, .int .i64 x, .int .i64 i] w fun e w' => e = .returned (.bool true) ∧ Below w.heap.size w w' := by
  have hns := hm.small
  have h1a : ¬ (10 : Int) < n := by omega
  have HSE := Lib.hid (fun (X : World) (hX : Below w.heap.size w X) => HG.sets A n c m X (hm.below hX) (by omega))
  have HMY := Lib.hid (fun (X : World) (hX : Below w.heap.size w X) => HG.may A n c m X (hm.below hX) (by omega))
  have HNL := Lib.hid hm.len
  rw [hf] at HMY
  have hsl := sets_some hf
  obtain ⟨S, hS⟩ : ∃ x, setsM m = x := ⟨_, rfl⟩
  rw [hS] at h3
  rw [hS] at hsl HSE
  clear hm hf hS
  go_enter Try.func6, Try.ntmps6
  go_wp2_with (first
    | (go_at_call 8
       (with_reducible refine (gawake_any HG _).mono ?_)
       rintro e w1 ⟨rfl, hb1⟩
       have HB1 := Lib.hid hb1
       clear hb1)
    | (go_at_call 12
       (with_reducible refine (HSE.out _ HB1.out).mono ?_)
       rintro e w2 ⟨B, k, d, rfl, hi2, hbx⟩
       have HI2 := Lib.hid hi2
       have hk0 := hi2.small
       have HKL := Lib.hid hi2.len
       have HB2 := Lib.hid (HB1.out.trans (hbx.mono HB1.out.size))
       have hkp : 0 < k := by rw [← HKL.out]; exact hsl
       have hk1 : ¬ (k : Int) = 0 := by omega
       have h3a : (k : Int) ≤ x := by have := HKL.out; omega
       clear hbx hi2)
    | (go_at_call 16
       (with_reducible refine (HMY.out _ HB2.out).mono ?_)
       rintro e w3 ⟨rfl, hbx⟩
       have HB3 := Lib.hid (HB2.out.trans (hbx.mono HB2.out.size))
       have HI3 := Lib.hid (HI2.out.below hbx)
       clear hbx))
  go_ret
  exact ⟨rfl, HB3.out⟩
set_option maxHeartbeats 8000000 in
theorem gsets_low (HG : GrpOk) (A : Option Addr) (n c : Nat) (m : List Int) (x i : Int) (w : World) (hm : Its .i64 w A n c m) (h1 : ¬ 10 < n) (hf : mayM m = true) (h2 : ¬ x < 0) (h3 : x < (setsM m).length) (h4 : i < 0) :
    Calls Try.prog 6 #[.slice A n c, .int .i64 x, .int .i64 i] w fun e w' => e = .returned (.bool true) ∧ Below w.heap.size w w' := by
  have hns := hm.small
  have h1a : ¬ (10 : Int) < n := by omega
  have HSE := Lib.hid (fun (X : World) (hX : Below w.heap.size w X) => HG.sets A n c m X (hm.below hX) (by omega))
  have HMY := Lib.hid (fun (X : World) (hX : Below w.heap.size w X) => HG.may A n c m X (hm.below hX) (by omega))
  have HNL := Lib.hid hm.len
  rw [hf] at HMY
  have hsl := sets_some hf
  obtain ⟨S, hS⟩ : ∃ x, setsM m = x := ⟨_, rfl⟩
  rw [hS] at h3
  rw [hS] at hsl HSE
  clear hm hf hS
  go_enter Try.func6, Try.ntmps6
  go_wp2_with (first
    | (go_at_call 8
       (with_reducible refine (gawake_any HG _).mono ?_)
       rintro e w1 ⟨rfl, hb1⟩
       have HB1 := Lib.hid hb1
       clear hb1)
    | (go_at_call 12
       (with_reducible refine (HSE.out _ HB1.out).mono ?_)
       rintro e w2 ⟨B, k, d, rfl, hi2, hbx⟩
       have HI2 := Lib.hid hi2
       have hk0 := hi2.small
       have HKL := Lib.hid hi2.len
       have HB2 := Lib.hid (HB1.out.trans (hbx.mono HB1.out.size))
       have hkp : 0 < k := by rw [← HKL.out]; exact hsl
       have hk1 : ¬ (k : Int) = 0 := by omega
       have h3a : ¬ (k : Int) ≤ x := by have := HKL.out; omega
       clear hbx hi2)
    | (go_at_call 16
       (with_reducible refine (HMY.out _ HB2.out).mono ?_)
       rintro e w3 ⟨rfl, hbx⟩
       have HB3 := Lib.hid (HB2.out.trans (hbx.mono HB2.out.size))
       have HI3 := Lib.hid (HI2.out.below hbx)
       clear hbx))
  go_ret
  exact ⟨rfl, HB3.out⟩
set_option maxHeartbeats 8000000 in
theorem gsets_high (HG : GrpOk) (A : Option Addr) (n c : Nat) (m : List Int) (x i : Int) (w : World) (hm : Its .i64 w A n c m) (h1 : ¬ 10 < n) (hf : mayM m = true) (h2 : ¬ x < 0) (h3 : x < (setsM m).length) (h4 : ¬ i < 0) (h5 : n ≤ i) :
    Calls Try.prog 6 #[.slice A n c, .int .i64 x, .int .i64 i] w fun e w' => e = .returned (.bool true) ∧ Below w.heap.size w w' := by
  have hns := hm.small
  have h1a : ¬ (10 : Int) < n := by omega
  have HSE := Lib.hid (fun (X : World) (hX : Below w.heap.size w X) => HG.sets A n c m X (hm.below hX) (by omega))
  have HMY := Lib.hid (fun (X : World) (hX : Below w.heap.size w X) => HG.may A n c m X (hm.below hX) (by omega))
  have HNL := Lib.hid hm.len
  rw [hf] at HMY
  have hsl := sets_some hf
  obtain ⟨S, hS⟩ : ∃ x, setsM m = x := ⟨_, rfl⟩
  rw [hS] at h3
  rw [hS] at hsl HSE
  clear hm hf hS
  go_enter Try.func6, Try.ntmps6
  go_wp2_with (first
    | (go_at_call 8
       (with_reducible refine (gawake_any HG _).mono ?_)
       rintro e w1 ⟨rfl, hb1⟩
       have HB1 := Lib.hid hb1
       clear hb1)
    | (go_at_call 12
       (with_reducible refine (HSE.out _ HB1.out).mono ?_)
       rintro e w2 ⟨B, k, d, rfl, hi2, hbx⟩
       have HI2 := Lib.hid hi2
       have hk0 := hi2.small
       have HKL := Lib.hid hi2.len
       have HB2 := Lib.hid (HB1.out.trans (hbx.mono HB1.out.size))
       have hkp : 0 < k := by rw [← HKL.out]; exact hsl
       have hk1 : ¬ (k : Int) = 0 := by omega
       have h3a : ¬ (k : Int) ≤ x := by have := HKL.out; omega
       clear hbx hi2)
    | (go_at_call 16
       (with_reducible refine (HMY.out _ HB2.out).mono ?_)
       rintro e w3 ⟨rfl, hbx⟩
       have HB3 := Lib.hid (HB2.out.trans (hbx.mono HB2.out.size))
       have HI3 := Lib.hid (HI2.out.below hbx)
       clear hbx))
  go_ret
  exact ⟨rfl, HB3.out⟩
set_option maxHeartbeats 8000000 in
theorem gsets_maina (HG : GrpOk) (A : Option Addr) (n c : Nat) (m : List Int) (x i : Int) (w : World) (hm : Its .i64 w A n c m) (h1 : ¬ 10 < n) (hf : mayM m = true) (j ii : Nat) (hx : x = 0) (h3 : 0 < (setsM m).length) (hi : i = (ii : Int)) (h5 : ii < n) (u : Nat) (hu : (setsM m).getD (0) 0 = u) (hb : u.testBit ii = false) :
    Calls Try.prog 6 #[.slice A n c, .int .i64 x, .int .i64 i] w fun e w' => e = .returned (.bool true) ∧ Below w.heap.size w w' := by
  have hns := hm.small
  have h1a : ¬ (10 : Int) < n := by omega
  have HSE := Lib.hid (fun (X : World) (hX : Below w.heap.size w X) => HG.sets A n c m X (hm.below hX) (by omega))
  have HMY := Lib.hid (fun (X : World) (hX : Below w.heap.size w X) => HG.may A n c m X (hm.below hX) (by omega))
  have HNL := Lib.hid hm.len
  rw [hf] at HMY
  have hsl := sets_some hf
  obtain ⟨S, hS⟩ : ∃ x, setsM m = x := ⟨_, rfl⟩
  subst hx
  subst hi
  obtain ⟨u0, hu0, hul, hmo⟩ := sets_most (j := 0) hf h3
  obtain rfl : u = u0 := by rw [hu] at hu0; omega
  have hn8 : n ≤ 8 := by have := (may_all hf).1.2; rw [hm.len] at this; exact this
  rw [hm.len] at hul
  have hu8 : u < 256 := by have := pow_le hn8; omega
  obtain ⟨hfr, hno⟩ := most_iff.1 hmo
  have HFR := Lib.hid (fun (X : World) (hX : Below w.heap.size w X) => HG.free A n c m u X (hm.below hX) (by omega))
  rw [hfr] at HFR
  have q0 : 0 ≤ (ii : Int) := by omega
  have q1 : (ii : Int) < n := by omega
  have hP8 : 2 ^ ii ≤ 2 ^ 8 := Nat.pow_le_pow_right (by omega) (by omega)
  have hno2 : freeM m ((u ||| 2 ^ ii : Nat) : Int) = false := by
    have h0 := hno ii (by rw [hm.len]; exact h5)
    rw [bit_nat] at h0
    have e := or_pow8 ⟨u, hu8⟩ ⟨ii, by omega⟩
    simp only [hb, Bool.false_eq_true, if_false] at e
    rw [e]
    cases hq : freeM m ((u + 2 ^ ii : Nat) : Int) with
    | false => rfl
    | true =>
      refine absurd ⟨hb, ?_⟩ h0
      rw [pow_int, ← Int.natCast_add]
      exact hq
  have HF2 := Lib.hid (fun (X : World) (hX : Below w.heap.size w X) => HG.free A n c m ((u ||| 2 ^ ii : Nat) : Int) X (hm.below hX) (by omega))
  rw [hno2] at HF2
  have hor := or_set u (2 ^ ii) (by omega) (by omega)
  have hba := bit_and u ii (by omega)
  rw [hb] at hba
  simp only [Bool.false_eq_true, if_true, if_false] at hba
  have hdv : ((u / 2 ^ ii : Nat) : Int) = (u : Int) / ((2 ^ ii : Nat) : Int) := by simp
  have hfd : (u : Int).fdiv ((2 ^ ii : Nat) : Int) = (u : Int) / ((2 ^ ii : Nat) : Int) := Int.fdiv_eq_ediv_of_nonneg _ (Int.natCast_nonneg _)
  rw [hdv] at hba
  have hpi := pow_int ii
  obtain ⟨P, hPe⟩ : ∃ P : Nat, 2 ^ ii = P := ⟨_, rfl⟩
  rw [hPe] at hba hfd hpi hP8 hor HF2
  have hwp : wrap64 (P : Int) = (P : Int) := by unfold wrap64; omega
  obtain ⟨O, hO⟩ : ∃ O : Int, ((u ||| P : Nat) : Int) = O := ⟨_, rfl⟩
  rw [hO] at hor
  simp only [hO] at HF2
  rw [hS] at hsl HSE h3 hu
  have HU := Lib.hid hu
  clear hm hf hS hu hu0 hul hmo hfr hno hb hdv hPe hP8 hno2 hO
  go_enter Try.func6, Try.ntmps6
  go_wp2_with (first
    | (go_at_call 8
       (with_reducible refine (gawake_any HG _).mono ?_)
       rintro e w1 ⟨rfl, hb1⟩
       have HB1 := Lib.hid hb1
       clear hb1)
    | (go_at_call 12
       (with_reducible refine (HSE.out _ HB1.out).mono ?_)
       rintro e w2 ⟨B, k, d, rfl, hi2, hbx⟩
       have HI2 := Lib.hid hi2
       have hk0 := hi2.small
       have HKL := Lib.hid hi2.len
       have HB2 := Lib.hid (HB1.out.trans (hbx.mono HB1.out.size))
       have hkp : 0 < k := by rw [← HKL.out]; exact h3
       have hk1 : ¬ (k : Int) = 0 := by omega
       have hkb : ((k : Int) == 0) = false := beq_eq_false_iff_ne.2 hk1
       have hib : decide ((ii : Int) < 0) = false := decide_eq_false (by omega)
       have hnb : decide ((n : Int) ≤ ii) = false := decide_eq_false (by omega)
       have hk2 : ¬ (k : Int) ≤ 0 := by omega
       obtain ⟨b, off, rfl, hc⟩ := hi2.at_ (by omega)
       have HC := Lib.hid hc
       clear hc
       clear hbx hi2)
    | (go_at_call 16
       (with_reducible refine (HMY.out _ HB2.out).mono ?_)
       rintro e w3 ⟨rfl, hbx⟩
       have HB3 := Lib.hid (HB2.out.trans (hbx.mono HB2.out.size))
       have HI3 := Lib.hid (HI2.out.below hbx)
       have HC3 := Lib.hid hbx
       have x1 : w3.cell? ⟨b, off, none⟩ = some (.int .i64 (u : Int)) := by rw [← HU.out]; exact ((hbx).cell (p := ⟨b, off, none⟩) (block_lt_of_cell (HC.out _ hkp))).trans (HC.out _ hkp)
       clear hbx)
    | (go_at_call 17
       (with_reducible refine (HFR.out _ HB3.out).mono ?_)
       rintro e w4 ⟨rfl, hbx⟩
       have HB4 := Lib.hid (HB3.out.trans (hbx.mono HB3.out.size))
       have HC4 := Lib.hid (HC3.out.trans (hbx.mono HC3.out.size))
       clear x1
       clear hbx)
    | (go_at_call 17
       (with_reducible refine (HF2.out _ HB4.out).mono ?_)
       rintro e w5 ⟨rfl, hbx⟩
       have HB5 := Lib.hid (HB4.out.trans (hbx.mono HB4.out.size))
       have HC5 := Lib.hid (HC4.out.trans (hbx.mono HC4.out.size))
       clear hbx))
  go_ret
  exact ⟨rfl, HB5.out⟩
set_option maxHeartbeats 8000000 in
theorem gsets_mainb (HG : GrpOk) (A : Option Addr) (n c : Nat) (m : List Int) (x i : Int) (w : World) (hm : Its .i64 w A n c m) (h1 : ¬ 10 < n) (hf : mayM m = true) (j ii : Nat) (hx : x = 0) (h3 : 0 < (setsM m).length) (hi : i = (ii : Int)) (h5 : ii < n) (u : Nat) (hu : (setsM m).getD (0) 0 = u) (hb : u.testBit ii = true) :
    Calls Try.prog 6 #[.slice A n c, .int .i64 x, .int .i64 i] w fun e w' => e = .returned (.bool true) ∧ Below w.heap.size w w' := by
  have hns := hm.small
  have h1a : ¬ (10 : Int) < n := by omega
  have HSE := Lib.hid (fun (X : World) (hX : Below w.heap.size w X) => HG.sets A n c m X (hm.below hX) (by omega))
  have HMY := Lib.hid (fun (X : World) (hX : Below w.heap.size w X) => HG.may A n c m X (hm.below hX) (by omega))
  have HNL := Lib.hid hm.len
  rw [hf] at HMY
  have hsl := sets_some hf
  obtain ⟨S, hS⟩ : ∃ x, setsM m = x := ⟨_, rfl⟩
  subst hx
  subst hi
  obtain ⟨u0, hu0, hul, hmo⟩ := sets_most (j := 0) hf h3
  obtain rfl : u = u0 := by rw [hu] at hu0; omega
  have hn8 : n ≤ 8 := by have := (may_all hf).1.2; rw [hm.len] at this; exact this
  rw [hm.len] at hul
  have hu8 : u < 256 := by have := pow_le hn8; omega
  obtain ⟨hfr, hno⟩ := most_iff.1 hmo
  have HFR := Lib.hid (fun (X : World) (hX : Below w.heap.size w X) => HG.free A n c m u X (hm.below hX) (by omega))
  rw [hfr] at HFR
  have q0 : 0 ≤ (ii : Int) := by omega
  have q1 : (ii : Int) < n := by omega
  have hP8 : 2 ^ ii ≤ 2 ^ 8 := Nat.pow_le_pow_right (by omega) (by omega)
  have hba := bit_and u ii (by omega)
  rw [hb] at hba
  simp only [Bool.false_eq_true, if_true, if_false] at hba
  have hdv : ((u / 2 ^ ii : Nat) : Int) = (u : Int) / ((2 ^ ii : Nat) : Int) := by simp
  have hfd : (u : Int).fdiv ((2 ^ ii : Nat) : Int) = (u : Int) / ((2 ^ ii : Nat) : Int) := Int.fdiv_eq_ediv_of_nonneg _ (Int.natCast_nonneg _)
  rw [hdv] at hba
  have hpi := pow_int ii
  obtain ⟨P, hPe⟩ : ∃ P : Nat, 2 ^ ii = P := ⟨_, rfl⟩
  rw [hPe] at hba hfd hpi hP8
  have hwp : wrap64 (P : Int) = (P : Int) := by unfold wrap64; omega
  rw [hS] at hsl HSE h3 hu
  have HU := Lib.hid hu
  clear hm hf hS hu hu0 hul hmo hfr hno hb hdv hPe hP8
  go_enter Try.func6, Try.ntmps6
  go_wp2_with (first
    | (go_at_call 8
       (with_reducible refine (gawake_any HG _).mono ?_)
       rintro e w1 ⟨rfl, hb1⟩
       have HB1 := Lib.hid hb1
       clear hb1)
    | (go_at_call 12
       (with_reducible refine (HSE.out _ HB1.out).mono ?_)
       rintro e w2 ⟨B, k, d, rfl, hi2, hbx⟩
       have HI2 := Lib.hid hi2
       have hk0 := hi2.small
       have HKL := Lib.hid hi2.len
       have HB2 := Lib.hid (HB1.out.trans (hbx.mono HB1.out.size))
       have hkp : 0 < k := by rw [← HKL.out]; exact h3
       have hk1 : ¬ (k : Int) = 0 := by omega
       have hkb : ((k : Int) == 0) = false := beq_eq_false_iff_ne.2 hk1
       have hib : decide ((ii : Int) < 0) = false := decide_eq_false (by omega)
       have hnb : decide ((n : Int) ≤ ii) = false := decide_eq_false (by omega)
       have hk2 : ¬ (k : Int) ≤ 0 := by omega
       obtain ⟨b, off, rfl, hc⟩ := hi2.at_ (by omega)
       have HC := Lib.hid hc
       clear hc
       clear hbx hi2)
    | (go_at_call 16
       (with_reducible refine (HMY.out _ HB2.out).mono ?_)
       rintro e w3 ⟨rfl, hbx⟩
       have HB3 := Lib.hid (HB2.out.trans (hbx.mono HB2.out.size))
       have HI3 := Lib.hid (HI2.out.below hbx)
       have HC3 := Lib.hid hbx
       have x1 : w3.cell? ⟨b, off, none⟩ = some (.int .i64 (u : Int)) := by rw [← HU.out]; exact ((hbx).cell (p := ⟨b, off, none⟩) (block_lt_of_cell (HC.out _ hkp))).trans (HC.out _ hkp)
       clear hbx)
    | (go_at_call 17
       (with_reducible refine (HFR.out _ HB3.out).mono ?_)
       rintro e w4 ⟨rfl, hbx⟩
       have HB4 := Lib.hid (HB3.out.trans (hbx.mono HB3.out.size))
       have HC4 := Lib.hid (HC3.out.trans (hbx.mono HC3.out.size))
       clear x1
       clear hbx))
  go_ret
  exact ⟨rfl, HB4.out⟩
set_option maxHeartbeats 8000000 in
theorem gsets_mainc (HG : GrpOk) (A : Option Addr) (n c : Nat) (m : List Int) (x i : Int) (w : World) (hm : Its .i64 w A n c m) (h1 : ¬ 10 < n) (hf : mayM m = true) (j ii : Nat) (hx : x = (j : Int) + 1) (h3 : j + 1 < (setsM m).length) (hi : i = (ii : Int)) (h5 : ii < n) (u : Nat) (hu : (setsM m).getD (j + 1) 0 = u) (hb : u.testBit ii = false) :
    Calls Try.prog 6 #[.slice A n c, .int .i64 x, .int .i64 i] w fun e w' => e = .returned (.bool true) ∧ Below w.heap.size w w' := by
  have hns := hm.small
  have h1a : ¬ (10 : Int) < n := by omega
  have HSE := Lib.hid (fun (X : World) (hX : Below w.heap.size w X) => HG.sets A n c m X (hm.below hX) (by omega))
  have HMY := Lib.hid (fun (X : World) (hX : Below w.heap.size w X) => HG.may A n c m X (hm.below hX) (by omega))
  have HNL := Lib.hid hm.len
  rw [hf] at HMY
  have hsl := sets_some hf
  obtain ⟨S, hS⟩ : ∃ x, setsM m = x := ⟨_, rfl⟩
  subst hx
  subst hi
  obtain ⟨u0, hu0, hul, hmo⟩ := sets_most (j := j + 1) hf h3
  obtain rfl : u = u0 := by rw [hu] at hu0; omega
  have hn8 : n ≤ 8 := by have := (may_all hf).1.2; rw [hm.len] at this; exact this
  rw [hm.len] at hul
  have hu8 : u < 256 := by have := pow_le hn8; omega
  obtain ⟨hfr, hno⟩ := most_iff.1 hmo
  have HFR := Lib.hid (fun (X : World) (hX : Below w.heap.size w X) => HG.free A n c m u X (hm.below hX) (by omega))
  rw [hfr] at HFR
  have q0 : 0 ≤ (ii : Int) := by omega
  have q1 : (ii : Int) < n := by omega
  have hP8 : 2 ^ ii ≤ 2 ^ 8 := Nat.pow_le_pow_right (by omega) (by omega)
  have hno2 : freeM m ((u ||| 2 ^ ii : Nat) : Int) = false := by
    have h0 := hno ii (by rw [hm.len]; exact h5)
    rw [bit_nat] at h0
    have e := or_pow8 ⟨u, hu8⟩ ⟨ii, by omega⟩
    simp only [hb, Bool.false_eq_true, if_false] at e
    rw [e]
    cases hq : freeM m ((u + 2 ^ ii : Nat) : Int) with
    | false => rfl
    | true =>
      refine absurd ⟨hb, ?_⟩ h0
      rw [pow_int, ← Int.natCast_add]
      exact hq
  have HF2 := Lib.hid (fun (X : World) (hX : Below w.heap.size w X) => HG.free A n c m ((u ||| 2 ^ ii : Nat) : Int) X (hm.below hX) (by omega))
  rw [hno2] at HF2
  have hor := or_set u (2 ^ ii) (by omega) (by omega)
  have hba := bit_and u ii (by omega)
  rw [hb] at hba
  simp only [Bool.false_eq_true, if_true, if_false] at hba
  have hdv : ((u / 2 ^ ii : Nat) : Int) = (u : Int) / ((2 ^ ii : Nat) : Int) := by simp
  have hfd : (u : Int).fdiv ((2 ^ ii : Nat) : Int) = (u : Int) / ((2 ^ ii : Nat) : Int) := Int.fdiv_eq_ediv_of_nonneg _ (Int.natCast_nonneg _)
  rw [hdv] at hba
  have hpi := pow_int ii
  obtain ⟨P, hPe⟩ : ∃ P : Nat, 2 ^ ii = P := ⟨_, rfl⟩
  rw [hPe] at hba hfd hpi hP8 hor HF2
  have hwp : wrap64 (P : Int) = (P : Int) := by unfold wrap64; omega
  obtain ⟨O, hO⟩ : ∃ O : Int, ((u ||| P : Nat) : Int) = O := ⟨_, rfl⟩
  rw [hO] at hor
  simp only [hO] at HF2
  have hup := sets_up h3
  obtain ⟨v, hv⟩ : ∃ v : Int, (setsM m).getD j 0 = v := ⟨_, rfl⟩
  rw [hu, hv] at hup
  have hsle := sets_le hf
  have hwj : IntKind.i64.wrap ((j : Int) + 1 - 1) = (j : Int) := by rw [IntKind.wrap_i64]; omega
  have hj0 : ¬ ((j : Int) + 1 = 0) := by omega
  have hj1 : ¬ ((j : Int) + 1 < 0) := by omega
  rw [hS] at hv
  have HV := Lib.hid hv
  clear hv hsle
  rw [hS] at hsl HSE h3 hu
  have HU := Lib.hid hu
  clear hm hf hS hu hu0 hul hmo hfr hno hb hdv hPe hP8 hno2 hO
  go_enter Try.func6, Try.ntmps6
  go_wp2_with (first
    | (go_at_call 8
       (with_reducible refine (gawake_any HG _).mono ?_)
       rintro e w1 ⟨rfl, hb1⟩
       have HB1 := Lib.hid hb1
       clear hb1)
    | (go_at_call 12
       (with_reducible refine (HSE.out _ HB1.out).mono ?_)
       rintro e w2 ⟨B, k, d, rfl, hi2, hbx⟩
       have HI2 := Lib.hid hi2
       have hk0 := hi2.small
       have HKL := Lib.hid hi2.len
       have HB2 := Lib.hid (HB1.out.trans (hbx.mono HB1.out.size))
       have hkp : j + 1 < k := by rw [← HKL.out]; exact h3
       have hk1 : ¬ (k : Int) = 0 := by omega
       have hkb : ((k : Int) == 0) = false := beq_eq_false_iff_ne.2 hk1
       have hib : decide ((ii : Int) < 0) = false := decide_eq_false (by omega)
       have hnb : decide ((n : Int) ≤ ii) = false := decide_eq_false (by omega)
       have hk2 : ¬ (k : Int) ≤ (j : Int) + 1 := by omega
       obtain ⟨b, off, rfl, hc⟩ := hi2.at_ (by omega)
       have HC := Lib.hid hc
       clear hc
       clear hbx hi2)
    | (go_at_call 16
       (with_reducible refine (HMY.out _ HB2.out).mono ?_)
       rintro e w3 ⟨rfl, hbx⟩
       have HB3 := Lib.hid (HB2.out.trans (hbx.mono HB2.out.size))
       have HI3 := Lib.hid (HI2.out.below hbx)
       have HC3 := Lib.hid hbx
       have x1 : w3.cell? ⟨b, off + (j + 1), none⟩ = some (.int .i64 (u : Int)) := by rw [← HU.out]; exact ((hbx).cell (p := ⟨b, off + (j + 1), none⟩) (block_lt_of_cell (HC.out _ hkp))).trans (HC.out _ hkp)
       clear hbx)
    | (go_at_call 17
       (with_reducible refine (HFR.out _ HB3.out).mono ?_)
       rintro e w4 ⟨rfl, hbx⟩
       have HB4 := Lib.hid (HB3.out.trans (hbx.mono HB3.out.size))
       have HC4 := Lib.hid (HC3.out.trans (hbx.mono HC3.out.size))
       clear x1
       have x0 : w4.cell? ⟨b, off + j, none⟩ = some (.int .i64 v) := by rw [← HV.out]; exact ((HC4.out).cell (p := ⟨b, off + j, none⟩) (block_lt_of_cell (HC.out j (by omega)))).trans (HC.out j (by omega))
       clear hbx)
    | (go_at_call 17
       (with_reducible refine (HF2.out _ HB4.out).mono ?_)
       rintro e w5 ⟨rfl, hbx⟩
       have HB5 := Lib.hid (HB4.out.trans (hbx.mono HB4.out.size))
       have HC5 := Lib.hid (HC4.out.trans (hbx.mono HC4.out.size))
       clear x0
       have x0 : w5.cell? ⟨b, off + j, none⟩ = some (.int .i64 v) := by rw [← HV.out]; exact ((HC5.out).cell (p := ⟨b, off + j, none⟩) (block_lt_of_cell (HC.out j (by omega)))).trans (HC.out j (by omega))
       clear hbx))
  go_ret
  exact ⟨rfl, HB5.out⟩
set_option maxHeartbeats 8000000 in
theorem gsets_maind (HG : GrpOk) (A : Option Addr) (n c : Nat) (m : List Int) (x i : Int) (w : World) (hm : Its .i64 w A n c m) (h1 : ¬ 10 < n) (hf : mayM m = true) (j ii : Nat) (hx : x = (j : Int) + 1) (h3 : j + 1 < (setsM m).length) (hi : i = (ii : Int)) (h5 : ii < n) (u : Nat) (hu : (setsM m).getD (j + 1) 0 = u) (hb : u.testBit ii = true) :
    Calls Try.prog 6 #[.slice A n c, .int .i64 x, .int .i64 i] w fun e w' => e = .returned (.bool true) ∧ Below w.heap.size w w' := by
  have hns := hm.small
  have h1a : ¬ (10 : Int) < n := by omega
  have HSE := Lib.hid (fun (X : World) (hX : Below w.heap.size w X) => HG.sets A n c m X (hm.below hX) (by omega))
  have HMY := Lib.hid (fun (X : World) (hX : Below w.heap.size w X) => HG.may A n c m X (hm.below hX) (by omega))
  have HNL := Lib.hid hm.len
  rw [hf] at HMY
  have hsl := sets_some hf
  obtain ⟨S, hS⟩ : ∃ x, setsM m = x := ⟨_, rfl⟩
  subst hx
  subst hi
  obtain ⟨u0, hu0, hul, hmo⟩ := sets_most (j := j + 1) hf h3
  obtain rfl : u = u0 := by rw [hu] at hu0; omega
  have hn8 : n ≤ 8 := by have := (may_all hf).1.2; rw [hm.len] at this; exact this
  rw [hm.len] at hul
  have hu8 : u < 256 := by have := pow_le hn8; omega
  obtain ⟨hfr, hno⟩ := most_iff.1 hmo
  have HFR := Lib.hid (fun (X : World) (hX : Below w.heap.size w X) => HG.free A n c m u X (hm.below hX) (by omega))
  rw [hfr] at HFR
  have q0 : 0 ≤ (ii : Int) := by omega
  have q1 : (ii : Int) < n := by omega
  have hP8 : 2 ^ ii ≤ 2 ^ 8 := Nat.pow_le_pow_right (by omega) (by omega)
  have hba := bit_and u ii (by omega)
  rw [hb] at hba
  simp only [Bool.false_eq_true, if_true, if_false] at hba
  have hdv : ((u / 2 ^ ii : Nat) : Int) = (u : Int) / ((2 ^ ii : Nat) : Int) := by simp
  have hfd : (u : Int).fdiv ((2 ^ ii : Nat) : Int) = (u : Int) / ((2 ^ ii : Nat) : Int) := Int.fdiv_eq_ediv_of_nonneg _ (Int.natCast_nonneg _)
  rw [hdv] at hba
  have hpi := pow_int ii
  obtain ⟨P, hPe⟩ : ∃ P : Nat, 2 ^ ii = P := ⟨_, rfl⟩
  rw [hPe] at hba hfd hpi hP8
  have hwp : wrap64 (P : Int) = (P : Int) := by unfold wrap64; omega
  have hup := sets_up h3
  obtain ⟨v, hv⟩ : ∃ v : Int, (setsM m).getD j 0 = v := ⟨_, rfl⟩
  rw [hu, hv] at hup
  have hsle := sets_le hf
  have hwj : IntKind.i64.wrap ((j : Int) + 1 - 1) = (j : Int) := by rw [IntKind.wrap_i64]; omega
  have hj0 : ¬ ((j : Int) + 1 = 0) := by omega
  have hj1 : ¬ ((j : Int) + 1 < 0) := by omega
  rw [hS] at hv
  have HV := Lib.hid hv
  clear hv hsle
  rw [hS] at hsl HSE h3 hu
  have HU := Lib.hid hu
  clear hm hf hS hu hu0 hul hmo hfr hno hb hdv hPe hP8
  go_enter Try.func6, Try.ntmps6
  go_wp2_with (first
    | (go_at_call 8
       (with_reducible refine (gawake_any HG _).mono ?_)
       rintro e w1 ⟨rfl, hb1⟩
       have HB1 := Lib.hid hb1
       clear hb1)
    | (go_at_call 12
       (with_reducible refine (HSE.out _ HB1.out).mono ?_)
       rintro e w2 ⟨B, k, d, rfl, hi2, hbx⟩
       have HI2 := Lib.hid hi2
       have hk0 := hi2.small
       have HKL := Lib.hid hi2.len
       have HB2 := Lib.hid (HB1.out.trans (hbx.mono HB1.out.size))
       have hkp : j + 1 < k := by rw [← HKL.out]; exact h3
       have hk1 : ¬ (k : Int) = 0 := by omega
       have hkb : ((k : Int) == 0) = false := beq_eq_false_iff_ne.2 hk1
       have hib : decide ((ii : Int) < 0) = false := decide_eq_false (by omega)
       have hnb : decide ((n : Int) ≤ ii) = false := decide_eq_false (by omega)
       have hk2 : ¬ (k : Int) ≤ (j : Int) + 1 := by omega
       obtain ⟨b, off, rfl, hc⟩ := hi2.at_ (by omega)
       have HC := Lib.hid hc
       clear hc
       clear hbx hi2)
    | (go_at_call 16
       (with_reducible refine (HMY.out _ HB2.out).mono ?_)
       rintro e w3 ⟨rfl, hbx⟩
       have HB3 := Lib.hid (HB2.out.trans (hbx.mono HB2.out.size))
       have HI3 := Lib.hid (HI2.out.below hbx)
       have HC3 := Lib.hid hbx
       have x1 : w3.cell? ⟨b, off + (j + 1), none⟩ = some (.int .i64 (u : Int)) := by rw [← HU.out]; exact ((hbx).cell (p := ⟨b, off + (j + 1), none⟩) (block_lt_of_cell (HC.out _ hkp))).trans (HC.out _ hkp)
       clear hbx)
    | (go_at_call 17
       (with_reducible refine (HFR.out _ HB3.out).mono ?_)
       rintro e w4 ⟨rfl, hbx⟩
       have HB4 := Lib.hid (HB3.out.trans (hbx.mono HB3.out.size))
       have HC4 := Lib.hid (HC3.out.trans (hbx.mono HC3.out.size))
       clear x1
       have x0 : w4.cell? ⟨b, off + j, none⟩ = some (.int .i64 v) := by rw [← HV.out]; exact ((HC4.out).cell (p := ⟨b, off + j, none⟩) (block_lt_of_cell (HC.out j (by omega)))).trans (HC.out j (by omega))
       clear hbx))
  go_ret
  exact ⟨rfl, HB4.out⟩
theorem gsets_any (HG : GrpOk) (A : Option Addr) (n c : Nat) (m : List Int) (x i : Int) (w : World) (hm : Its .i64 w A n c m) :
    Calls Try.prog 6 #[.slice A n c, .int .i64 x, .int .i64 i] w fun e w' => e = .returned (.bool true) ∧ Below w.heap.size w w' := by
  by_cases h1 : 10 < n
  · exact gsets_rows HG A n c m x i w hm h1
  · cases hf : mayM m with
    | false => exact gsets_not HG A n c m x i w hm h1 hf
    | true =>
      by_cases h2 : x < 0
      · exact gsets_neg HG A n c m x i w hm h1 hf h2
      · by_cases h3 : ((setsM m).length : Int) ≤ x
        · exact gsets_far HG A n c m x i w hm h1 hf h2 h3
        · by_cases h4 : i < 0
          · exact gsets_low HG A n c m x i w hm h1 hf h2 (by omega) h4
          · by_cases h5 : (n : Int) ≤ i
            · exact gsets_high HG A n c m x i w hm h1 hf h2 (by omega) h4 h5
            · obtain ⟨ii, hi⟩ := Int.eq_ofNat_of_zero_le (show 0 ≤ i by omega)
              obtain ⟨j, hj⟩ := Int.eq_ofNat_of_zero_le (show 0 ≤ x by omega)
              obtain ⟨u, hu, -, -⟩ := sets_most (j := j) hf (by omega)
              cases j with
              | zero =>
                cases hb : u.testBit ii with
                | false => exact gsets_maina HG A n c m x i w hm h1 hf 0 ii hj (by omega) hi (by omega) u hu hb
                | true => exact gsets_mainb HG A n c m x i w hm h1 hf 0 ii hj (by omega) hi (by omega) u hu hb
              | succ j =>
                cases hb : u.testBit ii with
                | false => exact gsets_mainc HG A n c m x i w hm h1 hf j ii (by rw [hj]; simp) (by omega) hi (by omega) u hu hb
                | true => exact gsets_maind HG A n c m x i w hm h1 hf j ii (by rw [hj]; simp) (by omega) hi (by omega) u hu hb
end Go.Proofs.Ytlejeecnkbapmaa
