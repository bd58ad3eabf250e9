/- The walk over the law GroupPart: each free set is part of one of the greatest, and what is part of one is free. -/
import Derived.Test.YtlejeecnkbapmaaGrpAwake
namespace Go.Proofs.Ytlejeecnkbapmaa
set_option maxRecDepth 100000
set_option linter.unusedVariables false
set_option linter.unusedSimpArgs false
open Go.RowKit

theorem and_nat64 (a b : Nat) (ha : a < 9223372036854775808) (hb : b < 9223372036854775808) : bits .and .i64 (a : Int) (b : Int) = ((a &&& b : Nat) : Int) := by
  have hx : a &&& b ≤ a := Nat.and_le_left
  show IntKind.i64.wrap ((BitVec.ofInt 64 (a : Int) &&& BitVec.ofInt 64 (b : Int)).toNat : Int) = _
  rw [BitVec.toNat_and, ofInt_nat64 a ha, ofInt_nat64 b hb, IntKind.wrap_i64]
  omega
def anyUp (L : List Int) (t j : Nat) : Bool := (List.range j).any fun i => decide ((L.getD i 0).toNat &&& t = t)
theorem up_next (L : List Int) (t j : Nat) : anyUp L t (j + 1) = (anyUp L t j || decide ((L.getD j 0).toNat &&& t = t)) := by
  simp [anyUp, List.range_succ]
theorem up_all {m : List Int} {t : Nat} (h : freeM m (t : Int) = true) : anyUp (setsM m) t (setsM m).length = true := by
  obtain ⟨hm, hin, -⟩ := free_iff.1 h
  obtain ⟨t2, e, htl⟩ := set_nat hin
  obtain rfl : t = t2 := by omega
  obtain ⟨u, h1, h2, h3⟩ := grow hm _ t (Nat.le_refl _) h htl
  obtain ⟨i, hi, he⟩ := List.getElem_of_mem ((mem_sets hm).2 ⟨u, rfl, h1, h2⟩)
  rw [anyUp, List.any_eq_true]
  refine ⟨i, List.mem_range.2 hi, decide_eq_true ?_⟩
  rw [List.getD_eq_getElem?_getD, List.getElem?_eq_getElem hi, Option.getD_some, he]
  exact h3
theorem sets_at {m : List Int} {j : Nat} (hm : mayM m = true) (hj : j < (setsM m).length) : ∃ u : Nat, (setsM m).getD j 0 = u ∧ u < 256 := by
  obtain ⟨u, h1, h2, -⟩ := (mem_sets hm).1 (List.getElem_mem hj)
  have h8 := pow_le (may_all hm).1.2
  exact ⟨u, by rw [List.getD_eq_getElem?_getD, List.getElem?_eq_getElem hj, Option.getD_some, h1], by omega⟩
set_option maxHeartbeats 8000000 in
theorem gpart_rows (HG : GrpOk) (A : Option Addr) (n c : Nat) (m : List Int) (s part : Int) (w : World) (hm : Its .i64 w A n c m) (hp : -9223372036854775808 ≤ part ∧ part ≤ 9223372036854775807) (h1 : 10 < n) :
    Calls Try.prog 7 #[.slice A n c, .int .i64 s, .int .i64 part] w fun e w' => e = .returned (.bool true) ∧ Below w.heap.size w w' := by
  have hns := hm.small
  have h1a : (10 : Int) < n := by omega
  clear hm
  go_enter Try.func7, Try.ntmps7
  go_wp2_with (first
    | (go_at_call 8
       (with_reducible refine (gawake_any HG _).mono ?_)
       rintro e w1 ⟨rfl, hb1⟩
       have HB1 := Lib.hid hb1
       clear hb1))
  go_ret
  exact ⟨rfl, HB1.out⟩
set_option maxHeartbeats 8000000 in
theorem gpart_not (HG : GrpOk) (A : Option Addr) (n c : Nat) (m : List Int) (s part : Int) (w : World) (hm : Its .i64 w A n c m) (hp : -9223372036854775808 ≤ part ∧ part ≤ 9223372036854775807) (h1 : ¬ 10 < n) (hf : freeM m s = false) :
    Calls Try.prog 7 #[.slice A n c, .int .i64 s, .int .i64 part] w fun e w' => e = .returned (.bool true) ∧ Below w.heap.size w w' := by
  have hns := hm.small
  have h1a : ¬ (10 : Int) < n := by omega
  have HFR := Lib.hid (fun (X : World) (hX : Below w.heap.size w X) => HG.free A n c m s X (hm.below hX) (by omega))
  rw [hf] at HFR
  clear hm hf
  go_enter Try.func7, Try.ntmps7
  go_wp2_with (first
    | (go_at_call 8
       (with_reducible refine (gawake_any HG _).mono ?_)
       rintro e w1 ⟨rfl, hb1⟩
       have HB1 := Lib.hid hb1
       clear hb1)
    | (go_at_call 17
       (with_reducible refine (HFR.out _ HB1.out).mono ?_)
       rintro e w2 ⟨rfl, hbx⟩
       have HB2 := Lib.hid (HB1.out.trans (hbx.mono HB1.out.size))
       clear hbx))
  go_ret
  exact ⟨rfl, HB2.out⟩
set_option maxHeartbeats 8000000 in
theorem gpart_main (HG : GrpOk) (A : Option Addr) (n c : Nat) (m : List Int) (s part : Int) (w : World) (hm : Its .i64 w A n c m) (hp : -9223372036854775808 ≤ part ∧ part ≤ 9223372036854775807) (h1 : ¬ 10 < n) (t : Nat) (ht : s = t) (hf : freeM m (t : Int) = true) :
    Calls Try.prog 7 #[.slice A n c, .int .i64 s, .int .i64 part] w fun e w' => e = .returned (.bool true) ∧ Below w.heap.size w w' := by
  have hns := hm.small
  subst ht
  have h1a : ¬ (10 : Int) < n := by omega
  obtain ⟨hmm, hin, -⟩ := free_iff.1 hf
  obtain ⟨t2, e, htl⟩ := set_nat hin
  obtain rfl : t = t2 := by omega
  have ht8 : t < 256 := by have := pow_le (may_all hmm).1.2; omega
  have HFR := Lib.hid (fun (X : World) (hX : Below w.heap.size w X) => HG.free A n c m t X (hm.below hX) (by omega))
  rw [hf] at HFR
  have HFP := Lib.hid (fun (X : World) (hX : Below w.heap.size w X) => HG.free A n c m part X (hm.below hX) (by omega))
  have HSE := Lib.hid (fun (X : World) (hX : Below w.heap.size w X) => HG.sets A n c m X (hm.below hX) (by omega))
  have HUP := Lib.hid (up_all hf)
  have HAT := Lib.hid (fun j hj => sets_at (j := j) hmm hj)
  have HPT := Lib.hid (fun (p : Nat) (hs : p &&& t = p) => free_part hf hs)
  obtain ⟨S, hS⟩ : ∃ x, setsM m = x := ⟨_, rfl⟩
  simp only [hS] at HSE HUP HAT
  clear hm hf e htl hin hmm hS
  go_enter Try.func7, Try.ntmps7
  go_wp2_with (first
    | (go_at_call 8
       (with_reducible refine (gawake_any HG _).mono ?_)
       rintro e w1 ⟨rfl, hb1⟩
       have HB1 := Lib.hid hb1
       clear hb1)
    | (go_at_call 17
       (with_reducible refine (HFR.out _ HB1.out).mono ?_)
       rintro e w2 ⟨rfl, hbx⟩
       have HB2 := Lib.hid (HB1.out.trans (hbx.mono HB1.out.size))
       clear hbx)
    | (go_at_call 12
       (with_reducible refine (HSE.out _ HB2.out).mono ?_)
       rintro e w3 ⟨B, k, d, rfl, hi3, hbx⟩
       have HI3 := Lib.hid hi3
       have hk0 := hi3.small
       have HB3 := Lib.hid (HB2.out.trans (hbx.mono HB2.out.size))
       clear hbx hi3))
  have HKL := Lib.hid HI3.out.len
  go_loopw [9, 10] (fun h v wr => ∃ j : Nat, j ≤ k ∧ v = .int .i64 j ∧ (∃ H : Bool, h = .bool H ∧ H = anyUp S t j) ∧ Below w3.heap.size w3 wr) (fun _ v _ => k - (intOf v).toNat)
  case atStart => exact ⟨0, by omega, rfl, ⟨false, rfl, rfl⟩, Below.refl _ _⟩
  case round =>
    obtain ⟨j, hj, rfl, ⟨H, rfl, hH⟩, hb4⟩ := hrel
    have HH := Lib.hid hH
    have HB4 := Lib.hid hb4
    clear hH hb4
    by_cases hlt : j < k
    · have q0 : 0 ≤ (j : Int) := by omega
      have q1 : (j : Int) < k := by omega
      obtain ⟨b, off, rfl, hc⟩ := HI3.out.at_ (by omega)
      obtain ⟨u, hu, hu8⟩ := HAT.out j (by rw [HKL.out]; exact hlt)
      have x1 : wr.cell? ⟨b, off + j, none⟩ = some (.int .i64 (u : Int)) := by rw [← hu]; exact (HB4.out.cell (p := ⟨b, off + j, none⟩) (block_lt_of_cell (hc j hlt))).trans (hc j hlt)
      have hnx := up_next S t j
      rw [← HH.out, hu, Int.toNat_natCast] at hnx
      obtain ⟨Y, hY⟩ : ∃ Y : Nat, u &&& t = Y := ⟨_, rfl⟩
      have hand : bits .and .i64 (u : Int) (t : Int) = (Y : Int) := by rw [and_nat64 u t (by omega) (by omega), hY]
      rw [hY] at hnx
      have HNX := Lib.hid hnx
      clear hnx hu hc hY
      cases H
      · by_cases hyt : Y = t
        · have HZ := Lib.hid (show true = anyUp S t (j + 1) by rw [HNX.out, decide_eq_true hyt]; rfl)
          have hyti : (Y : Int) = t := by omega
          clear hyt
          go_wp2_with fail
          go_roundw
          case rel => exact ⟨j + 1, by omega, by go_num, ⟨_, rfl, HZ.out⟩, HB4.out⟩
          case measure => simp [intOf]; omega
        · have HZ := Lib.hid (show false = anyUp S t (j + 1) by rw [HNX.out, decide_eq_false hyt]; rfl)
          have hyti : ¬ (Y : Int) = t := by omega
          clear hyt
          go_wp2_with fail
          go_roundw
          case rel => exact ⟨j + 1, by omega, by go_num, ⟨_, rfl, by rw [show ((Y : Int) == (t : Int)) = false from beq_eq_false_iff_ne.2 hyti]; exact HZ.out⟩, HB4.out⟩
          case measure => simp [intOf]; omega
      · have HZ := Lib.hid (show true = anyUp S t (j + 1) by rw [HNX.out]; rfl)
        go_wp2_with fail
        go_roundw
        case rel => exact ⟨j + 1, by omega, by go_num, ⟨_, rfl, HZ.out⟩, HB4.out⟩
        case measure => simp [intOf]; omega
    · obtain rfl : j = k := by omega
      have hHt : H = true := by rw [HH.out, ← HKL.out]; exact HUP.out
      subst hHt
      have HB5 := Lib.hid (HB3.out.trans (HB4.out.mono HB3.out.size))
      by_cases hneg : part < 0
      · go_wp2_with fail
        go_ret
        exact ⟨rfl, HB5.out⟩
      · obtain ⟨p, rfl⟩ := Int.eq_ofNat_of_zero_le (show 0 ≤ part by omega)
        obtain ⟨Y, hY⟩ : ∃ Y : Nat, p &&& t = Y := ⟨_, rfl⟩
        have hand : bits .and .i64 (p : Int) (t : Int) = (Y : Int) := by rw [and_nat64 p t (by omega) (by omega), hY]
        by_cases hyp : Y = p
        · have hfr := HPT.out p (by rw [hY]; exact hyp)
          have HF2 := Lib.hid (HFP.out)
          simp only [hfr] at HF2
          have hypi : (Y : Int) = p := by omega
          clear hyp hY hfr
          go_wp2_with (go_at_call 17
                       (with_reducible refine (HF2.out _ HB5.out).mono ?_)
                       rintro e w6 ⟨rfl, hbx⟩
                       have HB6 := Lib.hid (HB5.out.trans (hbx.mono HB5.out.size))
                       clear hbx)
          go_ret
          exact ⟨rfl, HB6.out⟩
        · have hypi : ¬ (Y : Int) = p := by omega
          clear hyp hY
          go_wp2_with fail
          go_ret
          exact ⟨rfl, HB5.out⟩
theorem gpart_any (HG : GrpOk) (A : Option Addr) (n c : Nat) (m : List Int) (s part : Int) (w : World) (hm : Its .i64 w A n c m) (hp : -9223372036854775808 ≤ part ∧ part ≤ 9223372036854775807) :
    Calls Try.prog 7 #[.slice A n c, .int .i64 s, .int .i64 part] w fun e w' => e = .returned (.bool true) ∧ Below w.heap.size w w' := by
  by_cases h1 : 10 < n
  · exact gpart_rows HG A n c m s part w hm hp h1
  · cases hf : freeM m s with
    | false => exact gpart_not HG A n c m s part w hm hp h1 hf
    | true =>
      obtain ⟨t, ht, -⟩ := set_nat (free_iff.1 hf).2.1
      exact gpart_main HG A n c m s part w hm hp h1 t ht (by rw [← ht]; exact hf)
end Go.Proofs.Ytlejeecnkbapmaa
