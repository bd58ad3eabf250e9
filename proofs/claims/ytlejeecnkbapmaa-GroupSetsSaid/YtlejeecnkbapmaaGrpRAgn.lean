/- The walk over the document's Against of a set. -/
import Derived.Test.YtlejeecnkbapmaaGrpRFree
namespace Go.Proofs.Ytlejeecnkbapmaa
set_option maxRecDepth 100000
set_option linter.unusedVariables false
set_option linter.unusedSimpArgs false
open Go.RowKit

theorem against_bad {m : List Int} {s : Int} (h : mayM m = false ∨ s < 0 ∨ ((2 ^ m.length : Nat) : Int) ≤ s) : againstM m s = -1 := if_neg fun hh => by
  obtain ⟨h1, h2, h3⟩ := hh
  rw [pow_int] at h3
  rcases h with h | h | h
  · rw [h] at h1; cases h1
  · omega
  · omega
def anyTo (m : List Int) (t k i : Nat) : Bool := (List.range i).any fun j => t.testBit j && meetM m j k
theorem any_next (m : List Int) (t k i : Nat) : anyTo m t k (i + 1) = (anyTo m t k i || (t.testBit i && meetM m i k)) := by
  simp [anyTo, List.range_succ]
theorem any_hit {m : List Int} {t k n : Nat} (hl : m.length = n) : anyTo m t k n = hitM m (t : Int) k := by
  subst hl
  simp only [anyTo, hitM, bit_nat]
set_option maxHeartbeats 4000000 in
theorem rgagainst_any (A : Option Addr) (n c : Nat) (m : List Int) (s : Int) (w : World) (hb : Its .i64 w A n c m) : Calls Try.prog 19 #[.slice A n c, .int .i64 s] w fun e w' => e = .returned (.int .i64 (againstM m s)) ∧ Below w.heap.size w w' := by
  have hsm := hb.small
  have HL := Lib.hid hb.len
  have HMY := Lib.hid (fun (X : World) (hX : Its .i64 X A n c m) => rgmay_any A n c m X hX)
  have HMZ := Lib.hid (show Calls Try.prog 9 #[.slice A n c] w fun e w' => e = .returned (.bool (mayM m)) ∧ Below w.heap.size w w' from rgmay_any A n c m w hb)
  cases hm : mayM m with
  | false =>
    rw [hm] at HMZ
    have HR := Lib.hid (against_bad (s := s) (.inl hm))
    clear hb HMY hm
    go_enter Try.func19, Try.ntmps19
    go_wp2_with (go_at_call 9; (with_reducible refine (HMZ.out).mono ?_); rintro e w1 ⟨rfl, hb1⟩; have HB1 := Lib.hid hb1; clear hb1)
    go_ret
    exact ⟨by rw [HR.out]; rfl, HB1.out⟩
  | true =>
    rw [hm] at HMZ
    obtain ⟨hn8, hrw⟩ := may_rows hb.len hm
    have HRW := Lib.hid hrw
    have HPW := Lib.hid (fun X => rpow_any n (by omega) X)
    obtain ⟨PW, hPW⟩ : ∃ x : Int, ((2 ^ n : Nat) : Int) = x := ⟨_, rfl⟩
    have hp0 : 0 ≤ PW := by rw [← hPW]; exact Int.natCast_nonneg _
    have HPE := Lib.hid hPW
    rw [hPW] at HPW
    clear hPW hrw
    by_cases h1 : s < 0
    · have HR := Lib.hid (against_bad (m := m) (.inr (.inl h1)))
      clear hb HMY hm
      go_enter Try.func19, Try.ntmps19
      go_wp2_with (go_at_call 9; (with_reducible refine (HMZ.out).mono ?_); rintro e w1 ⟨rfl, hb1⟩; have HB1 := Lib.hid hb1; clear hb1)
      go_ret
      exact ⟨by rw [HR.out]; rfl, HB1.out⟩
    · by_cases h2 : PW ≤ s
      · have HR := Lib.hid (against_bad (m := m) (.inr (.inr (by rw [HL.out, HPE.out]; exact h2))))
        clear hb HMY hm
        go_enter Try.func19, Try.ntmps19
        go_wp2_with (first
          | (go_at_call 9; (with_reducible refine (HMZ.out).mono ?_); rintro e w1 ⟨rfl, hb1⟩; have HB1 := Lib.hid hb1; clear hb1)
          | (go_at_call 22; (with_reducible refine (HPW.out _).mono ?_); rintro e wp ⟨rfl, rfl⟩))
        go_ret
        exact ⟨by rw [HR.out]; rfl, HB1.out⟩
      · have hM := Lib.hid hm
        obtain ⟨t, rfl⟩ := Int.eq_ofNat_of_zero_le (show 0 ≤ s by omega)
        have hn1 : 1 ≤ n := by have := (may_all hm).1.1; rw [hb.len] at this; exact this
        obtain ⟨b, off, rfl, hc⟩ := hb.at_ (by omega)
        have ht8 : (t : Int) < 256 := by
          have e := pow_le hn8
          have e2 := HPE.out
          omega
        have htn : t < 2 ^ n := by have e2 := HPE.out; omega
        have HC := Lib.hid hc
        have HTN := Lib.hid htn
        clear hb HMY hm hc htn
        go_enter Try.func19, Try.ntmps19
        go_wp2_with (first
          | (go_at_call 9; (with_reducible refine (HMZ.out).mono ?_); rintro e w1 ⟨rfl, hb1⟩; have HB1 := Lib.hid hb1; clear hb1)
          | (go_at_call 22; (with_reducible refine (HPW.out _).mono ?_); rintro e wp ⟨rfl, rfl⟩))
        have HSL := Lib.hid (fun k => sumN_lt (hitM m (t : Int)) k)
        go_loopw [6, 7] (fun o v wr => ∃ k : Nat, k ≤ n ∧ v = .int .i64 k ∧ (∃ x : Int, o = .int .i64 x ∧ x = ((sumN (hitM m (t : Int)) k : Nat) : Int)) ∧ Below w.heap.size w wr) (fun _ v _ => n - (intOf v).toNat)
        case atStart => exact ⟨0, by omega, rfl, ⟨0, rfl, rfl⟩, HB1.out⟩
        case round =>
          obtain ⟨k, hk, rfl, ⟨x, rfl, hx⟩, hbw2⟩ := hrel
          have HX := Lib.hid hx
          have HB2 := Lib.hid hbw2
          have hxb : 0 ≤ x ∧ x < 256 := by
            have e := HSL.out k
            have e2 : 2 ^ k ≤ 2 ^ 8 := Nat.pow_le_pow_right (by omega) (by omega)
            omega
          clear hx hbw2
          by_cases hkl : k < n
          · have q2 : 0 ≤ (k : Int) := by omega
            have q3 : (k : Int) < n := by omega
            go_wp2
            go_loopw [8, 9] (fun h v wr => ∃ i : Nat, i ≤ n ∧ v = .int .i64 i ∧ (∃ H : Bool, h = .bool H ∧ H = anyTo m t k i) ∧ Below w.heap.size w wr) (fun _ v _ => n - (intOf v).toNat)
            case atStart => exact ⟨0, by omega, rfl, ⟨false, rfl, rfl⟩, HB2.out⟩
            case round =>
              obtain ⟨i, hi, rfl, ⟨H, rfl, hH⟩, hbw3⟩ := hrel
              have HH := Lib.hid hH
              have HB3 := Lib.hid hbw3
              clear hH hbw3
              by_cases hil : i < n
              · have q0 : 0 ≤ (i : Int) := by omega
                have q1 : (i : Int) < n := by omega
                obtain ⟨u, hu, hu8⟩ := row_nat HRW.out hn8 hil
                have x1 : wr.cell? ⟨b, off + i, none⟩ = some (.int .i64 (u : Int)) := by rw [← hu]; exact (HB3.out.cell (p := ⟨b, off + i, none⟩) (block_lt_of_cell (HC.out i hil))).trans (HC.out i hil)
                have HI1 := Lib.hid (fun X => rin_any t i (by omega) (by omega) X)
                have HI2 := Lib.hid (fun X => rin_any u k (by omega) (by omega) X)
                have hme : meetM m i k = u.testBit k := by rw [meetM, hu, bit_nat]
                have hnx := any_next m t k i
                rw [← HH.out, hme] at hnx
                obtain ⟨B1, hB1⟩ : ∃ x, t.testBit i = x := ⟨_, rfl⟩
                obtain ⟨B2, hB2⟩ : ∃ x, u.testBit k = x := ⟨_, rfl⟩
                simp only [hB1] at HI1 hnx
                simp only [hB2] at HI2 hnx
                have HNX := Lib.hid hnx
                clear hB1 hB2 hu hme hnx
                cases H
                all_goals cases B1
                all_goals cases B2
                all_goals
                  have HF := Lib.hid HNX.out
                  simp only [Bool.or_false, Bool.or_true, Bool.and_true, Bool.and_false, Bool.false_or, Bool.true_or, Bool.true_and, Bool.false_and, Bool.or_self, Bool.and_self] at HF
                  go_wp2_with (first
                    | (go_at_call 23; (with_reducible refine (HI1.out _).mono ?_); rintro e w1 ⟨rfl, rfl⟩)
                    | (go_at_call 23; (with_reducible refine (HI2.out _).mono ?_); rintro e w1 ⟨rfl, rfl⟩))
                  go_roundw
                  case rel => exact ⟨i + 1, by omega, by go_num, ⟨_, rfl, HF.out.symm⟩, HB3.out⟩
                  case measure => simp [intOf]; omega
              · obtain rfl : i = n := by omega
                have HHM := Lib.hid (HH.out.trans (any_hit HL.out))
                have HPK := Lib.hid (fun X => rpow_any k (by omega) X)
                have hpk : 2 ^ k ≤ 2 ^ 8 := Nat.pow_le_pow_right (by omega) (by omega)
                have hpn := Int.natCast_nonneg (2 ^ k)
                obtain ⟨PK, hPK⟩ : ∃ y : Int, ((2 ^ k : Nat) : Int) = y := ⟨_, rfl⟩
                have hpb : 0 ≤ PK ∧ PK ≤ 256 := by rw [← hPK]; omega
                have HPKE := Lib.hid hPK
                rw [hPK] at HPK
                clear hPK hpk hpn
                have hwx : IntKind.i64.wrap (x + PK) = x + PK := by rw [IntKind.wrap_i64]; omega
                have HSN := Lib.hid (show ((sumN (hitM m (t : Int)) (k + 1) : Nat) : Int) = x + (if hitM m (t : Int) k then PK else 0) by
                  rw [sumN, HX.out, ← HPKE.out]
                  split <;> simp)
                cases H
                · have HZ := Lib.hid (show x = ((sumN (hitM m (t : Int)) (k + 1) : Nat) : Int) by rw [HSN.out, ← HHM.out]; simp)
                  go_wp2
                  go_roundw
                  case rel => exact ⟨k + 1, by omega, by go_num, ⟨_, rfl, HZ.out⟩, HB3.out⟩
                  case measure => simp [intOf]; omega
                · have HZ := Lib.hid (show x + PK = ((sumN (hitM m (t : Int)) (k + 1) : Nat) : Int) by rw [HSN.out, ← HHM.out]; simp)
                  go_wp2_with (go_at_call 22; (with_reducible refine (HPK.out _).mono ?_); rintro e wp ⟨rfl, rfl⟩)
                  go_roundw
                  case rel => exact ⟨k + 1, by omega, by go_num, ⟨_, rfl, HZ.out⟩, HB3.out⟩
                  case measure => simp [intOf]; omega
          · obtain rfl : k = n := by omega
            have HR := Lib.hid (show againstM m (t : Int) = x by rw [against_some hM.out (by rw [HL.out]; exact HTN.out), HL.out, HX.out])
            go_wp2
            go_ret
            exact ⟨by rw [HR.out]; rfl, HB2.out⟩
end Go.Proofs.Ytlejeecnkbapmaa
