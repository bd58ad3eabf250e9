/- The walks over the document's answers In, LightAll, Lists, May (of what is known). -/
import Derived.Test.YtcpeaeefphgbaaaKnwTms
namespace Go.Proofs.Ytcpeaeefphgbaaa
set_option linter.unusedVariables false
set_option linter.unusedSimpArgs false
open Go.RowKit

set_option maxHeartbeats 1000000 in
theorem in_any (P Q : Nat → Prop) (l : List Te) (t : Te) (A : Option Addr) (m c : Nat) (k n : Int) (A2 : Option Addr) (m2 c2 : Nat) (w : World) (hI : Is P w (.node 0 0 l) 0 0 A m c) (hJ : Is Q w t k n A2 m2 c2) :
    Calls Try.prog 25 #[.slice A m c, .agg #[.int .i64 k, .int .i64 n, .slice A2 m2 c2]] w (GivesB (isIn l t) w) := by
  obtain ⟨hl, -, -, hm⟩ := hI.len
  have HI := Lib.hid hI
  have HJ := Lib.hid hJ
  have HL := Lib.hid hl
  clear hl hI hJ
  go_enter Try.func25, Try.ntmps25
  go_wp2
  obtain ⟨W1, hW1⟩ : ∃ W1, w.alloc (.cells #[.int .i64 k, .int .i64 n, .slice A2 m2 c2] 24) = W1 := ⟨_, rfl⟩
  have HW := Lib.hid hW1
  rw [hW1]
  clear hW1
  go_loopw [5] (fun v wr => ∃ j : Nat, j ≤ m ∧ v = .int .i64 j ∧ isIn (l.take j) t = false ∧ Below W1.heap.size W1 wr) (fun v _ => m - (intOf v).toNat)
  case atStart => exact ⟨0, Nat.zero_le _, rfl, by simp [isIn], Below.refl _ _⟩
  case round =>
    obtain ⟨j, hj, rfl, hsm, hbw⟩ := hrel
    have hbb := hbw
    rw [← HW.out] at hbb
    obtain ⟨x0, x1, x2⟩ := box_cells hbb
    have hb1 : Below w.heap.size w wr := (after_one hbb).1
    have HB1 := Lib.hid hb1
    have HBW := Lib.hid hbw
    by_cases hlt : j < m
    · have hjl : j < l.length := by rw [HL.out]; exact hlt
      have hst := isIn_take (t := t) j hjl
      have hsp := isIn_stop (t := t) j hjl
      rw [hsm, Bool.false_or] at hst
      obtain ⟨b, off, k', n', A', m', c', rfl, hI', z0, z1, z2⟩ := HI.out.at_ hb1 j hlt hjl
      have HC := Lib.hid (rsame_any _ _ l[j] t k' n' k n A' A2 m' c' m2 c2 wr.drew ⟨hI'.lies.keep fun _ _ => rfl⟩ ((HJ.out.later hb1).keep fun _ _ => rfl))
      have q0 : 0 ≤ (j : Int) := by omega
      have q1 : (j : Int) < m := by omega
      cases hsj : l[j].same t with
      | false =>
        rw [hsj] at HC hst
        have HST := Lib.hid hst
        clear hb1 hbw hbb hI' hst hsp hsj hsm
        go_wp2
        go_still_tail 5, (by kernel_rfl)
        go_wp2_with (go_at_call 29; refine HC.out.mono ?_; rintro e w1 ⟨rfl, hb4⟩; have hb4 := below_draw hb4)
        go_roundw
        case rel => exact ⟨j + 1, by omega, by go_num, HST.out, HBW.out.trans (hb4.mono HBW.out.size)⟩
        case measure => simp [intOf]; omega
      | true =>
        rw [hsj] at HC
        have HST := Lib.hid (hsp hsj)
        clear hb1 hbw hbb hI' hst hsp hsj hsm
        go_wp2
        go_still_tail 5, (by kernel_rfl)
        go_wp2_with (go_at_call 29; refine HC.out.mono ?_; rintro e w1 ⟨rfl, hb4⟩; have hb4 := below_draw hb4)
        go_ret
        exact ⟨by rw [HST.out]; rfl, HB1.out.trans (hb4.mono HB1.out.size)⟩
    · obtain rfl : j = m := by omega
      rw [List.take_of_length_le (by rw [HL.out]; exact Nat.le_refl _)] at hsm
      have HS := Lib.hid hsm
      clear hb1 hbw hbb hsm
      go_wp2
      go_ret
      exact ⟨by rw [HS.out]; rfl, HB1.out⟩

set_option maxHeartbeats 1000000 in
theorem lightAll_any (P : Nat → Prop) (l : List Te) (A : Option Addr) (m c : Nat) (w : World) (hI : Is P w (.node 0 0 l) 0 0 A m c) :
    Calls Try.prog 11 #[.slice A m c] w (GivesB (lightsB l) w) := by
  obtain ⟨hl, -, -, hm⟩ := hI.len
  have HI := Lib.hid hI
  have HL := Lib.hid hl
  clear hl hI
  go_enter Try.func11, Try.ntmps11
  go_wp2
  go_loopw [3] (fun v wr => ∃ j : Nat, j ≤ m ∧ v = .int .i64 j ∧ (l.take j).all (fun t => lightB t 150 20) = true ∧ Below w.heap.size w wr) (fun v _ => m - (intOf v).toNat)
  case atStart => exact ⟨0, Nat.zero_le _, rfl, by simp, Below.refl _ _⟩
  case round =>
    obtain ⟨j, hj, rfl, hsm, hbw⟩ := hrel
    have HBW := Lib.hid hbw
    by_cases hlt : j < m
    · by_cases h50 : j ≤ 50
      · have hjl : j < l.length := by rw [HL.out]; exact hlt
        have hst := all_take (p := fun t => lightB t 150 20) j hjl
        have hsp := all_stop (p := fun t => lightB t 150 20) j hjl
        rw [hsm, Bool.true_and] at hst
        obtain ⟨b, off, k', n', A', m', c', rfl, hI', z0, z1, z2⟩ := HI.out.at_ hbw j hlt hjl
        have HC := Lib.hid (light_any _ l[j] k' n' A' m' c' wr hI')
        have q0 : 0 ≤ (j : Int) := by omega
        have q1 : (j : Int) < m := by omega
        have q2 : (j : Int) ≤ 50 := by omega
        cases hsj : lightB l[j] 150 20 with
        | true =>
          rw [hsj] at HC hst
          have HST := Lib.hid hst
          clear hbw hI' hst hsp hsj hsm
          go_wp2_with (go_at_call 12; refine HC.out.mono ?_; rintro e w1 ⟨rfl, hb4⟩)
          go_roundw
          case rel => exact ⟨j + 1, by omega, by go_num, HST.out, HBW.out.trans (hb4.mono HBW.out.size)⟩
          case measure => simp [intOf]; omega
        | false =>
          rw [hsj] at HC
          have HST := Lib.hid (hsp hsj)
          clear hbw hI' hst hsp hsj hsm
          go_wp2_with (go_at_call 12; refine HC.out.mono ?_; rintro e w1 ⟨rfl, hb4⟩)
          go_ret
          exact ⟨by rw [lightsB, HST.out, Bool.and_false]; rfl, HBW.out.trans (hb4.mono HBW.out.size)⟩
      · have hs : lightsB l = false := by rw [lightsB, decide_eq_false (by rw [HL.out]; omega), Bool.false_and]
        have HS := Lib.hid hs
        have q0 : decide ((m : Int) ≤ 50) = false := by rw [decide_eq_false_iff_not]; omega
        clear hbw hsm hs
        go_wp2
        go_ret
        exact ⟨by rw [HS.out]; rfl, HBW.out⟩
    · obtain rfl : j = m := by omega
      rw [List.take_of_length_le (by rw [HL.out]; exact Nat.le_refl _)] at hsm
      have hs : lightsB l = decide ((j : Int) ≤ 50) := by
        rw [lightsB, hsm, Bool.and_true, HL.out, decide_eq_decide]; omega
      have HS := Lib.hid hs
      clear hbw hsm hs
      go_wp2
      go_ret
      exact ⟨by rw [HS.out]; rfl, HBW.out⟩

set_option maxHeartbeats 1000000 in
theorem rmayL_any (P : Nat → Prop) (l : List Te) (A : Option Addr) (m c : Nat) (w : World) (hI : Is P w (.node 0 0 l) 0 0 A m c) (hs : ∀ t ∈ l, (t.size : Int) ≤ 4611686018427387904) :
    Calls Try.prog 18 #[.slice A m c] w (GivesB (mayL l) w) := by
  obtain ⟨hl, -, -, hm⟩ := hI.len
  have HI := Lib.hid hI
  have HL := Lib.hid hl
  have HZ := Lib.hid hs
  clear hl hI hs
  go_enter Try.func18, Try.ntmps18
  go_wp2
  go_loopw [3] (fun v wr => ∃ j : Nat, j ≤ m ∧ v = .int .i64 j ∧ (l.take j).all Te.may = true ∧ Below w.heap.size w wr) (fun v _ => m - (intOf v).toNat)
  case atStart => exact ⟨0, Nat.zero_le _, rfl, by simp, Below.refl _ _⟩
  case round =>
    obtain ⟨j, hj, rfl, hsm, hbw⟩ := hrel
    have HBW := Lib.hid hbw
    by_cases hlt : j < m
    · by_cases h50 : j < 40
      · have hjl : j < l.length := by rw [HL.out]; exact hlt
        have hst := all_take (p := Te.may) j hjl
        have hsp := all_stop (p := Te.may) j hjl
        rw [hsm, Bool.true_and] at hst
        obtain ⟨b, off, k', n', A', m', c', rfl, hI', z0, z1, z2⟩ := HI.out.at_ hbw j hlt hjl
        have HC := Lib.hid (rmay_any _ l[j] k' n' A' m' c' wr hI' (HZ.out _ (List.getElem_mem hjl)))
        have q0 : 0 ≤ (j : Int) := by omega
        have q1 : (j : Int) < m := by omega
        have q2 : (j : Int) < 40 := by omega
        cases hsj : l[j].may with
        | true =>
          rw [hsj] at HC hst
          have HST := Lib.hid hst
          clear hbw hI' hst hsp hsj hsm
          go_wp2_with (go_at_call 35; refine HC.out.mono ?_; rintro e w1 ⟨rfl, hb4⟩)
          go_roundw
          case rel => exact ⟨j + 1, by omega, by go_num, HST.out, HBW.out.trans (hb4.mono HBW.out.size)⟩
          case measure => simp [intOf]; omega
        | false =>
          rw [hsj] at HC
          have HST := Lib.hid (hsp hsj)
          clear hbw hI' hst hsp hsj hsm
          go_wp2_with (go_at_call 35; refine HC.out.mono ?_; rintro e w1 ⟨rfl, hb4⟩)
          go_ret
          exact ⟨by rw [mayL, HST.out, Bool.and_false]; rfl, HBW.out.trans (hb4.mono HBW.out.size)⟩
      · have hs : mayL l = false := by rw [mayL, decide_eq_false (by rw [HL.out]; omega), Bool.false_and]
        have HS := Lib.hid hs
        have q0 : decide ((m : Int) ≤ 40) = false := by rw [decide_eq_false_iff_not]; omega
        clear hbw hsm hs
        go_wp2
        go_ret
        exact ⟨by rw [HS.out]; rfl, HBW.out⟩
    · obtain rfl : j = m := by omega
      rw [List.take_of_length_le (by rw [HL.out]; exact Nat.le_refl _)] at hsm
      have hs : mayL l = decide ((j : Int) ≤ 40) := by
        rw [mayL, hsm, Bool.and_true, HL.out, decide_eq_decide]; omega
      have HS := Lib.hid hs
      clear hbw hsm hs
      go_wp2
      go_ret
      exact ⟨by rw [HS.out]; rfl, HBW.out⟩
end Go.Proofs.Ytcpeaeefphgbaaa
