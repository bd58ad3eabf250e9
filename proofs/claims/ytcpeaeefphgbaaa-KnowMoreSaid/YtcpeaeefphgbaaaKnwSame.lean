/- The walks over Lists (the document's answer), and package know's Same and May. -/
import Derived.Test.YtcpeaeefphgbaaaKnwIn
namespace Go.Proofs.Ytcpeaeefphgbaaa
set_option linter.unusedVariables false
set_option linter.unusedSimpArgs false
open Go.RowKit

theorem sames_ne {l l' : List Te} (h : l.length ≠ l'.length) : Te.sames l l' = false := by
  rw [← Bool.not_eq_true]
  exact fun h2 => h (Te.sames_len h2)

set_option maxHeartbeats 1000000 in
theorem lists_any (P Q : Nat → Prop) (l l2 : List Te) (A : Option Addr) (m c : Nat) (A2 : Option Addr) (m2 c2 : Nat) (w : World) (hI : Is P w (.node 0 0 l) 0 0 A m c) (hJ : Is Q w (.node 0 0 l2) 0 0 A2 m2 c2) :
    Calls Try.prog 13 #[.slice A m c, .slice A2 m2 c2] w (GivesB (Te.sames l l2) w) := by
  obtain ⟨hl, -, -, hm⟩ := hI.len
  obtain ⟨hl2, -, -, hm2⟩ := hJ.len
  have HI := Lib.hid hI
  have HJ := Lib.hid hJ
  have HL := Lib.hid hl
  have HL2 := Lib.hid hl2
  clear hl hl2 hI hJ
  by_cases hmm : m = m2
  · subst hmm
    have HE := Lib.hid (HL.out.trans HL2.out.symm)
    go_enter Try.func13, Try.ntmps13
    go_wp2
    go_loopw [5] (fun v wr => ∃ j : Nat, j ≤ m ∧ v = .int .i64 j ∧ Te.sames (l.take j) (l2.take j) = true ∧ Below w.heap.size w wr) (fun v _ => m - (intOf v).toNat)
    case atStart => exact ⟨0, Nat.zero_le _, rfl, by simp [Te.sames], Below.refl _ _⟩
    case round =>
      obtain ⟨j, hj, rfl, hsm, hbw⟩ := hrel
      have HBW := Lib.hid hbw
      by_cases hlt : j < m
      · have hjl : j < l.length := by rw [HL.out]; exact hlt
        have hjl2 : j < l2.length := by rw [HL2.out]; exact hlt
        have hst := Te.sames_take l l2 HE.out j hjl hjl2
        have hsp := Te.sames_stop l l2 HE.out j hjl hjl2
        rw [hsm, Bool.true_and] at hst
        obtain ⟨b, off, k', n', A', m', c', rfl, hI', z0, z1, z2⟩ := HI.out.at_ hbw j hlt hjl
        obtain ⟨b2, off2, k2', n2', A2', m2', c2', rfl, hJ', y0, y1, y2⟩ := HJ.out.at_ hbw j hlt hjl2
        have HC := Lib.hid (rsame_any _ _ l[j] l2[j] k' n' k2' n2' A' A2' m' c' m2' c2' wr.drew (hI'.keep fun _ _ => rfl) (hJ'.keep fun _ _ => rfl))
        have q0 : 0 ≤ (j : Int) := by omega
        have q1 : (j : Int) < m := by omega
        cases hsj : l[j].same l2[j] with
        | true =>
          rw [hsj] at HC hst
          have HST := Lib.hid hst
          clear hbw hI' hJ' hst hsp hsj hsm
          go_wp2
          go_still_tail 8, (by kernel_rfl)
          go_wp2_with (go_at_call 29; refine HC.out.mono ?_; rintro e w1 ⟨rfl, hb4⟩; have hb4 := below_draw hb4)
          go_roundw
          case rel => exact ⟨j + 1, by omega, by go_num, HST.out, HBW.out.trans (hb4.mono HBW.out.size)⟩
          case measure => simp [intOf]; omega
        | false =>
          rw [hsj] at HC
          have HST := Lib.hid (hsp hsj)
          clear hbw hI' hJ' hst hsp hsj hsm
          go_wp2
          go_still_tail 8, (by kernel_rfl)
          go_wp2_with (go_at_call 29; refine HC.out.mono ?_; rintro e w1 ⟨rfl, hb4⟩; have hb4 := below_draw hb4)
          go_ret
          exact ⟨by rw [HST.out]; rfl, HBW.out.trans (hb4.mono HBW.out.size)⟩
      · obtain rfl : j = m := by omega
        rw [List.take_of_length_le (by rw [HL.out]; exact Nat.le_refl _), List.take_of_length_le (by rw [HL2.out]; exact Nat.le_refl _)] at hsm
        have HS := Lib.hid hsm
        clear hbw hsm
        go_wp2
        go_ret
        exact ⟨by rw [HS.out]; rfl, HBW.out⟩
  · have hne : ((m : Int) != (m2 : Int)) = true := by rw [bne_iff_ne]; omega
    rw [sames_ne (by rw [HL.out, HL2.out]; exact hmm)]
    go_enter Try.func13, Try.ntmps13
    go_wp2
    go_ret
    exact ⟨rfl, Below.refl _ _⟩

set_option maxHeartbeats 1000000 in
theorem equalFunc_any (P Q : Nat → Prop) (l l2 : List Te) (A : Option Addr) (m c : Nat) (A2 : Option Addr) (m2 c2 : Nat) (w : World) (hI : Is P w (.node 0 0 l) 0 0 A m c) (hJ : Is Q w (.node 0 0 l2) 0 0 A2 m2 c2) :
    Calls Try.prog 39 #[.slice A m c, .slice A2 m2 c2, .func (.func 40) #[] #[]] w (GivesB (Te.sames l l2) w) := by
  obtain ⟨hl, -, -, hm⟩ := hI.len
  obtain ⟨hl2, -, -, hm2⟩ := hJ.len
  have HI := Lib.hid hI
  have HJ := Lib.hid hJ
  have HL := Lib.hid hl
  have HL2 := Lib.hid hl2
  clear hl hl2 hI hJ
  by_cases hmm : m = m2
  · subst hmm
    have HE := Lib.hid (HL.out.trans HL2.out.symm)
    go_enter Try.func39, Try.ntmps39
    go_wp2
    go_loopw [17] (fun v wr => ∃ j : Nat, j ≤ m ∧ v = .int .i64 j ∧ Te.sames (l.take j) (l2.take j) = true ∧ Below w.heap.size w wr) (fun v _ => m - (intOf v).toNat)
    case atStart => exact ⟨0, Nat.zero_le _, rfl, by simp [Te.sames], Below.refl _ _⟩
    case round =>
      obtain ⟨j, hj, rfl, hsm, hbw⟩ := hrel
      have HBW := Lib.hid hbw
      by_cases hlt : j < m
      · have hjl : j < l.length := by rw [HL.out]; exact hlt
        have hjl2 : j < l2.length := by rw [HL2.out]; exact hlt
        have hst := Te.sames_take l l2 HE.out j hjl hjl2
        have hsp := Te.sames_stop l l2 HE.out j hjl hjl2
        rw [hsm, Bool.true_and] at hst
        obtain ⟨b, off, k', n', A', m', c', rfl, hI', z0, z1, z2⟩ := HI.out.at_ hbw j hlt hjl
        obtain ⟨b2, off2, k2', n2', A2', m2', c2', rfl, hJ', y0, y1, y2⟩ := HJ.out.at_ hbw j hlt hjl2
        have hone := one_alloc wr (.cells #[.int .i64 k', .int .i64 n', .slice A' m' c'] 24)
        have u0 := (hone.cell (block_lt_of_cell y0)).trans y0
        have u1 := (hone.cell (block_lt_of_cell y1)).trans y1
        have u2 := (hone.cell (block_lt_of_cell y2)).trans y2
        have htwo := two_below wr (.cells #[.int .i64 k', .int .i64 n', .slice A' m' c'] 24) (.cells #[.int .i64 k2', .int .i64 n2', .slice A2' m2' c2'] 24)
        have HC := Lib.hid (psame_any _ _ l[j] l2[j] k' n' k2' n2' A' A2' m' c' m2' c2' _ (hI'.later htwo) (hJ'.later htwo))
        have HTWO := Lib.hid htwo
        have q0 : 0 ≤ (j : Int) := by omega
        have q1 : (j : Int) < m := by omega
        cases hsj : l[j].same l2[j] with
        | true =>
          rw [hsj] at HC hst
          have HST := Lib.hid hst
          clear hbw hI' hJ' hst hsp hsj hsm hone htwo
          go_wp2_with (go_at_call 40; refine HC.out.mono ?_; rintro e w1 ⟨rfl, hb4⟩; have hb4 := HTWO.out.trans (hb4.mono HTWO.out.size))
          go_roundw
          case rel => exact ⟨j + 1, by omega, by go_num, HST.out, HBW.out.trans (hb4.mono HBW.out.size)⟩
          case measure => simp [intOf]; omega
        | false =>
          rw [hsj] at HC
          have HST := Lib.hid (hsp hsj)
          clear hbw hI' hJ' hst hsp hsj hsm hone htwo
          go_wp2_with (go_at_call 40; refine HC.out.mono ?_; rintro e w1 ⟨rfl, hb4⟩; have hb4 := HTWO.out.trans (hb4.mono HTWO.out.size))
          go_ret
          exact ⟨by rw [HST.out]; rfl, HBW.out.trans (hb4.mono HBW.out.size)⟩
      · obtain rfl : j = m := by omega
        rw [List.take_of_length_le (by rw [HL.out]; exact Nat.le_refl _), List.take_of_length_le (by rw [HL2.out]; exact Nat.le_refl _)] at hsm
        have HS := Lib.hid hsm
        clear hbw hsm
        go_wp2
        go_ret
        exact ⟨by rw [HS.out]; rfl, HBW.out⟩
  · have hne : ((m : Int) != (m2 : Int)) = true := by rw [bne_iff_ne]; omega
    rw [sames_ne (by rw [HL.out, HL2.out]; exact hmm)]
    go_enter Try.func39, Try.ntmps39
    go_wp2
    go_ret
    exact ⟨rfl, Below.refl _ _⟩
theorem ksame_any (P Q : Nat → Prop) (l l2 : List Te) (A : Option Addr) (m c : Nat) (A2 : Option Addr) (m2 c2 : Nat) (w : World) (hI : Is P w (.node 0 0 l) 0 0 A m c) (hJ : Is Q w (.node 0 0 l2) 0 0 A2 m2 c2) :
    Calls Try.prog 22 #[.slice A m c, .slice A2 m2 c2] w (GivesB (Te.sames l l2) w) := by
  have HC := Lib.hid (equalFunc_any P Q l l2 A m c A2 m2 c2 w hI hJ)
  clear hI hJ
  go_enter Try.func22, Try.ntmps22
  go_wp2_with (go_at_call 39; refine HC.out.mono ?_; rintro e w1 ⟨rfl, hb4⟩; have HB4 := Lib.hid hb4; clear hb4)
  go_ret
  exact ⟨rfl, HB4.out⟩

set_option maxHeartbeats 1000000 in
theorem kmay_any (P : Nat → Prop) (l : List Te) (A : Option Addr) (m c : Nat) (w : World) (hI : Is P w (.node 0 0 l) 0 0 A m c) :
    Calls Try.prog 20 #[.slice A m c] w (GivesB (mayL l) w) := by
  obtain ⟨hl, -, -, hm⟩ := hI.len
  have HI := Lib.hid hI
  have HL := Lib.hid hl
  clear hl hI
  by_cases h40 : m ≤ 40
  · have q40 : ¬ ((40 : Int) < m) := by omega
    go_enter Try.func20, Try.ntmps20
    go_wp2
    go_loopw [10] (fun v wr => ∃ j : Nat, j ≤ m ∧ v = .int .i64 j ∧ (l.take j).all Te.may = true ∧ Below w.heap.size w wr) (fun v _ => m - (intOf v).toNat)
    case atStart => exact ⟨0, Nat.zero_le _, rfl, by simp, Below.refl _ _⟩
    case round =>
      obtain ⟨j, hj, rfl, hsm, hbw⟩ := hrel
      have HBW := Lib.hid hbw
      by_cases hlt : j < m
      · have hjl : j < l.length := by rw [HL.out]; exact hlt
        have hst := all_take (p := Te.may) j hjl
        have hsp := all_stop (p := Te.may) j hjl
        rw [hsm, Bool.true_and] at hst
        obtain ⟨b, off, k', n', A', m', c', rfl, hI', z0, z1, z2⟩ := HI.out.at_ hbw j hlt hjl
        have hone := one_alloc wr (.cells #[.int .i64 k', .int .i64 n', .slice A' m' c'] 24)
        have HC := Lib.hid (may_any _ l[j] k' n' A' m' c' _ (hI'.later hone))
        have HONE := Lib.hid hone
        have q0 : 0 ≤ (j : Int) := by omega
        have q1 : (j : Int) < m := by omega
        cases hsj : l[j].may with
        | true =>
          rw [hsj] at HC hst
          have HST := Lib.hid hst
          clear hbw hI' hst hsp hsj hsm hone
          go_wp2_with (go_at_call 23; refine HC.out.mono ?_; rintro e w1 ⟨rfl, hb4⟩; have hb4 := HONE.out.trans (hb4.mono HONE.out.size))
          go_roundw
          case rel => exact ⟨j + 1, by omega, by go_num, HST.out, HBW.out.trans (hb4.mono HBW.out.size)⟩
          case measure => simp [intOf]; omega
        | false =>
          rw [hsj] at HC
          have HST := Lib.hid (hsp hsj)
          clear hbw hI' hst hsp hsj hsm hone
          go_wp2_with (go_at_call 23; refine HC.out.mono ?_; rintro e w1 ⟨rfl, hb4⟩; have hb4 := HONE.out.trans (hb4.mono HONE.out.size))
          go_ret
          exact ⟨by rw [mayL, HST.out, Bool.and_false]; rfl, HBW.out.trans (hb4.mono HBW.out.size)⟩
      · obtain rfl : j = m := by omega
        rw [List.take_of_length_le (by rw [HL.out]; exact Nat.le_refl _)] at hsm
        have hs : mayL l = true := by rw [mayL, hsm, Bool.and_true, HL.out, decide_eq_true h40]
        have HS := Lib.hid hs
        clear hbw hsm hs
        go_wp2
        go_ret
        exact ⟨by rw [HS.out]; rfl, HBW.out⟩
  · have q40 : (40 : Int) < m := by omega
    have hs : mayL l = false := by rw [mayL, decide_eq_false (by rw [HL.out]; omega), Bool.false_and]
    have HS := Lib.hid hs
    clear hs
    go_enter Try.func20, Try.ntmps20
    go_wp2
    go_ret
    exact ⟨by rw [HS.out]; rfl, Below.refl _ _⟩
end Go.Proofs.Ytcpeaeefphgbaaa
