/- The walks over package user's Same, and the document's own. -/
import Derived.Test.YtcfkpepohnjdfaaDoorUsrSpec
import Derived.Test.YtcfkpepohnjdfaaDoorMacSame
namespace Go.Proofs.YtcfkpepohnjdfaaDoor
set_option linter.unusedVariables false
set_option linter.unusedSimpArgs false
open Go.RowKit

set_option maxHeartbeats 1000000 in
theorem usame1_any (u v : Us) (w : World) (hu : Bts w u.A u.n u.c u.key) (hv : Bts w v.A v.n v.c v.key) :
    Calls Tryd.prog 29 #[.agg #[.int .i64 u.no, .int .i64 u.role, .slice u.A u.n u.c], .agg #[.int .i64 v.no, .int .i64 v.role, .slice v.A v.n v.c]] w (GB (u.same v) w) := by
  obtain ⟨n1, r1, A1, m1, c1, k1⟩ := u
  obtain ⟨n2, r2, A2, m2, c2, k2⟩ := v
  simp only at hu hv
  have htwo := two_below w (.cells #[.int .i64 n1, .int .i64 r1, .slice A1 m1 c1] 25) (.cells #[.int .i64 n2, .int .i64 r2, .slice A2 m2 c2] 25)
  have HC := Lib.hid (msame_any A1 A2 m1 c1 m2 c2 k1 k2 _ (hu.below htwo) (hv.below htwo))
  have HTWO := Lib.hid htwo
  obtain ⟨E, hE⟩ : ∃ E, (k1 == k2) = E := ⟨_, rfl⟩
  rw [hE] at HC
  have HE := Lib.hid hE
  clear htwo hu hv hE
  cases e1 : (n1 == n2) with
  | false =>
    have hr : false = Us.same ⟨n1, r1, A1, m1, c1, k1⟩ ⟨n2, r2, A2, m2, c2, k2⟩ := by simp only [Us.same, e1, Bool.false_and]
    have HR := Lib.hid hr
    clear hr
    go_enter Tryd.func29, Tryd.ntmps29
    go_wp2
    go_ret
    exact ⟨congrArg (fun b => Ending.returned (Value.bool b)) HR.out, HTWO.out⟩
  | true =>
    cases e2 : (r1 == r2) with
    | false =>
      have hr : false = Us.same ⟨n1, r1, A1, m1, c1, k1⟩ ⟨n2, r2, A2, m2, c2, k2⟩ := by simp only [Us.same, e2, Bool.and_false, Bool.false_and]
      have HR := Lib.hid hr
      clear hr
      go_enter Tryd.func29, Tryd.ntmps29
      go_wp2
      go_ret
      exact ⟨congrArg (fun b => Ending.returned (Value.bool b)) HR.out, HTWO.out⟩
    | true =>
      have hr : E = Us.same ⟨n1, r1, A1, m1, c1, k1⟩ ⟨n2, r2, A2, m2, c2, k2⟩ := by simp only [Us.same, e1, e2, Bool.true_and, HE.out]
      have HR := Lib.hid hr
      clear hr
      go_enter Tryd.func29, Tryd.ntmps29
      go_wp2_with (go_at_call 30; refine HC.out.mono ?_; rintro e w1 ⟨rfl, hj⟩; have HJ := Lib.hid hj; clear hj)
      go_ret
      refine ⟨congrArg (fun b => Ending.returned (Value.bool b)) HR.out, ?_⟩
      obtain ⟨j, rfl⟩ := HJ.out
      exact below_drewN HTWO.out _

set_option maxHeartbeats 1000000 in
theorem uequalFunc_any (A : Option Addr) (n c : Nat) (l : List Us) (B : Option Addr) (m d : Nat) (l2 : List Us) (w : World) (hl : Uss w A n c l) (hm : Uss w B m d l2) :
    Calls Tryd.prog 28 #[.slice A n c, .slice B m d, .func (.func 29) #[] #[]] w (GB (sameU l l2) w) := by
  have hn := hl.small
  have hn2 := hm.small
  have HL := Lib.hid hl.len
  have HL2 := Lib.hid hm.len
  by_cases hmm : n = m
  · subst hmm
    have hne : ((n : Int) != (n : Int)) = false := by simp
    go_enter Tryd.func28, Tryd.ntmps28
    go_wp2
    go_loopw [17] (fun v wr => ∃ j : Nat, j ≤ n ∧ v = .int .i64 j ∧ sameU (l.take j) (l2.take j) = true ∧ Below w.heap.size w wr) (fun v _ => n - (intOf v).toNat)
    case atStart => exact ⟨0, Nat.zero_le _, rfl, by simp [sameU], Below.refl _ _⟩
    case round =>
      obtain ⟨j, hj, rfl, hsm, hbw⟩ := hrel
      have HBW := Lib.hid hbw
      by_cases hlt : j < n
      · obtain ⟨b, off, u, rfl, -, -, hu, z0, z1, z2, hk, -⟩ := (hl.below hbw).at_ j hlt
        obtain ⟨b2, off2, v, rfl, -, -, hv, y0, y1, y2, hk2, -⟩ := (hm.below hbw).at_ j hlt
        have hst := sameU_take hu hv
        have hsp := fun h => sameU_stop hu hv h
        rw [hsm, Bool.true_and] at hst
        have htwo := two_below wr (.cells #[.int .i64 u.no, .int .i64 u.role, .slice u.A u.n u.c] 25) (.cells #[.int .i64 v.no, .int .i64 v.role, .slice v.A v.n v.c] 25)
        have HC := Lib.hid (usame1_any u v _ (hk.below htwo) (hk2.below htwo))
        have hone := one_alloc wr (.cells #[.int .i64 u.no, .int .i64 u.role, .slice u.A u.n u.c] 25)
        have x0 := (hone.cell (block_lt_of_cell y0)).trans y0
        have x1 := (hone.cell (block_lt_of_cell y1)).trans y1
        have x2 := (hone.cell (block_lt_of_cell y2)).trans y2
        obtain ⟨E, hE⟩ : ∃ E, u.same v = E := ⟨_, rfl⟩
        rw [hE] at HC hst hsp
        have HTWO := Lib.hid htwo
        have HST := Lib.hid hst
        have HSP := Lib.hid hsp
        obtain ⟨n1, r1, A1, m1, c1, k1⟩ := u
        obtain ⟨n2, r2, A2, m2, c2, k2⟩ := v
        simp only at z0 z1 z2 y0 y1 y2 x0 x1 x2 HC HTWO
        have q0 : 0 ≤ (j : Int) := by omega
        have q1 : (j : Int) < n := by omega
        clear hbw hst hsp hsm hone htwo hk hk2 hu hv hE
        cases E with
        | true =>
          go_wp2_with (go_at_call 29; refine HC.out.mono ?_; rintro e w1 ⟨rfl, hb4⟩; have hb4 := HTWO.out.trans (hb4.mono HTWO.out.size))
          go_roundw
          case rel => exact ⟨j + 1, by omega, by go_num, HST.out, HBW.out.trans (hb4.mono HBW.out.size)⟩
          case measure => simp [intOf]; omega
        | false =>
          have HS2 := Lib.hid (HSP.out rfl)
          clear HSP
          go_wp2_with (go_at_call 29; refine HC.out.mono ?_; rintro e w1 ⟨rfl, hb4⟩; have hb4 := HTWO.out.trans (hb4.mono HTWO.out.size))
          go_ret
          exact ⟨by rw [HS2.out]; rfl, HBW.out.trans (hb4.mono HBW.out.size)⟩
      · obtain rfl : j = n := by omega
        rw [List.take_of_length_le (by rw [HL.out]; exact Nat.le_refl _), List.take_of_length_le (by rw [HL2.out]; exact Nat.le_refl _)] at hsm
        have HS := Lib.hid hsm
        clear hbw hsm
        go_wp2
        go_ret
        exact ⟨by rw [HS.out]; rfl, HBW.out⟩
  · have hne : ((n : Int) != (m : Int)) = true := by rw [bne_iff_ne]; omega
    have hr : false = sameU l l2 := (sameU_ne (by rw [HL.out, HL2.out]; exact hmm)).symm
    have HR := Lib.hid hr
    clear hr
    go_enter Tryd.func28, Tryd.ntmps28
    go_wp2
    go_ret
    exact ⟨congrArg (fun b => Ending.returned (Value.bool b)) HR.out, Below.refl _ _⟩
theorem usame_any (A : Option Addr) (n c : Nat) (l : List Us) (B : Option Addr) (m d : Nat) (l2 : List Us) (w : World) (hl : Uss w A n c l) (hm : Uss w B m d l2) :
    Calls Tryd.prog 16 #[.slice A n c, .slice B m d] w (GB (sameU l l2) w) := by
  have HC := Lib.hid (uequalFunc_any A n c l B m d l2 w hl hm)
  obtain ⟨E, hE⟩ : ∃ E, sameU l l2 = E := ⟨_, rfl⟩
  rw [hE] at HC ⊢
  clear hl hm hE
  go_enter Tryd.func16, Tryd.ntmps16
  go_wp2_with (go_at_call 28; refine HC.out.mono ?_; rintro e w1 ⟨rfl, hb4⟩; have HB4 := Lib.hid hb4; clear hb4)
  go_ret
  exact ⟨rfl, HB4.out⟩
end Go.Proofs.YtcfkpepohnjdfaaDoor
