/- The walk over package user's May. -/
import Derived.Test.YtcfkpepohnjdfaaDoorUsrSpec
import Derived.Deep.LoopGhost
namespace Go.Proofs.YtcfkpepohnjdfaaDoor
set_option linter.unusedVariables false
set_option linter.unusedSimpArgs false
open Go.RowKit

set_option maxHeartbeats 1000000 in
theorem umay_any (A : Option Addr) (n c : Nat) (l : List Us) (w : World) (hl : Uss w A n c l) :
    Calls Tryd.prog 15 #[.slice A n c] w (GB (mayU l) w) := by
  have hn := hl.small
  have HLL := Lib.hid hl.len
  by_cases h8 : n ≤ 8
  · have q8 : (n : Int) ≤ 8 := by omega
    go_enter Tryd.func15, Tryd.ntmps15
    go_wp2
    go_step3
    go_wp2
    go_step3
    go_wp2
    go_loopw [3, 4, 12] (fun g x i wr => ∃ k : Nat, k ≤ n ∧ g = .int .i64 k ∧ i = .int .i64 k ∧ x = .int .i64 (lastFrom 0 (l.take k)) ∧ mayFrom 0 (l.take k) = true ∧ Below w.heap.size w wr) (fun _ _ i _ => n - (intOf i).toNat)
    case atStart => exact ⟨0, by omega, rfl, rfl, rfl, rfl, Below.refl _ _⟩
    case round =>
      obtain ⟨k, hk, rfl, rfl, rfl, hm, hb⟩ := hrel
      by_cases hlt : k < n
      · obtain ⟨b, off, u, rfl, -, hul, hu, z0, z1, z2, hkey, hkn⟩ := (hl.below hb).at_ k hlt
        have hmore := mayFrom_more hu 0
        have hlast := lastFrom_more hu 0
        rw [hm, Bool.true_and] at hmore
        obtain ⟨no, role, A', n', c', key⟩ := u
        simp only at z0 z1 z2 hlast
        obtain ⟨x, hx⟩ : ∃ x, x = lastFrom 0 (l.take k) := ⟨_, rfl⟩
        rw [← hx] at hmore ⊢
        have q0 : 0 ≤ (k : Int) := by omega
        have q1 : (k : Int) < n := by omega
        have HB := Lib.hid hb
        have HU := Lib.hid hu
        have HM := Lib.hid hmore
        have HLA := Lib.hid hlast
        have HX := Lib.hid hx
        have hone := one_alloc wr (.cells #[.int .i64 no, .int .i64 role, .slice A' n' c'] 25)
        have HB1 := Lib.hid (hb.trans (hone.mono hb.size))
        have hbad : goodU x ⟨no, role, A', n', c', key⟩ = false → false = mayU l := fun h => by
          have h2 : mayFrom 0 l = false := mayFrom_stop hu (by rw [← hx]; exact h)
          rw [mayU, h2, Bool.and_false]
        have qne : ((k : Int) == (n : Int)) = false := by rw [beq_eq_false_iff_ne]; omega
        clear hb hu hmore hlast hx hone hul hkey hkn hm
        by_cases h1 : x < no
        · by_cases h2 : no ≤ 255
          · cases h3 : isB role with
            | false =>
              have h0 : goodU x ⟨no, role, A', n', c', key⟩ = false := by simp [goodU, h3]
              have HR := Lib.hid h3
              clear h3
              have HR2 := Lib.hid (hbad h0)
              clear hbad h0
              go_wp2_with (go_at_call 21; refine (is_any role _).mono ?_; rintro e w1 ⟨he, rfl⟩; rw [HR.out] at he; subst he)
              try rw [Exit.noGoto_ret]
              go_ret
              exact ⟨congrArg (fun b => Ending.returned (Value.bool b)) HR2.out, HB1.out⟩
            | true =>
              have HR := Lib.hid h3
              by_cases h4 : 16 ≤ n'
              · have h4' : (16 : Int) ≤ n' := by omega
                by_cases h5 : n' ≤ 64
                · have h5' : (n' : Int) ≤ 64 := by omega
                  have hgood : goodU x ⟨no, role, A', n', c', key⟩ = true := good_iff.2 ⟨h1, h2, h3, h4, h5⟩
                  have HM2 := Lib.hid (HM.out.trans hgood)
                  clear hgood hbad h3
                  go_wp2_with (go_at_call 21; refine (is_any role _).mono ?_; rintro e w1 ⟨he, rfl⟩; rw [HR.out] at he; subst he)
                  go_roundw
                  case rel => exact ⟨k + 1, by omega, by go_num, by go_num, by rw [HLA.out], HM2.out, HB1.out⟩
                  case measure => simp [intOf]; omega
                · have h5' : (64 : Int) < n' := by omega
                  have h0 : goodU x ⟨no, role, A', n', c', key⟩ = false := by simp [goodU, h5]
                  clear h3
                  have HR2 := Lib.hid (hbad h0)
                  clear hbad h0
                  go_wp2_with (go_at_call 21; refine (is_any role _).mono ?_; rintro e w1 ⟨he, rfl⟩; rw [HR.out] at he; subst he)
                  try rw [Exit.noGoto_ret]
                  go_ret
                  exact ⟨congrArg (fun b => Ending.returned (Value.bool b)) HR2.out, HB1.out⟩
              · have h4' : (n' : Int) < 16 := by omega
                have h0 : goodU x ⟨no, role, A', n', c', key⟩ = false := by simp [goodU, h4]
                clear h3
                have HR2 := Lib.hid (hbad h0)
                clear hbad h0
                go_wp2_with (go_at_call 21; refine (is_any role _).mono ?_; rintro e w1 ⟨he, rfl⟩; rw [HR.out] at he; subst he)
                try rw [Exit.noGoto_ret]
                go_ret
                exact ⟨congrArg (fun b => Ending.returned (Value.bool b)) HR2.out, HB1.out⟩
          · have h2' : 255 < no := by omega
            have h0 : goodU x ⟨no, role, A', n', c', key⟩ = false := by simp [goodU, h2]
            have HR2 := Lib.hid (hbad h0)
            clear hbad h0
            go_wp2
            try rw [Exit.noGoto_ret]
            go_ret
            exact ⟨congrArg (fun b => Ending.returned (Value.bool b)) HR2.out, HB1.out⟩
        · have h1' : no ≤ x := by omega
          have h0 : goodU x ⟨no, role, A', n', c', key⟩ = false := by simp [goodU, h1]
          have HR2 := Lib.hid (hbad h0)
          clear hbad h0
          go_wp2
          try rw [Exit.noGoto_ret]
          go_ret
          exact ⟨congrArg (fun b => Ending.returned (Value.bool b)) HR2.out, HB1.out⟩
      · have hkn : k = n := by omega
        have hge : ¬ ((k : Int) < n) := by omega
        have qeq : ((k : Int) == (n : Int)) = true := by rw [beq_iff_eq]; omega
        have hr : true = mayU l := by
          rw [hkn, List.take_of_length_le (by rw [HLL.out]; exact Nat.le_refl _)] at hm
          rw [mayU, HLL.out, decide_eq_true h8, hm]
          rfl
        have HR2 := Lib.hid hr
        have HB := Lib.hid hb
        clear hr hm hb
        go_wp2
        try rw [Exit.noGoto_ret]
        go_ret
        exact ⟨congrArg (fun b => Ending.returned (Value.bool b)) HR2.out, HB.out⟩
  · have q8 : (8 : Int) < n := by omega
    have hr : false = mayU l := by rw [mayU, HLL.out, decide_eq_false h8, Bool.false_and]
    have HR := Lib.hid hr
    clear hr
    go_enter Tryd.func15, Tryd.ntmps15
    go_wp2
    go_step3
    go_wp2
    rw [Exit.noGoto_ret]
    go_ret
    exact ⟨congrArg (fun b => Ending.returned (Value.bool b)) HR.out, Below.refl _ _⟩
end Go.Proofs.YtcfkpepohnjdfaaDoor
