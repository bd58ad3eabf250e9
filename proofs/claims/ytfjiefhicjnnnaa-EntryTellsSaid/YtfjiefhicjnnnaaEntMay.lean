/- The walks over package entry's upTo and May. -/
import Derived.Test.YtfjiefhicjnnnaaEntSpec
namespace Go.Proofs.Ytfjiefhicjnnnaa
set_option linter.unusedVariables false
set_option linter.unusedSimpArgs false
open Go.RowKit

/-- an array that holds an entry's cells -/
structure HasE (C : Array Value) (u : En) : Prop where
  d0 : C[0]? = some (.int .i64 u.kind)
  d1 : C[1]? = some (.int .i64 u.tick)
  d2 : C[2]? = some (.int .i64 u.epoch)
  d3 : C[3]? = some (.int .i64 u.user)
  d4 : C[4]? = some (.int .u64 u.sess)
  d5 : C[5]? = some (.int .u64 u.count)
  d6 : C[6]? = some (.int .i64 u.cmd)
  d7 : C[7]? = some (.int .i64 u.arg)
  d8 : C[8]? = some (.int .i64 u.code)
theorem hasE (u : En) : HasE (enA u) u := ⟨rfl, rfl, rfl, rfl, rfl, rfl, rfl, rfl, rfl⟩
set_option maxHeartbeats 1000000 in
theorem upto_any (n m : Int) (w : World) : Calls Try.prog 31 #[.int .i64 n, .int .i64 m] w fun e w' => e = .returned (.bool (upB n m)) ∧ w = w' := by
  have hr : upB n m = (decide (0 ≤ n) && decide (n ≤ m)) := rfl
  cases h1 : decide (0 ≤ n) with
  | false =>
    rw [h1, Bool.false_and] at hr
    rw [hr]
    clear hr
    go_enter Try.func31, Try.ntmps31
    go_wp2
    go_ret
    exact ⟨rfl, rfl⟩
  | true =>
    rw [h1, Bool.true_and] at hr
    rw [hr]
    clear hr
    go_enter Try.func31, Try.ntmps31
    go_wp2
    go_ret
    exact ⟨rfl, rfl⟩
set_option maxHeartbeats 4000000 in
theorem may_any (u : En) (w : World) : Calls Try.prog 18 #[enV u] w (GB (mayE u) w) := by
  have hh := hasE u
  unfold enV
  obtain ⟨C, hC⟩ : ∃ C, C = enA u := ⟨_, rfl⟩
  rw [← hC] at hh ⊢
  obtain ⟨d0, d1, d2, d3, d4, d5, d6, d7, d8⟩ := hh
  rcases u with ⟨kind, tick, epoch, user, sess, count, cmd, arg, code⟩
  simp only at *
  clear hC
  have hr : mayE ⟨kind, tick, epoch, user, sess, count, cmd, arg, code⟩ = (decide (0 ≤ kind) && (decide (kind < 5) && (decide (0 ≤ code) && (decide (code ≤ 12) && (upB tick 1073741824 && (upB epoch 1073741824 && (upB user 255 && (upB cmd 255 && upB arg 65535)))))))) := rfl
  obtain ⟨M, hM⟩ : ∃ M, mayE ⟨kind, tick, epoch, user, sess, count, cmd, arg, code⟩ = M := ⟨_, rfl⟩
  rw [hM] at hr ⊢
  clear hM
  obtain ⟨u1, hu1⟩ : ∃ b, upB tick 1073741824 = b := ⟨_, rfl⟩
  rw [hu1] at hr
  have H1 := Lib.hid hu1
  clear hu1
  obtain ⟨u2, hu2⟩ : ∃ b, upB epoch 1073741824 = b := ⟨_, rfl⟩
  rw [hu2] at hr
  have H2 := Lib.hid hu2
  clear hu2
  obtain ⟨u3, hu3⟩ : ∃ b, upB user 255 = b := ⟨_, rfl⟩
  rw [hu3] at hr
  have H3 := Lib.hid hu3
  clear hu3
  obtain ⟨u4, hu4⟩ : ∃ b, upB cmd 255 = b := ⟨_, rfl⟩
  rw [hu4] at hr
  have H4 := Lib.hid hu4
  clear hu4
  obtain ⟨u5, hu5⟩ : ∃ b, upB arg 65535 = b := ⟨_, rfl⟩
  rw [hu5] at hr
  have H5 := Lib.hid hu5
  clear hu5
  have hb := one_alloc w (.cells C 25)
  have HB := Lib.hid hb
  clear hb
  obtain ⟨p1, hp1⟩ : ∃ b, decide (0 ≤ kind) = b := ⟨_, rfl⟩
  obtain ⟨p2, hp2⟩ : ∃ b, decide (kind < 5) = b := ⟨_, rfl⟩
  obtain ⟨p3, hp3⟩ : ∃ b, decide (0 ≤ code) = b := ⟨_, rfl⟩
  obtain ⟨p4, hp4⟩ : ∃ b, decide (code ≤ 12) = b := ⟨_, rfl⟩
  have e1 : decide (kind < 0) = !p1 := by rw [← hp1, Bool.eq_iff_iff]; simp
  have e2 : decide (5 ≤ kind) = !p2 := by rw [← hp2, Bool.eq_iff_iff]; simp
  have e3 : decide (code < 0) = !p3 := by rw [← hp3, Bool.eq_iff_iff]; simp
  have e4 : decide (12 < code) = !p4 := by rw [← hp4, Bool.eq_iff_iff]; simp
  rw [hp1, hp2, hp3, hp4] at hr
  clear hp1 hp2 hp3 hp4
  cases p1
  case' true =>
    cases p2
    case' true =>
      cases p3
      case' true =>
        cases p4
        case' true =>
          cases u1
          case' true =>
            cases u2
            case' true =>
              cases u3
              case' true =>
                cases u4
  all_goals
    simp only [Bool.not_true, Bool.not_false] at e1 e2 e3 e4
    simp only [Bool.true_and, Bool.false_and, Bool.and_true, Bool.and_false] at hr
    subst hr
    go_enter Try.func18, Try.ntmps18
    go_wp2_with (first
      | (go_at_call 31; (with_reducible refine (upto_any tick 1073741824 _).mono ?_); rintro e w1 ⟨he, rfl⟩; rw [H1.out] at he; subst he)
      | (go_at_call 31; (with_reducible refine (upto_any epoch 1073741824 _).mono ?_); rintro e w2 ⟨he, rfl⟩; rw [H2.out] at he; subst he)
      | (go_at_call 31; (with_reducible refine (upto_any user 255 _).mono ?_); rintro e w3 ⟨he, rfl⟩; rw [H3.out] at he; subst he)
      | (go_at_call 31; (with_reducible refine (upto_any cmd 255 _).mono ?_); rintro e w4 ⟨he, rfl⟩; rw [H4.out] at he; subst he)
      | (go_at_call 31; (with_reducible refine (upto_any arg 65535 _).mono ?_); rintro e w5 ⟨he, rfl⟩; rw [H5.out] at he; subst he))
    go_ret
    exact ⟨rfl, HB.out⟩
end Go.Proofs.Ytfjiefhicjnnnaa
