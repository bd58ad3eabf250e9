/- The walk over the document's May of entries. -/
import Derived.Test.YtfjiefhicjnnnaaEntMay
namespace Go.Proofs.Ytfjiefhicjnnnaa
set_option linter.unusedVariables false
set_option linter.unusedSimpArgs false
open Go.RowKit

set_option maxHeartbeats 4000000 in
theorem rmay_any (u : En) (w : World) : Calls Try.prog 14 #[enV u] w (GB (mayE u) w) := by
  have hh := hasE u
  unfold enV
  obtain ⟨C, hC⟩ : ∃ C, C = enA u := ⟨_, rfl⟩
  rw [← hC] at hh ⊢
  obtain ⟨d0, d1, d2, d3, d4, d5, d6, d7, d8⟩ := hh
  rcases u with ⟨kind, tick, epoch, user, sess, count, cmd, arg, code⟩
  simp only at *
  clear hC
  have hr : mayE ⟨kind, tick, epoch, user, sess, count, cmd, arg, code⟩ = (decide (0 ≤ kind) && (decide (kind < 5) && (decide (0 ≤ tick) && (decide (tick ≤ 1073741824) && (decide (0 ≤ epoch) && (decide (epoch ≤ 1073741824) && (decide (0 ≤ user) && (decide (user ≤ 255) && (decide (0 ≤ cmd) && (decide (cmd ≤ 255) && (decide (0 ≤ arg) && (decide (arg ≤ 65535) && (decide (0 ≤ code) && decide (code ≤ 12)))))))))))))) := by
    rw [Bool.eq_iff_iff, may_iff]
    simp only [Bool.and_eq_true, decide_eq_true_eq]
    exact ⟨fun ⟨⟨a, b⟩, ⟨c, d⟩, ⟨e, f⟩, ⟨g, h⟩, ⟨i, j⟩, ⟨k, l⟩, m, n⟩ => ⟨a, b, e, f, g, h, i, j, k, l, m, n, c, d⟩, fun ⟨a, b, e, f, g, h, i, j, k, l, m, n, c, d⟩ => ⟨⟨a, b⟩, ⟨c, d⟩, ⟨e, f⟩, ⟨g, h⟩, ⟨i, j⟩, ⟨k, l⟩, m, n⟩⟩
  obtain ⟨M, hM⟩ : ∃ M, mayE ⟨kind, tick, epoch, user, sess, count, cmd, arg, code⟩ = M := ⟨_, rfl⟩
  rw [hM] at hr ⊢
  clear hM
  have hb := one_alloc w (.cells C 25)
  have HB := Lib.hid hb
  clear hb
  obtain ⟨p0, hp0⟩ : ∃ b, decide (0 ≤ kind) = b := ⟨_, rfl⟩
  obtain ⟨p1, hp1⟩ : ∃ b, decide (kind < 5) = b := ⟨_, rfl⟩
  obtain ⟨p2, hp2⟩ : ∃ b, decide (0 ≤ tick) = b := ⟨_, rfl⟩
  obtain ⟨p3, hp3⟩ : ∃ b, decide (tick ≤ 1073741824) = b := ⟨_, rfl⟩
  obtain ⟨p4, hp4⟩ : ∃ b, decide (0 ≤ epoch) = b := ⟨_, rfl⟩
  obtain ⟨p5, hp5⟩ : ∃ b, decide (epoch ≤ 1073741824) = b := ⟨_, rfl⟩
  obtain ⟨p6, hp6⟩ : ∃ b, decide (0 ≤ user) = b := ⟨_, rfl⟩
  obtain ⟨p7, hp7⟩ : ∃ b, decide (user ≤ 255) = b := ⟨_, rfl⟩
  obtain ⟨p8, hp8⟩ : ∃ b, decide (0 ≤ cmd) = b := ⟨_, rfl⟩
  obtain ⟨p9, hp9⟩ : ∃ b, decide (cmd ≤ 255) = b := ⟨_, rfl⟩
  obtain ⟨pa, hpa⟩ : ∃ b, decide (0 ≤ arg) = b := ⟨_, rfl⟩
  obtain ⟨pb, hpb⟩ : ∃ b, decide (arg ≤ 65535) = b := ⟨_, rfl⟩
  obtain ⟨pc, hpc⟩ : ∃ b, decide (0 ≤ code) = b := ⟨_, rfl⟩
  obtain ⟨pd, hpd⟩ : ∃ b, decide (code ≤ 12) = b := ⟨_, rfl⟩
  have ep0 : decide (kind < 0) = !p0 := by rw [← hp0, Bool.eq_iff_iff]; simp
  have ep1 : decide (5 ≤ kind) = !p1 := by rw [← hp1, Bool.eq_iff_iff]; simp
  have ep2 : decide (tick < 0) = !p2 := by rw [← hp2, Bool.eq_iff_iff]; simp
  have ep3 : decide (1073741824 < tick) = !p3 := by rw [← hp3, Bool.eq_iff_iff]; simp
  have ep4 : decide (epoch < 0) = !p4 := by rw [← hp4, Bool.eq_iff_iff]; simp
  have ep5 : decide (1073741824 < epoch) = !p5 := by rw [← hp5, Bool.eq_iff_iff]; simp
  rw [hp0, hp1, hp2, hp3, hp4, hp5, hp6, hp7, hp8, hp9, hpa, hpb, hpc, hpd] at hr
  clear hp0 hp1 hp2 hp3 hp4 hp5
  cases p0
  case' true =>
    cases p1
    case' true =>
      cases p2
      case' true =>
        cases p3
        case' true =>
          cases p4
          case' true =>
            cases p5
            case' true =>
              cases p6
              case' true =>
                cases p7
                case' true =>
                  cases p8
                  case' true =>
                    cases p9
                    case' true =>
                      cases pa
                      case' true =>
                        cases pb
                        case' true =>
                          cases pc
  all_goals
    simp only [Bool.not_true, Bool.not_false] at ep0 ep1 ep2 ep3 ep4 ep5
    simp only [Bool.true_and, Bool.false_and, Bool.and_true, Bool.and_false] at hr
    subst hr
    go_enter Try.func14, Try.ntmps14
    go_wp2
    go_ret
    exact ⟨rfl, HB.out⟩
end Go.Proofs.Ytfjiefhicjnnnaa
