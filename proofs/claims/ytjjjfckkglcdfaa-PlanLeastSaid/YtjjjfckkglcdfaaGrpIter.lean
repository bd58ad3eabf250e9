/- A set's groups, handed on one by one. -/
import Derived.Test.YtjjjfckkglcdfaaGrpLow
namespace Go.Proofs.Ytjjjfckkglcdfaa
set_option maxRecDepth 100000
set_option linter.unusedVariables false
set_option linter.unusedSimpArgs false
open Go.RowKit Go.Shelf
attribute [local go_sem] Oper.semAt_some

theorem list_more (t k m : Nat) : ∃ r, listTo t (k + m) = listTo t k ++ r := by
  induction m with
  | zero => exact ⟨[], by simp⟩
  | succ m ih =>
    obtain ⟨r, hr⟩ := ih
    rw [← Nat.add_assoc, list_next, hr]
    exact ⟨r ++ _, by rw [List.append_assoc]⟩
theorem list_at {t k : Nat} (hk : k < 8) (h : t.testBit k = true) : (listTo t k).length < (listTo t 8).length ∧ (listTo t 8).getD (listTo t k).length 0 = (k : Int) ∧ (listTo t (k + 1)).length = (listTo t k).length + 1 := by
  have h1 := list_next t k
  rw [if_pos h] at h1
  obtain ⟨r, hr⟩ := list_more t (k + 1) (7 - k)
  rw [show k + 1 + (7 - k) = 8 by omega, h1] at hr
  exact ⟨by rw [hr]; simp, by rw [hr]; simp [List.getD_eq_getElem?_getD], by rw [h1]; simp⟩
theorem list_not {t k : Nat} (h : t.testBit k = false) : (listTo t (k + 1)).length = (listTo t k).length := by
  rw [list_next, if_neg (by rw [h]; simp), List.append_nil]
theorem list_zero (t : Nat) : (listTo t 0).length = 0 := rfl
set_option maxHeartbeats 2000000 in
theorem groups_hands (t : Nat) (ht : t < 256) (Bs n0 : Nat) (w0 : World) (hbox : Boxed w0 Bs 3 (.int .i64 (t : Int))) :
    HandsC Try.prog 47 #[.pointer (some ⟨Bs, 0, none⟩)] (fun k => #[.int .i64 ((listTo t 8).getD k 0)]) (listTo t 8).length (fun _ => KeepB n0 [Bs]) w0 := by
  intro n L J Jx W hW hJ hJx hY h0
  have hBs := hbox.lt
  have hbW : Boxed W Bs 3 (.int .i64 (t : Int)) := (hW.block Bs hBs).trans hbox
  have HBW := Lib.hid hbW
  have HY := Lib.hid hY
  clear hY hW hbox hJ hJx hbW
  refine callsIn_of_wp Try.func47 rfl trivial ?_ rfl
  simp only [Try.ntmps47, List.size_toArray, List.length_cons, List.length_nil, Nat.reduceAdd, Nat.reduceSub, Array.replicate_succ, Array.replicate_zero, List.push_toArray, List.append_toArray, List.nil_append, List.cons_append]
  gi_wp2
  gi_loopw [4] (fun i wr => ∃ k : Nat, k ≤ 8 ∧ i = .int .i64 k ∧ J (listTo t k).length wr ∧ Boxed wr Bs 3 (.int .i64 (t : Int))) (fun i _ => 8 - (intOf i).toNat)
  case atStart => exact ⟨0, Nat.zero_le _, rfl, by rw [list_zero]; exact h0, HBW.out⟩
  case round =>
    obtain ⟨k, hk, rfl, hJk, hbr⟩ := hrel
    have hbx := hbr.cell
    have HBR := Lib.hid hbr
    clear hbr
    by_cases hlt : k < 8
    · have q1 : (k : Int) < 8 := by omega
      have HA := Lib.hid (fun X => callsIn_wide (n := n - 1).2 (has_any t k ht hlt X))
      cases hm : t.testBit k
      · rw [hm] at HA
        have HJK := Lib.hid hJk
        have HN := Lib.hid (list_not hm)
        clear hm hJk
        gi_wp2_with (refine ⟨trivial, (fun h => by simp [Fence.wide] at h), ?_⟩; (with_reducible refine (HA.out _).mono ?_); rintro e w1 ⟨rfl, rfl⟩)
        refine ⟨fun f h => (by cases h), ?_⟩
        gi_wp2
        go_roundw
        case rel => exact ⟨k + 1, by omega, by go_num, by rw [HN.out]; exact HJK.out, HBR.out⟩
        case measure => simp [intOf]; omega
      · rw [hm] at HA
        obtain ⟨k1, k2, k3⟩ := list_at hlt hm
        have hy0 := yield_any (n - 1) (HY.out _ wr k1 hJk)
        rw [k2, ← k3] at hy0
        obtain ⟨fn, tmps, assign, body, hy, hR⟩ := hy0
        have HR := Lib.hid hR
        clear hR k1 k2 k3 hm hJk
        gi_wp2_with (refine ⟨trivial, (fun h => by simp [Fence.wide] at h), ?_⟩; (with_reducible refine (HA.out _).mono ?_); rintro e w1 ⟨rfl, rfl⟩)
        refine ⟨(fun h => by simp [Fence.wide] at h), HR.out.mono ?_⟩
        rintro e W3 (⟨rfl, hJ3, hk3, -⟩ | ⟨rfl, hJx3, -⟩)
        · have HJ3 := Lib.hid hJ3
          have HK3 := Lib.hid hk3
          clear hJ3 hk3 hy HR
          gi_wp2
          go_roundw
          case rel => exact ⟨k + 1, by omega, by go_num, HJ3.out, HK3.out.2 Bs (by simp) _ HBR.out⟩
          case measure => simp [intOf]; omega
        · have HJX := Lib.hid hJx3
          clear hJx3 hy HR
          gi_wp2
          refine bodyPost_ret (results_none rfl _ _ _) rfl ?_
          exact ⟨⟨_, rfl⟩, .inr HJX.out⟩
    · obtain rfl : k = 8 := by omega
      gi_wp2
      go_end0
      exact ⟨⟨_, rfl⟩, .inl hJk⟩
end Go.Proofs.Ytjjjfckkglcdfaa
