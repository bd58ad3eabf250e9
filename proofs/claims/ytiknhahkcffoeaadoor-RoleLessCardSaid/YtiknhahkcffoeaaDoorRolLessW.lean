/- The laws RoleRed and RoleLess, walked. -/
import Derived.Test.YtiknhahkcffoeaaDoorRolAwake
namespace Go.Proofs.YtiknhahkcffoeaaDoor
set_option linter.unusedVariables false
set_option linter.unusedSimpArgs false
open Go.RowKit

set_option maxHeartbeats 1000000 in
theorem red_core (r : Int) (w : World) (hT : Tabs w) (a b d e : Bool) (ha : mayB r 1 = a) (hb : mayB r 5 = b) (hd : mayB r 6 = b) (he : (r == 2) = (a && b)) :
    Calls Tryd.prog 7 #[.int .i64 r] w fun e w' => e = .returned (.bool true) ∧ Below w.heap.size w w' := by
  have HA := Lib.hid ha
  have HB := Lib.hid hb
  have HD := Lib.hid hd
  clear ha hb hd
  cases a <;> cases b
  all_goals
    simp only [Bool.and_true, Bool.and_false] at he
    go_enter Tryd.func7, Tryd.ntmps7
    go_wp2_with (first
      | (go_at_call 8; refine (awake_any _ hT).mono ?_; rintro e w1 ⟨rfl, hB1⟩; have hT1 := hT.below hB1)
      | (go_at_call 18; (with_reducible refine (may_any 3 5 _ hT1).mono ?_); rintro e w5 ⟨he, rfl⟩; rw [show mayB 3 5 = true from rfl] at he; subst he)
      | (go_at_call 18; (with_reducible refine (may_any 3 4 _ hT1).mono ?_); rintro e w5 ⟨he, rfl⟩; rw [show mayB 3 4 = false from rfl] at he; subst he)
      | (go_at_call 18; (with_reducible refine (may_any r 1 _ hT1).mono ?_); rintro e w5 ⟨he, rfl⟩; rw [HA.out] at he; subst he)
      | (go_at_call 18; (with_reducible refine (may_any r 5 _ hT1).mono ?_); rintro e w5 ⟨he, rfl⟩; rw [HB.out] at he; subst he)
      | (go_at_call 18; (with_reducible refine (may_any r 6 _ hT1).mono ?_); rintro e w5 ⟨he, rfl⟩; rw [HD.out] at he; subst he))
    go_ret
    exact ⟨rfl, hB1⟩
theorem red_any (r : Int) (w : World) (hT : Tabs w) : Calls Tryd.prog 7 #[.int .i64 r] w fun e w' => e = .returned (.bool true) ∧ Below w.heap.size w w' := by
  cases hr : isB r
  · obtain ⟨m0, m1, m2, m3⟩ := no_role hr
    exact red_core r w hT false false true true (by simp [mayB, hr]) (by simp [mayB, hr]) (by simp [mayB, hr]) m2
  · rcases four_of hr with rfl | rfl | rfl | rfl
    · exact red_core 0 w hT false false true true rfl rfl rfl rfl
    · exact red_core 1 w hT true false true true rfl rfl rfl rfl
    · exact red_core 2 w hT true true true true rfl rfl rfl rfl
    · exact red_core 3 w hT false true true true rfl rfl rfl rfl

set_option maxHeartbeats 2000000 in
theorem less_yes (r c : Int) (w : World) (hT : Tabs w) (v t i m o : Bool) (h0 : 0 ≤ c) (h8 : c < 8) (hv : mayB 0 c = v) (ht : turnsB c = t) (hi : isB r = i) (hm : mayB r c = m) (he : mayB 2 c = true) (ho : mayB 1 c = o)
    (x1 : (v && t) = false) (x2 : (!i && m) = false) (x3 : (i && v && !m) = false) :
    Calls Tryd.prog 6 #[.int .i64 r, .int .i64 c] w fun e w' => e = .returned (.bool true) ∧ Below w.heap.size w w' := by
  have HV := Lib.hid hv
  have HT := Lib.hid ht
  have HI := Lib.hid hi
  have HM := Lib.hid hm
  have HE := Lib.hid he
  have HO := Lib.hid ho
  clear hv ht hi hm he ho
  cases v <;> cases t <;> cases i <;> cases m <;> first | (exfalso; exact absurd x1 (by decide)) | (exfalso; exact absurd x2 (by decide)) | (exfalso; exact absurd x3 (by decide)) | skip
  all_goals
    cases o
  all_goals
    clear x1 x2 x3
    go_enter Tryd.func6, Tryd.ntmps6
    go_wp2_with (first
      | (go_at_call 8; refine (awake_any _ hT).mono ?_; rintro e w1 ⟨rfl, hB1⟩; have hT1 := hT.below hB1)
      | (go_at_call 17; (with_reducible refine (is_any r _).mono ?_); rintro e w5 ⟨he, rfl⟩; rw [HI.out] at he; subst he)
      | (go_at_call 19; (with_reducible refine (turns_any c _).mono ?_); rintro e w5 ⟨he, rfl⟩; rw [HT.out] at he; subst he)
      | (go_at_call 18; (with_reducible refine (may_any 0 c _ hT1).mono ?_); rintro e w5 ⟨he, rfl⟩; rw [HV.out] at he; subst he)
      | (go_at_call 18; (with_reducible refine (may_any 1 c _ hT1).mono ?_); rintro e w5 ⟨he, rfl⟩; rw [HO.out] at he; subst he)
      | (go_at_call 18; (with_reducible refine (may_any 2 c _ hT1).mono ?_); rintro e w5 ⟨he, rfl⟩; rw [HE.out] at he; subst he)
      | (go_at_call 18; (with_reducible refine (may_any r c _ hT1).mono ?_); rintro e w5 ⟨he, rfl⟩; rw [HM.out] at he; subst he))
    go_ret
    exact ⟨rfl, hB1⟩
set_option maxHeartbeats 1000000 in
theorem less_low (r c : Int) (w : World) (hT : Tabs w) (i : Bool) (h0 : ¬ 0 ≤ c) (hv : mayB 0 c = false) (ht : turnsB c = false) (hi : isB r = i) (hm : mayB r c = false) (he : mayB 2 c = false) (ho : mayB 1 c = false) :
    Calls Tryd.prog 6 #[.int .i64 r, .int .i64 c] w fun e w' => e = .returned (.bool true) ∧ Below w.heap.size w w' := by
  have HV := Lib.hid hv
  have HT := Lib.hid ht
  have HI := Lib.hid hi
  have HM := Lib.hid hm
  have HE := Lib.hid he
  have HO := Lib.hid ho
  clear hv ht hi hm he ho
  cases i
  all_goals
    go_enter Tryd.func6, Tryd.ntmps6
    go_wp2_with (first
      | (go_at_call 8; refine (awake_any _ hT).mono ?_; rintro e w1 ⟨rfl, hB1⟩; have hT1 := hT.below hB1)
      | (go_at_call 17; (with_reducible refine (is_any r _).mono ?_); rintro e w5 ⟨he, rfl⟩; rw [HI.out] at he; subst he)
      | (go_at_call 19; (with_reducible refine (turns_any c _).mono ?_); rintro e w5 ⟨he, rfl⟩; rw [HT.out] at he; subst he)
      | (go_at_call 18; (with_reducible refine (may_any 0 c _ hT1).mono ?_); rintro e w5 ⟨he, rfl⟩; rw [HV.out] at he; subst he)
      | (go_at_call 18; (with_reducible refine (may_any 1 c _ hT1).mono ?_); rintro e w5 ⟨he, rfl⟩; rw [HO.out] at he; subst he)
      | (go_at_call 18; (with_reducible refine (may_any 2 c _ hT1).mono ?_); rintro e w5 ⟨he, rfl⟩; rw [HE.out] at he; subst he)
      | (go_at_call 18; (with_reducible refine (may_any r c _ hT1).mono ?_); rintro e w5 ⟨he, rfl⟩; rw [HM.out] at he; subst he))
    go_ret
    exact ⟨rfl, hB1⟩
set_option maxHeartbeats 1000000 in
theorem less_high (r c : Int) (w : World) (hT : Tabs w) (i : Bool) (h0 : 0 ≤ c) (h8 : ¬ c < 8) (hv : mayB 0 c = false) (ht : turnsB c = false) (hi : isB r = i) (hm : mayB r c = false) (he : mayB 2 c = false) (ho : mayB 1 c = false) :
    Calls Tryd.prog 6 #[.int .i64 r, .int .i64 c] w fun e w' => e = .returned (.bool true) ∧ Below w.heap.size w w' := by
  have HV := Lib.hid hv
  have HT := Lib.hid ht
  have HI := Lib.hid hi
  have HM := Lib.hid hm
  have HE := Lib.hid he
  have HO := Lib.hid ho
  clear hv ht hi hm he ho
  cases i
  all_goals
    go_enter Tryd.func6, Tryd.ntmps6
    go_wp2_with (first
      | (go_at_call 8; refine (awake_any _ hT).mono ?_; rintro e w1 ⟨rfl, hB1⟩; have hT1 := hT.below hB1)
      | (go_at_call 17; (with_reducible refine (is_any r _).mono ?_); rintro e w5 ⟨he, rfl⟩; rw [HI.out] at he; subst he)
      | (go_at_call 19; (with_reducible refine (turns_any c _).mono ?_); rintro e w5 ⟨he, rfl⟩; rw [HT.out] at he; subst he)
      | (go_at_call 18; (with_reducible refine (may_any 0 c _ hT1).mono ?_); rintro e w5 ⟨he, rfl⟩; rw [HV.out] at he; subst he)
      | (go_at_call 18; (with_reducible refine (may_any 1 c _ hT1).mono ?_); rintro e w5 ⟨he, rfl⟩; rw [HO.out] at he; subst he)
      | (go_at_call 18; (with_reducible refine (may_any 2 c _ hT1).mono ?_); rintro e w5 ⟨he, rfl⟩; rw [HE.out] at he; subst he)
      | (go_at_call 18; (with_reducible refine (may_any r c _ hT1).mono ?_); rintro e w5 ⟨he, rfl⟩; rw [HM.out] at he; subst he))
    go_ret
    have hd : decide (c < 8) = false := by simp only [decide_eq_false_iff_not]; omega
    refine ⟨?_, hB1⟩
    simp [hd]
theorem less_any (r c : Int) (w : World) (hT : Tabs w) : Calls Tryd.prog 6 #[.int .i64 r, .int .i64 c] w fun e w' => e = .returned (.bool true) ∧ Below w.heap.size w w' := by
  cases hc : cmdB c
  · have hz : ∀ r, mayB r c = false := fun r => by simp [mayB, hc]
    have h2 : ¬ (0 ≤ c ∧ c < 8) := by
      intro h3
      simp [cmdB, h3.1, h3.2] at hc
    have ht : turnsB c = false := by simp [turnsB]; omega
    by_cases h0 : 0 ≤ c
    · exact less_high r c w hT _ h0 (by omega) (hz _) ht rfl (hz _) (hz _) (hz _)
    · exact less_low r c w hT _ h0 (hz _) ht rfl (hz _) (hz _) (hz _)
  · cases hr : isB r
    · have hm : mayB r c = false := by simp [mayB, hr]
      rcases eight_of hc with rfl | rfl | rfl | rfl | rfl | rfl | rfl | rfl
      all_goals exact less_yes r _ w hT _ _ _ _ _ (by decide) (by decide) rfl rfl hr hm rfl rfl rfl rfl rfl
    · rcases eight_of hc with rfl | rfl | rfl | rfl | rfl | rfl | rfl | rfl <;> rcases four_of hr with rfl | rfl | rfl | rfl
      all_goals exact less_yes _ _ w hT _ _ _ _ _ (by decide) (by decide) rfl rfl rfl rfl rfl rfl rfl rfl rfl
end Go.Proofs.YtiknhahkcffoeaaDoor
