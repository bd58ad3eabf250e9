/- The law RoleTells, walked. -/
import Derived.Test.YtiknhahkcffoeaaDoorRolAwake
namespace Go.Proofs.YtiknhahkcffoeaaDoor
set_option linter.unusedVariables false
set_option linter.unusedSimpArgs false
open Go.RowKit

theorem tells_not (r c : Int) (s : ByteArray) (w : World) (hT : Tabs w) (h : (40 : Int) < s.size) : Calls Tryd.prog 3 #[.int .i64 r, .int .i64 c, .string s] w fun e w' => e = .returned (.bool true) ∧ Below w.heap.size w w' := by
  go_enter Tryd.func3, Tryd.ntmps3
  go_wp2_with (go_at_call 8; refine (awake_any _ hT).mono ?_; rintro e w1 ⟨rfl, hB1⟩)
  go_ret
  exact ⟨rfl, hB1⟩
set_option maxHeartbeats 1000000 in
theorem tells_ok (r c : Int) (s : ByteArray) (w : World) (hT : Tabs w) (h : ¬ (40 : Int) < s.size) : Calls Tryd.prog 3 #[.int .i64 r, .int .i64 c, .string s] w fun e w' => e = .returned (.bool true) ∧ Below w.heap.size w w' := by
  obtain ⟨i, hi⟩ : ∃ z, isB r = z := ⟨_, rfl⟩
  obtain ⟨m, hm⟩ : ∃ z, mayB r c = z := ⟨_, rfl⟩
  obtain ⟨t, ht⟩ : ∃ z, turnsB c = z := ⟨_, rfl⟩
  obtain ⟨n, hn⟩ : ∃ z, nameB c = z := ⟨_, rfl⟩
  obtain ⟨x, hx⟩ : ∃ z, readB s = z := ⟨_, rfl⟩
  obtain ⟨la, hla⟩ : ∃ z, allB r = z := ⟨_, rfl⟩
  obtain ⟨lw, hlw⟩ : ∃ z, whoB c = z := ⟨_, rfl⟩
  have HI := Lib.hid hi
  have HM := Lib.hid hm
  have HT := Lib.hid ht
  have HN := Lib.hid hn
  have HX := Lib.hid hx
  have HLA := Lib.hid hla
  have HLW := Lib.hid hlw
  clear hi hm ht hn hx hla hlw
  go_enter Tryd.func3, Tryd.ntmps3
  go_wp2_with (first
    | (go_at_call 8; refine (awake_any _ hT).mono ?_; rintro e w1 ⟨rfl, hB1⟩; have hT1 := hT.below hB1)
    | (go_at_call 9; (with_reducible refine (ris_any r _).mono ?_); rintro e w5 ⟨he, rfl⟩; rw [HI.out] at he; subst he)
    | (go_at_call 10; (with_reducible refine (rmay_any r c _).mono ?_); rintro e w5 ⟨he, rfl⟩; rw [HM.out] at he; subst he)
    | (go_at_call 11; (with_reducible refine (rturns_any c _).mono ?_); rintro e w2 ⟨he, rfl⟩; rw [HT.out] at he; subst he)
    | (go_at_call 13; (with_reducible refine (all_any r _ hT1).mono ?_); rintro e w3 ⟨A3, n3, c3, rfl, hi3, hB3⟩
       rw [HLA.out] at hi3
       have hT3 := hT1.below hB3
       have hB3' := then_below hB1 hB3)
    | (go_at_call 14; (with_reducible refine (rall_any r _).mono ?_); rintro e w4 ⟨A4, n4, c4, rfl, hi4, hB4⟩
       rw [HLA.out] at hi4
       have hT4 := hT3.below hB4
       have hB4' := then_below hB3' hB4
       have hi3' := hi3.below hB4)
    | (go_at_call 12; (with_reducible refine (ints_any A3 A4 n3 c3 n4 c4 la la w4 hi3' hi4).mono ?_); rintro e w5 ⟨he, j5, hw5⟩
       rw [beq_self_eq_true] at he
       subst he
       have hB5 : Below w.heap.size w w5 := by rw [hw5]; exact below_drewN hB4' _
       have hT5 : Tabs w5 := by rw [hw5]; exact hT4.draw _
       clear hw5 hi3 hi3' hi4)
    | (go_at_call 15; (with_reducible refine (who_any c _ hT5).mono ?_); rintro e w6 ⟨A6, n6, c6, rfl, hi6, hB6⟩
       rw [HLW.out] at hi6
       have hT6 := hT5.below hB6
       have hB6' := then_below hB5 hB6)
    | (go_at_call 16; (with_reducible refine (rwho_any c _).mono ?_); rintro e w7 ⟨A7, n7, c7, rfl, hi7, hB7⟩
       rw [HLW.out] at hi7
       have hT7 := hT6.below hB7
       have hB7' := then_below hB6' hB7
       have hi6' := hi6.below hB7)
    | (go_at_call 12; (with_reducible refine (ints_any A6 A7 n6 c6 n7 c7 lw lw w7 hi6' hi7).mono ?_); rintro e w8 ⟨he, j8, hw8⟩
       rw [beq_self_eq_true] at he
       subst he
       have hB8 : Below w.heap.size w w8 := by rw [hw8]; exact below_drewN hB7' _
       have hT8 : Tabs w8 := by rw [hw8]; exact hT7.draw _
       clear hw8 hi6 hi6' hi7)
    | (go_at_call 17; (with_reducible refine (is_any r _).mono ?_); rintro e w9 ⟨he, rfl⟩; rw [HI.out] at he; subst he)
    | (go_at_call 18; (with_reducible refine (may_any r c _ hT8).mono ?_); rintro e w9 ⟨he, rfl⟩; rw [HM.out] at he; subst he)
    | (go_at_call 19; (with_reducible refine (turns_any c _).mono ?_); rintro e w9 ⟨he, rfl⟩; rw [HT.out] at he; subst he)
    | (go_at_call 20; (with_reducible refine (name_any c _ hT8).mono ?_); rintro e w9 ⟨he, rfl⟩; rw [HN.out] at he; subst he)
    | (go_at_call 21; (with_reducible refine (rname_any c _).mono ?_); rintro e w9 ⟨he, rfl⟩; rw [HN.out] at he; subst he)
    | (go_at_call 22; (with_reducible refine (read_any s _ hT8).mono ?_); rintro e w9 ⟨he, rfl⟩; rw [HX.out] at he; subst he)
    | (go_at_call 23; (with_reducible refine (rread_any s _).mono ?_); rintro e w9 ⟨he, rfl⟩; rw [HX.out] at he; subst he))
  go_ret
  exact ⟨by simp, hB8⟩
theorem tells_any (r c : Int) (s : ByteArray) (w : World) (hT : Tabs w) : Calls Tryd.prog 3 #[.int .i64 r, .int .i64 c, .string s] w fun e w' => e = .returned (.bool true) ∧ Below w.heap.size w w' := by
  by_cases h : (40 : Int) < s.size
  · exact tells_not r c s w hT h
  · exact tells_ok r c s w hT h
end Go.Proofs.YtiknhahkcffoeaaDoor
