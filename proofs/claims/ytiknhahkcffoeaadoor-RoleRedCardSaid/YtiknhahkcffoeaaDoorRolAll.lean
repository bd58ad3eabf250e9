/- All and Who, and the document's own: lists that grow. -/
import Derived.Test.YtiknhahkcffoeaaDoorRolPlain
namespace Go.Proofs.YtiknhahkcffoeaaDoor
set_option linter.unusedVariables false
set_option linter.unusedSimpArgs false
open Go.RowKit

theorem cmds_next (k : Nat) (h : k < 8) : cmds.take (k + 1) = cmds.take k ++ [(k : Int)] := by
  match k, h with
  | 0, _ => rfl
  | 1, _ => rfl
  | 2, _ => rfl
  | 3, _ => rfl
  | 4, _ => rfl
  | 5, _ => rfl
  | 6, _ => rfl
  | 7, _ => rfl
theorem roles_next (k : Nat) (h : k < 4) : roles.take (k + 1) = roles.take k ++ [(k : Int)] := by
  match k, h with
  | 0, _ => rfl
  | 1, _ => rfl
  | 2, _ => rfl
  | 3, _ => rfl

set_option maxHeartbeats 1000000 in
theorem all_any (x : Int) (w : World) (hT : Tabs w) : Calls Tryd.prog 13 #[.int .i64 x] w fun e w' => ∃ A n c, e = .returned (.slice A n c) ∧ Its .i64 w' A n c (allB x) ∧ Below w.heap.size w w' := by
  go_enter Tryd.func13, Tryd.ntmps13
  go_wp2
  go_loopw [3, 4, 5] (fun v q i wr => ∃ (k : Nat) (L : List Int), k ≤ 8 ∧ i = .int .i64 k ∧ L = (cmds.take k).filter (fun j => mayB x j) ∧ OwnI .i64 3 wr w.heap.size v L ∧ Below w.heap.size w wr) (fun _ _ i _ => 8 - (intOf i).toNat)
  case atStart => exact ⟨0, [], by omega, rfl, rfl, OwnI.nil _ _ _ _, Below.refl _ _⟩
  case round =>
    obtain ⟨k, L, hk, rfl, hL, hown, hB⟩ := hrel
    have HL := Lib.hid hL
    by_cases hlt : k < 8
    · have hlt2 : (k : Int) < 8 := by omega
      have hLl : L.length ≤ 8 := by
        rw [hL]
        refine Nat.le_trans (List.length_filter_le _ _) ?_
        rw [List.length_take]
        omega
      cases hm : mayB x k
      · have hL2 : L = (cmds.take (k + 1)).filter (fun j => mayB x j) := by
          rw [cmds_next k hlt, List.filter_append, ← hL]
          simp [hm]
        have HL2 := Lib.hid hL2
        have HM := Lib.hid hm
        clear hL hL2 hm
        go_wp2_with (go_at_call 18; (with_reducible refine (may_any x k wr (hT.below hB)).mono ?_); rintro e w5 ⟨he, rfl⟩; rw [HM.out] at he; subst he)
        go_roundw
        case rel => exact ⟨k + 1, L, by omega, by go_num, HL2.out, hown, hB⟩
        case measure => simp [intOf]; omega
      · have hL2 : L ++ [(k : Int)] = (cmds.take (k + 1)).filter (fun j => mayB x j) := by
          rw [cmds_next k hlt, List.filter_append, ← hL]
          simp [hm]
        have HL2 := Lib.hid hL2
        have HM := Lib.hid hm
        clear hL hL2 hm
        go_wp2_with (first
          | (go_at_call 18; (with_reducible refine (may_any x k wr (hT.below hB)).mono ?_); rintro e w5 ⟨he, hw5⟩; rw [HM.out] at he; subst he; subst hw5)
          | (at_builtin
             refine wpList_append_i rfl 26 3 .i64 8 _ _ rfl Tryd.underlying26 (by kernel_rfl) (by omega) w.heap.size u3 L rfl (hown.more _) _ 1 1 [(k : Int)] rfl (one_its .i64 3 _ (k : Int)) (by omega) (Nat.le_trans hB.size (size_le_alloc _ _)) ?_
             intro v5 w6 hown5 hg5
             have hB5 : Below w.heap.size w w6 := (hB.alloc hB.size _).grown hg5 (Nat.le_trans hB.size (size_le_alloc _ _)) (fun k hk => (hown.size k hk).1)
             clear hg5))
        go_roundw
        case rel => exact ⟨k + 1, L ++ [(k : Int)], by omega, by go_num, HL2.out, hown5, hB5⟩
        case measure => simp [intOf]; omega
    · have hkn : k = 8 := by omega
      have htk : L = allB x := by rw [hL, hkn]; rfl
      rw [htk] at hown
      obtain ⟨A, m, c, rfl, hits⟩ := hown.its
      subst hkn
      clear htk hL HL hown hlt hk
      go_wp2
      go_ret
      exact ⟨_, _, _, rfl, hits, hB⟩

set_option maxHeartbeats 1000000 in
theorem who_any (x : Int) (w : World) (hT : Tabs w) : Calls Tryd.prog 15 #[.int .i64 x] w fun e w' => ∃ A n c, e = .returned (.slice A n c) ∧ Its .i64 w' A n c (whoB x) ∧ Below w.heap.size w w' := by
  go_enter Tryd.func15, Tryd.ntmps15
  go_wp2
  go_loopw [3, 4, 5] (fun v q i wr => ∃ (k : Nat) (L : List Int), k ≤ 4 ∧ i = .int .i64 k ∧ L = (roles.take k).filter (fun j => mayB j x) ∧ OwnI .i64 3 wr w.heap.size v L ∧ Below w.heap.size w wr) (fun _ _ i _ => 4 - (intOf i).toNat)
  case atStart => exact ⟨0, [], by omega, rfl, rfl, OwnI.nil _ _ _ _, Below.refl _ _⟩
  case round =>
    obtain ⟨k, L, hk, rfl, hL, hown, hB⟩ := hrel
    have HL := Lib.hid hL
    by_cases hlt : k < 4
    · have hlt2 : (k : Int) < 4 := by omega
      have hLl : L.length ≤ 4 := by
        rw [hL]
        refine Nat.le_trans (List.length_filter_le _ _) ?_
        rw [List.length_take]
        omega
      cases hm : mayB k x
      · have hL2 : L = (roles.take (k + 1)).filter (fun j => mayB j x) := by
          rw [roles_next k hlt, List.filter_append, ← hL]
          simp [hm]
        have HL2 := Lib.hid hL2
        have HM := Lib.hid hm
        clear hL hL2 hm
        go_wp2_with (go_at_call 18; (with_reducible refine (may_any k x wr (hT.below hB)).mono ?_); rintro e w5 ⟨he, rfl⟩; rw [HM.out] at he; subst he)
        go_roundw
        case rel => exact ⟨k + 1, L, by omega, by go_num, HL2.out, hown, hB⟩
        case measure => simp [intOf]; omega
      · have hL2 : L ++ [(k : Int)] = (roles.take (k + 1)).filter (fun j => mayB j x) := by
          rw [roles_next k hlt, List.filter_append, ← hL]
          simp [hm]
        have HL2 := Lib.hid hL2
        have HM := Lib.hid hm
        clear hL hL2 hm
        go_wp2_with (first
          | (go_at_call 18; (with_reducible refine (may_any k x wr (hT.below hB)).mono ?_); rintro e w5 ⟨he, hw5⟩; rw [HM.out] at he; subst he; subst hw5)
          | (at_builtin
             refine wpList_append_i rfl 26 3 .i64 8 _ _ rfl Tryd.underlying26 (by kernel_rfl) (by omega) w.heap.size u3 L rfl (hown.more _) _ 1 1 [(k : Int)] rfl (one_its .i64 3 _ (k : Int)) (by omega) (Nat.le_trans hB.size (size_le_alloc _ _)) ?_
             intro v5 w6 hown5 hg5
             have hB5 : Below w.heap.size w w6 := (hB.alloc hB.size _).grown hg5 (Nat.le_trans hB.size (size_le_alloc _ _)) (fun k hk => (hown.size k hk).1)
             clear hg5))
        go_roundw
        case rel => exact ⟨k + 1, L ++ [(k : Int)], by omega, by go_num, HL2.out, hown5, hB5⟩
        case measure => simp [intOf]; omega
    · have hkn : k = 4 := by omega
      have htk : L = whoB x := by rw [hL, hkn]; rfl
      rw [htk] at hown
      obtain ⟨A, m, c, rfl, hits⟩ := hown.its
      subst hkn
      clear htk hL HL hown hlt hk
      go_wp2
      go_ret
      exact ⟨_, _, _, rfl, hits, hB⟩

set_option maxHeartbeats 1000000 in
theorem rall_any (x : Int) (w : World) : Calls Tryd.prog 14 #[.int .i64 x] w fun e w' => ∃ A n c, e = .returned (.slice A n c) ∧ Its .i64 w' A n c (allB x) ∧ Below w.heap.size w w' := by
  go_enter Tryd.func14, Tryd.ntmps14
  go_wp2
  go_loopw [3, 4, 5] (fun v i q wr => ∃ (k : Nat) (L : List Int), k ≤ 8 ∧ i = .int .i64 k ∧ L = (cmds.take k).filter (fun j => mayB x j) ∧ OwnI .i64 3 wr w.heap.size v L ∧ Below w.heap.size w wr) (fun _ i _ _ => 8 - (intOf i).toNat)
  case atStart => exact ⟨0, [], by omega, rfl, rfl, OwnI.nil _ _ _ _, Below.refl _ _⟩
  case round =>
    obtain ⟨k, L, hk, rfl, hL, hown, hB⟩ := hrel
    have HL := Lib.hid hL
    by_cases hlt : k < 8
    · have hlt2 : (k : Int) < 8 := by omega
      have hLl : L.length ≤ 8 := by
        rw [hL]
        refine Nat.le_trans (List.length_filter_le _ _) ?_
        rw [List.length_take]
        omega
      cases hm : mayB x k
      · have hL2 : L = (cmds.take (k + 1)).filter (fun j => mayB x j) := by
          rw [cmds_next k hlt, List.filter_append, ← hL]
          simp [hm]
        have HL2 := Lib.hid hL2
        have HM := Lib.hid hm
        clear hL hL2 hm
        go_wp2_with (go_at_call 10; (with_reducible refine (rmay_any x k wr).mono ?_); rintro e w5 ⟨he, rfl⟩; rw [HM.out] at he; subst he)
        go_roundw
        case rel => exact ⟨k + 1, L, by omega, by go_num, HL2.out, hown, hB⟩
        case measure => simp [intOf]; omega
      · have hL2 : L ++ [(k : Int)] = (cmds.take (k + 1)).filter (fun j => mayB x j) := by
          rw [cmds_next k hlt, List.filter_append, ← hL]
          simp [hm]
        have HL2 := Lib.hid hL2
        have HM := Lib.hid hm
        clear hL hL2 hm
        go_wp2_with (first
          | (go_at_call 10; (with_reducible refine (rmay_any x k wr).mono ?_); rintro e w5 ⟨he, hw5⟩; rw [HM.out] at he; subst he; subst hw5)
          | (at_builtin
             refine wpList_append_i rfl 26 3 .i64 8 _ _ rfl Tryd.underlying26 (by kernel_rfl) (by omega) w.heap.size u3 L rfl (hown.more _) _ 1 1 [(k : Int)] rfl (one_its .i64 3 _ (k : Int)) (by omega) (Nat.le_trans hB.size (size_le_alloc _ _)) ?_
             intro v5 w6 hown5 hg5
             have hB5 : Below w.heap.size w w6 := (hB.alloc hB.size _).grown hg5 (Nat.le_trans hB.size (size_le_alloc _ _)) (fun k hk => (hown.size k hk).1)
             clear hg5))
        go_roundw
        case rel => exact ⟨k + 1, L ++ [(k : Int)], by omega, by go_num, HL2.out, hown5, hB5⟩
        case measure => simp [intOf]; omega
    · have hkn : k = 8 := by omega
      have htk : L = allB x := by rw [hL, hkn]; rfl
      rw [htk] at hown
      obtain ⟨A, m, c, rfl, hits⟩ := hown.its
      subst hkn
      clear htk hL HL hown hlt hk
      go_wp2
      go_ret
      exact ⟨_, _, _, rfl, hits, hB⟩

set_option maxHeartbeats 1000000 in
theorem rwho_any (x : Int) (w : World) : Calls Tryd.prog 16 #[.int .i64 x] w fun e w' => ∃ A n c, e = .returned (.slice A n c) ∧ Its .i64 w' A n c (whoB x) ∧ Below w.heap.size w w' := by
  go_enter Tryd.func16, Tryd.ntmps16
  go_wp2
  go_loopw [3, 4, 5] (fun v i q wr => ∃ (k : Nat) (L : List Int), k ≤ 4 ∧ i = .int .i64 k ∧ L = (roles.take k).filter (fun j => mayB j x) ∧ OwnI .i64 3 wr w.heap.size v L ∧ Below w.heap.size w wr) (fun _ i _ _ => 4 - (intOf i).toNat)
  case atStart => exact ⟨0, [], by omega, rfl, rfl, OwnI.nil _ _ _ _, Below.refl _ _⟩
  case round =>
    obtain ⟨k, L, hk, rfl, hL, hown, hB⟩ := hrel
    have HL := Lib.hid hL
    by_cases hlt : k < 4
    · have hlt2 : (k : Int) < 4 := by omega
      have hLl : L.length ≤ 4 := by
        rw [hL]
        refine Nat.le_trans (List.length_filter_le _ _) ?_
        rw [List.length_take]
        omega
      cases hm : mayB k x
      · have hL2 : L = (roles.take (k + 1)).filter (fun j => mayB j x) := by
          rw [roles_next k hlt, List.filter_append, ← hL]
          simp [hm]
        have HL2 := Lib.hid hL2
        have HM := Lib.hid hm
        clear hL hL2 hm
        go_wp2_with (go_at_call 10; (with_reducible refine (rmay_any k x wr).mono ?_); rintro e w5 ⟨he, rfl⟩; rw [HM.out] at he; subst he)
        go_roundw
        case rel => exact ⟨k + 1, L, by omega, by go_num, HL2.out, hown, hB⟩
        case measure => simp [intOf]; omega
      · have hL2 : L ++ [(k : Int)] = (roles.take (k + 1)).filter (fun j => mayB j x) := by
          rw [roles_next k hlt, List.filter_append, ← hL]
          simp [hm]
        have HL2 := Lib.hid hL2
        have HM := Lib.hid hm
        clear hL hL2 hm
        go_wp2_with (first
          | (go_at_call 10; (with_reducible refine (rmay_any k x wr).mono ?_); rintro e w5 ⟨he, hw5⟩; rw [HM.out] at he; subst he; subst hw5)
          | (at_builtin
             refine wpList_append_i rfl 26 3 .i64 8 _ _ rfl Tryd.underlying26 (by kernel_rfl) (by omega) w.heap.size u3 L rfl (hown.more _) _ 1 1 [(k : Int)] rfl (one_its .i64 3 _ (k : Int)) (by omega) (Nat.le_trans hB.size (size_le_alloc _ _)) ?_
             intro v5 w6 hown5 hg5
             have hB5 : Below w.heap.size w w6 := (hB.alloc hB.size _).grown hg5 (Nat.le_trans hB.size (size_le_alloc _ _)) (fun k hk => (hown.size k hk).1)
             clear hg5))
        go_roundw
        case rel => exact ⟨k + 1, L ++ [(k : Int)], by omega, by go_num, HL2.out, hown5, hB5⟩
        case measure => simp [intOf]; omega
    · have hkn : k = 4 := by omega
      have htk : L = whoB x := by rw [hL, hkn]; rfl
      rw [htk] at hown
      obtain ⟨A, m, c, rfl, hits⟩ := hown.its
      subst hkn
      clear htk hL HL hown hlt hk
      go_wp2
      go_ret
      exact ⟨_, _, _, rfl, hits, hB⟩
end Go.Proofs.YtiknhahkcffoeaaDoor
