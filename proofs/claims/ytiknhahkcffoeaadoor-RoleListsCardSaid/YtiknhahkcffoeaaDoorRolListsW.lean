/- The law RoleLists, walked. -/
import Derived.Test.YtiknhahkcffoeaaDoorRolAwake
namespace Go.Proofs.YtiknhahkcffoeaaDoor
set_option linter.unusedVariables false
set_option linter.unusedSimpArgs false
open Go.RowKit

/-- is c one of the first k? -/
def ob (L : List Int) (c : Int) (k : Nat) : Bool := (L.take k).contains c
theorem ob_next (L : List Int) (c : Int) (k : Nat) (h : k < L.length) : ob L c (k + 1) = (ob L c k || (L.getD k 0 == c)) := by
  unfold ob
  rw [List.take_succ_eq_append_getElem h, List.contains_append, List.getD_eq_getElem?_getD, List.getElem?_eq_getElem h, Option.getD_some, List.contains_cons]
  by_cases hq : L[k] = c
  · rw [hq]
    simp
  · have h1 : (L[k] == c) = false := by simpa using hq
    have h2 : (c == L[k]) = false := by simpa using fun e => hq e.symm
    rw [h1, h2]
    simp
def Rises (L : List Int) : Prop := ∀ m, m + 1 < L.length → L.getD m 0 < L.getD (m + 1) 0
theorem rises_by (L : List Int) (hl : L.length ≤ 8) (h : ∀ m, m < 8 → m + 1 < L.length → L.getD m 0 < L.getD (m + 1) 0) : Rises L := fun m hm => h m (by omega) hm
theorem all_rises (r : Int) : Rises (allB r) := by
  cases hr : isB r
  · have : allB r = [] := by simp [allB, cmds, mayB, hr]
    rw [this]
    intro m h
    simp at h
  · rcases four_of hr with rfl | rfl | rfl | rfl <;> exact rises_by _ (by decide) (by decide)
theorem who_rises (c : Int) : Rises (whoB c) := by
  cases hc : cmdB c
  · have : whoB c = [] := by simp [whoB, roles, mayB, hc]
    rw [this]
    intro m h
    simp at h
  · rcases eight_of hc with rfl | rfl | rfl | rfl | rfl | rfl | rfl | rfl <;> exact rises_by _ (by decide) (by decide)
theorem all_has (r c : Int) : (allB r).contains c = mayB r c := by
  rw [Bool.eq_iff_iff, List.contains_iff_mem]
  unfold allB
  rw [List.mem_filter]
  refine ⟨fun h => h.2, fun h => ⟨?_, h⟩⟩
  have hc : cmdB c = true := by
    cases hq : cmdB c
    · simp [mayB, hq] at h
    · rfl
  rcases eight_of hc with rfl | rfl | rfl | rfl | rfl | rfl | rfl | rfl <;> decide
theorem who_has (r c : Int) : (whoB c).contains r = mayB r c := by
  rw [Bool.eq_iff_iff, List.contains_iff_mem]
  unfold whoB
  rw [List.mem_filter]
  refine ⟨fun h => h.2, fun h => ⟨?_, h⟩⟩
  have hc : isB r = true := by
    cases hq : isB r
    · simp [mayB, hq] at h
    · rfl
  rcases four_of hc with rfl | rfl | rfl | rfl <;> decide
theorem all_at (r : Int) (k : Nat) (h : k < (allB r).length) : mayB r ((allB r).getD k 0) = true := by
  have hm : (allB r).getD k 0 ∈ allB r := by
    rw [List.getD_eq_getElem?_getD, List.getElem?_eq_getElem h]
    exact List.getElem_mem h
  unfold allB at hm
  exact (List.mem_filter.1 hm).2
theorem who_at (c : Int) (k : Nat) (h : k < (whoB c).length) : mayB ((whoB c).getD k 0) c = true := by
  have hm : (whoB c).getD k 0 ∈ whoB c := by
    rw [List.getD_eq_getElem?_getD, List.getElem?_eq_getElem h]
    exact List.getElem_mem h
  unfold whoB at hm
  exact (List.mem_filter.1 hm).2
theorem ob_all (L : List Int) (c : Int) : ob L c L.length = L.contains c := by simp [ob]

set_option maxHeartbeats 4000000 in
theorem lists_any (r c i : Int) (w : World) (hT : Tabs w) : Calls Tryd.prog 5 #[.int .i64 r, .int .i64 c, .int .i64 i] w fun e w' => e = .returned (.bool true) ∧ Below w.heap.size w w' := by
  obtain ⟨La, hla⟩ : ∃ z, allB r = z := ⟨_, rfl⟩
  obtain ⟨Lw, hlw⟩ : ∃ z, whoB c = z := ⟨_, rfl⟩
  obtain ⟨v, hv⟩ : ∃ z, mayB r c = z := ⟨_, rfl⟩
  have HRa := Lib.hid (hla ▸ all_rises r)
  have HRw := Lib.hid (hlw ▸ who_rises c)
  have HHa := Lib.hid (show La.contains c = v by rw [← hla, all_has, hv])
  have HHw := Lib.hid (show Lw.contains r = v by rw [← hlw, who_has, hv])
  have HAa := Lib.hid (show ∀ k, k < La.length → mayB r (La.getD k 0) = true by rw [← hla]; exact all_at r)
  have HAw := Lib.hid (show ∀ k, k < Lw.length → mayB (Lw.getD k 0) c = true by rw [← hlw]; exact who_at c)
  have HLA := Lib.hid hla
  have HLW := Lib.hid hlw
  have HV := Lib.hid hv
  clear hla hlw hv
  go_enter Tryd.func5, Tryd.ntmps5
  go_wp2_with (first
    | (go_at_call 8; refine (awake_any _ hT).mono ?_; rintro e w1 ⟨rfl, hB1⟩; have hT1 := hT.below hB1)
    | (go_at_call 13; (with_reducible refine (all_any r _ hT1).mono ?_); rintro e w2 ⟨A2, n2, c2, rfl, hi2, hB2⟩
       rw [HLA.out] at hi2
       have hT2 := hT1.below hB2
       have hB2' := then_below hB1 hB2)
    | (go_at_call 15; (with_reducible refine (who_any c _ hT2).mono ?_); rintro e w3 ⟨A3, n3, c3, rfl, hi3, hB3⟩
       rw [HLW.out] at hi3
       have hT3 := hT2.below hB3
       have hB3' := then_below hB2' hB3
       have hia := hi2.below hB3
       clear hi2 hB2 hB3))
  go_loopw [10, 11] (fun q i wr => ∃ (k : Nat) (B : Bool), k ≤ n2 ∧ i = .int .i64 k ∧ q = .bool B ∧ B = ob La c k ∧ ∃ j, wr = w3.drewN j) (fun _ i _ => n2 - (intOf i).toNat)
  case atStart => exact ⟨0, false, by omega, rfl, rfl, by simp [ob], 0, rfl⟩
  case round =>
    obtain ⟨k, B, hk, rfl, rfl, hB, j, rfl⟩ := hrel
    have HB := Lib.hid hB
    by_cases hlt : k < n2
    · obtain ⟨b0, o0, rfl, hc⟩ := hia.at_ (by omega)
      have hx := hc k hlt
      obtain ⟨x, hxx⟩ : ∃ x, x = La.getD k 0 := ⟨_, rfl⟩
      rw [← hxx] at hx
      obtain ⟨d, hd⟩ : ∃ d, (x == c) = d := ⟨_, rfl⟩
      have hp0 : 0 ≤ (k : Int) := by omega
      have hp1 : (k : Int) < n2 := by omega
      have hnx : (B || d) = ob La c (k + 1) := by rw [ob_next _ _ _ (by rw [hia.len]; exact hlt), ← hB, ← hxx, hd]
      by_cases hk0 : k = 0
      · have hw2 : ((0 : Nat) : Int) + 1 ≤ 9223372036854775807 := by omega
        subst hk0
        rw [Nat.add_zero] at hx
        cases B
        · rw [Bool.false_or] at hnx
          have HN := Lib.hid hnx
          clear hB hnx hxx hc
          go_wp2_with fail
          go_quiet (fail)
          go_wp2
          go_roundw
          case rel => exact ⟨0 + 1, d, by omega, by go_num, rfl, HN.out, _, rfl⟩
          case measure => simp [intOf]; omega
        · rw [Bool.true_or] at hnx
          have HN := Lib.hid hnx
          clear hB hnx hxx hc
          go_wp2_with fail
          go_quiet (fail)
          go_wp2
          go_roundw
          case rel => exact ⟨0 + 1, true, by omega, by go_num, rfl, HN.out, _, rfl⟩
          case measure => simp [intOf]; omega
      · obtain ⟨m, hm⟩ : ∃ m, k = m + 1 := ⟨k - 1, by omega⟩
        have hg : decide (0 < k) = true := by rw [decide_eq_true_iff]; omega
        have hg2 : (0 : Int) < (k : Int) := by omega
        have hy := hc m (by omega)
        obtain ⟨y, hyy⟩ : ∃ y, y = La.getD m 0 := ⟨_, rfl⟩
        rw [← hyy] at hy
        have hyx : y < x := by rw [hyy, hxx, hm]; exact HRa.out m (by rw [hia.len]; omega)
        have hm0 : 0 ≤ (m : Int) := by omega
        have hm1 : (m : Int) < n2 := by omega
        have hle : decide (x ≤ y) = false := by simp; omega
        have hsub : (k : Int) - 1 = m := by omega
        have hw2 : (k : Int) + 1 ≤ 9223372036854775807 := by have := hia.small; omega
        have hw0 : -9223372036854775808 ≤ (m : Int) := by omega
        have hw1 : (m : Int) ≤ 9223372036854775807 := by have := hia.small; omega
        clear hm hk0
        cases B
        · rw [Bool.false_or] at hnx
          have HN := Lib.hid hnx
          clear hB hnx hxx hyy hc
          go_wp2_with fail
          go_quiet (fail)
          go_wp2
          go_roundw
          case rel => exact ⟨k + 1, d, by omega, by go_num, rfl, HN.out, _, rfl⟩
          case measure => simp [intOf]; omega
        · rw [Bool.true_or] at hnx
          have HN := Lib.hid hnx
          clear hB hnx hxx hyy hc
          go_wp2_with fail
          go_quiet (fail)
          go_wp2
          go_roundw
          case rel => exact ⟨k + 1, true, by omega, by go_num, rfl, HN.out, _, rfl⟩
          case measure => simp [intOf]; omega
    · have hkn : k = n2 := by omega
      have hge : ¬ ((k : Int) < n2) := by omega
      have hBv : v = B := by rw [hB, hkn, ← hia.len, ob_all, HHa.out]
      subst hBv
      clear hlt hk hB HB hkn
      go_wp2
      go_loopw [12, 13] (fun q i wr => ∃ (k : Nat) (B : Bool), k ≤ n3 ∧ i = .int .i64 k ∧ q = .bool B ∧ B = ob Lw r k ∧ ∃ j, wr = w3.drewN j) (fun _ i _ => n3 - (intOf i).toNat)
      case atStart => exact ⟨0, false, by omega, rfl, rfl, by simp [ob], _, rfl⟩
      case round =>
        obtain ⟨k, B, hk, rfl, rfl, hB, j, rfl⟩ := hrel
        have HB := Lib.hid hB
        by_cases hlt : k < n3
        · obtain ⟨b0, o0, rfl, hc⟩ := hi3.at_ (by omega)
          have hx := hc k hlt
          obtain ⟨x, hxx⟩ : ∃ x, x = Lw.getD k 0 := ⟨_, rfl⟩
          rw [← hxx] at hx
          obtain ⟨d, hd⟩ : ∃ d, (x == r) = d := ⟨_, rfl⟩
          have hp0 : 0 ≤ (k : Int) := by omega
          have hp1 : (k : Int) < n3 := by omega
          have hnx : (B || d) = ob Lw r (k + 1) := by rw [ob_next _ _ _ (by rw [hi3.len]; exact hlt), ← hB, ← hxx, hd]
          by_cases hk0 : k = 0
          · have hw2 : ((0 : Nat) : Int) + 1 ≤ 9223372036854775807 := by omega
            subst hk0
            rw [Nat.add_zero] at hx
            cases B
            · rw [Bool.false_or] at hnx
              have HN := Lib.hid hnx
              clear hB hnx hxx hc
              go_wp2_with fail
              go_quiet (fail)
              go_wp2
              go_roundw
              case rel => exact ⟨0 + 1, d, by omega, by go_num, rfl, HN.out, _, rfl⟩
              case measure => simp [intOf]; omega
            · rw [Bool.true_or] at hnx
              have HN := Lib.hid hnx
              clear hB hnx hxx hc
              go_wp2_with fail
              go_quiet (fail)
              go_wp2
              go_roundw
              case rel => exact ⟨0 + 1, true, by omega, by go_num, rfl, HN.out, _, rfl⟩
              case measure => simp [intOf]; omega
          · obtain ⟨m, hm⟩ : ∃ m, k = m + 1 := ⟨k - 1, by omega⟩
            have hg : decide (0 < k) = true := by rw [decide_eq_true_iff]; omega
            have hg2 : (0 : Int) < (k : Int) := by omega
            have hy := hc m (by omega)
            obtain ⟨y, hyy⟩ : ∃ y, y = Lw.getD m 0 := ⟨_, rfl⟩
            rw [← hyy] at hy
            have hyx : y < x := by rw [hyy, hxx, hm]; exact HRw.out m (by rw [hi3.len]; omega)
            have hm0 : 0 ≤ (m : Int) := by omega
            have hm1 : (m : Int) < n3 := by omega
            have hle : decide (x ≤ y) = false := by simp; omega
            have hsub : (k : Int) - 1 = m := by omega
            have hw2 : (k : Int) + 1 ≤ 9223372036854775807 := by have := hi3.small; omega
            have hw0 : -9223372036854775808 ≤ (m : Int) := by omega
            have hw1 : (m : Int) ≤ 9223372036854775807 := by have := hi3.small; omega
            clear hm hk0
            cases B
            · rw [Bool.false_or] at hnx
              have HN := Lib.hid hnx
              clear hB hnx hxx hyy hc
              go_wp2_with fail
              go_quiet (fail)
              go_wp2
              go_roundw
              case rel => exact ⟨k + 1, d, by omega, by go_num, rfl, HN.out, _, rfl⟩
              case measure => simp [intOf]; omega
            · rw [Bool.true_or] at hnx
              have HN := Lib.hid hnx
              clear hB hnx hxx hyy hc
              go_wp2_with fail
              go_quiet (fail)
              go_wp2
              go_roundw
              case rel => exact ⟨k + 1, true, by omega, by go_num, rfl, HN.out, _, rfl⟩
              case measure => simp [intOf]; omega
        · have hkn : k = n3 := by omega
          have hge : ¬ ((k : Int) < n3) := by omega
          have hBv : v = B := by rw [hB, hkn, ← hi3.len, ob_all, HHw.out]
          subst hBv
          have hT4 := hT3.draw j
          clear hlt hk hB HB hkn
          by_cases i0 : i < 0
          · have i0d : decide (i < 0) = true := by rw [decide_eq_true_iff]; exact i0
            clear hi3 hia
            go_wp2_with (first
              | (go_at_call 18; (with_reducible refine (may_any r c _ hT4).mono ?_); rintro e w9 ⟨he, hw9⟩; rw [HV.out] at he; subst he; subst hw9))
            go_ret
            exact ⟨by simp, below_drewN hB3' _⟩
          · obtain ⟨I, rfl⟩ := nat_of (r := i) (by omega)
            have i0d : decide ((I : Int) < 0) = false := by rw [decide_eq_false_iff_not]; exact i0
            have i2 : 0 ≤ (I : Int) := by omega
            clear i0
            by_cases ia : I < n2
            · have ia2 : (I : Int) < n2 := by omega
              have iad : decide ((n2 : Int) ≤ I) = false := by rw [decide_eq_false_iff_not]; omega
              have iadn : decide (n2 ≤ I) = false := by rw [decide_eq_false_iff_not]; omega
              obtain ⟨ba, oa, rfl, hca⟩ := hia.at_ (by omega)
              have hxa := hca I ia
              obtain ⟨xa, hxa2⟩ : ∃ z, La.getD I 0 = z := ⟨_, rfl⟩
              have HXA := Lib.hid (show mayB r xa = true by rw [← hxa2]; exact HAa.out I (by rw [hia.len]; exact ia))
              rw [hxa2] at hxa
              clear hxa2 hca
              by_cases ib : I < n3
              · have ib2 : (I : Int) < n3 := by omega
                have ibd : decide ((n3 : Int) ≤ I) = false := by rw [decide_eq_false_iff_not]; omega
                have ibdn : decide (n3 ≤ I) = false := by rw [decide_eq_false_iff_not]; omega
                obtain ⟨bb, o5, rfl, hcb⟩ := hi3.at_ (by omega)
                have hxb := hcb I ib
                obtain ⟨xb, hxb2⟩ : ∃ z, Lw.getD I 0 = z := ⟨_, rfl⟩
                have HXB := Lib.hid (show mayB xb c = true by rw [← hxb2]; exact HAw.out I (by rw [hi3.len]; exact ib))
                rw [hxb2] at hxb
                clear hxb2 hcb
                clear hi3 hia
                go_wp2_with (first
                  | (go_at_call 18; (with_reducible refine (may_any r c _ hT4).mono ?_); rintro e w9 ⟨he, hw9⟩; rw [HV.out] at he; subst he; subst hw9)
                  | (go_at_call 18; (with_reducible refine (may_any r xa _ hT4).mono ?_); rintro e w9 ⟨he, hw9⟩; rw [HXA.out] at he; subst he; subst hw9)
                  | (go_at_call 18; (with_reducible refine (may_any xb c _ hT4).mono ?_); rintro e w9 ⟨he, hw9⟩; rw [HXB.out] at he; subst he; subst hw9))
                go_ret
                exact ⟨by simp, below_drewN hB3' _⟩
              · have ib2 : (n3 : Int) ≤ I := by omega
                have ibd : decide ((n3 : Int) ≤ I) = true := by rw [decide_eq_true_iff]; omega
                have ibdn : decide (n3 ≤ I) = true := by rw [decide_eq_true_iff]; omega
                clear hi3 hia
                go_wp2_with (first
                  | (go_at_call 18; (with_reducible refine (may_any r c _ hT4).mono ?_); rintro e w9 ⟨he, hw9⟩; rw [HV.out] at he; subst he; subst hw9)
                  | (go_at_call 18; (with_reducible refine (may_any r xa _ hT4).mono ?_); rintro e w9 ⟨he, hw9⟩; rw [HXA.out] at he; subst he; subst hw9))
                go_ret
                exact ⟨by simp, below_drewN hB3' _⟩
            · have ia2 : (n2 : Int) ≤ I := by omega
              have iad : decide ((n2 : Int) ≤ I) = true := by rw [decide_eq_true_iff]; omega
              have iadn : decide (n2 ≤ I) = true := by rw [decide_eq_true_iff]; omega
              by_cases ib : I < n3
              · have ib2 : (I : Int) < n3 := by omega
                have ibd : decide ((n3 : Int) ≤ I) = false := by rw [decide_eq_false_iff_not]; omega
                have ibdn : decide (n3 ≤ I) = false := by rw [decide_eq_false_iff_not]; omega
                obtain ⟨bb, o5, rfl, hcb⟩ := hi3.at_ (by omega)
                have hxb := hcb I ib
                obtain ⟨xb, hxb2⟩ : ∃ z, Lw.getD I 0 = z := ⟨_, rfl⟩
                have HXB := Lib.hid (show mayB xb c = true by rw [← hxb2]; exact HAw.out I (by rw [hi3.len]; exact ib))
                rw [hxb2] at hxb
                clear hxb2 hcb
                clear hi3 hia
                go_wp2_with (first
                  | (go_at_call 18; (with_reducible refine (may_any r c _ hT4).mono ?_); rintro e w9 ⟨he, hw9⟩; rw [HV.out] at he; subst he; subst hw9)
                  | (go_at_call 18; (with_reducible refine (may_any xb c _ hT4).mono ?_); rintro e w9 ⟨he, hw9⟩; rw [HXB.out] at he; subst he; subst hw9))
                go_ret
                exact ⟨by simp, below_drewN hB3' _⟩
              · have ib2 : (n3 : Int) ≤ I := by omega
                have ibd : decide ((n3 : Int) ≤ I) = true := by rw [decide_eq_true_iff]; omega
                have ibdn : decide (n3 ≤ I) = true := by rw [decide_eq_true_iff]; omega
                clear hi3 hia
                go_wp2_with (first
                  | (go_at_call 18; (with_reducible refine (may_any r c _ hT4).mono ?_); rintro e w9 ⟨he, hw9⟩; rw [HV.out] at he; subst he; subst hw9))
                go_ret
                exact ⟨by simp, below_drewN hB3' _⟩
end Go.Proofs.YtiknhahkcffoeaaDoor
