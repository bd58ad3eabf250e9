/- Turns, Name, and the document's own Is, May, Turns, Name; two lists of numbers held against one another. -/
import Derived.Test.YtiknhahkcffoeaaDoorRolSpec
namespace Go.Proofs.YtiknhahkcffoeaaDoor
set_option linter.unusedVariables false
set_option linter.unusedSimpArgs false
open Go.RowKit

theorem eight_of {c : Int} (h : cmdB c = true) : c = 0 ∨ c = 1 ∨ c = 2 ∨ c = 3 ∨ c = 4 ∨ c = 5 ∨ c = 6 ∨ c = 7 := by
  have h2 : 0 ≤ c ∧ c < 8 := by simpa [cmdB] using h
  omega
theorem four_of {r : Int} (h : isB r = true) : r = 0 ∨ r = 1 ∨ r = 2 ∨ r = 3 := by
  have h2 : 0 ≤ r ∧ r < 4 := by simpa [isB] using h
  omega
theorem no_cmd {c : Int} (h : cmdB c = false) : (c == 0) = false ∧ (c == 1) = false ∧ (c == 2) = false ∧ (c == 3) = false ∧ (c == 4) = false ∧ (c == 5) = false ∧ (c == 6) = false ∧ (c == 7) = false := by
  have h2 : ¬ (0 ≤ c ∧ c < 8) := by
    intro h3
    simp [cmdB, h3.1, h3.2] at h
  simp only [beq_eq_false_iff_ne, ne_eq]
  omega
theorem no_role {r : Int} (h : isB r = false) : (r == 0) = false ∧ (r == 1) = false ∧ (r == 2) = false ∧ (r == 3) = false := by
  have h2 : ¬ (0 ≤ r ∧ r < 4) := by
    intro h3
    simp [isB, h3.1, h3.2] at h
  simp only [beq_eq_false_iff_ne, ne_eq]
  omega

theorem ris_any (r : Int) (w : World) : Calls Tryd.prog 9 #[.int .i64 r] w fun e w' => e = .returned (.bool (isB r)) ∧ w' = w := by
  by_cases h0 : 0 ≤ r
  · by_cases h1 : r < 4
    · have hb : isB r = true := by simp [isB, h0, h1]
      rw [hb]
      clear hb
      go_enter Tryd.func9, Tryd.ntmps9
      go_wp2
      go_ret
      exact ⟨rfl, rfl⟩
    · have hb : isB r = false := by simp [isB, h1]
      rw [hb]
      clear hb
      go_enter Tryd.func9, Tryd.ntmps9
      go_wp2
      go_ret
      exact ⟨rfl, rfl⟩
  · have hb : isB r = false := by simp [isB, h0]
    rw [hb]
    clear hb
    go_enter Tryd.func9, Tryd.ntmps9
    go_wp2
    go_ret
    exact ⟨rfl, rfl⟩
theorem turns_any (c : Int) (w : World) : Calls Tryd.prog 19 #[.int .i64 c] w fun e w' => e = .returned (.bool (turnsB c)) ∧ w' = w := by
  cases hc : cmdB c
  · have hb : turnsB c = false := by
      have h2 : ¬ (0 ≤ c ∧ c < 8) := by
        intro h3
        simp [cmdB, h3.1, h3.2] at hc
      simp [turnsB]
      omega
    obtain ⟨n0, n1, n2, n3, n4, n5, n6, n7⟩ := no_cmd hc
    rw [hb]
    by_cases h0 : 1 ≤ c
    · have h6 : ¬ c ≤ 6 := by simpa [turnsB, h0] using hb
      clear hb hc
      go_enter Tryd.func19, Tryd.ntmps19
      go_wp2
      go_ret
      exact ⟨rfl, rfl⟩
    · clear hb hc
      go_enter Tryd.func19, Tryd.ntmps19
      go_wp2
      go_ret
      exact ⟨rfl, rfl⟩
  · rcases eight_of hc with rfl | rfl | rfl | rfl | rfl | rfl | rfl | rfl
    all_goals
      clear hc
      go_enter Tryd.func19, Tryd.ntmps19
      go_wp2
      go_ret
      exact ⟨rfl, rfl⟩
theorem rturns_any (c : Int) (w : World) : Calls Tryd.prog 11 #[.int .i64 c] w fun e w' => e = .returned (.bool (turnsB c)) ∧ w' = w := by
  cases hc : cmdB c
  · have hb : turnsB c = false := by
      have h2 : ¬ (0 ≤ c ∧ c < 8) := by
        intro h3
        simp [cmdB, h3.1, h3.2] at hc
      simp [turnsB]
      omega
    obtain ⟨n0, n1, n2, n3, n4, n5, n6, n7⟩ := no_cmd hc
    rw [hb]
    by_cases h0 : 1 ≤ c
    · have h6 : ¬ c ≤ 6 := by simpa [turnsB, h0] using hb
      clear hb hc
      go_enter Tryd.func11, Tryd.ntmps11
      go_wp2
      go_ret
      exact ⟨rfl, rfl⟩
    · clear hb hc
      go_enter Tryd.func11, Tryd.ntmps11
      go_wp2
      go_ret
      exact ⟨rfl, rfl⟩
  · rcases eight_of hc with rfl | rfl | rfl | rfl | rfl | rfl | rfl | rfl
    all_goals
      clear hc
      go_enter Tryd.func11, Tryd.ntmps11
      go_wp2
      go_ret
      exact ⟨rfl, rfl⟩
theorem rname_any (c : Int) (w : World) : Calls Tryd.prog 21 #[.int .i64 c] w fun e w' => e = .returned (.string (nameB c)) ∧ w' = w := by
  cases hc : cmdB c
  · have hb : nameB c = ⟨#[]⟩ := by simp [nameB, hc]
    obtain ⟨n0, n1, n2, n3, n4, n5, n6, n7⟩ := no_cmd hc
    rw [hb]
    clear hb hc
    go_enter Tryd.func21, Tryd.ntmps21
    go_wp2
    go_ret
    exact ⟨rfl, rfl⟩
  · rcases eight_of hc with rfl | rfl | rfl | rfl | rfl | rfl | rfl | rfl
    all_goals
      clear hc
      go_enter Tryd.func21, Tryd.ntmps21
      go_wp2
      go_ret
      exact ⟨rfl, rfl⟩
theorem name_any (c : Int) (w : World) (hT : Tabs w) : Calls Tryd.prog 20 #[.int .i64 c] w fun e w' => e = .returned (.string (nameB c)) ∧ w' = w := by
  cases hc : cmdB c
  · have hb : nameB c = ⟨#[]⟩ := by simp [nameB, hc]
    rw [hb]
    have HC := Lib.hid hc
    clear hb hc
    go_enter Tryd.func20, Tryd.ntmps20
    go_wp2_with (go_at_call 24; refine (cmd_any c w).mono ?_; rintro e w'' ⟨he, rfl⟩; rw [HC.out] at he; subst he)
    go_ret
    exact ⟨rfl, rfl⟩
  · have h2 : 0 ≤ c ∧ c < 8 := by simpa [cmdB] using hc
    obtain ⟨C, rfl⟩ := nat_of h2.1
    obtain ⟨h20, h21⟩ := h2
    have hcell := hT.names C (by omega)
    obtain ⟨v, hv⟩ : ∃ v, namesT.getD C ⟨#[]⟩ = v := ⟨_, rfl⟩
    have hb : nameB C = v := by simp [nameB, hc]; simpa using hv
    rw [hb]
    rw [hv] at hcell
    have HC := Lib.hid hc
    clear hb hc hv
    go_enter Tryd.func20, Tryd.ntmps20
    go_wp2_with (go_at_call 24; refine (cmd_any C w).mono ?_; rintro e w'' ⟨he, rfl⟩; rw [HC.out] at he; subst he)
    go_ret
    exact ⟨rfl, rfl⟩
theorem rmay_any (r c : Int) (w : World) : Calls Tryd.prog 10 #[.int .i64 r, .int .i64 c] w fun e w' => e = .returned (.bool (mayB r c)) ∧ w' = w := by
  cases hr : isB r
  · have hb : mayB r c = false := by simp [mayB, hr]
    obtain ⟨m0, m1, m2, m3⟩ := no_role hr
    rw [hb]
    clear hb
    have HR := Lib.hid hr
    clear hr
    cases hc : cmdB c
    · obtain ⟨n0, n1, n2, n3, n4, n5, n6, n7⟩ := no_cmd hc
      clear hc
      go_enter Tryd.func10, Tryd.ntmps10
      go_wp2_with (go_at_call 9; refine (ris_any _ w).mono ?_; rintro e w'' ⟨he, rfl⟩; rw [HR.out] at he; subst he)
      go_ret
      exact ⟨rfl, rfl⟩
    · rcases eight_of hc with rfl | rfl | rfl | rfl | rfl | rfl | rfl | rfl
      all_goals
        clear hc
        go_enter Tryd.func10, Tryd.ntmps10
        go_wp2_with (go_at_call 9; refine (ris_any _ w).mono ?_; rintro e w'' ⟨he, rfl⟩; rw [HR.out] at he; subst he)
        go_ret
        exact ⟨rfl, rfl⟩
  · cases hc : cmdB c
    · have hb : mayB r c = false := by simp [mayB, hc]
      obtain ⟨n0, n1, n2, n3, n4, n5, n6, n7⟩ := no_cmd hc
      rw [hb]
      have HR := Lib.hid hr
      clear hb hc hr
      go_enter Tryd.func10, Tryd.ntmps10
      go_wp2_with (go_at_call 9; refine (ris_any _ w).mono ?_; rintro e w'' ⟨he, rfl⟩; rw [HR.out] at he; subst he)
      go_ret
      exact ⟨rfl, rfl⟩
    · rcases eight_of hc with rfl | rfl | rfl | rfl | rfl | rfl | rfl | rfl <;> rcases four_of hr with rfl | rfl | rfl | rfl
      all_goals
        have HR := Lib.hid hr
        clear hc hr
        go_enter Tryd.func10, Tryd.ntmps10
        go_wp2_with (go_at_call 9; refine (ris_any _ w).mono ?_; rintro e w'' ⟨he, rfl⟩; rw [HR.out] at he; subst he)
        go_ret
        exact ⟨rfl, rfl⟩
theorem ints_differ (a b : List Int) (k : Nat) (h : a.getD k 0 ≠ b.getD k 0) : (a == b) = false := by
  rw [beq_eq_false_iff_ne]
  rintro rfl
  exact h rfl
theorem ints_same (a b : List Int) (k : Nat) (ha : a.length = k) (hb : b.length = k) (h : ∀ j, j < k → a.getD j 0 = b.getD j 0) : (a == b) = true := by
  rw [beq_iff_eq]
  refine List.ext_getElem (by omega) fun j h1 h2 => ?_
  have := h j (by omega)
  simpa [List.getD_eq_getElem?_getD, h1, h2] using this
set_option maxHeartbeats 1000000 in
/-- are two lists of numbers the same? -/
theorem ints_any (A B : Option Addr) (n c m d : Nat) (a b : List Int) (w : World) (ha : Its .i64 w A n c a) (hb : Its .i64 w B m d b) :
    Calls Tryd.prog 12 #[.slice A n c, .slice B m d] w fun e w' => e = .returned (.bool (a == b)) ∧ ∃ j, w' = w.drewN j := by
  have hna := ha.small
  have hmb := hb.small
  by_cases hnm : n = m
  · subst hnm
    have hne : ((n : Int) != (n : Int)) = false := by simp
    have HAL := Lib.hid ha.len
    have HBL := Lib.hid hb.len
    go_enter Tryd.func12, Tryd.ntmps12
    go_wp2
    go_loopw [5] (fun i wr => ∃ k : Nat, k ≤ n ∧ i = .int .i64 k ∧ (∀ j, j < k → a.getD j 0 = b.getD j 0) ∧ ∃ j, wr = w.drewN j) (fun i _ => n - (intOf i).toNat)
    case atStart => exact ⟨0, by omega, rfl, (fun j hj => by omega), 0, rfl⟩
    case round =>
      obtain ⟨k, hk, rfl, hsame, j, rfl⟩ := hrel
      have HS := Lib.hid hsame
      clear hsame
      by_cases hlt : k < n
      · obtain ⟨ba, oa, rfl, hca⟩ := ha.at_ (by omega)
        obtain ⟨bb, ob, rfl, hcb⟩ := hb.at_ (by omega)
        have hxa := hca k hlt
        have hxb := hcb k hlt
        obtain ⟨x, hx⟩ : ∃ x, x = a.getD k 0 := ⟨_, rfl⟩
        obtain ⟨y, hy⟩ : ∃ y, y = b.getD k 0 := ⟨_, rfl⟩
        rw [← hx] at hxa
        rw [← hy] at hxb
        have hp0 : 0 ≤ (k : Int) := by omega
        have hp1 : (k : Int) < n := by omega
        by_cases hxy : x = y
        · subst hxy
          have hne2 : (x != x) = false := by simp
          have hnext : ∀ j, j < k + 1 → a.getD j 0 = b.getD j 0 := fun j hj => by
            by_cases e : j = k
            · rw [e, ← hx, ← hy]
            · exact HS.out j (by omega)
          have HN := Lib.hid hnext
          clear hx hy hnext hca hcb
          go_wp2
          go_quiet (fail)
          go_wp2
          go_roundw
          case rel => exact ⟨k + 1, by omega, by go_num, HN.out, _, rfl⟩
          case measure => simp [intOf]; omega
        · have hne2 : (x != y) = true := by rw [bne_iff_ne]; exact hxy
          have hres : false = (a == b) := (ints_differ a b k (by rw [← hx, ← hy]; exact hxy)).symm
          have HR := Lib.hid hres
          clear hx hy hres hxy hca hcb
          go_wp2
          go_quiet (fail)
          go_wp2
          go_ret
          exact ⟨congrArg (fun b => Ending.returned (Value.bool b)) HR.out, _, World.drewN_drewN _ _ _⟩
      · have hkn : k = n := by omega
        subst hkn
        have hge : ¬ ((k : Int) < k) := by omega
        have hres : true = (a == b) := (ints_same a b k HAL.out HBL.out HS.out).symm
        have HR := Lib.hid hres
        clear hres
        go_wp2
        go_ret
        exact ⟨congrArg (fun b => Ending.returned (Value.bool b)) HR.out, _, rfl⟩
  · have hne : ((n : Int) != (m : Int)) = true := by rw [bne_iff_ne]; omega
    have hres : false = (a == b) := by
      rw [eq_comm, beq_eq_false_iff_ne]
      rintro rfl
      exact hnm (ha.len.symm.trans hb.len)
    have HR := Lib.hid hres
    clear hres hnm
    go_enter Tryd.func12, Tryd.ntmps12
    go_wp2
    go_ret
    exact ⟨congrArg (fun b => Ending.returned (Value.bool b)) HR.out, 0, rfl⟩
end Go.Proofs.YtiknhahkcffoeaaDoor
