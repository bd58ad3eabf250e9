/- The walks over package user's Find and Role. -/
import Derived.Test.YtcfkpepohnjdfaaDoorUsrFind
namespace Go.Proofs.YtcfkpepohnjdfaaDoor
set_option linter.unusedVariables false
set_option linter.unusedSimpArgs false
open Go.RowKit

theorem find_hit {l : List Us} {no : Int} {k : Nat} {u : Us} (hm : mayU l = true) (hu : l[k]? = some u) (he : u.no = no) (hlo : ∀ j v, j < k → l[j]? = some v → v.no < no) : findU l no = k := by
  rw [findU, if_pos hm, findIx_at 0 k u hu he fun j v h1 h2 => by have := hlo j v h1 h2; omega]
  omega
theorem find_none {l : List Us} {no : Int} (h : ∀ (k : Nat) (v : Us), l[k]? = some v → v.no ≠ no) : findU l no = -1 := by
  unfold findU
  split
  · exact findIx_no 0 fun u hu => by
      obtain ⟨k, hk, rfl⟩ := List.getElem_of_mem hu
      exact h k _ (by simp [hk])
  · rfl
theorem boxes_two (w : World) (A : Option Addr) (n c : Nat) (x : Int) : BoxS ((w.alloc (.cells #[.slice A n c] 22)).alloc (.cells #[.int .i64 x] 3)) w.heap.size A n c ∧ BoxI ((w.alloc (.cells #[.slice A n c] 22)).alloc (.cells #[.int .i64 x] 3)) (w.heap.size + 1) x :=
  ⟨heap_alloc2_old w _ _, heap_alloc2_new w _ _⟩
set_option maxHeartbeats 1000000 in
theorem ufind_any (A : Option Addr) (n c : Nat) (l : List Us) (no : Int) (w : World) (hl : Uss w A n c l) :
    Calls Tryd.prog 17 #[.slice A n c, .int .i64 no] w (GI (findU l no) w) := by
  have htwo := two_below w (.cells #[.slice A n c] 22) (.cells #[.int .i64 no] 3)
  have hn := hl.small
  obtain ⟨hbs, hbi⟩ := boxes_two w A n c no
  have b0 := hbs.cell
  have HC := Lib.hid (umay_any A n c l _ (hl.below htwo))
  cases hm : mayU l with
  | false =>
    have hr : (-1 : Int) = findU l no := by rw [findU, hm]; rfl
    rw [hm] at HC
    have HR := Lib.hid hr
    have HTWO := Lib.hid htwo
    clear hr hm hl htwo hbs hbi
    go_enter Tryd.func17, Tryd.ntmps17
    go_wp2_with (go_at_call 15; refine HC.out.mono ?_; rintro e w1 ⟨rfl, hb4⟩; have HB4 := Lib.hid (HTWO.out.trans (hb4.mono HTWO.out.size)); clear hb4)
    go_ret
    exact ⟨congrArg (fun i => Ending.returned (Value.int .i64 i)) HR.out, HB4.out⟩
  | true =>
    rw [hm] at HC
    have hm2 := hm
    rw [mayU, Bool.and_eq_true, decide_eq_true_eq, hl.len] at hm2
    have HM2 := Lib.hid hm2
    have HL := Lib.hid hl
    have HTWO := Lib.hid htwo
    have HBS := Lib.hid hbs
    have HBI := Lib.hid hbi
    have HM := Lib.hid hm
    clear hm hm2 hl htwo hbs hbi
    go_enter Tryd.func17, Tryd.ntmps17
    go_wp2_with (first
      | (go_at_call 15; refine HC.out.mono ?_; rintro e w1 ⟨rfl, hb4⟩; have hb5 := HTWO.out.trans (hb4.mono HTWO.out.size); have HBS1 := Lib.hid (HBS.out.below hb4); have HBI1 := Lib.hid (HBI.out.below hb4); have d0 := HBS1.out.cell; have d1 := HBI1.out.cell; have HB5 := Lib.hid hb5; clear hb4 hb5)
      | (go_at_call 31; refine (search_any A n c l no _ _ w1 (HL.out.below HB5.out) HBS1.out HBI1.out HM2.out.2 HM2.out.1).mono ?_; rintro e w2 ⟨at_, rfl, hat, hlo, hhi, j2, rfl⟩))
    have HB7 := Lib.hid (below_drewN HB5.out j2)
    by_cases hend : at_ = n
    · have hr : (-1 : Int) = findU l no := (find_none fun k v hv => by
        have h1 := (List.getElem?_eq_some_iff.1 hv).1
        rw [HL.out.len] at h1
        have := hlo k v (by omega) hv
        omega).symm
      have HR := Lib.hid hr
      have qe : ((at_ : Int) == (n : Int)) = true := by rw [beq_iff_eq]; omega
      clear hr hend hlo hhi
      go_quiet (fail)
      go_wp2
      go_ret
      exact ⟨congrArg (fun i => Ending.returned (Value.int .i64 i)) HR.out, below_drewN HB7.out _⟩
    · have qe : ((at_ : Int) == (n : Int)) = false := by rw [beq_eq_false_iff_ne]; omega
      have hlt : at_ < n := by omega
      obtain ⟨b, off, u, rfl, -, -, hu, z0, -, -, -, -⟩ := (HL.out.below HB5.out).at_ at_ hlt
      have q0 : 0 ≤ (at_ : Int) := by omega
      have q1 : (at_ : Int) < n := by omega
      by_cases hx : u.no = no
      · have hr : (at_ : Int) = findU l no := (find_hit HM.out hu hx fun j v h1 h2 => hlo j v h1 h2).symm
        have HR := Lib.hid hr
        have qn : (u.no != no) = false := by rw [hx]; simp
        obtain ⟨x, hxe⟩ : ∃ x, u.no = x := ⟨_, rfl⟩
        rw [hxe] at z0 qn
        clear hr hx hlo hhi hu hxe
        go_quiet (fail)
        go_wp2
        go_ret
        exact ⟨congrArg (fun i => Ending.returned (Value.int .i64 i)) HR.out, below_drewN HB7.out _⟩
      · have hr : (-1 : Int) = findU l no := (find_none fun k v hv hv2 => by
          by_cases h1 : k < at_
          · have := hlo k v h1 hv
            omega
          · by_cases h2 : k = at_
            · subst h2
              rw [hu] at hv
              obtain rfl := Option.some.inj hv
              exact hx hv2
            · have h3 := may_rise HM2.out.2 at_ k u v (by omega) hu hv
              have h4 := hhi at_ u (Nat.le_refl _) hu
              omega).symm
        have HR := Lib.hid hr
        have qn : (u.no != no) = true := by rw [bne_iff_ne]; exact hx
        obtain ⟨x, hxe⟩ : ∃ x, u.no = x := ⟨_, rfl⟩
        rw [hxe] at z0 qn
        clear hr hx hlo hhi hu hxe
        go_quiet (fail)
        go_wp2
        go_ret
        exact ⟨congrArg (fun i => Ending.returned (Value.int .i64 i)) HR.out, below_drewN HB7.out _⟩

theorem find_range {l : List Us} {no : Int} (h : 0 ≤ findU l no) : ∃ k : Nat, findU l no = k ∧ k < l.length ∧ ∃ u, l[k]? = some u ∧ u.no = no := by
  unfold findU at h ⊢
  split
  · rename_i hm
    rw [if_pos hm] at h
    have key : ∀ (l : List Us) (i : Int), findIx no l i = -1 ∨ ∃ k : Nat, findIx no l i = i + k ∧ k < l.length ∧ ∃ u, l[k]? = some u ∧ u.no = no := by
      intro l
      induction l with
      | nil => intro i; exact .inl rfl
      | cons u l ih =>
        intro i
        by_cases e : u.no = no
        · exact .inr ⟨0, by rw [findIx, if_pos e]; simp, by simp, u, rfl, e⟩
        · rw [findIx, if_neg e]
          rcases ih (i + 1) with h1 | ⟨k, h1, h2, v, h3, h4⟩
          · exact .inl h1
          · exact .inr ⟨k + 1, by rw [h1]; omega, by simp; omega, v, by rw [List.getElem?_cons_succ]; exact h3, h4⟩
    rcases key l 0 with h1 | ⟨k, h1, h2⟩
    · omega
    · exact ⟨k, by rw [h1]; omega, h2⟩
  · rename_i hm
    rw [if_neg hm] at h
    omega
theorem role_at {l : List Us} {no : Int} {k : Nat} {u : Us} (h : findU l no = k) (hu : l[k]? = some u) : roleU l no = u.role := by
  rw [roleU, if_pos (by rw [h]; omega), h]
  simp [List.getD_eq_getElem?_getD, hu]
theorem role_no {l : List Us} {no : Int} (h : ¬ 0 ≤ findU l no) : roleU l no = -1 := by rw [roleU, if_neg h]
set_option maxHeartbeats 1000000 in
theorem urole_any (A : Option Addr) (n c : Nat) (l : List Us) (no : Int) (w : World) (hl : Uss w A n c l) :
    Calls Tryd.prog 19 #[.slice A n c, .int .i64 no] w (GI (roleU l no) w) := by
  have hn := hl.small
  have HC := Lib.hid (ufind_any A n c l no w hl)
  by_cases h : 0 ≤ findU l no
  · obtain ⟨k, hk, hkl, u, hu, -⟩ := find_range h
    rw [hl.len] at hkl
    rw [role_at hk hu]
    rw [hk] at HC
    have HL := Lib.hid hl
    have HU := Lib.hid hu
    have q0 : 0 ≤ (k : Int) := by omega
    have q1 : (k : Int) < n := by omega
    clear h hk hl hu
    go_enter Tryd.func19, Tryd.ntmps19
    go_wp2_with (go_at_call 17; refine HC.out.mono ?_; rintro e w1 ⟨rfl, hb4⟩; have HB4 := Lib.hid hb4; obtain ⟨b, off, u', rfl, -, -, hu', -, z1, -, -, -⟩ := (HL.out.below hb4).at_ k hkl; obtain rfl : u' = u := (by rw [HU.out] at hu'; exact (Option.some.inj hu').symm); clear hb4 hu')
    go_ret
    exact ⟨rfl, HB4.out⟩
  · rw [role_no h]
    obtain ⟨x, hx⟩ : ∃ x, findU l no = x := ⟨_, rfl⟩
    rw [hx] at HC h
    have h' : x < 0 := by omega
    clear hx hl h
    go_enter Tryd.func19, Tryd.ntmps19
    go_wp2_with (go_at_call 17; refine HC.out.mono ?_; rintro e w1 ⟨rfl, hb4⟩; have HB4 := Lib.hid hb4; clear hb4)
    go_ret
    exact ⟨rfl, HB4.out⟩
end Go.Proofs.YtcfkpepohnjdfaaDoor
