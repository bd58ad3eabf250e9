/- The walk over the law UserRole: a session's key has nothing to do with the role. -/
import Derived.Test.YtcfkpepohnjdfaaDoorUsrSecretW
namespace Go.Proofs.YtcfkpepohnjdfaaDoor
set_option linter.unusedVariables false
set_option linter.unusedSimpArgs false
open Go.RowKit

theorem BoxU.role {w : World} {g : Nat} {u : Us} (h : BoxU w g u) (r : Int) : BoxU (w.setCell ⟨g, 1, none⟩ (.int .i64 r)) g { u with role := r } := heap_setCell_same _ _ _ _ _ _ h
set_option maxHeartbeats 1000000 in
theorem urolew_no (u : Us) (r e dr cn : Int) (w : World) (hK : KTab w) (hu : Bts w u.A u.n u.c u.key) (h : 100 < u.n ∨ isB r = false ∨ isB u.role = false) :
    Calls Tryd.prog 7 #[.agg #[.int .i64 u.no, .int .i64 u.role, .slice u.A u.n u.c], .int .i64 r, .int .i64 e, .int .u64 dr, .int .u64 cn] w fun e w' => e = .returned (.bool true) ∧ Below w.heap.size w w' := by
  obtain ⟨un, ur, uA, uk, uc, key⟩ := u
  simp only at hu h
  have HK := Lib.hid (hK.from (one_alloc w (.cells #[.int .i64 un, .int .i64 ur, .slice uA uk uc] 25)))
  obtain ⟨r1, hr1⟩ : ∃ b, isB r = b := ⟨_, rfl⟩
  obtain ⟨r2, hr2⟩ : ∃ b, isB ur = b := ⟨_, rfl⟩
  rw [hr1, hr2] at h
  have R1 := Lib.hid hr1
  have R2 := Lib.hid hr2
  clear hr1 hr2 hu hK
  by_cases h3 : uk ≤ 100
  · have h3' : (uk : Int) ≤ 100 := by omega
    have h4 : r1 = false ∨ r2 = false := by
      rcases h with h | h | h
      · omega
      · exact .inl h
      · exact .inr h
    clear h
    cases r1
    case' true => cases r2
    case true.true => simp at h4
    all_goals
      clear h4
      go_enter Tryd.func7, Tryd.ntmps7
      go_wp2_with (first
        | (go_at_call 9
           refine (uawake_any _ HK.out).mono ?_
           rintro e w1 ⟨rfl, hb1⟩
           obtain ⟨hbox, hb1⟩ := box_new2 w w1 ⟨un, ur, uA, uk, uc, key⟩ hb1
           obtain ⟨y0, y1, y2⟩ := hbox.cells
           simp only at y0 y1 y2
           have HBw1 := Lib.hid hb1
           have HBOX := Lib.hid hbox
           clear hb1 hbox)
        | (go_at_call 21
           (with_reducible refine (is_any r w1).mono ?_)
           rintro e w2 ⟨he, rfl⟩
           rw [R1.out] at he
           subst he)
        | (go_at_call 21
           (with_reducible refine (is_any ur _).mono ?_)
           rintro e w3 ⟨he, rfl⟩
           rw [R2.out] at he
           subst he))
      go_ret
      exact ⟨rfl, HBw1.out⟩
  · have h3' : (100 : Int) < uk := by omega
    clear h
    go_enter Tryd.func7, Tryd.ntmps7
    go_wp2_with (first
      | (go_at_call 9
         refine (uawake_any _ HK.out).mono ?_
         rintro e w1 ⟨rfl, hb1⟩
         obtain ⟨hbox, hb1⟩ := box_new2 w w1 ⟨un, ur, uA, uk, uc, key⟩ hb1
         obtain ⟨y0, y1, y2⟩ := hbox.cells
         simp only at y0 y1 y2
         have HBw1 := Lib.hid hb1
         have HBOX := Lib.hid hbox
         clear hb1 hbox))
    go_ret
    exact ⟨rfl, HBw1.out⟩
set_option maxRecDepth 100000 in
set_option maxHeartbeats 2000000 in
theorem urolew_yes (u : Us) (r e dr cn : Int) (w : World) (hK : KTab w) (hu : Bts w u.A u.n u.c u.key) (hd0 : 0 ≤ dr) (hd : dr < 18446744073709551616) (hc0 : 0 ≤ cn) (hc : cn < 18446744073709551616) (h3 : u.n ≤ 100) (hr1 : isB r = true) (hr2 : isB u.role = true) :
    Calls Tryd.prog 7 #[.agg #[.int .i64 u.no, .int .i64 u.role, .slice u.A u.n u.c], .int .i64 r, .int .i64 e, .int .u64 dr, .int .u64 cn] w fun e w' => e = .returned (.bool true) ∧ Below w.heap.size w w' := by
  obtain ⟨hz2, hg2⟩ := secret_role (u := u) (r := r) (e := e) (d := dr) (c := cn) hr2 hr1
  obtain ⟨Z, hZ⟩ : ∃ Z, secU u e dr cn = Z := ⟨_, rfl⟩
  have hZl : Z.length = 32 := by rw [← hZ]; exact secU_length _ _ _ _
  obtain ⟨G, hG⟩ : ∃ G, mayS u e = G := ⟨_, rfl⟩
  rw [hZ] at hz2
  rw [hG] at hg2
  obtain ⟨un, ur, uA, uk, uc, key⟩ := u
  simp only at hu h3 hr2 hz2 hg2
  have h3' : (uk : Int) ≤ 100 := by omega
  have HK := Lib.hid (hK.from (one_alloc w (.cells #[.int .i64 un, .int .i64 ur, .slice uA uk uc] 25)))
  have heqZ : ∀ w, (Op.equalIn 10000 30 (.agg (idv Z)) (.agg (idv Z))).run Tryd.prog w = .ok true w := fun w => (eq32 Z Z hZl hZl w).trans (by rw [beq_self_eq_true])
  have R1 := Lib.hid hr1
  have R2 := Lib.hid hr2
  have HKW := Lib.hid hK
  have HU := Lib.hid hu
  have HZ := Lib.hid hZ
  have HG := Lib.hid hG
  have HZ2 := Lib.hid hz2
  have HG2 := Lib.hid hg2
  have HZL := Lib.hid hZl
  clear hr1 hr2 hu hK hZ hG hz2 hg2 hZl h3
  go_enter Tryd.func7, Tryd.ntmps7
  go_wp2_with (first
    | (go_at_call 9
       refine (uawake_any _ HK.out).mono ?_
       rintro e w1 ⟨rfl, hb1⟩
       obtain ⟨hbox, hb1⟩ := box_new2 w w1 ⟨un, ur, uA, uk, uc, key⟩ hb1
       obtain ⟨y0, y1, y2⟩ := hbox.cells
       simp only at y0 y1 y2
       have HBw1 := Lib.hid hb1
       have HBOX := Lib.hid hbox
       clear hb1 hbox)
    | (go_at_call 21
       (with_reducible refine (is_any r w1).mono ?_)
       rintro e w2 ⟨he, rfl⟩
       rw [R1.out] at he
       subst he)
    | (go_at_call 21
       (with_reducible refine (is_any ur _).mono ?_)
       rintro e w3 ⟨he, rfl⟩
       rw [R2.out] at he
       subst he)
    | (go_at_call 11
       have hbs : Below w.heap.size w (w5.setCell ⟨w.heap.size, 1, none⟩ (.int .i64 r)) := HBw5.out.setCell (p := ⟨w.heap.size, 1, none⟩) (Nat.le_refl _) _
       refine (usecret_any ⟨un, r, uA, uk, uc, key⟩ e dr cn _ (HKW.out.from hbs) (HU.out.below hbs) hd0 hd hc0 hc).mono ?_
       rintro e w6 ⟨he, hbx⟩
       rw [HZ2.out, HG2.out] at he
       subst he
       have HBw6 := Lib.hid (hbs.trans (hbx.mono hbs.size))
       have HX6 := Lib.hid ((HX5.out.far (a := ⟨w.heap.size, 1, none⟩) (Nat.ne_of_gt HLT.out) _).keep hbx)
       clear hbx hbs HX5 x0 x1 x2 HBOX3)
    | (go_at_call 11
       (refine (usecret_any ⟨un, ur, uA, uk, uc, key⟩ e dr cn _ (HKW.out.from HBw1.out) (HU.out.below HBw1.out) hd0 hd hc0 hc).mono ?_)
       rintro e w4 ⟨he, hbx⟩
       rw [HZ.out, HG.out] at he
       subst he
       have HBw4 := Lib.hid (HBw1.out.trans (hbx.mono HBw1.out.size))
       have HLT := Lib.hid (show w.heap.size < w4.heap.size by have h1 := HBOX.out.lt; have h2 := hbx.size; omega)
       obtain ⟨z0, z1, z2⟩ := (HBOX.out.below hbx).cells
       simp only at z0 z1 z2
       have HBOX2 := Lib.hid (HBOX.out.below hbx)
       clear y0 y1 y2 HBOX
       clear hbx)
    | ((with_reducible refine wpList_store_b rfl 30 _ _ rfl w4.heap.size Z ?hx1 ?hy1 30 (List.replicate 32 0) (rowb_lit w4 30 _ _ ?hz1) (info32 HZL.out) ?hl1 ?hm1); (case hx1 => rfl); (case hy1 => rfl); (case hz1 => rfl); (case hl1 => rw [HZL.out]; rfl)
       intro w5 hg hX hs
       have hbx : Below w4.heap.size w4 w5 := Below.grows (one_alloc w4 _) hg (size_le_alloc _ _) (Nat.le_refl _)
       have HX5 := Lib.hid hX
       have HBw5 := Lib.hid (HBw4.out.trans (hbx.mono HBw4.out.size))
       have fz : w5.frozen? ⟨w.heap.size, 1, none⟩ = false := frozen_of_row _ _ 1 _ _ (HBOX2.out.below hbx)
       obtain ⟨x0, x1, x2⟩ := (HBOX2.out.below hbx).cells
       simp only at x0 x1 x2
       have HBOX3 := Lib.hid (HBOX2.out.below hbx)
       clear z0 z1 z2 HBOX2
       clear hbx hg hX hs)
    | ((with_reducible refine wpList_store_b rfl 30 _ _ rfl w6.heap.size Z ?hx2 ?hy2 30 (List.replicate 32 0) (rowb_lit w6 30 _ _ ?hz2) (info32 HZL.out) ?hl2 ?hm2); (case hx2 => rfl); (case hy2 => rfl); (case hz2 => rfl); (case hl2 => rw [HZL.out]; rfl)
       intro w7 hg hX hs
       have hbx : Below w6.heap.size w6 w7 := Below.grows (one_alloc w6 _) hg (size_le_alloc _ _) (Nat.le_refl _)
       have HY7 := Lib.hid hX
       have HBw7 := Lib.hid (HBw6.out.trans (hbx.mono HBw6.out.size))
       have HX7 := Lib.hid (HX6.out.keep hbx)
       clear HX6
       clear hbx hg hX hs)
    | ((with_reducible refine wpList_load_b rfl 30 _ _ rfl w4.heap.size ?hx3 30 Z HX7.out Tryd.underlying30 ?hd3 (info32 HZL.out) ?hm3); (case hx3 => rfl); (case hd3 => rfl))
    | ((with_reducible refine wpList_load_b rfl 30 _ _ rfl w6.heap.size ?hx4 30 Z HY7.out Tryd.underlying30 ?hd4 (info32 HZL.out) ?hm4); (case hx4 => rfl); (case hd4 => rfl)))
  go_ret
  exact ⟨by simp, HBw7.out⟩
theorem urolew_any (u : Us) (r e dr cn : Int) (w : World) (hK : KTab w) (hu : Bts w u.A u.n u.c u.key) (hd : (Lit.int .u64 dr).wf = true) (hc : (Lit.int .u64 cn).wf = true) :
    Calls Tryd.prog 7 #[.agg #[.int .i64 u.no, .int .i64 u.role, .slice u.A u.n u.c], .int .i64 r, .int .i64 e, .int .u64 dr, .int .u64 cn] w fun e w' => e = .returned (.bool true) ∧ Below w.heap.size w w' := by
  have b1 := bounds_u64 hd
  have b2 := bounds_u64 hc
  by_cases h3 : u.n ≤ 100
  · cases h1 : isB r with
    | false => exact urolew_no u r e dr cn w hK hu (.inr (.inl h1))
    | true =>
      cases h2 : isB u.role with
      | false => exact urolew_no u r e dr cn w hK hu (.inr (.inr h2))
      | true => exact urolew_yes u r e dr cn w hK hu b1.1 (by omega) b2.1 (by omega) h3 h1 h2
  · exact urolew_no u r e dr cn w hK hu (.inl (by omega))
end Go.Proofs.YtcfkpepohnjdfaaDoor
