/- The walk over the law UserSecret: a session's key is made of the user's key, for what the session is. -/
import Derived.Test.YtcfkpepohnjdfaaDoorUsrAwake
import Derived.Test.YtcfkpepohnjdfaaDoorUsrSecU
import Derived.Test.YtcfkpepohnjdfaaDoorShaEq
import Derived.Test.YtcfkpepohnjdfaaDoorBasOpen
import Derived.Test.YtcfkpepohnjdfaaDoorBasGuard
namespace Go.Proofs.YtcfkpepohnjdfaaDoor
set_option linter.unusedVariables false
set_option linter.unusedSimpArgs false
open Go.RowKit

theorem box_new2 (w w1 : World) (u : Us) (h : Below (w.alloc (.cells #[.int .i64 u.no, .int .i64 u.role, .slice u.A u.n u.c] 25)).heap.size (w.alloc (.cells #[.int .i64 u.no, .int .i64 u.role, .slice u.A u.n u.c] 25)) w1) : BoxU w1 w.heap.size u ∧ Below w.heap.size w w1 := by
  obtain ⟨h1, h2, h3⟩ := after_one h
  exact ⟨h3, h1⟩
set_option maxHeartbeats 1000000 in
theorem usecw_long (u : Us) (e dr cn : Int) (w : World) (hK : KTab w) (h3 : 100 < u.n) :
    Calls Tryd.prog 6 #[.agg #[.int .i64 u.no, .int .i64 u.role, .slice u.A u.n u.c], .int .i64 e, .int .u64 dr, .int .u64 cn] w fun e w' => e = .returned (.bool true) ∧ Below w.heap.size w w' := by
  obtain ⟨un, ur, uA, uk, uc, key⟩ := u
  simp only at h3
  have h3' : (100 : Int) < uk := by omega
  have HK := Lib.hid (hK.from (one_alloc w (.cells #[.int .i64 un, .int .i64 ur, .slice uA uk uc] 25)))
  clear hK
  go_enter Tryd.func6, Tryd.ntmps6
  go_wp2_with (first
    | (go_at_call 9
       refine (uawake_any _ HK.out).mono ?_
       rintro e w1 ⟨rfl, hb1⟩
       obtain ⟨hbox, hb1⟩ := box_new2 w w1 ⟨un, ur, uA, uk, uc, key⟩ hb1
       obtain ⟨y0, y1, y2⟩ := hbox.cells
       simp only at y0 y1 y2
       have HBw1 := Lib.hid hb1
       have HBOX := Lib.hid hbox
       clear hb1 hbox))
  go_ret
  exact ⟨rfl, HBw1.out⟩
set_option maxRecDepth 100000 in
set_option maxHeartbeats 2000000 in
theorem usecw_no (u : Us) (e dr cn : Int) (w : World) (hK : KTab w) (hu : Bts w u.A u.n u.c u.key) (hd0 : 0 ≤ dr) (hd : dr < 18446744073709551616) (hc0 : 0 ≤ cn) (hc : cn < 18446744073709551616) (h3 : u.n ≤ 100) (hG : mayS u e = false) :
    Calls Tryd.prog 6 #[.agg #[.int .i64 u.no, .int .i64 u.role, .slice u.A u.n u.c], .int .i64 e, .int .u64 dr, .int .u64 cn] w fun e w' => e = .returned (.bool true) ∧ Below w.heap.size w w' := by
  have hno := mayS_no hG
  have hZ0 : secU u e dr cn = List.replicate 32 0 := by rw [secU, if_neg (by rw [hG]; simp)]
  obtain ⟨Z, hZ⟩ : ∃ Z, secU u e dr cn = Z := ⟨_, rfl⟩
  have hZl : Z.length = 32 := by rw [← hZ]; exact secU_length _ _ _ _
  obtain ⟨un, ur, uA, uk, uc, key⟩ := u
  simp only at hu h3
  have h3' : (uk : Int) ≤ 100 := by omega
  have HK := Lib.hid (hK.from (one_alloc w (.cells #[.int .i64 un, .int .i64 ur, .slice uA uk uc] 25)))
  have HKW := Lib.hid hK
  have HU := Lib.hid hu
  have HZ := Lib.hid hZ
  have HZL := Lib.hid hZl
  rw [hZ] at hZ0
  have heq : ∀ w, (Op.equalIn 10000 30 (.agg (idv Z)) (.agg #[.int .u8 0, .int .u8 0, .int .u8 0, .int .u8 0, .int .u8 0, .int .u8 0, .int .u8 0, .int .u8 0, .int .u8 0, .int .u8 0, .int .u8 0, .int .u8 0, .int .u8 0, .int .u8 0, .int .u8 0, .int .u8 0, .int .u8 0, .int .u8 0, .int .u8 0, .int .u8 0, .int .u8 0, .int .u8 0, .int .u8 0, .int .u8 0, .int .u8 0, .int .u8 0, .int .u8 0, .int .u8 0, .int .u8 0, .int .u8 0, .int .u8 0, .int .u8 0])).run Tryd.prog w = .ok true w := fun w => (eq32 Z (List.replicate 32 0) hZl rfl w).trans (by rw [hZ0, beq_self_eq_true])
  have HG := Lib.hid hG
  clear hK hu hZ hZl hG hZ0 h3
  cases hm : mayU [⟨un, ur, uA, uk, uc, key⟩] with
  | false =>
    have HM := Lib.hid hm
    clear hm hno
    go_enter Tryd.func6, Tryd.ntmps6
    go_wp2_with (first
        | (go_at_call 9
           refine (uawake_any _ HK.out).mono ?_
           rintro e w1 ⟨rfl, hb1⟩
           obtain ⟨hbox, hb1⟩ := box_new2 w w1 ⟨un, ur, uA, uk, uc, key⟩ hb1
           obtain ⟨y0, y1, y2⟩ := hbox.cells
           simp only at y0 y1 y2
           have HBw1 := Lib.hid hb1
           have HBOX := Lib.hid hbox
           clear hb1 hbox)
        | (go_at_call 11
           (refine (usecret_any ⟨un, ur, uA, uk, uc, key⟩ e dr cn _ (HKW.out.from HBw1.out) (HU.out.below HBw1.out) hd0 hd hc0 hc).mono ?_)
           rintro e w2 ⟨he, hbx⟩
           rw [HZ.out, HG.out] at he
           subst he
           have HBw2 := Lib.hid (HBw1.out.trans (hbx.mono HBw1.out.size))
           obtain ⟨z0, z1, z2⟩ := (HBOX.out.below hbx).cells
           simp only at z0 z1 z2
           have HBOX2 := Lib.hid (HBOX.out.below hbx)
           clear y0 y1 y2 HBOX
           clear hbx)
        | ((with_reducible refine wpList_store_b rfl 30 _ _ rfl w2.heap.size Z ?hx1 ?hy1 30 (List.replicate 32 0) (rowb_lit w2 30 _ _ ?hz1) (info32 HZL.out) ?hl1 ?hm1); (case hx1 => rfl); (case hy1 => rfl); (case hz1 => rfl); (case hl1 => rw [HZL.out]; rfl)
           intro w3 hg hX hs
           have hbx : Below w2.heap.size w2 w3 := Below.grows (one_alloc w2 _) hg (size_le_alloc _ _) (Nat.le_refl _)
           have HX3 := Lib.hid hX
           have HBw3 := Lib.hid (HBw2.out.trans (hbx.mono HBw2.out.size))
           obtain ⟨x0, x1, x2⟩ := (HBOX2.out.below hbx).cells
           simp only at x0 x1 x2
           have HBOX3 := Lib.hid (HBOX2.out.below hbx)
           clear z0 z1 z2 HBOX2
           clear hbx hg hX hs)
        | (go_at_call 15
           refine (umay_any _ _ _ _ _ (one_user_at ⟨un, ur, uA, uk, uc, key⟩ rfl (HU.out.below HBw3.out))).mono ?_
           rintro e w4 ⟨he, hbx⟩
           rw [HM.out] at he
           subst he
           have hbx := (one_alloc w3 _).trans (hbx.mono (size_le_alloc _ _))
           have HBw4 := Lib.hid (HBw3.out.trans (hbx.mono HBw3.out.size))
           have HX4 := Lib.hid (HX3.out.keep hbx)
           obtain ⟨v0, v1, v2⟩ := (HBOX3.out.below hbx).cells
           simp only at v0 v1 v2
           have HBOX4 := Lib.hid (HBOX3.out.below hbx)
           clear x0 x1 x2 HBOX3
           clear hbx HX3)
        | ((with_reducible refine wpList_load_b rfl 30 _ _ rfl w2.heap.size ?hx21 30 Z HX4.out Tryd.underlying30 ?hd21 (info32 HZL.out) ?hm21); (case hx21 => rfl); (case hd21 => rfl)))
    go_ret
    exact ⟨by simp, HBw4.out⟩
  | true =>
    have HM := Lib.hid hm
    by_cases h1 : e < 0
    · have h1' : ¬ 0 ≤ e := by omega
      clear hm hno
      go_enter Tryd.func6, Tryd.ntmps6
      go_wp2_with (first
          | (go_at_call 9
             refine (uawake_any _ HK.out).mono ?_
             rintro e w1 ⟨rfl, hb1⟩
             obtain ⟨hbox, hb1⟩ := box_new2 w w1 ⟨un, ur, uA, uk, uc, key⟩ hb1
             obtain ⟨y0, y1, y2⟩ := hbox.cells
             simp only at y0 y1 y2
             have HBw1 := Lib.hid hb1
             have HBOX := Lib.hid hbox
             clear hb1 hbox)
          | (go_at_call 11
             (refine (usecret_any ⟨un, ur, uA, uk, uc, key⟩ e dr cn _ (HKW.out.from HBw1.out) (HU.out.below HBw1.out) hd0 hd hc0 hc).mono ?_)
             rintro e w2 ⟨he, hbx⟩
             rw [HZ.out, HG.out] at he
             subst he
             have HBw2 := Lib.hid (HBw1.out.trans (hbx.mono HBw1.out.size))
             obtain ⟨z0, z1, z2⟩ := (HBOX.out.below hbx).cells
             simp only at z0 z1 z2
             have HBOX2 := Lib.hid (HBOX.out.below hbx)
             clear y0 y1 y2 HBOX
             clear hbx)
          | ((with_reducible refine wpList_store_b rfl 30 _ _ rfl w2.heap.size Z ?hx2 ?hy2 30 (List.replicate 32 0) (rowb_lit w2 30 _ _ ?hz2) (info32 HZL.out) ?hl2 ?hm2); (case hx2 => rfl); (case hy2 => rfl); (case hz2 => rfl); (case hl2 => rw [HZL.out]; rfl)
             intro w3 hg hX hs
             have hbx : Below w2.heap.size w2 w3 := Below.grows (one_alloc w2 _) hg (size_le_alloc _ _) (Nat.le_refl _)
             have HX3 := Lib.hid hX
             have HBw3 := Lib.hid (HBw2.out.trans (hbx.mono HBw2.out.size))
             obtain ⟨x0, x1, x2⟩ := (HBOX2.out.below hbx).cells
             simp only at x0 x1 x2
             have HBOX3 := Lib.hid (HBOX2.out.below hbx)
             clear z0 z1 z2 HBOX2
             clear hbx hg hX hs)
          | (go_at_call 15
             refine (umay_any _ _ _ _ _ (one_user_at ⟨un, ur, uA, uk, uc, key⟩ rfl (HU.out.below HBw3.out))).mono ?_
             rintro e w4 ⟨he, hbx⟩
             rw [HM.out] at he
             subst he
             have hbx := (one_alloc w3 _).trans (hbx.mono (size_le_alloc _ _))
             have HBw4 := Lib.hid (HBw3.out.trans (hbx.mono HBw3.out.size))
             have HX4 := Lib.hid (HX3.out.keep hbx)
             obtain ⟨v0, v1, v2⟩ := (HBOX3.out.below hbx).cells
             simp only at v0 v1 v2
             have HBOX4 := Lib.hid (HBOX3.out.below hbx)
             clear x0 x1 x2 HBOX3
             clear hbx HX3)
          | ((with_reducible refine wpList_load_b rfl 30 _ _ rfl w2.heap.size ?hx22 30 Z HX4.out Tryd.underlying30 ?hd22 (info32 HZL.out) ?hm22); (case hx22 => rfl); (case hd22 => rfl)))
      go_ret
      exact ⟨by simp, HBw4.out⟩
    · have h2 : 1073741824 < e := by
        rcases hno with h | h | h
        · rw [hm] at h; cases h
        · omega
        · exact h
      have h4 : 0 ≤ e := by omega
      have h5 : ¬ e ≤ 1073741824 := by omega
      clear hm hno h1
      go_enter Tryd.func6, Tryd.ntmps6
      go_wp2_with (first
          | (go_at_call 9
             refine (uawake_any _ HK.out).mono ?_
             rintro e w1 ⟨rfl, hb1⟩
             obtain ⟨hbox, hb1⟩ := box_new2 w w1 ⟨un, ur, uA, uk, uc, key⟩ hb1
             obtain ⟨y0, y1, y2⟩ := hbox.cells
             simp only at y0 y1 y2
             have HBw1 := Lib.hid hb1
             have HBOX := Lib.hid hbox
             clear hb1 hbox)
          | (go_at_call 11
             (refine (usecret_any ⟨un, ur, uA, uk, uc, key⟩ e dr cn _ (HKW.out.from HBw1.out) (HU.out.below HBw1.out) hd0 hd hc0 hc).mono ?_)
             rintro e w2 ⟨he, hbx⟩
             rw [HZ.out, HG.out] at he
             subst he
             have HBw2 := Lib.hid (HBw1.out.trans (hbx.mono HBw1.out.size))
             obtain ⟨z0, z1, z2⟩ := (HBOX.out.below hbx).cells
             simp only at z0 z1 z2
             have HBOX2 := Lib.hid (HBOX.out.below hbx)
             clear y0 y1 y2 HBOX
             clear hbx)
          | ((with_reducible refine wpList_store_b rfl 30 _ _ rfl w2.heap.size Z ?hx3 ?hy3 30 (List.replicate 32 0) (rowb_lit w2 30 _ _ ?hz3) (info32 HZL.out) ?hl3 ?hm3); (case hx3 => rfl); (case hy3 => rfl); (case hz3 => rfl); (case hl3 => rw [HZL.out]; rfl)
             intro w3 hg hX hs
             have hbx : Below w2.heap.size w2 w3 := Below.grows (one_alloc w2 _) hg (size_le_alloc _ _) (Nat.le_refl _)
             have HX3 := Lib.hid hX
             have HBw3 := Lib.hid (HBw2.out.trans (hbx.mono HBw2.out.size))
             obtain ⟨x0, x1, x2⟩ := (HBOX2.out.below hbx).cells
             simp only at x0 x1 x2
             have HBOX3 := Lib.hid (HBOX2.out.below hbx)
             clear z0 z1 z2 HBOX2
             clear hbx hg hX hs)
          | (go_at_call 15
             refine (umay_any _ _ _ _ _ (one_user_at ⟨un, ur, uA, uk, uc, key⟩ rfl (HU.out.below HBw3.out))).mono ?_
             rintro e w4 ⟨he, hbx⟩
             rw [HM.out] at he
             subst he
             have hbx := (one_alloc w3 _).trans (hbx.mono (size_le_alloc _ _))
             have HBw4 := Lib.hid (HBw3.out.trans (hbx.mono HBw3.out.size))
             have HX4 := Lib.hid (HX3.out.keep hbx)
             obtain ⟨v0, v1, v2⟩ := (HBOX3.out.below hbx).cells
             simp only at v0 v1 v2
             have HBOX4 := Lib.hid (HBOX3.out.below hbx)
             clear x0 x1 x2 HBOX3
             clear hbx HX3)
          | ((with_reducible refine wpList_load_b rfl 30 _ _ rfl w2.heap.size ?hx23 30 Z HX4.out Tryd.underlying30 ?hd23 (info32 HZL.out) ?hm23); (case hx23 => rfl); (case hd23 => rfl)))
      go_ret
      exact ⟨by simp, HBw4.out⟩
set_option maxRecDepth 100000 in
set_option maxHeartbeats 2000000 in
theorem usecw_yes (u : Us) (no e d c : Nat) (hno : u.no = no) (w : World) (hK : KTab w) (hu : Bts w u.A u.n u.c u.key) (he0 : e ≤ 1073741824) (hd' : d < 18446744073709551616) (hc' : c < 18446744073709551616) (h3 : u.n ≤ 100) (hG : mayS u e = true) (hm : mayU [u] = true) (hg1 : (no : Int) ≤ 255) :
    Calls Tryd.prog 6 #[.agg #[.int .i64 u.no, .int .i64 u.role, .slice u.A u.n u.c], .int .i64 e, .int .u64 d, .int .u64 c] w fun e w' => e = .returned (.bool true) ∧ Below w.heap.size w w' := by
  have hZ2 : secZ u.key no e d c = secU u e d c := by rw [secU, if_pos hG, hno]; rfl
  obtain ⟨Z, hZ⟩ : ∃ Z, secU u e d c = Z := ⟨_, rfl⟩
  have hZl : Z.length = 32 := by rw [← hZ]; exact secU_length _ _ _ _
  obtain ⟨un, ur, uA, uk, uc, key⟩ := u
  simp only at hu h3
  have h3' : (uk : Int) ≤ 100 := by omega
  have HK := Lib.hid (hK.from (one_alloc w (.cells #[.int .i64 un, .int .i64 ur, .slice uA uk uc] 25)))
  have HKW := Lib.hid hK
  have HU := Lib.hid hu
  have HZ := Lib.hid hZ
  have HZL := Lib.hid hZl
  rw [hZ] at hZ2
  simp only at hno hZ2
  subst hno
  have q0 : 0 ≤ (e : Int) := by omega
  have q1 : (e : Int) ≤ 1073741824 := by omega
  have heq : ∀ w, (Op.equalIn 10000 30 (.agg (idv Z)) (.agg (idv Z))).run Tryd.prog w = .ok true w := fun w => (eq32 Z Z hZl hZl w).trans (by rw [beq_self_eq_true])
  have HZ2 := Lib.hid hZ2
  have HG := Lib.hid hG
  have HM := Lib.hid hm
  clear hK hu hZ hZl hG hZ2 h3 hm
  go_enter Tryd.func6, Tryd.ntmps6
  go_wp2_with (first
    | (go_at_call 9
       refine (uawake_any _ HK.out).mono ?_
       rintro e w1 ⟨rfl, hb1⟩
       obtain ⟨hbox, hb1⟩ := box_new2 w w1 ⟨(no : Int), ur, uA, uk, uc, key⟩ hb1
       obtain ⟨y0, y1, y2⟩ := hbox.cells
       simp only at y0 y1 y2
       have HBw1 := Lib.hid hb1
       have HBOX := Lib.hid hbox
       clear hb1 hbox)
    | (go_at_call 11
       (refine (usecret_any ⟨(no : Int), ur, uA, uk, uc, key⟩ e d c _ (HKW.out.from HBw1.out) (HU.out.below HBw1.out) (by omega) (by omega) (by omega) (by omega)).mono ?_)
       rintro e w2 ⟨he, hbx⟩
       rw [HZ.out, HG.out] at he
       subst he
       have HBw2 := Lib.hid (HBw1.out.trans (hbx.mono HBw1.out.size))
       obtain ⟨z0, z1, z2⟩ := (HBOX.out.below hbx).cells
       simp only at z0 z1 z2
       have HBOX2 := Lib.hid (HBOX.out.below hbx)
       clear y0 y1 y2 HBOX
       clear hbx)
    | ((with_reducible refine wpList_store_b rfl 30 _ _ rfl w2.heap.size Z ?hx11 ?hy11 30 (List.replicate 32 0) (rowb_lit w2 30 _ _ ?hz11) (info32 HZL.out) ?hl11 ?hm11); (case hx11 => rfl); (case hy11 => rfl); (case hz11 => rfl); (case hl11 => rw [HZL.out]; rfl)
       intro w3 hg hX hs
       have hbx : Below w2.heap.size w2 w3 := Below.grows (one_alloc w2 _) hg (size_le_alloc _ _) (Nat.le_refl _)
       have HX3 := Lib.hid hX
       have HBw3 := Lib.hid (HBw2.out.trans (hbx.mono HBw2.out.size))
       obtain ⟨x0, x1, x2⟩ := (HBOX2.out.below hbx).cells
       simp only at x0 x1 x2
       have HBOX3 := Lib.hid (HBOX2.out.below hbx)
       clear z0 z1 z2 HBOX2
       clear hbx hg hX hs)
    | (go_at_call 15
       refine (umay_any _ _ _ _ _ (one_user_at ⟨(no : Int), ur, uA, uk, uc, key⟩ rfl (HU.out.below HBw3.out))).mono ?_
       rintro e w4 ⟨he, hbx⟩
       rw [HM.out] at he
       subst he
       have hbx := (one_alloc w3 _).trans (hbx.mono (size_le_alloc _ _))
       have HBw4 := Lib.hid (HBw3.out.trans (hbx.mono HBw3.out.size))
       have HX4 := Lib.hid (HX3.out.keep hbx)
       obtain ⟨v0, v1, v2⟩ := (HBOX3.out.below hbx).cells
       simp only at v0 v1 v2
       have HBOX4 := Lib.hid (HBOX3.out.below hbx)
       clear x0 x1 x2 HBOX3
       clear hbx HX3)
    | (go_at_call 22
       refine (cat_four w4 e d c no he0 hd' hc' hg1).mono ?_
       rintro x w5 ⟨B, m, k, rfl, hm21, hctx, hbx⟩
       obtain rfl : m = 21 := hm21
       have HX5 := Lib.hid (HX4.out.keep hbx)
       have HCTX := Lib.hid hctx
       have HBw5 := Lib.hid (HBw4.out.trans (hbx.mono HBw4.out.size))
       obtain ⟨t0, t1, t2⟩ := (HBOX4.out.below hbx).cells
       simp only at t0 t1 t2
       have HBOX5 := Lib.hid (HBOX4.out.below hbx)
       clear v0 v1 v2 HBOX4
       clear hbx hctx HX4)
    | (go_at_call 23
       refine (derive_yes uA B uk uc 21 k key _ sessS w5 (HKW.out.from HBw5.out) (by omega) (by omega) (HU.out.below HBw5.out) HCTX.out (by decide) (by decide)).mono ?_
       rintro x w6 ⟨hx, hbx⟩
       rw [show tagL key (labelL (strL sessS) (ctxL no e d c)) = Z from HZ2.out] at hx
       subst hx
       have HX6 := Lib.hid (HX5.out.keep hbx)
       have HBw6 := Lib.hid (HBw5.out.trans (hbx.mono HBw5.out.size))
       clear hbx HX5 t0 t1 t2 HBOX5)
    | ((with_reducible refine wpList_store_b rfl 30 _ _ rfl w6.heap.size Z ?hx12 ?hy12 30 (List.replicate 32 0) (rowb_lit w6 30 _ _ ?hz12) (info32 HZL.out) ?hl12 ?hm12); (case hx12 => rfl); (case hy12 => rfl); (case hz12 => rfl); (case hl12 => rw [HZL.out]; rfl)
       intro w7 hg hX hs
       have hbx : Below w6.heap.size w6 w7 := Below.grows (one_alloc w6 _) hg (size_le_alloc _ _) (Nat.le_refl _)
       have HY7 := Lib.hid hX
       have HBw7 := Lib.hid (HBw6.out.trans (hbx.mono HBw6.out.size))
       have HX7 := Lib.hid (HX6.out.keep hbx)
       clear hbx hg hX hs)
    | ((with_reducible refine wpList_load_blk 30 _ rfl w2.heap.size ?hx13 30 (idv Z) (0, 0) _ HX7.out.is Tryd.underlying30 ?hd13 (info32 HZL.out) ?hm13 ?hw13); (case hx13 => rfl); (case hd13 => rfl); (case hw13 => rfl))
    | ((with_reducible refine wpList_load_blk 30 _ rfl w6.heap.size ?hx14 30 (idv Z) (0, 0) _ HY7.out.is Tryd.underlying30 ?hd14 (info32 HZL.out) ?hm14 ?hw14); (case hx14 => rfl); (case hd14 => rfl); (case hw14 => rfl)))
  go_ret
  exact ⟨by simp, HBw7.out⟩
theorem usecw_any (u : Us) (e dr cn : Int) (w : World) (hK : KTab w) (hu : Bts w u.A u.n u.c u.key) (hd : (Lit.int .u64 dr).wf = true) (hc : (Lit.int .u64 cn).wf = true) :
    Calls Tryd.prog 6 #[.agg #[.int .i64 u.no, .int .i64 u.role, .slice u.A u.n u.c], .int .i64 e, .int .u64 dr, .int .u64 cn] w fun e w' => e = .returned (.bool true) ∧ Below w.heap.size w w' := by
  have b1 := bounds_u64 hd
  have b2 := bounds_u64 hc
  by_cases h3 : u.n ≤ 100
  · cases hG : mayS u e with
    | false => exact usecw_no u e dr cn w hK hu b1.1 (by omega) b2.1 (by omega) h3 hG
    | true =>
      obtain ⟨h1, h2, h4, h5, h6⟩ := mayS_yes hG
      obtain ⟨e', rfl⟩ := Int.eq_ofNat_of_zero_le h2
      obtain ⟨d', rfl⟩ := Int.eq_ofNat_of_zero_le b1.1
      obtain ⟨c', rfl⟩ := Int.eq_ofNat_of_zero_le b2.1
      exact usecw_yes u u.no.toNat e' d' c' (by omega) w hK hu (by omega) (by omega) (by omega) h3 hG h1 (by omega)
  · exact usecw_long u e dr cn w hK (by omega)
end Go.Proofs.YtcfkpepohnjdfaaDoor
