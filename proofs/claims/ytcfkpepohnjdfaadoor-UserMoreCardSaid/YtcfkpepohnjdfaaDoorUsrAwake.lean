/- The walks over the laws' Key16 and awake (the chapter's example). -/
import Derived.Test.YtcfkpepohnjdfaaDoorUsrRole
import Derived.Test.YtcfkpepohnjdfaaDoorUsrSame
import Derived.Test.YtcfkpepohnjdfaaDoorUsrSecret
namespace Go.Proofs.YtcfkpepohnjdfaaDoor
set_option linter.unusedVariables false
set_option linter.unusedSimpArgs false
open Go.RowKit

theorem rep_more (k : Nat) (c : Int) : List.replicate k c ++ [c] = List.replicate (k + 1) c := by rw [List.replicate_succ']
theorem ok_reps (c : Int) (h0 : 0 ≤ c) (h1 : c < 256) (k : Nat) : ∀ j, 0 ≤ (List.replicate k c).getD j 0 ∧ (List.replicate k c).getD j 0 < 256 := by
  intro j
  simp only [List.getD_eq_getElem?_getD, List.getElem?_replicate]
  split
  · exact ⟨h0, h1⟩
  · simp
set_option maxHeartbeats 1000000 in
theorem key16_any (c : Int) (w : World) (h0 : 0 ≤ c) (h1 : c < 256) :
    Calls Tryd.prog 24 #[.int .u8 c] w fun e w' => ∃ A k, e = .returned (.slice A 16 k) ∧ Bts w' A 16 k (List.replicate 16 c) ∧ Below w.heap.size w w' := by
  go_enter Tryd.func24, Tryd.ntmps24
  go_wp2
  go_loopw [3, 4] (fun v i wr => ∃ k : Nat, k ≤ 16 ∧ i = .int .i64 k ∧ Own wr w.heap.size v (List.replicate k c) ∧ Below w.heap.size w wr) (fun _ i _ => 16 - (intOf i).toNat)
  case atStart => exact ⟨0, by omega, rfl, Own.nil _ _, Below.refl _ _⟩
  case round =>
    obtain ⟨k, hk, rfl, hown, hb⟩ := hrel
    by_cases hlt : k < 16
    · have hlt' : (k : Int) < 16 := by omega
      obtain ⟨L, hL⟩ : ∃ L, List.replicate k c = L := ⟨_, rfl⟩
      have hLl : L.length = k := by rw [← hL]; simp
      have hnext : L ++ [c] = List.replicate (k + 1) c := by rw [← hL]; exact rep_more k c
      rw [hL] at hown
      have HN := Lib.hid hnext
      have HLL := Lib.hid hLl
      have HO := Lib.hid hown
      have HB := Lib.hid hb
      clear hL hLl hnext hown hb
      go_wp2_with (first
        | (at_builtin
           refine wpList_append_b rfl _ _ rfl w.heap.size u3 L rfl (HO.out.more _) (some ⟨wr.heap.size, 0, none⟩) 1 1 [c] rfl (one_bts wr c h0 h1) (by rw [HLL.out]; omega) (Nat.le_trans HB.out.size (size_le_alloc _ _)) ?_
           intro v5 w5 hown5 hg5
           have hB5 : Below w.heap.size w w5 := (HB.out.alloc HB.out.size _).grown hg5 (Nat.le_trans HB.out.size (size_le_alloc _ _)) (fun k hk => (HO.out.size k hk).1)
           rw [HN.out] at hown5
           clear hg5))
      go_roundw
      case rel => exact ⟨k + 1, by omega, by go_num, hown5, hB5⟩
      case measure => simp [intOf]; omega
    · have hkn : k = 16 := by omega
      have hge : ¬ ((k : Int) < 16) := by omega
      obtain ⟨A, n, q, rfl, hbt⟩ := hown.slice (ok_reps c h0 h1 k)
      obtain rfl : n = 16 := by rw [← hbt.len]; simpa using hkn
      rw [hkn] at hbt
      have HBT := Lib.hid hbt
      have HB := Lib.hid hb
      clear hbt hb hown
      go_wp2
      go_ret
      exact ⟨A, q, rfl, HBT.out, HB.out⟩
theorem same_self (u : Us) : u.same u = true := by simp [Us.same]
theorem sameU_self : ∀ l : List Us, sameU l l = true
  | [] => rfl
  | u :: l => by rw [sameU, same_self, sameU_self l]; rfl
theorem two_users (w : World) (u v : Us) (hu : Bts w u.A u.n u.c u.key) (hv : Bts w v.A v.n v.c v.key) :
    Uss (w.alloc (.cells #[.int .i64 u.no, .int .i64 u.role, .slice u.A u.n u.c, .int .i64 v.no, .int .i64 v.role, .slice v.A v.n v.c] 25)) (some ⟨w.heap.size, 0, none⟩) 2 2 [u, v] := by
  refine ⟨⟨rfl, ?_, ?_, Nat.le_refl _, by unfold maxLen; omega, (fun e => by cases e), fun _ => ⟨w.heap.size, 0, rfl, fun j hj i hi => ?_⟩⟩, ?_⟩
  · intro r hr
    simp only [List.map_cons, List.map_nil, List.mem_cons, List.not_mem_nil, or_false] at hr
    rcases hr with rfl | rfl <;> rfl
  · intro r hr x hx
    simp only [List.map_cons, List.map_nil, List.mem_cons, List.not_mem_nil, or_false] at hr
    rcases hr with rfl | rfl
    · exact row_one3 u x hx
    · exact row_one3 v x hx
  · rw [cell_of_row _ _ _ _ _ _ (heap_alloc_new w _)]
    match j, i, hj, hi with
    | 0, 0, _, _ => rfl
    | 0, 1, _, _ => rfl
    | 0, 2, _, _ => rfl
    | 1, 0, _, _ => rfl
    | 1, 1, _, _ => rfl
    | 1, 2, _, _ => rfl
  · intro x hx
    simp only [List.mem_cons, List.not_mem_nil, or_false] at hx
    rcases hx with rfl | rfl
    · exact hu.more _
    · exact hv.more _
/-- the example's two users -/
theorem pair_facts (A B : Option Addr) (c d : Nat) (k1 k2 : List Int) : mayU [⟨3, 0, A, 16, c, k1⟩, ⟨7, 2, B, 16, d, k2⟩] = true ∧ mayU [⟨3, 0, A, 16, c, k1⟩] = true ∧ findU [⟨3, 0, A, 16, c, k1⟩, ⟨7, 2, B, 16, d, k2⟩] 7 = 1 ∧ findU [⟨3, 0, A, 16, c, k1⟩, ⟨7, 2, B, 16, d, k2⟩] 5 = -1 ∧ roleU [⟨3, 0, A, 16, c, k1⟩, ⟨7, 2, B, 16, d, k2⟩] 7 = 2 := by
  have h1 : mayU [⟨3, 0, A, 16, c, k1⟩, ⟨7, 2, B, 16, d, k2⟩] = true := by simp [mayU, mayFrom, goodU, isB]
  have h2 : mayU [⟨3, 0, A, 16, c, k1⟩] = true := by simp [mayU, mayFrom, goodU, isB]
  have h3 : findU [⟨3, 0, A, 16, c, k1⟩, ⟨7, 2, B, 16, d, k2⟩] 7 = 1 := by rw [findU, if_pos h1]; simp [findIx]
  have h4 : findU [⟨3, 0, A, 16, c, k1⟩, ⟨7, 2, B, 16, d, k2⟩] 5 = -1 := by rw [findU, if_pos h1]; simp [findIx]
  have h5 : roleU [⟨3, 0, A, 16, c, k1⟩, ⟨7, 2, B, 16, d, k2⟩] 7 = 2 := by rw [roleU, h3]; rfl
  exact ⟨h1, h2, h3, h4, h5⟩
set_option maxRecDepth 100000 in
set_option maxHeartbeats 2000000 in
theorem uawake_any (w : World) (hK : KTab w) :
    Calls Tryd.prog 9 #[] w fun e w' => e = .returned (.bool true) ∧ Below w.heap.size w w' := by
  have HK := Lib.hid hK
  clear hK
  go_enter Tryd.func9, Tryd.ntmps9
  go_wp2_with (first
    | (go_at_call 24
       (with_reducible refine (key16_any 1 w (by omega) (by omega)).mono ?_)
       rintro e w1 ⟨A, c, rfl, hk1, hb1⟩
       have HK1 := Lib.hid hk1
       have HB1 := Lib.hid hb1
       clear hk1 hb1)
    | (go_at_call 24
       (with_reducible refine (key16_any 2 w1 (by omega) (by omega)).mono ?_)
       rintro e w2 ⟨B, d, rfl, hk2, hb2⟩
       obtain ⟨k1, hk1e⟩ : ∃ k, List.replicate 16 (1 : Int) = k := ⟨_, rfl⟩
       obtain ⟨k2, hk2e⟩ : ∃ k, List.replicate 16 (2 : Int) = k := ⟨_, rfl⟩
       rw [hk2e] at hk2
       rw [hk1e] at HK1
       have HK2 := Lib.hid (HK1.out.below hb2)
       have HB2 := Lib.hid (HB1.out.trans (hb2.mono HB1.out.size))
       obtain ⟨f1, f2, f3, f4, f5⟩ := pair_facts A B c d k1 k2
       have hus := two_users w2 ⟨3, 0, A, 16, c, k1⟩ ⟨7, 2, B, 16, d, k2⟩ HK2.out hk2
       obtain ⟨ul, hul⟩ : ∃ l : List Us, [⟨3, 0, A, 16, c, k1⟩, ⟨7, 2, B, 16, d, k2⟩] = l := ⟨_, rfl⟩
       have hss := sameU_self ul
       rw [hul] at f1 f3 f4 f5 hus
       have HUS := Lib.hid hus
       have F1 := Lib.hid f1
       have F2 := Lib.hid f2
       have F3 := Lib.hid f3
       have F4 := Lib.hid f4
       have F5 := Lib.hid f5
       have FS := Lib.hid hss
       obtain ⟨Z, hZ⟩ : ∃ Z, secZ k1 3 1 2 3 = Z := ⟨_, rfl⟩
       have HZL := Lib.hid (show Z.length = 32 from (by rw [← hZ]; exact secZ_length _ _ _ _ _))
       have HZ := Lib.hid hZ
       clear hZ hk2 hb2 HB1 hus f1 f2 f3 f4 f5 hss hul hk1e hk2e HK1)
    | (go_at_call 11
       refine (usecret_yes ⟨3, 0, A, 16, c, k1⟩ 3 1 2 3 rfl _ (HK.out.from (HB2.out.alloc HB2.out.size _)) (HK2.out.more _) F2.out (by omega) (by omega) (by omega)).mono ?_
       rintro e w3 ⟨he, hb3⟩
       rw [HZ.out] at he
       subst he
       have HUSw3 := Lib.hid (HUS.out.below hb3)
       have HBw3 := Lib.hid ((HB2.out.alloc HB2.out.size _).trans (hb3.mono (Nat.le_trans HB2.out.size (size_le_alloc _ _))))
       clear hb3 HUS HB2)
    | ((with_reducible refine wpList_store_b rfl 30 _ _ rfl w3.heap.size Z ?hx1 ?hy1 30 (List.replicate 32 0) (rowb_lit w3 30 _ _ ?hz1) (info32 HZL.out) ?hl1 ?hm1); (case hx1 => rfl); (case hy1 => rfl); (case hz1 => rfl); (case hl1 => rw [HZL.out]; rfl)
       intro w4 hg4 hX4 hs4
       have hb4 : Below w3.heap.size w3 w4 := Below.grows (one_alloc w3 _) hg4 (size_le_alloc _ _) (Nat.le_refl _)
       have HUSw4 := Lib.hid (HUSw3.out.below hb4)
       have HBw4 := Lib.hid (HBw3.out.trans (hb4.mono HBw3.out.size))
       clear hb4 hg4 hX4 hs4 HUSw3 HBw3)
    | (go_at_call 15
       (with_reducible refine (umay_any (some ⟨w2.heap.size, 0, none⟩) 2 2 ul w4 HUSw4.out).mono ?_)
       rintro e w5 ⟨he, hbx⟩
       rw [F1.out] at he
       subst he
       have HBw5 := Lib.hid (HBw4.out.trans (hbx.mono HBw4.out.size))
       have HUSw5 := Lib.hid (HUSw4.out.below hbx)
       clear hbx HBw4 HUSw4)
    | (go_at_call 17
       (with_reducible refine (ufind_any (some ⟨w2.heap.size, 0, none⟩) 2 2 ul 7 w5 HUSw5.out).mono ?_)
       rintro e w6 ⟨he, hbx⟩
       rw [F3.out] at he
       subst he
       have HBw6 := Lib.hid (HBw5.out.trans (hbx.mono HBw5.out.size))
       have HUSw6 := Lib.hid (HUSw5.out.below hbx)
       clear hbx HBw5 HUSw5)
    | (go_at_call 17
       (with_reducible refine (ufind_any (some ⟨w2.heap.size, 0, none⟩) 2 2 ul 5 w6 HUSw6.out).mono ?_)
       rintro e w7 ⟨he, hbx⟩
       rw [F4.out] at he
       subst he
       have HBw7 := Lib.hid (HBw6.out.trans (hbx.mono HBw6.out.size))
       have HUSw7 := Lib.hid (HUSw6.out.below hbx)
       clear hbx HBw6 HUSw6)
    | (go_at_call 19
       (with_reducible refine (urole_any (some ⟨w2.heap.size, 0, none⟩) 2 2 ul 7 w7 HUSw7.out).mono ?_)
       rintro e w8 ⟨he, hbx⟩
       rw [F5.out] at he
       subst he
       have HBw8 := Lib.hid (HBw7.out.trans (hbx.mono HBw7.out.size))
       have HUSw8 := Lib.hid (HUSw7.out.below hbx)
       clear hbx HBw7 HUSw7)
    | (go_at_call 16
       (with_reducible refine (usame_any (some ⟨w2.heap.size, 0, none⟩) 2 2 ul (some ⟨w2.heap.size, 0, none⟩) 2 2 ul w8 HUSw8.out HUSw8.out).mono ?_)
       rintro e w9 ⟨he, hbx⟩
       rw [FS.out] at he
       subst he
       have HBw9 := Lib.hid (HBw8.out.trans (hbx.mono HBw8.out.size))
       have HUSw9 := Lib.hid (HUSw8.out.below hbx)
       clear hbx HBw8 HUSw8))
  go_ret
  exact ⟨rfl, HBw9.out⟩
end Go.Proofs.YtcfkpepohnjdfaaDoor
