/- The walk over the law UserFind: a user is found at the place where it stands, with its role; no two have one number. -/
import Derived.Test.YtcfkpepohnjdfaaDoorUsrAwake
import Derived.Test.YtcfkpepohnjdfaaDoorUsrFew
import Derived.Test.YtcfkpepohnjdfaaDoorBasTake
namespace Go.Proofs.YtcfkpepohnjdfaaDoor
set_option linter.unusedVariables false
set_option linter.unusedSimpArgs false
open Go.RowKit

theorem find_self {l : List Us} (hm : mayU l = true) {j : Nat} {u : Us} (hu : l[j]? = some u) : findU l u.no = j := by
  have hm2 := hm
  rw [mayU, Bool.and_eq_true] at hm2
  exact find_hit hm hu rfl fun k v h1 h2 => may_rise hm2.2 k j v u h1 h2 hu
theorem find_cases (l : List Us) (no : Int) : findU l no = -1 ∨ 0 ≤ findU l no := by
  unfold findU
  split
  · have key : ∀ (l : List Us) (i : Int), 0 ≤ i → findIx no l i = -1 ∨ 0 ≤ findIx no l i := by
      intro l
      induction l with
      | nil => intro i _; exact .inl rfl
      | cons u l ih =>
        intro i hi
        rw [findIx]
        split
        · exact .inr hi
        · exact ih (i + 1) (by omega)
    exact key l 0 (by omega)
  · exact .inl rfl
theorem find_role {l : List Us} (hm : mayU l = true) {no : Int} (h : 0 ≤ findU l no) : ∃ (k : Nat) (u : Us), findU l no = k ∧ k < l.length ∧ l[k]? = some u ∧ u.no = no ∧ roleU l no = u.role ∧ isB u.role = true := by
  obtain ⟨k, hk, hkl, u, hu, hn⟩ := find_range h
  rw [mayU, Bool.and_eq_true] at hm
  exact ⟨k, u, hk, hkl, hu, hn, role_at hk hu, (may_all hm.2 u (List.mem_of_getElem? hu)).2.2.1⟩
set_option maxHeartbeats 1000000 in
theorem ufindw_no (A : Option Addr) (n c : Nat) (l : List Us) (no i : Int) (w : World) (hK : KTab w) (hl : Uss w A n c l) (h : fewU l = false ∨ mayU l = false) :
    Calls Tryd.prog 4 #[.slice A n c, .int .i64 no, .int .i64 i] w fun e w' => e = .returned (.bool true) ∧ Below w.heap.size w w' := by
  have HK := Lib.hid hK
  have HL := Lib.hid hl
  obtain ⟨b1, hb1⟩ : ∃ b, fewU l = b := ⟨_, rfl⟩
  obtain ⟨b2, hb2⟩ : ∃ b, mayU l = b := ⟨_, rfl⟩
  rw [hb1, hb2] at h
  have F1 := Lib.hid hb1
  have FM := Lib.hid hb2
  clear hb1 hb2 hK hl
  cases b1
  case' true => cases b2
  case true.true => simp at h
  all_goals
    clear h
    go_enter Tryd.func4, Tryd.ntmps4
    go_wp2_with (first
      | (go_at_call 9
         refine (uawake_any _ HK.out).mono ?_
         rintro e w1 ⟨rfl, hb1⟩
         have HBw1 := Lib.hid hb1
         clear hb1)
      | (go_at_call 10
         (with_reducible refine (few_any A n c l w1 (HL.out.below HBw1.out)).mono ?_)
         rintro e w2 ⟨he, rfl⟩
         rw [F1.out] at he
         subst he)
      | (go_at_call 15
         (with_reducible refine (umay_any A n c l _ (HL.out.below HBw1.out)).mono ?_)
         rintro e w3 ⟨he, hbx⟩
         rw [FM.out] at he
         subst he
         have HBw3 := Lib.hid (HBw1.out.trans (hbx.mono HBw1.out.size))
         clear hbx))
    go_ret
    first
      | exact ⟨rfl, HBw3.out⟩
      | exact ⟨rfl, HBw1.out⟩
set_option maxRecDepth 100000 in
set_option maxHeartbeats 4000000 in
theorem ufindw_none (A : Option Addr) (n c : Nat) (l : List Us) (no i : Int) (w : World) (hK : KTab w) (hl : Uss w A n c l) (hf : fewU l = true) (hm : mayU l = true) (h : findU l no = -1) :
    Calls Tryd.prog 4 #[.slice A n c, .int .i64 no, .int .i64 i] w fun e w' => e = .returned (.bool true) ∧ Below w.heap.size w w' := by
  have HK := Lib.hid hK
  have HL := Lib.hid hl
  have hn := hl.small
  have HLL := Lib.hid hl.len
  have F1 := Lib.hid hf
  have FM := Lib.hid hm
  obtain ⟨r, hr⟩ : ∃ r, roleU l no = r := ⟨_, rfl⟩
  have FR := Lib.hid hr
  have HMAY := Lib.hid hm
  have HLA := Lib.hid hl
  have FF := Lib.hid h
  have hr1 : r = -1 := by rw [← hr]; exact role_no (by omega)
  rw [hr1] at FR
  have HKN := Lib.hid (show ∀ (j : Nat) (v : Us), l[j]? = some v → v.no ≠ no from fun j v hv hvn => by
    have h1 := find_self hm hv
    rw [hvn, h] at h1
    omega)
  clear hr hr1 hl h hm hf
  by_cases hi : 0 ≤ i
  · by_cases hin : i < n
    · obtain ⟨j, rfl⟩ := Int.eq_ofNat_of_zero_le hi
      have hi' : 0 ≤ (j : Int) := hi
      have hin' : (j : Int) < n := hin
      obtain ⟨b, off, v, hA1, -, -, hv, x0, x1, -, -, -⟩ := HLA.out.at_ j (by omega)
      subst hA1
      have V := Lib.hid (show ∀ W, Below w.heap.size w W → W.cell? ⟨b, off + j * 3, none⟩ = some (.int .i64 v.no) ∧ W.cell? ⟨b, off + j * 3 + 1, none⟩ = some (.int .i64 v.role) from fun W hW => ⟨(hW.cell (p := ⟨b, off + j * 3, none⟩) (block_lt_of_cell x0)).trans x0, (hW.cell (p := ⟨b, off + j * 3 + 1, none⟩) (block_lt_of_cell x1)).trans x1⟩)
      have FS := Lib.hid (find_self HMAY.out hv)
      have FSR := Lib.hid (role_at (find_self HMAY.out hv) hv)
      obtain ⟨x, hx⟩ : ∃ x, v.no = x := ⟨_, rfl⟩
      obtain ⟨ro, hro⟩ : ∃ x, v.role = x := ⟨_, rfl⟩
      have HXK := Lib.hid (HKN.out j v hv)
      rw [hx] at V FS FSR HXK
      rw [hro] at V FSR
      have d1 : ((j : Int) != (j : Int)) = false := by simp
      have d2 : (ro != ro) = false := by simp
      clear hx hro hv x0 x1 hi hin HKN HMAY HLA
      have d3 : (x == no) = false := by rw [beq_eq_false_iff_ne]; exact HXK.out
      clear HXK
      go_enter Tryd.func4, Tryd.ntmps4
      go_wp2_with (first
        | (go_at_call 9
           refine (uawake_any _ HK.out).mono ?_
           rintro e w1 ⟨rfl, hb1⟩
           have HBw1 := Lib.hid hb1
           clear hb1)
        | (go_at_call 10
           (with_reducible refine (few_any (some ⟨b, off, none⟩) n c l w1 (HL.out.below HBw1.out)).mono ?_)
           rintro e w2 ⟨he, rfl⟩
           rw [F1.out] at he
           subst he)
        | (go_at_call 15
           (with_reducible refine (umay_any (some ⟨b, off, none⟩) n c l _ (HL.out.below HBw1.out)).mono ?_)
           rintro e w3 ⟨he, hbx⟩
           rw [FM.out] at he
           subst he
           have HBw3 := Lib.hid (HBw1.out.trans (hbx.mono HBw1.out.size))
           clear hbx)
        | (go_at_call 17
           (with_reducible refine (ufind_any (some ⟨b, off, none⟩) n c l no w3 (HL.out.below HBw3.out)).mono ?_)
           rintro e w4 ⟨he, hbx⟩
           rw [FF.out] at he
           subst he
           have HBw4 := Lib.hid (HBw3.out.trans (hbx.mono HBw3.out.size))
           clear hbx))
      have hV0 : Below w.heap.size w w4.drew := HBw4.out.drew
      have V0 := V.out _ hV0
      refine wp_region_held_drew (S := (fun w' => w'.cell? ⟨b, off + j * 3, none⟩ = some (.int .i64 x) ∧ w'.cell? ⟨b, off + j * 3 + 1, none⟩ = some (.int .i64 ro))) (by kernel_rfl) V0 (fun hHeld => ?_)
      refine take_move 0 (.tmp 2) (.int .i64 j) rfl rfl rfl (by kernel_rfl) (by kernel_rfl) (by kernel_rfl) (fun _ _ _ h => h) rfl hHeld ?_
      simp only [Act.put, List.setIfInBounds_toArray, List.set_cons_zero, List.set_cons_succ]
      refine take_run 1 (.bool true) rfl (by kernel_rfl) (by kernel_rfl) (by kernel_rfl) (fun _ _ _ h => h) rfl hHeld (fun w => ?_) ?_
      · go_simp
      simp only [Act.put, List.setIfInBounds_toArray, List.set_cons_zero, List.set_cons_succ]
      refine take_move 2 (.tmp 29) (.bool true) rfl rfl rfl (by kernel_rfl) (by kernel_rfl) (by kernel_rfl) (fun _ _ _ h => h) rfl hHeld ?_
      simp only [Act.put, List.setIfInBounds_toArray, List.set_cons_zero, List.set_cons_succ]
      refine take_move 3 (.tmp 2) (.int .i64 j) rfl rfl rfl (by kernel_rfl) (by kernel_rfl) (by kernel_rfl) (fun _ _ _ h => h) rfl hHeld ?_
      simp only [Act.put, List.setIfInBounds_toArray, List.set_cons_zero, List.set_cons_succ]
      refine take_move 4 (.tmp 0) (.slice (some ⟨b, off, none⟩) n c) rfl rfl rfl (by kernel_rfl) (by kernel_rfl) (by kernel_rfl) (fun _ _ _ h => h) rfl hHeld ?_
      simp only [Act.put, List.setIfInBounds_toArray, List.set_cons_zero, List.set_cons_succ]
      refine take_run 5 (.int .i64 n) rfl (by kernel_rfl) (by kernel_rfl) (by kernel_rfl) (fun _ _ _ h => h) rfl hHeld (fun w => ?_) ?_
      · go_simp
      simp only [Act.put, List.setIfInBounds_toArray, List.set_cons_zero, List.set_cons_succ]
      refine take_run 6 (.bool true) rfl (by kernel_rfl) (by kernel_rfl) (by kernel_rfl) (fun _ _ _ h => h) rfl hHeld (fun w => ?_) ?_
      · go_simp
      simp only [Act.put, List.setIfInBounds_toArray, List.set_cons_zero, List.set_cons_succ]
      refine take_run 7 (.bool true) rfl (by kernel_rfl) (by kernel_rfl) (by kernel_rfl) (fun _ _ _ h => h) rfl hHeld (fun w => ?_) ?_
      · go_simp
      simp only [Act.put, List.setIfInBounds_toArray, List.set_cons_zero, List.set_cons_succ]
      refine take_move 8 (.tmp 35) (.bool true) rfl rfl rfl (by kernel_rfl) (by kernel_rfl) (by kernel_rfl) (fun _ _ _ h => h) rfl hHeld ?_
      simp only [Act.put, List.setIfInBounds_toArray, List.set_cons_zero, List.set_cons_succ]
      refine take_move 9 (.tmp 0) (.slice (some ⟨b, off, none⟩) n c) rfl rfl rfl (by kernel_rfl) (by kernel_rfl) (by kernel_rfl) (fun _ _ _ h => h) rfl hHeld ?_
      simp only [Act.put, List.setIfInBounds_toArray, List.set_cons_zero, List.set_cons_succ]
      refine take_move 10 (.tmp 0) (.slice (some ⟨b, off, none⟩) n c) rfl rfl rfl (by kernel_rfl) (by kernel_rfl) (by kernel_rfl) (fun _ _ _ h => h) rfl hHeld ?_
      simp only [Act.put, List.setIfInBounds_toArray, List.set_cons_zero, List.set_cons_succ]
      refine take_move 11 (.tmp 2) (.int .i64 j) rfl rfl rfl (by kernel_rfl) (by kernel_rfl) (by kernel_rfl) (fun _ _ _ h => h) rfl hHeld ?_
      simp only [Act.put, List.setIfInBounds_toArray, List.set_cons_zero, List.set_cons_succ]
      refine take_run 12 (.pointer (some ⟨b, off + j * 3, none⟩)) rfl (by kernel_rfl) (by kernel_rfl) (by kernel_rfl) (fun _ _ _ h => h) rfl hHeld (fun w => ?_) ?_
      · go_simp
      simp only [Act.put, List.setIfInBounds_toArray, List.set_cons_zero, List.set_cons_succ]
      refine take_run 13 (.pointer (some ⟨b, off + j * 3, none⟩)) rfl (by kernel_rfl) (by kernel_rfl) (by kernel_rfl) (fun _ _ _ h => h) rfl hHeld (fun w => ?_) ?_
      · go_simp
      simp only [Act.put, List.setIfInBounds_toArray, List.set_cons_zero, List.set_cons_succ]
      refine take_if 14 (.int .i64 x) rfl (by kernel_rfl) (by kernel_rfl) (by kernel_rfl) (fun _ _ _ h => h) rfl hHeld (fun w' hw' => ?_) ?_
      · obtain ⟨q0, q1⟩ := hw'
        go_simp
      simp only [Act.put, List.setIfInBounds_toArray, List.set_cons_zero, List.set_cons_succ]
      refine take_move 16 (.tmp 2) (.int .i64 j) rfl rfl rfl (by kernel_rfl) (by kernel_rfl) (by kernel_rfl) (fun _ _ _ h => h) rfl hHeld ?_
      simp only [Act.put, List.setIfInBounds_toArray, List.set_cons_zero, List.set_cons_succ]
      refine one_step 15 (by kernel_rfl) rfl (fun K hK => ?_)
      go_simp
      go_at_call 17
      refine (ufind_any (some ⟨b, off, none⟩) n c l x w4.drew (HL.out.below hV0)).mono ?_
      rintro e v1 ⟨he, hb1⟩
      rw [FS.out] at he
      subst he
      have hV1 : Below w.heap.size w v1 := hV0.trans (hb1.mono hV0.size)
      have V1 := V.out _ hV1
      refine hK.out _ _ V1 (fun hHeld0 => ?_)
      clear hK K hHeld hb1 V0
      have hHeld := hHeld0
      clear hHeld0
      try simp only [Act.put, List.setIfInBounds_toArray, List.set_cons_zero, List.set_cons_succ]
      refine take_run 17 (.bool false) rfl (by kernel_rfl) (by kernel_rfl) (by kernel_rfl) (fun _ _ _ h => h) rfl hHeld (fun w => ?_) ?_
      · go_simp
      simp only [Act.put, List.setIfInBounds_toArray, List.set_cons_zero, List.set_cons_succ]
      refine take_move 18 (.tmp 45) (.bool false) rfl rfl rfl (by kernel_rfl) (by kernel_rfl) (by kernel_rfl) (fun _ _ _ h => h) rfl hHeld ?_
      simp only [Act.put, List.setIfInBounds_toArray, List.set_cons_zero, List.set_cons_succ]
      refine take_move 19 (.tmp 0) (.slice (some ⟨b, off, none⟩) n c) rfl rfl rfl (by kernel_rfl) (by kernel_rfl) (by kernel_rfl) (fun _ _ _ h => h) rfl hHeld ?_
      simp only [Act.put, List.setIfInBounds_toArray, List.set_cons_zero, List.set_cons_succ]
      refine take_move 20 (.tmp 0) (.slice (some ⟨b, off, none⟩) n c) rfl rfl rfl (by kernel_rfl) (by kernel_rfl) (by kernel_rfl) (fun _ _ _ h => h) rfl hHeld ?_
      simp only [Act.put, List.setIfInBounds_toArray, List.set_cons_zero, List.set_cons_succ]
      refine take_move 21 (.tmp 2) (.int .i64 j) rfl rfl rfl (by kernel_rfl) (by kernel_rfl) (by kernel_rfl) (fun _ _ _ h => h) rfl hHeld ?_
      simp only [Act.put, List.setIfInBounds_toArray, List.set_cons_zero, List.set_cons_succ]
      refine take_run 22 (.pointer (some ⟨b, off + j * 3, none⟩)) rfl (by kernel_rfl) (by kernel_rfl) (by kernel_rfl) (fun _ _ _ h => h) rfl hHeld (fun w => ?_) ?_
      · go_simp
      simp only [Act.put, List.setIfInBounds_toArray, List.set_cons_zero, List.set_cons_succ]
      refine take_run 23 (.pointer (some ⟨b, off + j * 3, none⟩)) rfl (by kernel_rfl) (by kernel_rfl) (by kernel_rfl) (fun _ _ _ h => h) rfl hHeld (fun w => ?_) ?_
      · go_simp
      simp only [Act.put, List.setIfInBounds_toArray, List.set_cons_zero, List.set_cons_succ]
      refine take_if 24 (.int .i64 x) rfl (by kernel_rfl) (by kernel_rfl) (by kernel_rfl) (fun _ _ _ h => h) rfl hHeld (fun w' hw' => ?_) ?_
      · obtain ⟨q0, q1⟩ := hw'
        go_simp
      simp only [Act.put, List.setIfInBounds_toArray, List.set_cons_zero, List.set_cons_succ]
      refine take_move 26 (.tmp 0) (.slice (some ⟨b, off, none⟩) n c) rfl rfl rfl (by kernel_rfl) (by kernel_rfl) (by kernel_rfl) (fun _ _ _ h => h) rfl hHeld ?_
      simp only [Act.put, List.setIfInBounds_toArray, List.set_cons_zero, List.set_cons_succ]
      refine take_move 27 (.tmp 2) (.int .i64 j) rfl rfl rfl (by kernel_rfl) (by kernel_rfl) (by kernel_rfl) (fun _ _ _ h => h) rfl hHeld ?_
      simp only [Act.put, List.setIfInBounds_toArray, List.set_cons_zero, List.set_cons_succ]
      refine take_run 28 (.pointer (some ⟨b, off + j * 3, none⟩)) rfl (by kernel_rfl) (by kernel_rfl) (by kernel_rfl) (fun _ _ _ h => h) rfl hHeld (fun w => ?_) ?_
      · go_simp
      simp only [Act.put, List.setIfInBounds_toArray, List.set_cons_zero, List.set_cons_succ]
      refine take_run 29 (.pointer (some ⟨b, off + j * 3 + 1, none⟩)) rfl (by kernel_rfl) (by kernel_rfl) (by kernel_rfl) (fun _ _ _ h => h) rfl hHeld (fun w => ?_) ?_
      · go_simp
      simp only [Act.put, List.setIfInBounds_toArray, List.set_cons_zero, List.set_cons_succ]
      refine take_if 30 (.int .i64 ro) rfl (by kernel_rfl) (by kernel_rfl) (by kernel_rfl) (fun _ _ _ h => h) rfl hHeld (fun w' hw' => ?_) ?_
      · obtain ⟨q0, q1⟩ := hw'
        go_simp
      simp only [Act.put, List.setIfInBounds_toArray, List.set_cons_zero, List.set_cons_succ]
      refine one_step 25 (by kernel_rfl) rfl (fun K hK => ?_)
      go_simp
      go_at_call 19
      refine (urole_any (some ⟨b, off, none⟩) n c l x v1 (HL.out.below hV1)).mono ?_
      rintro e v2 ⟨he, hb2⟩
      rw [FSR.out] at he
      subst he
      have hV2 : Below w.heap.size w v2 := hV1.trans (hb2.mono hV1.size)
      have V2 := V.out _ hV2
      refine hK.out _ _ V2 (fun hHeld0 => ?_)
      clear hK K hHeld hb2 V1
      have hHeld := hHeld0
      clear hHeld0
      try simp only [Act.put, List.setIfInBounds_toArray, List.set_cons_zero, List.set_cons_succ]
      refine take_run 31 (.bool false) rfl (by kernel_rfl) (by kernel_rfl) (by kernel_rfl) (fun _ _ _ h => h) rfl hHeld (fun w => ?_) ?_
      · go_simp
      simp only [Act.put, List.setIfInBounds_toArray, List.set_cons_zero, List.set_cons_succ]
      refine take_run 32 (.bool false) rfl (by kernel_rfl) (by kernel_rfl) (by kernel_rfl) (fun _ _ _ h => h) rfl hHeld (fun w => ?_) ?_
      · go_simp
      simp only [Act.put, List.setIfInBounds_toArray, List.set_cons_zero, List.set_cons_succ]
      refine take_move 33 (.tmp 60) (.bool false) rfl rfl rfl (by kernel_rfl) (by kernel_rfl) (by kernel_rfl) (fun _ _ _ h => h) rfl hHeld ?_
      simp only [Act.put, List.setIfInBounds_toArray, List.set_cons_zero, List.set_cons_succ]
      refine take_move 34 (.tmp 0) (.slice (some ⟨b, off, none⟩) n c) rfl rfl rfl (by kernel_rfl) (by kernel_rfl) (by kernel_rfl) (fun _ _ _ h => h) rfl hHeld ?_
      simp only [Act.put, List.setIfInBounds_toArray, List.set_cons_zero, List.set_cons_succ]
      refine take_move 35 (.tmp 2) (.int .i64 j) rfl rfl rfl (by kernel_rfl) (by kernel_rfl) (by kernel_rfl) (fun _ _ _ h => h) rfl hHeld ?_
      simp only [Act.put, List.setIfInBounds_toArray, List.set_cons_zero, List.set_cons_succ]
      refine take_run 36 (.pointer (some ⟨b, off + j * 3, none⟩)) rfl (by kernel_rfl) (by kernel_rfl) (by kernel_rfl) (fun _ _ _ h => h) rfl hHeld (fun w => ?_) ?_
      · go_simp
      simp only [Act.put, List.setIfInBounds_toArray, List.set_cons_zero, List.set_cons_succ]
      refine take_run 37 (.pointer (some ⟨b, off + j * 3, none⟩)) rfl (by kernel_rfl) (by kernel_rfl) (by kernel_rfl) (fun _ _ _ h => h) rfl hHeld (fun w => ?_) ?_
      · go_simp
      simp only [Act.put, List.setIfInBounds_toArray, List.set_cons_zero, List.set_cons_succ]
      refine take_if 38 (.int .i64 x) rfl (by kernel_rfl) (by kernel_rfl) (by kernel_rfl) (fun _ _ _ h => h) rfl hHeld (fun w' hw' => ?_) ?_
      · obtain ⟨q0, q1⟩ := hw'
        go_simp
      simp only [Act.put, List.setIfInBounds_toArray, List.set_cons_zero, List.set_cons_succ]
      refine take_move 39 (.tmp 1) (.int .i64 no) rfl rfl rfl (by kernel_rfl) (by kernel_rfl) (by kernel_rfl) (fun _ _ _ h => h) rfl hHeld ?_
      simp only [Act.put, List.setIfInBounds_toArray, List.set_cons_zero, List.set_cons_succ]
      refine take_run 40 (.bool false) rfl (by kernel_rfl) (by kernel_rfl) (by kernel_rfl) (fun _ _ _ h => h) rfl hHeld (fun w => ?_) ?_
      · go_simp
      simp only [Act.put, List.setIfInBounds_toArray, List.set_cons_zero, List.set_cons_succ]
      refine take_move 41 (.tmp 68) (.bool false) rfl rfl rfl (by kernel_rfl) (by kernel_rfl) (by kernel_rfl) (fun _ _ _ h => h) rfl hHeld ?_
      simp only [Act.put, List.setIfInBounds_toArray, List.set_cons_zero, List.set_cons_succ]
      refine take_off 42 rfl (by kernel_rfl) (by kernel_rfl) (by kernel_rfl) (fun _ _ _ h => h) rfl hHeld ?_
      simp only [Act.put, List.setIfInBounds_toArray, List.set_cons_zero, List.set_cons_succ]
      refine take_off 43 rfl (by kernel_rfl) (by kernel_rfl) (by kernel_rfl) (fun _ _ _ h => h) rfl hHeld ?_
      simp only [Act.put, List.setIfInBounds_toArray, List.set_cons_zero, List.set_cons_succ]
      refine take_off 44 rfl (by kernel_rfl) (by kernel_rfl) (by kernel_rfl) (fun _ _ _ h => h) rfl hHeld ?_
      simp only [Act.put, List.setIfInBounds_toArray, List.set_cons_zero, List.set_cons_succ]
      refine take_run 45 (.bool false) rfl (by kernel_rfl) (by kernel_rfl) (by kernel_rfl) (fun _ _ _ h => h) rfl hHeld (fun w => ?_) ?_
      · go_simp
      simp only [Act.put, List.setIfInBounds_toArray, List.set_cons_zero, List.set_cons_succ]
      refine take_run 46 (.bool false) rfl (by kernel_rfl) (by kernel_rfl) (by kernel_rfl) (fun _ _ _ h => h) rfl hHeld (fun w => ?_) ?_
      · go_simp
      simp only [Act.put, List.setIfInBounds_toArray, List.set_cons_zero, List.set_cons_succ]
      refine take_run 47 (.bool false) rfl (by kernel_rfl) (by kernel_rfl) (by kernel_rfl) (fun _ _ _ h => h) rfl hHeld (fun w => ?_) ?_
      · go_simp
      simp only [Act.put, List.setIfInBounds_toArray, List.set_cons_zero, List.set_cons_succ]
      refine wpAnyH_done (by kernel_rfl) ?_ _
      have HBw8 := Lib.hid hV2
      go_wp2_with (first
          | (go_at_call 19
             (with_reducible refine (urole_any (some ⟨b, off, none⟩) n c l no v2 (HL.out.below HBw8.out)).mono ?_)
             rintro e w9 ⟨he, hbx⟩
             rw [FR.out] at he
             subst he
             have HBw9 := Lib.hid (HBw8.out.trans (hbx.mono HBw8.out.size))
             clear hbx))
      go_ret
      exact ⟨by simp, HBw9.out⟩
    · have hin' : ¬ i < n := hin
      have hi2 : decide (i < (n : Int)) = false := by rw [decide_eq_false_iff_not]; exact hin
      have hi3 : decide (0 ≤ i) = true := by rw [decide_eq_true_eq]; exact hi
      clear HKN HMAY HLA
      go_enter Tryd.func4, Tryd.ntmps4
      go_wp2_with (first
        | (go_at_call 9
           refine (uawake_any _ HK.out).mono ?_
           rintro e w1 ⟨rfl, hb1⟩
           have HBw1 := Lib.hid hb1
           clear hb1)
        | (go_at_call 10
           (with_reducible refine (few_any A n c l w1 (HL.out.below HBw1.out)).mono ?_)
           rintro e w2 ⟨he, rfl⟩
           rw [F1.out] at he
           subst he)
        | (go_at_call 15
           (with_reducible refine (umay_any A n c l _ (HL.out.below HBw1.out)).mono ?_)
           rintro e w3 ⟨he, hbx⟩
           rw [FM.out] at he
           subst he
           have HBw3 := Lib.hid (HBw1.out.trans (hbx.mono HBw1.out.size))
           clear hbx)
        | (go_at_call 17
           (with_reducible refine (ufind_any A n c l no w3 (HL.out.below HBw3.out)).mono ?_)
           rintro e w4 ⟨he, hbx⟩
           rw [FF.out] at he
           subst he
           have HBw4 := Lib.hid (HBw3.out.trans (hbx.mono HBw3.out.size))
           clear hbx))
      go_quiet (fail)
      have HBw8 := Lib.hid (below_drewN HBw4.out nq)
      go_wp2_with (first
          | (go_at_call 19
             (with_reducible refine (urole_any A n c l no (w4.drewN nq) (HL.out.below HBw8.out)).mono ?_)
             rintro e w9 ⟨he, hbx⟩
             rw [FR.out] at he
             subst he
             have HBw9 := Lib.hid (HBw8.out.trans (hbx.mono HBw8.out.size))
             clear hbx))
      go_ret
      exact ⟨by simp, HBw9.out⟩
  · have hi2 : decide (0 ≤ i) = false := by rw [decide_eq_false_iff_not]; exact hi
    clear HKN HMAY HLA
    go_enter Tryd.func4, Tryd.ntmps4
    go_wp2_with (first
      | (go_at_call 9
         refine (uawake_any _ HK.out).mono ?_
         rintro e w1 ⟨rfl, hb1⟩
         have HBw1 := Lib.hid hb1
         clear hb1)
      | (go_at_call 10
         (with_reducible refine (few_any A n c l w1 (HL.out.below HBw1.out)).mono ?_)
         rintro e w2 ⟨he, rfl⟩
         rw [F1.out] at he
         subst he)
      | (go_at_call 15
         (with_reducible refine (umay_any A n c l _ (HL.out.below HBw1.out)).mono ?_)
         rintro e w3 ⟨he, hbx⟩
         rw [FM.out] at he
         subst he
         have HBw3 := Lib.hid (HBw1.out.trans (hbx.mono HBw1.out.size))
         clear hbx)
      | (go_at_call 17
         (with_reducible refine (ufind_any A n c l no w3 (HL.out.below HBw3.out)).mono ?_)
         rintro e w4 ⟨he, hbx⟩
         rw [FF.out] at he
         subst he
         have HBw4 := Lib.hid (HBw3.out.trans (hbx.mono HBw3.out.size))
         clear hbx))
    go_quiet (fail)
    have HBw8 := Lib.hid (below_drewN HBw4.out nq)
    go_wp2_with (first
        | (go_at_call 19
           (with_reducible refine (urole_any A n c l no (w4.drewN nq) (HL.out.below HBw8.out)).mono ?_)
           rintro e w9 ⟨he, hbx⟩
           rw [FR.out] at he
           subst he
           have HBw9 := Lib.hid (HBw8.out.trans (hbx.mono HBw8.out.size))
           clear hbx))
    go_ret
    exact ⟨by simp, HBw9.out⟩
set_option maxRecDepth 100000 in
set_option maxHeartbeats 4000000 in
theorem ufindw_found (A : Option Addr) (n c : Nat) (l : List Us) (no i : Int) (w : World) (hK : KTab w) (hl : Uss w A n c l) (hf : fewU l = true) (hm : mayU l = true) (h : 0 ≤ findU l no) :
    Calls Tryd.prog 4 #[.slice A n c, .int .i64 no, .int .i64 i] w fun e w' => e = .returned (.bool true) ∧ Below w.heap.size w w' := by
  have HK := Lib.hid hK
  have HL := Lib.hid hl
  have hn := hl.small
  have HLL := Lib.hid hl.len
  have F1 := Lib.hid hf
  have FM := Lib.hid hm
  obtain ⟨r, hr⟩ : ∃ r, roleU l no = r := ⟨_, rfl⟩
  have FR := Lib.hid hr
  have HMAY := Lib.hid hm
  have HLA := Lib.hid hl
  obtain ⟨k, u, hk, hkl, hu, hno, hro, his⟩ := find_role hm h
  rw [hr] at hro
  subst hro
  rw [HLL.out] at hkl
  obtain ⟨b0, off0, u', hA0, -, -, hu', y0, -, -, -, -⟩ := hl.at_ k hkl
  obtain rfl : u' = u := by rw [hu] at hu'; exact (Option.some.inj hu').symm
  subst hA0
  rw [hno] at y0
  have FF := Lib.hid hk
  have FI := Lib.hid his
  have KEY := Lib.hid (show ∀ W, Below w.heap.size w W → W.cell? ⟨b0, off0 + k * 3, none⟩ = some (.int .i64 no) from fun W hW => (hW.cell (p := ⟨b0, off0 + k * 3, none⟩) (block_lt_of_cell y0)).trans y0)
  have p0 : 0 ≤ (k : Int) := by omega
  have p1 : (k : Int) < n := by omega
  have p2 : ((k : Int) == -1) = false := by rw [beq_eq_false_iff_ne]; omega
  have p3 : (no == no) = true := by simp
  obtain ⟨r, hr2⟩ : ∃ r, u'.role = r := ⟨_, rfl⟩
  rw [hr2] at FR FI
  have HKN := Lib.hid (show ∀ (j : Nat) (v : Us), l[j]? = some v → v.no = no → j = k from fun j v hv hvn => by
    have h1 := find_self hm hv
    rw [hvn, hk] at h1
    omega)
  clear hr hr2 hk hu hno his hl y0 h hm hf
  by_cases hi : 0 ≤ i
  · by_cases hin : i < n
    · obtain ⟨j, rfl⟩ := Int.eq_ofNat_of_zero_le hi
      have hi' : 0 ≤ (j : Int) := hi
      have hin' : (j : Int) < n := hin
      obtain ⟨b, off, v, hA1, -, -, hv, x0, x1, -, -, -⟩ := HLA.out.at_ j (by omega)
      injection hA1 with hA1; injection hA1 with e1 e2 _; subst e1 e2
      have V := Lib.hid (show ∀ W, Below w.heap.size w W → W.cell? ⟨b0, off0 + j * 3, none⟩ = some (.int .i64 v.no) ∧ W.cell? ⟨b0, off0 + j * 3 + 1, none⟩ = some (.int .i64 v.role) from fun W hW => ⟨(hW.cell (p := ⟨b0, off0 + j * 3, none⟩) (block_lt_of_cell x0)).trans x0, (hW.cell (p := ⟨b0, off0 + j * 3 + 1, none⟩) (block_lt_of_cell x1)).trans x1⟩)
      have FS := Lib.hid (find_self HMAY.out hv)
      have FSR := Lib.hid (role_at (find_self HMAY.out hv) hv)
      obtain ⟨x, hx⟩ : ∃ x, v.no = x := ⟨_, rfl⟩
      obtain ⟨ro, hro⟩ : ∃ x, v.role = x := ⟨_, rfl⟩
      have HXK := Lib.hid (HKN.out j v hv)
      rw [hx] at V FS FSR HXK
      rw [hro] at V FSR
      have d1 : ((j : Int) != (j : Int)) = false := by simp
      have d2 : (ro != ro) = false := by simp
      clear hx hro hv x0 x1 hi hin HKN HMAY HLA
      by_cases hxn : x = no
      · have d3 : (x == no) = true := by rw [beq_iff_eq]; exact hxn
        obtain rfl : j = k := HXK.out hxn
        clear hxn HXK
        go_enter Tryd.func4, Tryd.ntmps4
        go_wp2_with (first
          | (go_at_call 9
             refine (uawake_any _ HK.out).mono ?_
             rintro e w1 ⟨rfl, hb1⟩
             have HBw1 := Lib.hid hb1
             clear hb1)
          | (go_at_call 10
             (with_reducible refine (few_any (some ⟨b0, off0, none⟩) n c l w1 (HL.out.below HBw1.out)).mono ?_)
             rintro e w2 ⟨he, rfl⟩
             rw [F1.out] at he
             subst he)
          | (go_at_call 15
             (with_reducible refine (umay_any (some ⟨b0, off0, none⟩) n c l _ (HL.out.below HBw1.out)).mono ?_)
             rintro e w3 ⟨he, hbx⟩
             rw [FM.out] at he
             subst he
             have HBw3 := Lib.hid (HBw1.out.trans (hbx.mono HBw1.out.size))
             clear hbx)
          | (go_at_call 17
             (with_reducible refine (ufind_any (some ⟨b0, off0, none⟩) n c l no w3 (HL.out.below HBw3.out)).mono ?_)
             rintro e w4 ⟨he, hbx⟩
             rw [FF.out] at he
             subst he
             have HBw4 := Lib.hid (HBw3.out.trans (hbx.mono HBw3.out.size))
             clear hbx))
        have hV0 : Below w.heap.size w w4.drew := HBw4.out.drew
        have V0 := V.out _ hV0
        refine wp_region_held_drew (S := (fun w' => w'.cell? ⟨b0, off0 + j * 3, none⟩ = some (.int .i64 x) ∧ w'.cell? ⟨b0, off0 + j * 3 + 1, none⟩ = some (.int .i64 ro))) (by kernel_rfl) V0 (fun hHeld => ?_)
        refine take_move 0 (.tmp 2) (.int .i64 j) rfl rfl rfl (by kernel_rfl) (by kernel_rfl) (by kernel_rfl) (fun _ _ _ h => h) rfl hHeld ?_
        simp only [Act.put, List.setIfInBounds_toArray, List.set_cons_zero, List.set_cons_succ]
        refine take_run 1 (.bool true) rfl (by kernel_rfl) (by kernel_rfl) (by kernel_rfl) (fun _ _ _ h => h) rfl hHeld (fun w => ?_) ?_
        · go_simp
        simp only [Act.put, List.setIfInBounds_toArray, List.set_cons_zero, List.set_cons_succ]
        refine take_move 2 (.tmp 29) (.bool true) rfl rfl rfl (by kernel_rfl) (by kernel_rfl) (by kernel_rfl) (fun _ _ _ h => h) rfl hHeld ?_
        simp only [Act.put, List.setIfInBounds_toArray, List.set_cons_zero, List.set_cons_succ]
        refine take_move 3 (.tmp 2) (.int .i64 j) rfl rfl rfl (by kernel_rfl) (by kernel_rfl) (by kernel_rfl) (fun _ _ _ h => h) rfl hHeld ?_
        simp only [Act.put, List.setIfInBounds_toArray, List.set_cons_zero, List.set_cons_succ]
        refine take_move 4 (.tmp 0) (.slice (some ⟨b0, off0, none⟩) n c) rfl rfl rfl (by kernel_rfl) (by kernel_rfl) (by kernel_rfl) (fun _ _ _ h => h) rfl hHeld ?_
        simp only [Act.put, List.setIfInBounds_toArray, List.set_cons_zero, List.set_cons_succ]
        refine take_run 5 (.int .i64 n) rfl (by kernel_rfl) (by kernel_rfl) (by kernel_rfl) (fun _ _ _ h => h) rfl hHeld (fun w => ?_) ?_
        · go_simp
        simp only [Act.put, List.setIfInBounds_toArray, List.set_cons_zero, List.set_cons_succ]
        refine take_run 6 (.bool true) rfl (by kernel_rfl) (by kernel_rfl) (by kernel_rfl) (fun _ _ _ h => h) rfl hHeld (fun w => ?_) ?_
        · go_simp
        simp only [Act.put, List.setIfInBounds_toArray, List.set_cons_zero, List.set_cons_succ]
        refine take_run 7 (.bool true) rfl (by kernel_rfl) (by kernel_rfl) (by kernel_rfl) (fun _ _ _ h => h) rfl hHeld (fun w => ?_) ?_
        · go_simp
        simp only [Act.put, List.setIfInBounds_toArray, List.set_cons_zero, List.set_cons_succ]
        refine take_move 8 (.tmp 35) (.bool true) rfl rfl rfl (by kernel_rfl) (by kernel_rfl) (by kernel_rfl) (fun _ _ _ h => h) rfl hHeld ?_
        simp only [Act.put, List.setIfInBounds_toArray, List.set_cons_zero, List.set_cons_succ]
        refine take_move 9 (.tmp 0) (.slice (some ⟨b0, off0, none⟩) n c) rfl rfl rfl (by kernel_rfl) (by kernel_rfl) (by kernel_rfl) (fun _ _ _ h => h) rfl hHeld ?_
        simp only [Act.put, List.setIfInBounds_toArray, List.set_cons_zero, List.set_cons_succ]
        refine take_move 10 (.tmp 0) (.slice (some ⟨b0, off0, none⟩) n c) rfl rfl rfl (by kernel_rfl) (by kernel_rfl) (by kernel_rfl) (fun _ _ _ h => h) rfl hHeld ?_
        simp only [Act.put, List.setIfInBounds_toArray, List.set_cons_zero, List.set_cons_succ]
        refine take_move 11 (.tmp 2) (.int .i64 j) rfl rfl rfl (by kernel_rfl) (by kernel_rfl) (by kernel_rfl) (fun _ _ _ h => h) rfl hHeld ?_
        simp only [Act.put, List.setIfInBounds_toArray, List.set_cons_zero, List.set_cons_succ]
        refine take_run 12 (.pointer (some ⟨b0, off0 + j * 3, none⟩)) rfl (by kernel_rfl) (by kernel_rfl) (by kernel_rfl) (fun _ _ _ h => h) rfl hHeld (fun w => ?_) ?_
        · go_simp
        simp only [Act.put, List.setIfInBounds_toArray, List.set_cons_zero, List.set_cons_succ]
        refine take_run 13 (.pointer (some ⟨b0, off0 + j * 3, none⟩)) rfl (by kernel_rfl) (by kernel_rfl) (by kernel_rfl) (fun _ _ _ h => h) rfl hHeld (fun w => ?_) ?_
        · go_simp
        simp only [Act.put, List.setIfInBounds_toArray, List.set_cons_zero, List.set_cons_succ]
        refine take_if 14 (.int .i64 x) rfl (by kernel_rfl) (by kernel_rfl) (by kernel_rfl) (fun _ _ _ h => h) rfl hHeld (fun w' hw' => ?_) ?_
        · obtain ⟨q0, q1⟩ := hw'
          go_simp
        simp only [Act.put, List.setIfInBounds_toArray, List.set_cons_zero, List.set_cons_succ]
        refine take_move 16 (.tmp 2) (.int .i64 j) rfl rfl rfl (by kernel_rfl) (by kernel_rfl) (by kernel_rfl) (fun _ _ _ h => h) rfl hHeld ?_
        simp only [Act.put, List.setIfInBounds_toArray, List.set_cons_zero, List.set_cons_succ]
        refine one_step 15 (by kernel_rfl) rfl (fun K hK => ?_)
        go_simp
        go_at_call 17
        refine (ufind_any (some ⟨b0, off0, none⟩) n c l x w4.drew (HL.out.below hV0)).mono ?_
        rintro e v1 ⟨he, hb1⟩
        rw [FS.out] at he
        subst he
        have hV1 : Below w.heap.size w v1 := hV0.trans (hb1.mono hV0.size)
        have V1 := V.out _ hV1
        refine hK.out _ _ V1 (fun hHeld0 => ?_)
        clear hK K hHeld hb1 V0
        have hHeld := hHeld0
        clear hHeld0
        try simp only [Act.put, List.setIfInBounds_toArray, List.set_cons_zero, List.set_cons_succ]
        refine take_run 17 (.bool false) rfl (by kernel_rfl) (by kernel_rfl) (by kernel_rfl) (fun _ _ _ h => h) rfl hHeld (fun w => ?_) ?_
        · go_simp
        simp only [Act.put, List.setIfInBounds_toArray, List.set_cons_zero, List.set_cons_succ]
        refine take_move 18 (.tmp 45) (.bool false) rfl rfl rfl (by kernel_rfl) (by kernel_rfl) (by kernel_rfl) (fun _ _ _ h => h) rfl hHeld ?_
        simp only [Act.put, List.setIfInBounds_toArray, List.set_cons_zero, List.set_cons_succ]
        refine take_move 19 (.tmp 0) (.slice (some ⟨b0, off0, none⟩) n c) rfl rfl rfl (by kernel_rfl) (by kernel_rfl) (by kernel_rfl) (fun _ _ _ h => h) rfl hHeld ?_
        simp only [Act.put, List.setIfInBounds_toArray, List.set_cons_zero, List.set_cons_succ]
        refine take_move 20 (.tmp 0) (.slice (some ⟨b0, off0, none⟩) n c) rfl rfl rfl (by kernel_rfl) (by kernel_rfl) (by kernel_rfl) (fun _ _ _ h => h) rfl hHeld ?_
        simp only [Act.put, List.setIfInBounds_toArray, List.set_cons_zero, List.set_cons_succ]
        refine take_move 21 (.tmp 2) (.int .i64 j) rfl rfl rfl (by kernel_rfl) (by kernel_rfl) (by kernel_rfl) (fun _ _ _ h => h) rfl hHeld ?_
        simp only [Act.put, List.setIfInBounds_toArray, List.set_cons_zero, List.set_cons_succ]
        refine take_run 22 (.pointer (some ⟨b0, off0 + j * 3, none⟩)) rfl (by kernel_rfl) (by kernel_rfl) (by kernel_rfl) (fun _ _ _ h => h) rfl hHeld (fun w => ?_) ?_
        · go_simp
        simp only [Act.put, List.setIfInBounds_toArray, List.set_cons_zero, List.set_cons_succ]
        refine take_run 23 (.pointer (some ⟨b0, off0 + j * 3, none⟩)) rfl (by kernel_rfl) (by kernel_rfl) (by kernel_rfl) (fun _ _ _ h => h) rfl hHeld (fun w => ?_) ?_
        · go_simp
        simp only [Act.put, List.setIfInBounds_toArray, List.set_cons_zero, List.set_cons_succ]
        refine take_if 24 (.int .i64 x) rfl (by kernel_rfl) (by kernel_rfl) (by kernel_rfl) (fun _ _ _ h => h) rfl hHeld (fun w' hw' => ?_) ?_
        · obtain ⟨q0, q1⟩ := hw'
          go_simp
        simp only [Act.put, List.setIfInBounds_toArray, List.set_cons_zero, List.set_cons_succ]
        refine take_move 26 (.tmp 0) (.slice (some ⟨b0, off0, none⟩) n c) rfl rfl rfl (by kernel_rfl) (by kernel_rfl) (by kernel_rfl) (fun _ _ _ h => h) rfl hHeld ?_
        simp only [Act.put, List.setIfInBounds_toArray, List.set_cons_zero, List.set_cons_succ]
        refine take_move 27 (.tmp 2) (.int .i64 j) rfl rfl rfl (by kernel_rfl) (by kernel_rfl) (by kernel_rfl) (fun _ _ _ h => h) rfl hHeld ?_
        simp only [Act.put, List.setIfInBounds_toArray, List.set_cons_zero, List.set_cons_succ]
        refine take_run 28 (.pointer (some ⟨b0, off0 + j * 3, none⟩)) rfl (by kernel_rfl) (by kernel_rfl) (by kernel_rfl) (fun _ _ _ h => h) rfl hHeld (fun w => ?_) ?_
        · go_simp
        simp only [Act.put, List.setIfInBounds_toArray, List.set_cons_zero, List.set_cons_succ]
        refine take_run 29 (.pointer (some ⟨b0, off0 + j * 3 + 1, none⟩)) rfl (by kernel_rfl) (by kernel_rfl) (by kernel_rfl) (fun _ _ _ h => h) rfl hHeld (fun w => ?_) ?_
        · go_simp
        simp only [Act.put, List.setIfInBounds_toArray, List.set_cons_zero, List.set_cons_succ]
        refine take_if 30 (.int .i64 ro) rfl (by kernel_rfl) (by kernel_rfl) (by kernel_rfl) (fun _ _ _ h => h) rfl hHeld (fun w' hw' => ?_) ?_
        · obtain ⟨q0, q1⟩ := hw'
          go_simp
        simp only [Act.put, List.setIfInBounds_toArray, List.set_cons_zero, List.set_cons_succ]
        refine one_step 25 (by kernel_rfl) rfl (fun K hK => ?_)
        go_simp
        go_at_call 19
        refine (urole_any (some ⟨b0, off0, none⟩) n c l x v1 (HL.out.below hV1)).mono ?_
        rintro e v2 ⟨he, hb2⟩
        rw [FSR.out] at he
        subst he
        have hV2 : Below w.heap.size w v2 := hV1.trans (hb2.mono hV1.size)
        have V2 := V.out _ hV2
        refine hK.out _ _ V2 (fun hHeld0 => ?_)
        clear hK K hHeld hb2 V1
        have hHeld := hHeld0
        clear hHeld0
        try simp only [Act.put, List.setIfInBounds_toArray, List.set_cons_zero, List.set_cons_succ]
        refine take_run 31 (.bool false) rfl (by kernel_rfl) (by kernel_rfl) (by kernel_rfl) (fun _ _ _ h => h) rfl hHeld (fun w => ?_) ?_
        · go_simp
        simp only [Act.put, List.setIfInBounds_toArray, List.set_cons_zero, List.set_cons_succ]
        refine take_run 32 (.bool false) rfl (by kernel_rfl) (by kernel_rfl) (by kernel_rfl) (fun _ _ _ h => h) rfl hHeld (fun w => ?_) ?_
        · go_simp
        simp only [Act.put, List.setIfInBounds_toArray, List.set_cons_zero, List.set_cons_succ]
        refine take_move 33 (.tmp 60) (.bool false) rfl rfl rfl (by kernel_rfl) (by kernel_rfl) (by kernel_rfl) (fun _ _ _ h => h) rfl hHeld ?_
        simp only [Act.put, List.setIfInBounds_toArray, List.set_cons_zero, List.set_cons_succ]
        refine take_move 34 (.tmp 0) (.slice (some ⟨b0, off0, none⟩) n c) rfl rfl rfl (by kernel_rfl) (by kernel_rfl) (by kernel_rfl) (fun _ _ _ h => h) rfl hHeld ?_
        simp only [Act.put, List.setIfInBounds_toArray, List.set_cons_zero, List.set_cons_succ]
        refine take_move 35 (.tmp 2) (.int .i64 j) rfl rfl rfl (by kernel_rfl) (by kernel_rfl) (by kernel_rfl) (fun _ _ _ h => h) rfl hHeld ?_
        simp only [Act.put, List.setIfInBounds_toArray, List.set_cons_zero, List.set_cons_succ]
        refine take_run 36 (.pointer (some ⟨b0, off0 + j * 3, none⟩)) rfl (by kernel_rfl) (by kernel_rfl) (by kernel_rfl) (fun _ _ _ h => h) rfl hHeld (fun w => ?_) ?_
        · go_simp
        simp only [Act.put, List.setIfInBounds_toArray, List.set_cons_zero, List.set_cons_succ]
        refine take_run 37 (.pointer (some ⟨b0, off0 + j * 3, none⟩)) rfl (by kernel_rfl) (by kernel_rfl) (by kernel_rfl) (fun _ _ _ h => h) rfl hHeld (fun w => ?_) ?_
        · go_simp
        simp only [Act.put, List.setIfInBounds_toArray, List.set_cons_zero, List.set_cons_succ]
        refine take_if 38 (.int .i64 x) rfl (by kernel_rfl) (by kernel_rfl) (by kernel_rfl) (fun _ _ _ h => h) rfl hHeld (fun w' hw' => ?_) ?_
        · obtain ⟨q0, q1⟩ := hw'
          go_simp
        simp only [Act.put, List.setIfInBounds_toArray, List.set_cons_zero, List.set_cons_succ]
        refine take_move 39 (.tmp 1) (.int .i64 no) rfl rfl rfl (by kernel_rfl) (by kernel_rfl) (by kernel_rfl) (fun _ _ _ h => h) rfl hHeld ?_
        simp only [Act.put, List.setIfInBounds_toArray, List.set_cons_zero, List.set_cons_succ]
        refine take_run 40 (.bool true) rfl (by kernel_rfl) (by kernel_rfl) (by kernel_rfl) (fun _ _ _ h => h) rfl hHeld (fun w => ?_) ?_
        · go_simp
        simp only [Act.put, List.setIfInBounds_toArray, List.set_cons_zero, List.set_cons_succ]
        refine take_move 41 (.tmp 68) (.bool true) rfl rfl rfl (by kernel_rfl) (by kernel_rfl) (by kernel_rfl) (fun _ _ _ h => h) rfl hHeld ?_
        simp only [Act.put, List.setIfInBounds_toArray, List.set_cons_zero, List.set_cons_succ]
        refine take_move 42 (.tmp 9) (.int .i64 j) rfl rfl rfl (by kernel_rfl) (by kernel_rfl) (by kernel_rfl) (fun _ _ _ h => h) rfl hHeld ?_
        simp only [Act.put, List.setIfInBounds_toArray, List.set_cons_zero, List.set_cons_succ]
        refine take_move 43 (.tmp 2) (.int .i64 j) rfl rfl rfl (by kernel_rfl) (by kernel_rfl) (by kernel_rfl) (fun _ _ _ h => h) rfl hHeld ?_
        simp only [Act.put, List.setIfInBounds_toArray, List.set_cons_zero, List.set_cons_succ]
        refine take_run 44 (.bool false) rfl (by kernel_rfl) (by kernel_rfl) (by kernel_rfl) (fun _ _ _ h => h) rfl hHeld (fun w => ?_) ?_
        · go_simp
        simp only [Act.put, List.setIfInBounds_toArray, List.set_cons_zero, List.set_cons_succ]
        refine take_run 45 (.bool false) rfl (by kernel_rfl) (by kernel_rfl) (by kernel_rfl) (fun _ _ _ h => h) rfl hHeld (fun w => ?_) ?_
        · go_simp
        simp only [Act.put, List.setIfInBounds_toArray, List.set_cons_zero, List.set_cons_succ]
        refine take_run 46 (.bool false) rfl (by kernel_rfl) (by kernel_rfl) (by kernel_rfl) (fun _ _ _ h => h) rfl hHeld (fun w => ?_) ?_
        · go_simp
        simp only [Act.put, List.setIfInBounds_toArray, List.set_cons_zero, List.set_cons_succ]
        refine take_run 47 (.bool false) rfl (by kernel_rfl) (by kernel_rfl) (by kernel_rfl) (fun _ _ _ h => h) rfl hHeld (fun w => ?_) ?_
        · go_simp
        simp only [Act.put, List.setIfInBounds_toArray, List.set_cons_zero, List.set_cons_succ]
        refine wpAnyH_done (by kernel_rfl) ?_ _
        have HBw8 := Lib.hid hV2
        have yk := KEY.out _ HBw8.out
        go_wp2_with (first
            | (go_at_call 19
               (with_reducible refine (urole_any (some ⟨b0, off0, none⟩) n c l no v2 (HL.out.below HBw8.out)).mono ?_)
               rintro e w9 ⟨he, hbx⟩
               rw [FR.out] at he
               subst he
               have HBw9 := Lib.hid (HBw8.out.trans (hbx.mono HBw8.out.size))
               clear hbx)
            | (go_at_call 21
               (with_reducible refine (is_any _ _).mono ?_)
               rintro e w10 ⟨he, rfl⟩
               rw [FI.out] at he
               subst he))
        go_ret
        exact ⟨by simp, HBw9.out⟩
      · have d3 : (x == no) = false := by rw [beq_eq_false_iff_ne]; exact hxn
        clear hxn HXK
        go_enter Tryd.func4, Tryd.ntmps4
        go_wp2_with (first
          | (go_at_call 9
             refine (uawake_any _ HK.out).mono ?_
             rintro e w1 ⟨rfl, hb1⟩
             have HBw1 := Lib.hid hb1
             clear hb1)
          | (go_at_call 10
             (with_reducible refine (few_any (some ⟨b0, off0, none⟩) n c l w1 (HL.out.below HBw1.out)).mono ?_)
             rintro e w2 ⟨he, rfl⟩
             rw [F1.out] at he
             subst he)
          | (go_at_call 15
             (with_reducible refine (umay_any (some ⟨b0, off0, none⟩) n c l _ (HL.out.below HBw1.out)).mono ?_)
             rintro e w3 ⟨he, hbx⟩
             rw [FM.out] at he
             subst he
             have HBw3 := Lib.hid (HBw1.out.trans (hbx.mono HBw1.out.size))
             clear hbx)
          | (go_at_call 17
             (with_reducible refine (ufind_any (some ⟨b0, off0, none⟩) n c l no w3 (HL.out.below HBw3.out)).mono ?_)
             rintro e w4 ⟨he, hbx⟩
             rw [FF.out] at he
             subst he
             have HBw4 := Lib.hid (HBw3.out.trans (hbx.mono HBw3.out.size))
             clear hbx))
        have hV0 : Below w.heap.size w w4.drew := HBw4.out.drew
        have V0 := V.out _ hV0
        refine wp_region_held_drew (S := (fun w' => w'.cell? ⟨b0, off0 + j * 3, none⟩ = some (.int .i64 x) ∧ w'.cell? ⟨b0, off0 + j * 3 + 1, none⟩ = some (.int .i64 ro))) (by kernel_rfl) V0 (fun hHeld => ?_)
        refine take_move 0 (.tmp 2) (.int .i64 j) rfl rfl rfl (by kernel_rfl) (by kernel_rfl) (by kernel_rfl) (fun _ _ _ h => h) rfl hHeld ?_
        simp only [Act.put, List.setIfInBounds_toArray, List.set_cons_zero, List.set_cons_succ]
        refine take_run 1 (.bool true) rfl (by kernel_rfl) (by kernel_rfl) (by kernel_rfl) (fun _ _ _ h => h) rfl hHeld (fun w => ?_) ?_
        · go_simp
        simp only [Act.put, List.setIfInBounds_toArray, List.set_cons_zero, List.set_cons_succ]
        refine take_move 2 (.tmp 29) (.bool true) rfl rfl rfl (by kernel_rfl) (by kernel_rfl) (by kernel_rfl) (fun _ _ _ h => h) rfl hHeld ?_
        simp only [Act.put, List.setIfInBounds_toArray, List.set_cons_zero, List.set_cons_succ]
        refine take_move 3 (.tmp 2) (.int .i64 j) rfl rfl rfl (by kernel_rfl) (by kernel_rfl) (by kernel_rfl) (fun _ _ _ h => h) rfl hHeld ?_
        simp only [Act.put, List.setIfInBounds_toArray, List.set_cons_zero, List.set_cons_succ]
        refine take_move 4 (.tmp 0) (.slice (some ⟨b0, off0, none⟩) n c) rfl rfl rfl (by kernel_rfl) (by kernel_rfl) (by kernel_rfl) (fun _ _ _ h => h) rfl hHeld ?_
        simp only [Act.put, List.setIfInBounds_toArray, List.set_cons_zero, List.set_cons_succ]
        refine take_run 5 (.int .i64 n) rfl (by kernel_rfl) (by kernel_rfl) (by kernel_rfl) (fun _ _ _ h => h) rfl hHeld (fun w => ?_) ?_
        · go_simp
        simp only [Act.put, List.setIfInBounds_toArray, List.set_cons_zero, List.set_cons_succ]
        refine take_run 6 (.bool true) rfl (by kernel_rfl) (by kernel_rfl) (by kernel_rfl) (fun _ _ _ h => h) rfl hHeld (fun w => ?_) ?_
        · go_simp
        simp only [Act.put, List.setIfInBounds_toArray, List.set_cons_zero, List.set_cons_succ]
        refine take_run 7 (.bool true) rfl (by kernel_rfl) (by kernel_rfl) (by kernel_rfl) (fun _ _ _ h => h) rfl hHeld (fun w => ?_) ?_
        · go_simp
        simp only [Act.put, List.setIfInBounds_toArray, List.set_cons_zero, List.set_cons_succ]
        refine take_move 8 (.tmp 35) (.bool true) rfl rfl rfl (by kernel_rfl) (by kernel_rfl) (by kernel_rfl) (fun _ _ _ h => h) rfl hHeld ?_
        simp only [Act.put, List.setIfInBounds_toArray, List.set_cons_zero, List.set_cons_succ]
        refine take_move 9 (.tmp 0) (.slice (some ⟨b0, off0, none⟩) n c) rfl rfl rfl (by kernel_rfl) (by kernel_rfl) (by kernel_rfl) (fun _ _ _ h => h) rfl hHeld ?_
        simp only [Act.put, List.setIfInBounds_toArray, List.set_cons_zero, List.set_cons_succ]
        refine take_move 10 (.tmp 0) (.slice (some ⟨b0, off0, none⟩) n c) rfl rfl rfl (by kernel_rfl) (by kernel_rfl) (by kernel_rfl) (fun _ _ _ h => h) rfl hHeld ?_
        simp only [Act.put, List.setIfInBounds_toArray, List.set_cons_zero, List.set_cons_succ]
        refine take_move 11 (.tmp 2) (.int .i64 j) rfl rfl rfl (by kernel_rfl) (by kernel_rfl) (by kernel_rfl) (fun _ _ _ h => h) rfl hHeld ?_
        simp only [Act.put, List.setIfInBounds_toArray, List.set_cons_zero, List.set_cons_succ]
        refine take_run 12 (.pointer (some ⟨b0, off0 + j * 3, none⟩)) rfl (by kernel_rfl) (by kernel_rfl) (by kernel_rfl) (fun _ _ _ h => h) rfl hHeld (fun w => ?_) ?_
        · go_simp
        simp only [Act.put, List.setIfInBounds_toArray, List.set_cons_zero, List.set_cons_succ]
        refine take_run 13 (.pointer (some ⟨b0, off0 + j * 3, none⟩)) rfl (by kernel_rfl) (by kernel_rfl) (by kernel_rfl) (fun _ _ _ h => h) rfl hHeld (fun w => ?_) ?_
        · go_simp
        simp only [Act.put, List.setIfInBounds_toArray, List.set_cons_zero, List.set_cons_succ]
        refine take_if 14 (.int .i64 x) rfl (by kernel_rfl) (by kernel_rfl) (by kernel_rfl) (fun _ _ _ h => h) rfl hHeld (fun w' hw' => ?_) ?_
        · obtain ⟨q0, q1⟩ := hw'
          go_simp
        simp only [Act.put, List.setIfInBounds_toArray, List.set_cons_zero, List.set_cons_succ]
        refine take_move 16 (.tmp 2) (.int .i64 j) rfl rfl rfl (by kernel_rfl) (by kernel_rfl) (by kernel_rfl) (fun _ _ _ h => h) rfl hHeld ?_
        simp only [Act.put, List.setIfInBounds_toArray, List.set_cons_zero, List.set_cons_succ]
        refine one_step 15 (by kernel_rfl) rfl (fun K hK => ?_)
        go_simp
        go_at_call 17
        refine (ufind_any (some ⟨b0, off0, none⟩) n c l x w4.drew (HL.out.below hV0)).mono ?_
        rintro e v1 ⟨he, hb1⟩
        rw [FS.out] at he
        subst he
        have hV1 : Below w.heap.size w v1 := hV0.trans (hb1.mono hV0.size)
        have V1 := V.out _ hV1
        refine hK.out _ _ V1 (fun hHeld0 => ?_)
        clear hK K hHeld hb1 V0
        have hHeld := hHeld0
        clear hHeld0
        try simp only [Act.put, List.setIfInBounds_toArray, List.set_cons_zero, List.set_cons_succ]
        refine take_run 17 (.bool false) rfl (by kernel_rfl) (by kernel_rfl) (by kernel_rfl) (fun _ _ _ h => h) rfl hHeld (fun w => ?_) ?_
        · go_simp
        simp only [Act.put, List.setIfInBounds_toArray, List.set_cons_zero, List.set_cons_succ]
        refine take_move 18 (.tmp 45) (.bool false) rfl rfl rfl (by kernel_rfl) (by kernel_rfl) (by kernel_rfl) (fun _ _ _ h => h) rfl hHeld ?_
        simp only [Act.put, List.setIfInBounds_toArray, List.set_cons_zero, List.set_cons_succ]
        refine take_move 19 (.tmp 0) (.slice (some ⟨b0, off0, none⟩) n c) rfl rfl rfl (by kernel_rfl) (by kernel_rfl) (by kernel_rfl) (fun _ _ _ h => h) rfl hHeld ?_
        simp only [Act.put, List.setIfInBounds_toArray, List.set_cons_zero, List.set_cons_succ]
        refine take_move 20 (.tmp 0) (.slice (some ⟨b0, off0, none⟩) n c) rfl rfl rfl (by kernel_rfl) (by kernel_rfl) (by kernel_rfl) (fun _ _ _ h => h) rfl hHeld ?_
        simp only [Act.put, List.setIfInBounds_toArray, List.set_cons_zero, List.set_cons_succ]
        refine take_move 21 (.tmp 2) (.int .i64 j) rfl rfl rfl (by kernel_rfl) (by kernel_rfl) (by kernel_rfl) (fun _ _ _ h => h) rfl hHeld ?_
        simp only [Act.put, List.setIfInBounds_toArray, List.set_cons_zero, List.set_cons_succ]
        refine take_run 22 (.pointer (some ⟨b0, off0 + j * 3, none⟩)) rfl (by kernel_rfl) (by kernel_rfl) (by kernel_rfl) (fun _ _ _ h => h) rfl hHeld (fun w => ?_) ?_
        · go_simp
        simp only [Act.put, List.setIfInBounds_toArray, List.set_cons_zero, List.set_cons_succ]
        refine take_run 23 (.pointer (some ⟨b0, off0 + j * 3, none⟩)) rfl (by kernel_rfl) (by kernel_rfl) (by kernel_rfl) (fun _ _ _ h => h) rfl hHeld (fun w => ?_) ?_
        · go_simp
        simp only [Act.put, List.setIfInBounds_toArray, List.set_cons_zero, List.set_cons_succ]
        refine take_if 24 (.int .i64 x) rfl (by kernel_rfl) (by kernel_rfl) (by kernel_rfl) (fun _ _ _ h => h) rfl hHeld (fun w' hw' => ?_) ?_
        · obtain ⟨q0, q1⟩ := hw'
          go_simp
        simp only [Act.put, List.setIfInBounds_toArray, List.set_cons_zero, List.set_cons_succ]
        refine take_move 26 (.tmp 0) (.slice (some ⟨b0, off0, none⟩) n c) rfl rfl rfl (by kernel_rfl) (by kernel_rfl) (by kernel_rfl) (fun _ _ _ h => h) rfl hHeld ?_
        simp only [Act.put, List.setIfInBounds_toArray, List.set_cons_zero, List.set_cons_succ]
        refine take_move 27 (.tmp 2) (.int .i64 j) rfl rfl rfl (by kernel_rfl) (by kernel_rfl) (by kernel_rfl) (fun _ _ _ h => h) rfl hHeld ?_
        simp only [Act.put, List.setIfInBounds_toArray, List.set_cons_zero, List.set_cons_succ]
        refine take_run 28 (.pointer (some ⟨b0, off0 + j * 3, none⟩)) rfl (by kernel_rfl) (by kernel_rfl) (by kernel_rfl) (fun _ _ _ h => h) rfl hHeld (fun w => ?_) ?_
        · go_simp
        simp only [Act.put, List.setIfInBounds_toArray, List.set_cons_zero, List.set_cons_succ]
        refine take_run 29 (.pointer (some ⟨b0, off0 + j * 3 + 1, none⟩)) rfl (by kernel_rfl) (by kernel_rfl) (by kernel_rfl) (fun _ _ _ h => h) rfl hHeld (fun w => ?_) ?_
        · go_simp
        simp only [Act.put, List.setIfInBounds_toArray, List.set_cons_zero, List.set_cons_succ]
        refine take_if 30 (.int .i64 ro) rfl (by kernel_rfl) (by kernel_rfl) (by kernel_rfl) (fun _ _ _ h => h) rfl hHeld (fun w' hw' => ?_) ?_
        · obtain ⟨q0, q1⟩ := hw'
          go_simp
        simp only [Act.put, List.setIfInBounds_toArray, List.set_cons_zero, List.set_cons_succ]
        refine one_step 25 (by kernel_rfl) rfl (fun K hK => ?_)
        go_simp
        go_at_call 19
        refine (urole_any (some ⟨b0, off0, none⟩) n c l x v1 (HL.out.below hV1)).mono ?_
        rintro e v2 ⟨he, hb2⟩
        rw [FSR.out] at he
        subst he
        have hV2 : Below w.heap.size w v2 := hV1.trans (hb2.mono hV1.size)
        have V2 := V.out _ hV2
        refine hK.out _ _ V2 (fun hHeld0 => ?_)
        clear hK K hHeld hb2 V1
        have hHeld := hHeld0
        clear hHeld0
        try simp only [Act.put, List.setIfInBounds_toArray, List.set_cons_zero, List.set_cons_succ]
        refine take_run 31 (.bool false) rfl (by kernel_rfl) (by kernel_rfl) (by kernel_rfl) (fun _ _ _ h => h) rfl hHeld (fun w => ?_) ?_
        · go_simp
        simp only [Act.put, List.setIfInBounds_toArray, List.set_cons_zero, List.set_cons_succ]
        refine take_run 32 (.bool false) rfl (by kernel_rfl) (by kernel_rfl) (by kernel_rfl) (fun _ _ _ h => h) rfl hHeld (fun w => ?_) ?_
        · go_simp
        simp only [Act.put, List.setIfInBounds_toArray, List.set_cons_zero, List.set_cons_succ]
        refine take_move 33 (.tmp 60) (.bool false) rfl rfl rfl (by kernel_rfl) (by kernel_rfl) (by kernel_rfl) (fun _ _ _ h => h) rfl hHeld ?_
        simp only [Act.put, List.setIfInBounds_toArray, List.set_cons_zero, List.set_cons_succ]
        refine take_move 34 (.tmp 0) (.slice (some ⟨b0, off0, none⟩) n c) rfl rfl rfl (by kernel_rfl) (by kernel_rfl) (by kernel_rfl) (fun _ _ _ h => h) rfl hHeld ?_
        simp only [Act.put, List.setIfInBounds_toArray, List.set_cons_zero, List.set_cons_succ]
        refine take_move 35 (.tmp 2) (.int .i64 j) rfl rfl rfl (by kernel_rfl) (by kernel_rfl) (by kernel_rfl) (fun _ _ _ h => h) rfl hHeld ?_
        simp only [Act.put, List.setIfInBounds_toArray, List.set_cons_zero, List.set_cons_succ]
        refine take_run 36 (.pointer (some ⟨b0, off0 + j * 3, none⟩)) rfl (by kernel_rfl) (by kernel_rfl) (by kernel_rfl) (fun _ _ _ h => h) rfl hHeld (fun w => ?_) ?_
        · go_simp
        simp only [Act.put, List.setIfInBounds_toArray, List.set_cons_zero, List.set_cons_succ]
        refine take_run 37 (.pointer (some ⟨b0, off0 + j * 3, none⟩)) rfl (by kernel_rfl) (by kernel_rfl) (by kernel_rfl) (fun _ _ _ h => h) rfl hHeld (fun w => ?_) ?_
        · go_simp
        simp only [Act.put, List.setIfInBounds_toArray, List.set_cons_zero, List.set_cons_succ]
        refine take_if 38 (.int .i64 x) rfl (by kernel_rfl) (by kernel_rfl) (by kernel_rfl) (fun _ _ _ h => h) rfl hHeld (fun w' hw' => ?_) ?_
        · obtain ⟨q0, q1⟩ := hw'
          go_simp
        simp only [Act.put, List.setIfInBounds_toArray, List.set_cons_zero, List.set_cons_succ]
        refine take_move 39 (.tmp 1) (.int .i64 no) rfl rfl rfl (by kernel_rfl) (by kernel_rfl) (by kernel_rfl) (fun _ _ _ h => h) rfl hHeld ?_
        simp only [Act.put, List.setIfInBounds_toArray, List.set_cons_zero, List.set_cons_succ]
        refine take_run 40 (.bool false) rfl (by kernel_rfl) (by kernel_rfl) (by kernel_rfl) (fun _ _ _ h => h) rfl hHeld (fun w => ?_) ?_
        · go_simp
        simp only [Act.put, List.setIfInBounds_toArray, List.set_cons_zero, List.set_cons_succ]
        refine take_move 41 (.tmp 68) (.bool false) rfl rfl rfl (by kernel_rfl) (by kernel_rfl) (by kernel_rfl) (fun _ _ _ h => h) rfl hHeld ?_
        simp only [Act.put, List.setIfInBounds_toArray, List.set_cons_zero, List.set_cons_succ]
        refine take_off 42 rfl (by kernel_rfl) (by kernel_rfl) (by kernel_rfl) (fun _ _ _ h => h) rfl hHeld ?_
        simp only [Act.put, List.setIfInBounds_toArray, List.set_cons_zero, List.set_cons_succ]
        refine take_off 43 rfl (by kernel_rfl) (by kernel_rfl) (by kernel_rfl) (fun _ _ _ h => h) rfl hHeld ?_
        simp only [Act.put, List.setIfInBounds_toArray, List.set_cons_zero, List.set_cons_succ]
        refine take_off 44 rfl (by kernel_rfl) (by kernel_rfl) (by kernel_rfl) (fun _ _ _ h => h) rfl hHeld ?_
        simp only [Act.put, List.setIfInBounds_toArray, List.set_cons_zero, List.set_cons_succ]
        refine take_run 45 (.bool false) rfl (by kernel_rfl) (by kernel_rfl) (by kernel_rfl) (fun _ _ _ h => h) rfl hHeld (fun w => ?_) ?_
        · go_simp
        simp only [Act.put, List.setIfInBounds_toArray, List.set_cons_zero, List.set_cons_succ]
        refine take_run 46 (.bool false) rfl (by kernel_rfl) (by kernel_rfl) (by kernel_rfl) (fun _ _ _ h => h) rfl hHeld (fun w => ?_) ?_
        · go_simp
        simp only [Act.put, List.setIfInBounds_toArray, List.set_cons_zero, List.set_cons_succ]
        refine take_run 47 (.bool false) rfl (by kernel_rfl) (by kernel_rfl) (by kernel_rfl) (fun _ _ _ h => h) rfl hHeld (fun w => ?_) ?_
        · go_simp
        simp only [Act.put, List.setIfInBounds_toArray, List.set_cons_zero, List.set_cons_succ]
        refine wpAnyH_done (by kernel_rfl) ?_ _
        have HBw8 := Lib.hid hV2
        have yk := KEY.out _ HBw8.out
        go_wp2_with (first
            | (go_at_call 19
               (with_reducible refine (urole_any (some ⟨b0, off0, none⟩) n c l no v2 (HL.out.below HBw8.out)).mono ?_)
               rintro e w9 ⟨he, hbx⟩
               rw [FR.out] at he
               subst he
               have HBw9 := Lib.hid (HBw8.out.trans (hbx.mono HBw8.out.size))
               clear hbx)
            | (go_at_call 21
               (with_reducible refine (is_any _ _).mono ?_)
               rintro e w10 ⟨he, rfl⟩
               rw [FI.out] at he
               subst he))
        go_ret
        exact ⟨by simp, HBw9.out⟩
    · have hin' : ¬ i < n := hin
      have hi2 : decide (i < (n : Int)) = false := by rw [decide_eq_false_iff_not]; exact hin
      have hi3 : decide (0 ≤ i) = true := by rw [decide_eq_true_eq]; exact hi
      clear HKN HMAY HLA
      go_enter Tryd.func4, Tryd.ntmps4
      go_wp2_with (first
        | (go_at_call 9
           refine (uawake_any _ HK.out).mono ?_
           rintro e w1 ⟨rfl, hb1⟩
           have HBw1 := Lib.hid hb1
           clear hb1)
        | (go_at_call 10
           (with_reducible refine (few_any (some ⟨b0, off0, none⟩) n c l w1 (HL.out.below HBw1.out)).mono ?_)
           rintro e w2 ⟨he, rfl⟩
           rw [F1.out] at he
           subst he)
        | (go_at_call 15
           (with_reducible refine (umay_any (some ⟨b0, off0, none⟩) n c l _ (HL.out.below HBw1.out)).mono ?_)
           rintro e w3 ⟨he, hbx⟩
           rw [FM.out] at he
           subst he
           have HBw3 := Lib.hid (HBw1.out.trans (hbx.mono HBw1.out.size))
           clear hbx)
        | (go_at_call 17
           (with_reducible refine (ufind_any (some ⟨b0, off0, none⟩) n c l no w3 (HL.out.below HBw3.out)).mono ?_)
           rintro e w4 ⟨he, hbx⟩
           rw [FF.out] at he
           subst he
           have HBw4 := Lib.hid (HBw3.out.trans (hbx.mono HBw3.out.size))
           clear hbx))
      go_quiet (fail)
      have HBw8 := Lib.hid (below_drewN HBw4.out nq)
      have yk := KEY.out _ HBw8.out
      go_wp2_with (first
          | (go_at_call 19
             (with_reducible refine (urole_any (some ⟨b0, off0, none⟩) n c l no (w4.drewN nq) (HL.out.below HBw8.out)).mono ?_)
             rintro e w9 ⟨he, hbx⟩
             rw [FR.out] at he
             subst he
             have HBw9 := Lib.hid (HBw8.out.trans (hbx.mono HBw8.out.size))
             clear hbx)
          | (go_at_call 21
             (with_reducible refine (is_any _ _).mono ?_)
             rintro e w10 ⟨he, rfl⟩
             rw [FI.out] at he
             subst he))
      go_ret
      exact ⟨by simp, HBw9.out⟩
  · have hi2 : decide (0 ≤ i) = false := by rw [decide_eq_false_iff_not]; exact hi
    clear HKN HMAY HLA
    go_enter Tryd.func4, Tryd.ntmps4
    go_wp2_with (first
      | (go_at_call 9
         refine (uawake_any _ HK.out).mono ?_
         rintro e w1 ⟨rfl, hb1⟩
         have HBw1 := Lib.hid hb1
         clear hb1)
      | (go_at_call 10
         (with_reducible refine (few_any (some ⟨b0, off0, none⟩) n c l w1 (HL.out.below HBw1.out)).mono ?_)
         rintro e w2 ⟨he, rfl⟩
         rw [F1.out] at he
         subst he)
      | (go_at_call 15
         (with_reducible refine (umay_any (some ⟨b0, off0, none⟩) n c l _ (HL.out.below HBw1.out)).mono ?_)
         rintro e w3 ⟨he, hbx⟩
         rw [FM.out] at he
         subst he
         have HBw3 := Lib.hid (HBw1.out.trans (hbx.mono HBw1.out.size))
         clear hbx)
      | (go_at_call 17
         (with_reducible refine (ufind_any (some ⟨b0, off0, none⟩) n c l no w3 (HL.out.below HBw3.out)).mono ?_)
         rintro e w4 ⟨he, hbx⟩
         rw [FF.out] at he
         subst he
         have HBw4 := Lib.hid (HBw3.out.trans (hbx.mono HBw3.out.size))
         clear hbx))
    go_quiet (fail)
    have HBw8 := Lib.hid (below_drewN HBw4.out nq)
    have yk := KEY.out _ HBw8.out
    go_wp2_with (first
        | (go_at_call 19
           (with_reducible refine (urole_any (some ⟨b0, off0, none⟩) n c l no (w4.drewN nq) (HL.out.below HBw8.out)).mono ?_)
           rintro e w9 ⟨he, hbx⟩
           rw [FR.out] at he
           subst he
           have HBw9 := Lib.hid (HBw8.out.trans (hbx.mono HBw8.out.size))
           clear hbx)
        | (go_at_call 21
           (with_reducible refine (is_any _ _).mono ?_)
           rintro e w10 ⟨he, rfl⟩
           rw [FI.out] at he
           subst he))
    go_ret
    exact ⟨by simp, HBw9.out⟩
theorem ufindw_any (A : Option Addr) (n c : Nat) (l : List Us) (no i : Int) (w : World) (hK : KTab w) (hl : Uss w A n c l) :
    Calls Tryd.prog 4 #[.slice A n c, .int .i64 no, .int .i64 i] w fun e w' => e = .returned (.bool true) ∧ Below w.heap.size w w' := by
  cases h1 : fewU l with
  | false => exact ufindw_no A n c l no i w hK hl (.inl h1)
  | true =>
    cases h2 : mayU l with
    | false => exact ufindw_no A n c l no i w hK hl (.inr h2)
    | true =>
      rcases find_cases l no with h | h
      · exact ufindw_none A n c l no i w hK hl h1 h2 h
      · exact ufindw_found A n c l no i w hK hl h1 h2 h
end Go.Proofs.YtcfkpepohnjdfaaDoor
