/- The walk over the law UserFewer: of users that may be those without one may be, too; all others are found as they were, with their roles. -/
import Derived.Test.YtcfkpepohnjdfaaDoorUsrAwake
import Derived.Test.YtcfkpepohnjdfaaDoorUsrFew
import Derived.Test.YtcfkpepohnjdfaaDoorUsrRows
import Derived.Test.YtcfkpepohnjdfaaDoorBasTake
namespace Go.Proofs.YtcfkpepohnjdfaaDoor
set_option linter.unusedVariables false
set_option linter.unusedSimpArgs false
open Go.RowKit

theorem mayFrom_mono {l : List Us} {x y : Int} (h : x ≤ y) (hm : mayFrom y l = true) : mayFrom x l = true := by
  cases l with
  | nil => rfl
  | cons u l =>
    rw [mayFrom, Bool.and_eq_true] at hm ⊢
    have h1 := good_iff.1 hm.1
    exact ⟨good_iff.2 ⟨by omega, h1.2⟩, hm.2⟩
theorem split_at {l : List Us} {j : Nat} {u : Us} (h : l[j]? = some u) : l = l.take j ++ u :: l.drop (j + 1) := by
  obtain ⟨hj, rfl⟩ := List.getElem?_eq_some_iff.1 h
  rw [← List.drop_eq_getElem_cons hj, List.take_append_drop]
/-- those without one -/
theorem may_without {l : List Us} {j : Nat} {u : Us} (hm : mayU l = true) (h : l[j]? = some u) : mayU (l.take j ++ l.drop (j + 1)) = true := by
  rw [mayU, Bool.and_eq_true, decide_eq_true_eq] at hm ⊢
  refine ⟨by rw [List.length_append, List.length_take, List.length_drop]; omega, ?_⟩
  have h2 := hm.2
  rw [split_at h, mayFrom_app, Bool.and_eq_true, mayFrom, Bool.and_eq_true] at h2
  rw [mayFrom_app, Bool.and_eq_true]
  refine ⟨h2.1, mayFrom_mono ?_ h2.2.2⟩
  have := (good_iff.1 h2.2.1).1
  omega
theorem role_mem {l : List Us} (hm : mayU l = true) {u : Us} (hu : u ∈ l) : roleU l u.no = u.role := by
  obtain ⟨j, hj, rfl⟩ := List.getElem_of_mem hu
  have h : l[j]? = some l[j] := List.getElem?_eq_getElem hj
  have hm2 := hm
  rw [mayU, Bool.and_eq_true] at hm2
  exact role_at (find_hit hm h rfl fun k v h1 h2 => may_rise hm2.2 k j v _ h1 h2 h) h
theorem role_none {l : List Us} {no : Int} (h : ∀ u ∈ l, u.no ≠ no) : roleU l no = -1 := by
  have : findU l no = -1 := find_none fun k v hv => h v (List.mem_of_getElem? hv)
  exact role_no (by omega)
theorem out_of {l : List Us} (hm : mayU l = true) {j : Nat} {u : Us} (h : l[j]? = some u) : ∀ v ∈ l.take j ++ l.drop (j + 1), v.no ≠ u.no := by
  rw [mayU, Bool.and_eq_true] at hm
  intro v hv
  rcases List.mem_append.1 hv with h1 | h1
  · obtain ⟨k, hk, rfl⟩ := List.getElem_of_mem h1
    have hkj : k < j := by rw [List.length_take] at hk; omega
    have hl : l[k]? = some (l.take j)[k] := by rw [← List.getElem?_eq_getElem hk, List.getElem?_take, if_pos hkj]
    have := may_rise hm.2 k j _ u hkj hl h
    omega
  · obtain ⟨k, hk, rfl⟩ := List.getElem_of_mem h1
    have hl : l[j + 1 + k]? = some (l.drop (j + 1))[k] := by rw [← List.getElem?_eq_getElem hk, List.getElem?_drop]
    have := may_rise hm.2 j (j + 1 + k) u _ (by omega) h hl
    omega
theorem find_without {l : List Us} (hm : mayU l = true) {j : Nat} {u : Us} (h : l[j]? = some u) : findU (l.take j ++ l.drop (j + 1)) u.no = -1 :=
  find_none fun k v hv => out_of hm h v (List.mem_of_getElem? hv)
theorem role_without {l : List Us} (hm : mayU l = true) {j : Nat} {u : Us} (h : l[j]? = some u) {no : Int} (hn : no ≠ u.no) : roleU (l.take j ++ l.drop (j + 1)) no = roleU l no := by
  have hw := may_without hm h
  by_cases hx : ∃ v ∈ l, v.no = no
  · obtain ⟨v, hv, rfl⟩ := hx
    rw [role_mem hm hv]
    refine role_mem hw ?_
    rw [split_at h] at hv
    rcases List.mem_append.1 hv with h1 | h1
    · exact List.mem_append.2 (.inl h1)
    · rcases List.mem_cons.1 h1 with rfl | h1
      · exact absurd rfl hn
      · exact List.mem_append.2 (.inr h1)
  · have hx2 : ∀ v ∈ l, v.no ≠ no := fun v hv e => hx ⟨v, hv, e⟩
    rw [role_none hx2]
    refine role_none fun v hv => ?_
    rcases List.mem_append.1 hv with h1 | h1
    · exact hx2 v (List.mem_of_mem_take h1)
    · exact hx2 v (List.mem_of_mem_drop h1)
set_option maxHeartbeats 1000000 in
theorem ufewerw_no (A : Option Addr) (n c : Nat) (l : List Us) (i no : Int) (w : World) (hK : KTab w) (hl : Uss w A n c l) (h : fewU l = false ∨ mayU l = false ∨ i < 0 ∨ n ≤ i) :
    Calls Tryd.prog 5 #[.slice A n c, .int .i64 i, .int .i64 no] w fun e w' => e = .returned (.bool true) ∧ Below w.heap.size w w' := by
  have HK := Lib.hid hK
  have HL := Lib.hid hl
  have hn := hl.small
  obtain ⟨b1, hb1⟩ : ∃ b, fewU l = b := ⟨_, rfl⟩
  obtain ⟨b2, hb2⟩ : ∃ b, mayU l = b := ⟨_, rfl⟩
  rw [hb1, hb2] at h
  have F1 := Lib.hid hb1
  have FM := Lib.hid hb2
  clear hb1 hb2 hK hl
  cases b1
  case' true =>
    cases b2
    case' true =>
      by_cases h3 : i < 0
      case' neg =>
        have h4 : n ≤ i := (by rcases h with h | h | h | h; (cases h); (cases h); omega; exact h)
        have h5 : 0 ≤ i := by omega
  all_goals
    clear h
    go_enter Tryd.func5, Tryd.ntmps5
    go_wp2_with (first
    | (go_at_call 9
       refine (uawake_any _ HK.out).mono ?_
       rintro e w1 ⟨rfl, hb1⟩
       have HBw1 := Lib.hid hb1
       clear hb1)
    | (go_at_call 10
       (with_reducible refine (few_any A n c l w1 (HL.out.below HBw1.out)).mono ?_)
       rintro e w2 ⟨he, rfl⟩
       rw [F1.out] at he
       subst he)
    | (go_at_call 15
       (with_reducible refine (umay_any A n c l _ (HL.out.below HBw1.out)).mono ?_)
       rintro e w3 ⟨he, hbx⟩
       rw [FM.out] at he
       subst he
       have HBw3 := Lib.hid (HBw1.out.trans (hbx.mono HBw1.out.size))
       clear hbx))
    go_ret
    first
      | exact ⟨rfl, HBw3.out⟩
      | exact ⟨rfl, HBw1.out⟩
set_option maxRecDepth 100000 in
set_option maxHeartbeats 4000000 in
theorem ufewerw_yes (b off : Nat) (n c : Nat) (l : List Us) (j : Nat) (no : Int) (w : World) (hK : KTab w) (hl : Uss w (some ⟨b, off, none⟩) n c l) (hf : fewU l = true) (hm : mayU l = true) (hj : j < n) :
    Calls Tryd.prog 5 #[.slice (some ⟨b, off, none⟩) n c, .int .i64 j, .int .i64 no] w fun e w' => e = .returned (.bool true) ∧ Below w.heap.size w w' := by
  have h8 : n ≤ 8 := by
    rw [mayU, Bool.and_eq_true, decide_eq_true_eq, hl.len] at hm
    exact hm.1
  have hn := hl.small
  obtain ⟨b', off', u, hA, -, -, hu, y0, -, -, -, -⟩ := hl.at_ j hj
  injection hA with hA
  injection hA with e1 e2 _
  subst e1 e2
  have p0 : 0 ≤ (j : Int) := by omega
  have p1 : (j : Int) < n := by omega
  have p2 : (j : Int) + 1 ≤ n := by omega
  have hwr : IntKind.i64.wrap ((j : Int) + 1) = (j : Int) + 1 := by rw [IntKind.wrap_i64]; omega
  have HK := Lib.hid hK
  have HL := Lib.hid hl
  have F1 := Lib.hid hf
  have FM := Lib.hid hm
  have MR := Lib.hid (may_without hm hu)
  have FR := Lib.hid (find_without hm hu)
  have hrw : no ≠ u.no → roleU (l.take j ++ l.drop (j + 1)) no = roleU l no := fun h => role_without hm hu h
  have hll : l.length = n := hl.len
  obtain ⟨x, hx⟩ : ∃ x, u.no = x := ⟨_, rfl⟩
  rw [hx] at y0 FR hrw
  obtain ⟨r, hr⟩ : ∃ r, roleU l no = r := ⟨_, rfl⟩
  rw [hr] at hrw
  have RL := Lib.hid hr
  have KEY := Lib.hid (show ∀ W, Below w.heap.size w W → W.cell? ⟨b, off + j * 3, none⟩ = some (.int .i64 x) from fun W hW => (hW.cell (p := ⟨b, off + j * 3, none⟩) (block_lt_of_cell y0)).trans y0)
  have HRW := Lib.hid hrw
  clear hK hl hf hm hu hx hr y0 hrw
  go_enter Tryd.func5, Tryd.ntmps5
  go_wp2_with (first
  | (go_at_call 9
     refine (uawake_any _ HK.out).mono ?_
     rintro e w1 ⟨rfl, hb1⟩
     have HBw1 := Lib.hid hb1
     clear hb1)
  | (go_at_call 10
     (with_reducible refine (few_any (some ⟨b, off, none⟩) n c l w1 (HL.out.below HBw1.out)).mono ?_)
     rintro e w2 ⟨he, rfl⟩
     rw [F1.out] at he
     subst he)
  | (go_at_call 15
     (with_reducible refine (umay_any (some ⟨b, off, none⟩) n c l _ (HL.out.below HBw1.out)).mono ?_)
     rintro e w3 ⟨he, hbx⟩
     rw [FM.out] at he
     subst he
     have HBw3 := Lib.hid (HBw1.out.trans (hbx.mono HBw1.out.size))
     clear hbx))
  obtain ⟨hs1, hu1⟩ := (HL.out).upto j (j : Int) rfl (by omega)
  obtain ⟨A2, m2, c2, hs2, hu2⟩ := (HL.out).from_ (j + 1) ((j : Int) + 1) (by omega) (by omega)
  have hB3 := HBw3.out
  have HU1 := Lib.hid hu1
  have HU2 := Lib.hid hu2
  have hl1 : (l.take j).length ≤ 8 := by rw [List.length_take]; omega
  have hm2 : m2 ≤ 8 := by rw [← hu2.len, List.length_drop]; omega
  clear hu1 hu2
  obtain ⟨Y0, hY0⟩ : ∃ Y, w3.drew = Y := ⟨_, rfl⟩
  have hBd : Below w.heap.size w Y0 := by rw [← hY0]; exact hB3.drew
  refine wp_region_held_drew (S := fun _ => True) (by kernel_rfl) (by trivial) (fun hHeld => ?_)
  rw [hY0]
  clear hY0
  refine take_move 0 (.tmp 0) (.slice (some ⟨b, off, none⟩) n c) rfl rfl rfl (by kernel_rfl) (by kernel_rfl) (by kernel_rfl) (fun _ _ _ h => h) rfl hHeld ?_
  simp only [Act.put, List.setIfInBounds_toArray, List.set_cons_zero, List.set_cons_succ]
  refine take_move 1 (.tmp 1) (.int .i64 j) rfl rfl rfl (by kernel_rfl) (by kernel_rfl) (by kernel_rfl) (fun _ _ _ h => h) rfl hHeld ?_
  simp only [Act.put, List.setIfInBounds_toArray, List.set_cons_zero, List.set_cons_succ]
  refine take_run 2 (.slice (some ⟨b, off, none⟩) j c) rfl (by kernel_rfl) (by kernel_rfl) (by kernel_rfl) (fun _ _ _ h => h) rfl hHeld (fun w => ?_) ?_
  · have hq := hs1 w; go_simp
  simp only [Act.put, List.setIfInBounds_toArray, List.set_cons_zero, List.set_cons_succ]
  refine take_move 4 (.tmp 0) (.slice (some ⟨b, off, none⟩) n c) rfl rfl rfl (by kernel_rfl) (by kernel_rfl) (by kernel_rfl) (fun _ _ _ h => h) rfl hHeld ?_
  simp only [Act.put, List.setIfInBounds_toArray, List.set_cons_zero, List.set_cons_succ]
  refine take_move 5 (.tmp 1) (.int .i64 j) rfl rfl rfl (by kernel_rfl) (by kernel_rfl) (by kernel_rfl) (fun _ _ _ h => h) rfl hHeld ?_
  simp only [Act.put, List.setIfInBounds_toArray, List.set_cons_zero, List.set_cons_succ]
  refine take_run 6 (.int .i64 ((j : Int) + 1)) rfl (by kernel_rfl) (by kernel_rfl) (by kernel_rfl) (fun _ _ _ h => h) rfl hHeld (fun w => ?_) ?_
  · go_simp
  simp only [Act.put, List.setIfInBounds_toArray, List.set_cons_zero, List.set_cons_succ]
  refine take_run 7 (.slice A2 m2 c2) rfl (by kernel_rfl) (by kernel_rfl) (by kernel_rfl) (fun _ _ _ h => h) rfl hHeld (fun w => ?_) ?_
  · have hq := hs2 w; go_simp
  simp only [Act.put, List.setIfInBounds_toArray, List.set_cons_zero, List.set_cons_succ]
  refine one_step 3 (by kernel_rfl) rfl (fun Kq hKq => ?_)
  refine step_append_r 22 25 3 40 _ _ rfl Tryd.underlying22 info_user (by omega) w.heap.size (.slice none 0 0) [] rfl (OwnR.nil _ _ _ _) (some ⟨b, off, none⟩) j c ((l.take j).map Us.row) rfl (HU1.out.below hBd).rws (by simp; omega) (by simp; omega) hBd.size rfl ?_
  intro v1 y1 hownv1 hgv1
  have hBy1 : Below w.heap.size w y1 := hBd.grown hgv1 hBd.size (fun g hg => by simp [Value.ownBlock] at hg)
  refine hKq.out _ _ trivial (fun hHeld0 => ?_)
  clear hKq Kq hHeld hgv1
  have hHeld := hHeld0
  clear hHeld0
  try simp only [Act.put, List.setIfInBounds_toArray, List.set_cons_zero, List.set_cons_succ]
  refine one_step 8 (by kernel_rfl) rfl (fun Kq hKq => ?_)
  refine step_append_r 22 25 3 40 _ _ rfl Tryd.underlying22 info_user (by omega) w.heap.size v1 ([] ++ (l.take j).map Us.row) rfl hownv1 A2 m2 c2 ((l.drop (j + 1)).map Us.row) rfl (HU2.out.below hBy1).rws (by simp; omega) (by simp; omega) hBy1.size rfl ?_
  intro v2 wM hownv2 hgv2
  have hBM : Below w.heap.size w wM := hBy1.grown hgv2 hBy1.size (fun g hg => (hownv1.size g hg).1)
  rw [List.nil_append, ← map_app] at hownv2
  obtain ⟨A5, n5, c5, rfl, hus⟩ := own_uss hownv2 (fun x hx => by
    rcases List.mem_append.1 hx with h | h
    · exact (HL.out.key x (List.mem_of_mem_take h)).below hBM
    · exact (HL.out.key x (List.mem_of_mem_drop h)).below hBM)
  have HUS := Lib.hid hus
  refine hKq.out _ _ trivial (fun hHeld0 => ?_)
  clear hKq Kq hHeld hownv1 hownv2 hgv2 hus
  have hHeld := hHeld0
  clear hHeld0
  try simp only [Act.put, List.setIfInBounds_toArray, List.set_cons_zero, List.set_cons_succ]
  refine take_run 9 (.slice A5 n5 c5) rfl (by kernel_rfl) (by kernel_rfl) (by kernel_rfl) (fun _ _ _ h => h) rfl hHeld (fun w => ?_) ?_
  · go_simp
  simp only [Act.put, List.setIfInBounds_toArray, List.set_cons_zero, List.set_cons_succ]
  refine wpAnyH_done (by kernel_rfl) ?_ _
  clear hHeld
  have z0 := KEY.out _ hBM
  by_cases hxn : no = x
  · have e0 : (no == x) = true := by rw [beq_iff_eq]; exact hxn
    clear hxn HRW
    go_wp2_with (first
        | (go_at_call 15
           (with_reducible refine (umay_any A5 n5 c5 (l.take j ++ l.drop (j + 1)) wM HUS.out).mono ?_)
           rintro e w5 ⟨he, hbx⟩
           rw [MR.out] at he
           subst he
           have HUS5 := Lib.hid (HUS.out.below hbx)
           have HBw5 := Lib.hid (hBM.trans (hbx.mono hBM.size))
           have z5 := KEY.out _ HBw5.out
           clear hbx)
        | (go_at_call 17
           (with_reducible refine (ufind_any A5 n5 c5 (l.take j ++ l.drop (j + 1)) x w5 HUS5.out).mono ?_)
           rintro e w6 ⟨he, hbx⟩
           rw [FR.out] at he
           subst he
           have HUS6 := Lib.hid (HUS5.out.below hbx)
           have HBw6 := Lib.hid (HBw5.out.trans (hbx.mono HBw5.out.size))
           have z6 := KEY.out _ HBw6.out
           clear hbx))
    go_ret
    exact ⟨by simp, HBw6.out⟩
  · have e0 : (no == x) = false := by rw [beq_eq_false_iff_ne]; exact hxn
    have RR := Lib.hid (HRW.out hxn)
    clear hxn HRW
    go_wp2_with (first
        | (go_at_call 15
           (with_reducible refine (umay_any A5 n5 c5 (l.take j ++ l.drop (j + 1)) wM HUS.out).mono ?_)
           rintro e w5 ⟨he, hbx⟩
           rw [MR.out] at he
           subst he
           have HUS5 := Lib.hid (HUS.out.below hbx)
           have HBw5 := Lib.hid (hBM.trans (hbx.mono hBM.size))
           have z5 := KEY.out _ HBw5.out
           clear hbx)
        | (go_at_call 17
           (with_reducible refine (ufind_any A5 n5 c5 (l.take j ++ l.drop (j + 1)) x w5 HUS5.out).mono ?_)
           rintro e w6 ⟨he, hbx⟩
           rw [FR.out] at he
           subst he
           have HUS6 := Lib.hid (HUS5.out.below hbx)
           have HBw6 := Lib.hid (HBw5.out.trans (hbx.mono HBw5.out.size))
           have z6 := KEY.out _ HBw6.out
           clear hbx)
        | (go_at_call 19
           (with_reducible refine (urole_any A5 n5 c5 (l.take j ++ l.drop (j + 1)) no w6 HUS6.out).mono ?_)
           rintro e w7 ⟨he, hbx⟩
           rw [RR.out] at he
           subst he
           have HBw7 := Lib.hid (HBw6.out.trans (hbx.mono HBw6.out.size))
           clear hbx)
        | (go_at_call 19
           (with_reducible refine (urole_any (some ⟨b, off, none⟩) n c l no w7 (HL.out.below HBw7.out)).mono ?_)
           rintro e w8 ⟨he, hbx⟩
           rw [RL.out] at he
           subst he
           have HBw8 := Lib.hid (HBw7.out.trans (hbx.mono HBw7.out.size))
           clear hbx))
    go_ret
    exact ⟨by simp, HBw8.out⟩
theorem ufewerw_any (A : Option Addr) (n c : Nat) (l : List Us) (i no : Int) (w : World) (hK : KTab w) (hl : Uss w A n c l) :
    Calls Tryd.prog 5 #[.slice A n c, .int .i64 i, .int .i64 no] w fun e w' => e = .returned (.bool true) ∧ Below w.heap.size w w' := by
  cases h1 : fewU l with
  | false => exact ufewerw_no A n c l i no w hK hl (.inl h1)
  | true =>
    cases h2 : mayU l with
    | false => exact ufewerw_no A n c l i no w hK hl (.inr (.inl h2))
    | true =>
      by_cases h3 : i < 0
      · exact ufewerw_no A n c l i no w hK hl (.inr (.inr (.inl h3)))
      · by_cases h4 : n ≤ i
        · exact ufewerw_no A n c l i no w hK hl (.inr (.inr (.inr h4)))
        · obtain ⟨j, rfl⟩ := Int.eq_ofNat_of_zero_le (by omega : 0 ≤ i)
          obtain ⟨b, off, u, rfl, -⟩ := hl.at_ j (by omega)
          exact ufewerw_yes b off n c l j no w hK hl h1 h2 (by omega)
end Go.Proofs.YtcfkpepohnjdfaaDoor
