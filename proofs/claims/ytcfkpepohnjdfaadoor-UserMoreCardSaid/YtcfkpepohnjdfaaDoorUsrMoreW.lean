/- The walk over the law UserMore: one user more, behind all, may be just if there are fewer than 8, its number is greater, and it may be alone. -/
import Derived.Test.YtcfkpepohnjdfaaDoorUsrSecretW
import Derived.Test.YtcfkpepohnjdfaaDoorUsrFew
import Derived.Test.YtcfkpepohnjdfaaDoorUsrRows
import Derived.Test.YtcfkpepohnjdfaaDoorBasTake
namespace Go.Proofs.YtcfkpepohnjdfaaDoor
set_option linter.unusedVariables false
set_option linter.unusedSimpArgs false
open Go.RowKit

theorem may_app {l : List Us} (hm : mayU l = true) (u : Us) : mayU (l ++ [u]) = (decide (l.length < 8) && goodU (lastFrom 0 l) u) := by
  rw [mayU, Bool.and_eq_true] at hm
  rw [mayU, mayFrom_app, hm.2, Bool.true_and]
  have e : decide ((l ++ [u]).length ≤ 8) = decide (l.length < 8) := by
    rw [List.length_append, List.length_singleton, Bool.eq_iff_iff, decide_eq_true_eq, decide_eq_true_eq]
    omega
  rw [e]
  simp [mayFrom]
theorem may_alone (u : Us) : mayU [u] = goodU 0 u := by simp [mayU, mayFrom]
theorem last_at {l : List Us} {k : Nat} {u : Us} (h : l[k]? = some u) (hl : l.length = k + 1) : lastFrom 0 l = u.no := by
  have := lastFrom_more h 0
  rw [List.take_of_length_le (by omega)] at this
  exact this
theorem app_few {l : List Us} (hm : mayU l = true) (u : Us) (hn : l.length < 8) (hb : lastFrom 0 l < u.no) : mayU (l ++ [u]) = mayU [u] := by
  have hlow := last_low (Bool.and_eq_true _ _ ▸ (show mayU l = true from hm) : decide (l.length ≤ 8) = true ∧ mayFrom 0 l = true).2
  rw [may_app hm, may_alone, decide_eq_true hn, Bool.true_and, goodU, goodU, decide_eq_true hb, decide_eq_true (by omega : 0 < u.no)]
theorem app_not {l : List Us} (hm : mayU l = true) (u : Us) (h : ¬ l.length < 8 ∨ ¬ lastFrom 0 l < u.no) : mayU (l ++ [u]) = false := by
  rw [may_app hm]
  rcases h with h | h
  · rw [decide_eq_false h, Bool.false_and]
  · rw [goodU, decide_eq_false h]
    simp
set_option maxHeartbeats 1000000 in
theorem umorew_no (A : Option Addr) (n c : Nat) (l : List Us) (u : Us) (w : World) (hK : KTab w) (hl : Uss w A n c l) (hu : Bts w u.A u.n u.c u.key) (h : fewU l = false ∨ 100 < u.n ∨ mayU l = false) :
    Calls Tryd.prog 8 #[.slice A n c, .agg #[.int .i64 u.no, .int .i64 u.role, .slice u.A u.n u.c]] w fun e w' => e = .returned (.bool true) ∧ Below w.heap.size w w' := by
  obtain ⟨un, ur, uA, uk, uc, key⟩ := u
  simp only at hu h
  have HK := Lib.hid (hK.from (one_alloc w (.cells #[.int .i64 un, .int .i64 ur, .slice uA uk uc] 25)))
  have HL := Lib.hid hl
  have hn := hl.small
  obtain ⟨b1, hb1⟩ : ∃ b, fewU l = b := ⟨_, rfl⟩
  obtain ⟨b2, hb2⟩ : ∃ b, mayU l = b := ⟨_, rfl⟩
  rw [hb1, hb2] at h
  have F1 := Lib.hid hb1
  have FM := Lib.hid hb2
  clear hb1 hb2 hK hl hu
  cases b1
  case' true =>
    by_cases h3 : uk ≤ 100
    case' pos =>
      cases b2
      case true => (rcases h with h | h | h; (cases h); omega; (cases h))
      have h3' : (uk : Int) ≤ 100 := by omega
    case' neg => have h3' : (100 : Int) < uk := by omega
  all_goals
    clear h
    go_enter Tryd.func8, Tryd.ntmps8
    go_wp2_with (first
      | (go_at_call 9
         refine (uawake_any _ HK.out).mono ?_
         rintro e w1 ⟨rfl, hb1⟩
         obtain ⟨hbox, hb1⟩ := box_new2 w w1 ⟨un, ur, uA, uk, uc, key⟩ hb1
         obtain ⟨y0, y1, y2⟩ := hbox.cells
         simp only at y0 y1 y2
         have HBw1 := Lib.hid hb1
         have HBOX := Lib.hid hbox
         clear hb1 hbox)
      | (go_at_call 10
         (with_reducible refine (few_any A n c l w1 (HL.out.below HBw1.out)).mono ?_)
         rintro e w2 ⟨he, rfl⟩
         rw [F1.out] at he
         subst he)
      | (go_at_call 15
         (with_reducible refine (umay_any A n c l _ (HL.out.below HBw1.out)).mono ?_)
         rintro e w3 ⟨he, hbx⟩
         rw [FM.out] at he
         subst he
         have HBw3 := Lib.hid (HBw1.out.trans (hbx.mono HBw1.out.size))
         have HBOX3 := Lib.hid (HBOX.out.below hbx)
         clear hbx y0 y1 y2 HBOX))
    go_ret
    first
      | exact ⟨rfl, HBw3.out⟩
      | exact ⟨rfl, HBw1.out⟩
set_option maxRecDepth 100000 in
set_option maxHeartbeats 4000000 in
theorem umorew_core (A : Option Addr) (n c : Nat) (l : List Us) (u : Us) (w : World) (hK : KTab w) (hl : Uss w A n c l) (hu : Bts w u.A u.n u.c u.key) (hf : fewU l = true) (h3 : u.n ≤ 100) (hm : mayU l = true) :
    Calls Tryd.prog 8 #[.slice A n c, .agg #[.int .i64 u.no, .int .i64 u.role, .slice u.A u.n u.c]] w fun e w' => e = .returned (.bool true) ∧ Below w.heap.size w w' := by
  have h8 : n ≤ 8 := by
    rw [mayU, Bool.and_eq_true, decide_eq_true_eq, hl.len] at hm
    exact hm.1
  obtain ⟨un, ur, uA, uk, uc, key⟩ := u
  simp only at hu h3
  have HK := Lib.hid (hK.from (one_alloc w (.cells #[.int .i64 un, .int .i64 ur, .slice uA uk uc] 25)))
  have HL := Lib.hid hl
  have hn := hl.small
  have h3' : (uk : Int) ≤ 100 := by omega
  have HU := Lib.hid hu
  have HLL := Lib.hid hl.len
  have F1 := Lib.hid hf
  have FM := Lib.hid hm
  have APP := Lib.hid (show ∀ w' v B, OwnR 25 3 w' B v (l.map Us.row ++ [[.int .i64 un, .int .i64 ur, .slice uA uk uc]]) → Below w.heap.size w w' → ∃ A' n' c', v = .slice A' n' c' ∧ Uss w' A' n' c' (l ++ [⟨un, ur, uA, uk, uc, key⟩]) from fun w' v B ho hB => own_uss (l := l ++ [⟨un, ur, uA, uk, uc, key⟩]) (by rw [map_app]; exact ho) (fun x hx => by
    rcases List.mem_append.1 hx with h | h
    · exact (hl.key x h).below hB
    · rw [List.mem_singleton.1 h]; exact hu.below hB))
  clear hK hl hu hf hm h3
  go_enter Tryd.func8, Tryd.ntmps8
  go_wp2_with (first
    | (go_at_call 9
       refine (uawake_any _ HK.out).mono ?_
       rintro e w1 ⟨rfl, hb1⟩
       obtain ⟨hbox, hb1⟩ := box_new2 w w1 ⟨un, ur, uA, uk, uc, key⟩ hb1
       obtain ⟨y0, y1, y2⟩ := hbox.cells
       simp only at y0 y1 y2
       have HBw1 := Lib.hid hb1
       have HBOX := Lib.hid hbox
       clear hb1 hbox)
    | (go_at_call 10
       (with_reducible refine (few_any A n c l w1 (HL.out.below HBw1.out)).mono ?_)
       rintro e w2 ⟨he, rfl⟩
       rw [F1.out] at he
       subst he)
    | (go_at_call 15
       (with_reducible refine (umay_any A n c l _ (HL.out.below HBw1.out)).mono ?_)
       rintro e w3 ⟨he, hbx⟩
       rw [FM.out] at he
       subst he
       have HBw3 := Lib.hid (HBw1.out.trans (hbx.mono HBw1.out.size))
       have HBOX3 := Lib.hid (HBOX.out.below hbx)
       clear hbx y0 y1 y2 HBOX))
  have hB3 := HBw3.out
  obtain ⟨Y0, hY0⟩ : ∃ Y, w3.drew = Y := ⟨_, rfl⟩
  have hb0 : Below w3.heap.size w3 Y0 := by rw [← hY0]; exact (Below.refl _ w3).drew
  have hBd : Below w.heap.size w Y0 := hB3.trans (hb0.mono hB3.size)
  have SC := Lib.hid (show ∀ W, Below w3.heap.size w3 W → (fun w' => w'.cell? ⟨w.heap.size, 0, none⟩ = some (.int .i64 un) ∧ w'.cell? ⟨w.heap.size, 1, none⟩ = some (.int .i64 ur) ∧ w'.cell? ⟨w.heap.size, 2, none⟩ = some (.slice uA uk uc)) W from fun W hW => (HBOX3.out.below hW).cells)
  have Sd := SC.out _ hb0
  refine wp_region_held_drew (S := fun w' => w'.cell? ⟨w.heap.size, 0, none⟩ = some (.int .i64 un) ∧ w'.cell? ⟨w.heap.size, 1, none⟩ = some (.int .i64 ur) ∧ w'.cell? ⟨w.heap.size, 2, none⟩ = some (.slice uA uk uc)) (by kernel_rfl) (by rw [hY0]; exact Sd) (fun hHeld => ?_)
  rw [hY0] at hHeld ⊢
  clear hY0 Sd
  refine take_move 0 (.tmp 0) (.slice A n c) rfl rfl rfl (by kernel_rfl) (by kernel_rfl) (by kernel_rfl) (fun _ _ _ h => h) rfl hHeld ?_
  simp only [Act.put, List.setIfInBounds_toArray, List.set_cons_zero, List.set_cons_succ]
  refine take_if 2 (.agg #[.int .i64 un, .int .i64 ur, .slice uA uk uc]) rfl (by kernel_rfl) (by kernel_rfl) (by kernel_rfl) (fun _ _ _ h => h) rfl hHeld (fun w' hw' => ?_) ?_
  · obtain ⟨q0, q1, q2⟩ := hw'
    go_simp
  simp only [Act.put, List.setIfInBounds_toArray, List.set_cons_zero, List.set_cons_succ]
  refine two_steps 1 3 (by kernel_rfl) rfl rfl (fun Kq hKq => ?_) (fun Kq hKq => ?_)
  refine step_append_r 22 25 3 40 _ _ rfl Tryd.underlying22 info_user (by omega) w3.heap.size (.slice none 0 0) [] rfl (OwnR.nil _ _ _ _) A n c (l.map Us.row) rfl (HL.out.below hBd).rws (by simp; omega) (by simp; omega) hb0.size rfl ?_
  intro v1 y1 hown1 hg1
  have hBy1 : Below w.heap.size w y1 := hBd.grown hg1 hBd.size (fun g hg => by simp [Value.ownBlock] at hg)
  have hby1 : Below w3.heap.size w3 y1 := hb0.grown hg1 hb0.size (fun g hg => by simp [Value.ownBlock] at hg)
  have Sy1 := SC.out _ hby1
  refine hKq.out _ _ Sy1 (fun hHeld0 => ?_)
  clear hKq Kq hHeld Sy1 hg1
  have hHeld := hHeld0
  clear hHeld0
  try simp only [Act.put, List.setIfInBounds_toArray, List.set_cons_zero, List.set_cons_succ]
  refine one_step 3 (by kernel_rfl) rfl (fun Kq hKq => ?_)
  have hBz := hBy1.trans ((one_alloc y1 (.cells #[.int .i64 un, .int .i64 ur, .slice uA uk uc] 25)).mono hBy1.size)
  have hbz := hby1.trans ((one_alloc y1 (.cells #[.int .i64 un, .int .i64 ur, .slice uA uk uc] 25)).mono hby1.size)
  have Sz := SC.out _ hbz
  have hz := one_rws 3 25 y1 [.int .i64 un, .int .i64 ur, .slice uA uk uc] rfl (row_one3 ⟨un, ur, uA, uk, uc, key⟩)
  have hown1 := hown1.more (.cells #[.int .i64 un, .int .i64 ur, .slice uA uk uc] 25)
  go_simp
  refine hKq.out _ _ Sz (fun hHeld0 => ?_)
  clear hKq Kq hHeld Sz 
  have hHeld := hHeld0
  clear hHeld0
  try simp only [Act.put, List.setIfInBounds_toArray, List.set_cons_zero, List.set_cons_succ]
  refine one_step 4 (by kernel_rfl) rfl (fun Kq hKq => ?_)
  refine step_append_r 22 25 3 40 _ _ rfl Tryd.underlying22 info_user (by omega) w3.heap.size v1 ([] ++ l.map Us.row) rfl hown1 _ 1 1 [[.int .i64 un, .int .i64 ur, .slice uA uk uc]] rfl hz (by have := HLL.out; simp; omega) (by have := HLL.out; simp; omega) hbz.size rfl ?_
  intro v2 wM hown2 hg2
  have hBM : Below w.heap.size w wM := hBz.grown hg2 hBz.size (fun g hg => Nat.le_trans hB3.size (hown1.size g hg).1)
  have hbM : Below w3.heap.size w3 wM := hbz.grown hg2 hbz.size (fun g hg => (hown1.size g hg).1)
  have SM := SC.out _ hbM
  rw [List.nil_append] at hown2
  obtain ⟨A5, n5, c5, rfl, hus⟩ := APP.out _ _ _ hown2 hBM
  have HUS := Lib.hid hus
  refine hKq.out _ _ SM (fun hHeld0 => ?_)
  clear hKq Kq hHeld SM hown1 hown2 hg2 hz hus
  have hHeld := hHeld0
  clear hHeld0
  try simp only [Act.put, List.setIfInBounds_toArray, List.set_cons_zero, List.set_cons_succ]
  refine take_run 5 (.slice A5 n5 c5) rfl (by kernel_rfl) (by kernel_rfl) (by kernel_rfl) (fun _ _ _ h => h) rfl hHeld (fun w => ?_) ?_
  · go_simp
  simp only [Act.put, List.setIfInBounds_toArray, List.set_cons_zero, List.set_cons_succ]
  refine wpAnyH_done (by kernel_rfl) ?_ _
  go_wp2
  rotate_left
  have hBz := hBd.trans ((one_alloc Y0 (.cells #[.int .i64 un, .int .i64 ur, .slice uA uk uc] 25)).mono hBd.size)
  have hbz := hb0.trans ((one_alloc Y0 (.cells #[.int .i64 un, .int .i64 ur, .slice uA uk uc] 25)).mono hb0.size)
  have Sz := SC.out _ hbz
  have hz := one_rws 3 25 Y0 [.int .i64 un, .int .i64 ur, .slice uA uk uc] rfl (row_one3 ⟨un, ur, uA, uk, uc, key⟩)
  go_simp
  refine hKq.out _ _ Sz (fun hHeld0 => ?_)
  clear hKq Kq hHeld Sz 
  have hHeld := hHeld0
  clear hHeld0
  try simp only [Act.put, List.setIfInBounds_toArray, List.set_cons_zero, List.set_cons_succ]
  refine one_step 1 (by kernel_rfl) rfl (fun Kq hKq => ?_)
  refine step_append_r 22 25 3 40 _ _ rfl Tryd.underlying22 info_user (by omega) w3.heap.size (.slice none 0 0) [] rfl (OwnR.nil _ _ _ _) A n c (l.map Us.row) rfl (HL.out.below hBz).rws (by simp; omega) (by simp; omega) hbz.size rfl ?_
  intro v1 y1 hown1 hg1
  have hBy1 : Below w.heap.size w y1 := hBz.grown hg1 hBz.size (fun g hg => by simp [Value.ownBlock] at hg)
  have hby1 : Below w3.heap.size w3 y1 := hbz.grown hg1 hbz.size (fun g hg => by simp [Value.ownBlock] at hg)
  have Sy1 := SC.out _ hby1
  have hz := hz.grown hg1 (fun b off e => by intro e2; simp [Value.ownBlock] at e2)
  refine hKq.out _ _ Sy1 (fun hHeld0 => ?_)
  clear hKq Kq hHeld Sy1 hg1
  have hHeld := hHeld0
  clear hHeld0
  try simp only [Act.put, List.setIfInBounds_toArray, List.set_cons_zero, List.set_cons_succ]
  refine one_step 4 (by kernel_rfl) rfl (fun Kq hKq => ?_)
  refine step_append_r 22 25 3 40 _ _ rfl Tryd.underlying22 info_user (by omega) w3.heap.size v1 ([] ++ l.map Us.row) rfl hown1 _ 1 1 [[.int .i64 un, .int .i64 ur, .slice uA uk uc]] rfl hz (by have := HLL.out; simp; omega) (by have := HLL.out; simp; omega) hby1.size rfl ?_
  intro v2 wM hown2 hg2
  have hBM : Below w.heap.size w wM := hBy1.grown hg2 hBy1.size (fun g hg => Nat.le_trans hB3.size (hown1.size g hg).1)
  have hbM : Below w3.heap.size w3 wM := hby1.grown hg2 hby1.size (fun g hg => (hown1.size g hg).1)
  have SM := SC.out _ hbM
  rw [List.nil_append] at hown2
  obtain ⟨A5, n5, c5, rfl, hus⟩ := APP.out _ _ _ hown2 hBM
  have HUS := Lib.hid hus
  refine hKq.out _ _ SM (fun hHeld0 => ?_)
  clear hKq Kq hHeld SM hown1 hown2 hg2 hz hus
  have hHeld := hHeld0
  clear hHeld0
  try simp only [Act.put, List.setIfInBounds_toArray, List.set_cons_zero, List.set_cons_succ]
  refine take_run 5 (.slice A5 n5 c5) rfl (by kernel_rfl) (by kernel_rfl) (by kernel_rfl) (fun _ _ _ h => h) rfl hHeld (fun w => ?_) ?_
  · go_simp
  simp only [Act.put, List.setIfInBounds_toArray, List.set_cons_zero, List.set_cons_succ]
  refine wpAnyH_done (by kernel_rfl) ?_ _
  go_wp2
  all_goals
    clear hHeld
    obtain ⟨z0, z1, z2⟩ := SC.out _ hbM
    obtain ⟨mu, hmu⟩ : ∃ b, mayU [⟨un, ur, uA, uk, uc, key⟩] = b := ⟨_, rfl⟩
    have MU := Lib.hid hmu
    by_cases h0 : n = 0
    · have e0 : ((n : Int) == 0) = true := by rw [beq_iff_eq]; omega
      have h8i : (n : Int) < 8 := by omega
      have hmm : mayU (l ++ [⟨un, ur, uA, uk, uc, key⟩]) = mu := by
        have : l = [] := List.eq_nil_of_length_eq_zero (by rw [HLL.out]; exact h0)
        rw [this]; exact hmu
      have MM := Lib.hid hmm
      clear hmm hmu h0
      go_quiet (fail)
      go_wp2_with (first
      | (go_at_call 15
         refine (umay_any _ _ _ _ _ (one_user_at ⟨un, ur, uA, uk, uc, key⟩ rfl (HU.out.below HBw5.out))).mono ?_
         rintro e w6 ⟨he, hbx⟩
         rw [MU.out] at he
         subst he
         have HBw6 := Lib.hid (HBw5.out.trans (((one_alloc w5 _).trans (hbx.mono (size_le_alloc _ _))).mono HBw5.out.size))
         clear hbx)
      | (go_at_call 15
         refine (umay_any A5 n5 c5 _ _ (HUS.out.draw nq)).mono ?_
         rintro e w5 ⟨he, hbx⟩
         rw [MM.out] at he
         subst he
         have hb5 : Below w3.heap.size w3 w5 := (below_drewN hbM nq).trans (hbx.mono hbM.size)
         obtain ⟨x0, x1, x2⟩ := SC.out _ hb5
         have HBw5 := Lib.hid (hB3.trans (hb5.mono hB3.size))
         clear hbx hb5))
      go_ret
      exact ⟨by simp, HBw6.out⟩
    · have e0 : ((n : Int) == 0) = false := by rw [beq_eq_false_iff_ne]; omega
      obtain ⟨m, hnm⟩ : ∃ m, n = m + 1 := ⟨n - 1, by omega⟩
      have em : (n : Int) - 1 = m := by omega
      have em0 : 0 ≤ (m : Int) := by omega
      have em1 : (m : Int) < n := by omega
      have em2 : (m : Int) < 9223372036854775808 := by omega
      obtain ⟨b, off, v, rfl, -, -, hv, v0, -, -, -, -⟩ := (HL.out.below hBM).at_ m (by omega)
      have hx := last_at hv (by rw [HLL.out]; exact hnm)
      obtain ⟨x, hxe⟩ : ∃ x, v.no = x := ⟨_, rfl⟩
      rw [hxe] at v0 hx
      by_cases hlt : x < un
      · by_cases h8b : n < 8
        · have h8i : (n : Int) < 8 := by omega
          have hmm : mayU (l ++ [⟨un, ur, uA, uk, uc, key⟩]) = mu := by rw [app_few FM.out _ (by rw [HLL.out]; exact h8b) (by rw [hx]; exact hlt)]; exact hmu
          have MM := Lib.hid hmm
          clear hmm hmu h0 hx hxe hv hnm
          go_quiet (fail)
          go_wp2_with (first
          | (go_at_call 15
             refine (umay_any _ _ _ _ _ (one_user_at ⟨un, ur, uA, uk, uc, key⟩ rfl (HU.out.below HBw5.out))).mono ?_
             rintro e w6 ⟨he, hbx⟩
             rw [MU.out] at he
             subst he
             have HBw6 := Lib.hid (HBw5.out.trans (((one_alloc w5 _).trans (hbx.mono (size_le_alloc _ _))).mono HBw5.out.size))
             clear hbx)
          | (go_at_call 15
             refine (umay_any A5 n5 c5 _ _ (HUS.out.draw nq)).mono ?_
             rintro e w5 ⟨he, hbx⟩
             rw [MM.out] at he
             subst he
             have hb5 : Below w3.heap.size w3 w5 := (below_drewN hbM nq).trans (hbx.mono hbM.size)
             obtain ⟨x0, x1, x2⟩ := SC.out _ hb5
             have HBw5 := Lib.hid (hB3.trans (hb5.mono hB3.size))
             clear hbx hb5))
          go_ret
          exact ⟨by simp, HBw6.out⟩
        · have h8i : ¬ (n : Int) < 8 := by omega
          have h8d : decide ((n : Int) < 8) = false := by rw [decide_eq_false_iff_not]; exact h8i
          have hmm : mayU (l ++ [⟨un, ur, uA, uk, uc, key⟩]) = false := app_not FM.out _ (.inl (by rw [HLL.out]; exact h8b))
          have MM := Lib.hid hmm
          clear hmm hmu h0 hx hxe hv hnm
          go_quiet (fail)
          go_wp2_with (first
          | (go_at_call 15
             refine (umay_any A5 n5 c5 _ _ (HUS.out.draw nq)).mono ?_
             rintro e w5 ⟨he, hbx⟩
             rw [MM.out] at he
             subst he
             have hb5 : Below w3.heap.size w3 w5 := (below_drewN hbM nq).trans (hbx.mono hbM.size)
             obtain ⟨x0, x1, x2⟩ := SC.out _ hb5
             have HBw5 := Lib.hid (hB3.trans (hb5.mono hB3.size))
             clear hbx hb5))
          go_ret
          exact ⟨by simp, HBw5.out⟩
      · have hltd : decide (x < un) = false := by rw [decide_eq_false_iff_not]; exact hlt
        have hmm : mayU (l ++ [⟨un, ur, uA, uk, uc, key⟩]) = false := app_not FM.out _ (.inr (by rw [hx]; exact hlt))
        have MM := Lib.hid hmm
        clear hmm hmu h0 hx hxe hv hnm
        by_cases h8b : n < 8
        · have h8i : (n : Int) < 8 := by omega
          go_quiet (fail)
          go_wp2_with (first
          | (go_at_call 15
             refine (umay_any A5 n5 c5 _ _ (HUS.out.draw nq)).mono ?_
             rintro e w5 ⟨he, hbx⟩
             rw [MM.out] at he
             subst he
             have hb5 : Below w3.heap.size w3 w5 := (below_drewN hbM nq).trans (hbx.mono hbM.size)
             obtain ⟨x0, x1, x2⟩ := SC.out _ hb5
             have HBw5 := Lib.hid (hB3.trans (hb5.mono hB3.size))
             clear hbx hb5))
          go_ret
          exact ⟨by simp, HBw5.out⟩
        · have h8i : ¬ (n : Int) < 8 := by omega
          have h8d : decide ((n : Int) < 8) = false := by rw [decide_eq_false_iff_not]; exact h8i
          go_quiet (fail)
          go_wp2_with (first
          | (go_at_call 15
             refine (umay_any A5 n5 c5 _ _ (HUS.out.draw nq)).mono ?_
             rintro e w5 ⟨he, hbx⟩
             rw [MM.out] at he
             subst he
             have hb5 : Below w3.heap.size w3 w5 := (below_drewN hbM nq).trans (hbx.mono hbM.size)
             obtain ⟨x0, x1, x2⟩ := SC.out _ hb5
             have HBw5 := Lib.hid (hB3.trans (hb5.mono hB3.size))
             clear hbx hb5))
          go_ret
          exact ⟨by simp, HBw5.out⟩
theorem umorew_any (A : Option Addr) (n c : Nat) (l : List Us) (u : Us) (w : World) (hK : KTab w) (hl : Uss w A n c l) (hu : Bts w u.A u.n u.c u.key) :
    Calls Tryd.prog 8 #[.slice A n c, .agg #[.int .i64 u.no, .int .i64 u.role, .slice u.A u.n u.c]] w fun e w' => e = .returned (.bool true) ∧ Below w.heap.size w w' := by
  cases h1 : fewU l with
  | false => exact umorew_no A n c l u w hK hl hu (.inl h1)
  | true =>
    by_cases h3 : u.n ≤ 100
    · cases h2 : mayU l with
      | false => exact umorew_no A n c l u w hK hl hu (.inr (.inr h2))
      | true => exact umorew_core A n c l u w hK hl hu h1 h3 h2
    · exact umorew_no A n c l u w hK hl hu (.inr (.inl (by omega)))
end Go.Proofs.YtcfkpepohnjdfaaDoor
