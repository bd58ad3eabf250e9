/- The walk over the law EntrySame: two lists are the same just if they have as many, and the same, in order. -/
import Derived.Test.YtfjiefhicjnnnaaEntEpochW
import Derived.Test.YtfjiefhicjnnnaaBasTake
namespace Go.Proofs.Ytfjiefhicjnnnaa
set_option linter.unusedVariables false
set_option linter.unusedSimpArgs false
open Go.RowKit

theorem same_self (l : List En) : sameE l l = true := by rw [sameE, decide_eq_true_eq]
theorem same_more (l : List En) (u : En) : sameE l (l ++ [u]) = false := same_len (by simp)
theorem same_set {l : List En} {j : Nat} {v : En} (h : l[j]? = some v) (u : En) : sameE l (l.set j u) = decide (v = u) := by
  obtain ⟨hj, hv⟩ := List.getElem?_eq_some_iff.1 h
  by_cases e : v = u
  · subst e
    rw [decide_eq_true rfl]
    have : l.set j v = l := by rw [← hv]; simp
    rw [this]
    exact same_self l
  · rw [decide_eq_false e]
    exact same_stop h (v := u) (by rw [List.getElem?_set_self hj]) e
/-- one of the call's own, overwritten -/
theorem ens_put {w : World} {base n : Nat} {v : Value} {l : List En} (h : OwnR 25 9 w base v (l.map En.row)) (hn : l.length = n) (j : Nat) (hj : j < n) :
    ∃ g c, v = .slice (some ⟨g, 0, none⟩) n c ∧ base ≤ g ∧ g < w.heap.size ∧ w.there g (j * 9) 9 ∧ ∀ u : En, Ens (w.setCells g (j * 9) u.row) (some ⟨g, 0, none⟩) n c (l.set j u) := by
  obtain ⟨A, m, c, rfl, hr⟩ := h.rws
  have hm : m = n := by rw [← hr.len, List.length_map, hn]
  subst hm
  obtain ⟨b, off, rfl, hc⟩ := hr.at_ (by omega)
  rcases h.row.2 with ⟨hv, _⟩ | ⟨g, cap, cur, hv, hBg, hg, hnc, hcm, hcs, htk⟩
  · cases hv
  · injection hv with e1 e2 e3
    injection e1 with e1
    injection e1 with e1 e4 _
    subst e1 e4 e3
    have hlt : b < w.heap.size := (Array.getElem?_eq_some_iff.1 hg).1
    have hrow : ∀ k, k < m → (l.map En.row).getD k [] = (l.getD k En.zero).row := fun k hk => by
      have : k < l.length := by omega
      simp [List.getD_eq_getElem?_getD, this]
    have hth : w.there b (j * 9) 9 := fun k hk => ⟨by have := hc j hj k hk; rw [Nat.zero_add] at this; rw [this]; rfl, frozen_of_row _ _ _ _ _ hg⟩
    refine ⟨b, c, rfl, hBg, hlt, hth, fun u => ⟨⟨by simp [hn], ?_, ?_, hr.le, hr.max, (fun e => by cases e), fun _ => ⟨b, 0, rfl, fun k hk i hi => ?_⟩⟩⟩⟩
    · intro r hr'
      obtain ⟨x, _, rfl⟩ := List.mem_map.1 hr'
      rfl
    · intro r hr' y hy
      obtain ⟨x, _, rfl⟩ := List.mem_map.1 hr'
      exact row_one9 x y hy
    · have hkl : k < (l.set j u).length := by simp; omega
      have hgd : ((l.set j u).map En.row).getD k [] = (if k = j then u else l.getD k En.zero).row := by
        have h2 : k < l.length := by omega
        rw [List.getD_eq_getElem?_getD, List.getElem?_map, List.getElem?_set]
        by_cases e : k = j
        · subst e
          rw [if_pos rfl, if_pos h2, if_pos rfl]
          rfl
        · rw [if_neg (Ne.symm e), if_neg e, List.getElem?_eq_getElem h2]
          simp [List.getD_eq_getElem?_getD, h2]
      rw [hgd]
      by_cases e : k = j
      · subst e
        rw [if_pos rfl, Nat.zero_add]
        have := World.rangeAt_setCells_same w b (k * 9) u.row hth i (u.row.getD i undef) (by
          have : i < u.row.length := hi
          simp [List.getD_eq_getElem?_getD, this])
        exact this
      · rw [if_neg e, Nat.zero_add]
        rw [World.cell?_setCells_out b u.row (j * 9) w ⟨b, k * 9 + i, none⟩ (fun _ _ => by
          have e9 : u.row.length = 9 := rfl
          show k * 9 + i < j * 9 ∨ j * 9 + u.row.length ≤ k * 9 + i
          rw [e9]
          omega)]
        have := hc k hk i hi
        rw [Nat.zero_add, hrow k hk] at this
        exact this
theorem store_en {P : Program} {ops : Array Oper} {rest : List Oper} {op : Oper} {a : Act} {w : World} {Q : Exit → Act → World → Prop} (hgd : op.guard = none) (x y : Operand) (ho : op.op = .store 25 x y) (hP : P = Try.prog)
    (g j : Nat) (u : En) (hx : a.eval x = .pointer (some ⟨g, j * 9, none⟩)) (hy : a.eval y = .agg (enA u)) (ht : w.there g (j * 9) 9)
    (h : ∀ w', w' = w.setCells g (j * 9) u.row → wpList P ops Q rest (a.put op.dst undef) w') : wpList P ops Q (op :: rest) a w := by
  subst hP
  exact wpList_store_mid hgd 25 x y ho g (j * 9) (enA u) hx hy ht (info_en rfl) (enA_one u) (h _ rfl)
theorem rangeAt_below {w w' : World} {b o : Nat} {cs : List Value} (h : w.rangeAt b o cs) (hb : Below w.heap.size w w') : w'.rangeAt b o cs := fun j v hv => (hb.cell (p := ⟨b, o + j, none⟩) (block_lt_of_cell (h j v hv))).trans (h j v hv)
set_option maxHeartbeats 1000000 in
theorem esamew_big (A : Option Addr) (n c : Nat) (l : List En) (u : En) (i : Int) (w : World) (hl : Ens w A n c l) (h : 300 < n) :
    Calls Try.prog 8 #[.slice A n c, enV u, .int .i64 i] w fun e w' => e = .returned (.bool true) ∧ Below w.heap.size w w' := by
  have hn := hl.small
  have h1 : (300 : Int) < n := by omega
  rcases u with ⟨kind, tick, epoch, user, sess, count, cmd, arg, code⟩
  simp only [enV, enA, En.row]
  go_enter Try.func8, Try.ntmps8
  go_wp2_with (go_at_call 9; refine (eawake_any _).mono ?_; rintro e w1 ⟨rfl, hb1⟩; have HB1 := Lib.hid (after_one hb1).1; clear hb1)
  go_ret
  exact ⟨rfl, HB1.out⟩
set_option maxRecDepth 100000 in
set_option maxHeartbeats 4000000 in
theorem esamew_out (A : Option Addr) (n c : Nat) (l : List En) (u : En) (i : Int) (w : World) (hl : Ens w A n c l) (h : n ≤ 300) (hi : i < 0 ∨ (n : Int) ≤ i) :
    Calls Try.prog 8 #[.slice A n c, enV u, .int .i64 i] w fun e w' => e = .returned (.bool true) ∧ Below w.heap.size w w' := by
  have hn := hl.small
  have h1 : (n : Int) ≤ 300 := by omega
  have HL := Lib.hid hl
  have HLL := Lib.hid hl.len
  have e1 : decide (i < 0) = true ∨ (decide (i < 0) = false ∧ decide ((n : Int) ≤ i) = true) := by
    by_cases h0 : i < 0
    · exact .inl (decide_eq_true h0)
    · exact .inr ⟨decide_eq_false h0, decide_eq_true (by omega)⟩
  clear hi
  have HSELF := Lib.hid (same_self l)
  rcases u with ⟨kind, tick, epoch, user, sess, count, cmd, arg, code⟩
  have HMORE := Lib.hid (same_more l ⟨kind, tick, epoch, user, sess, count, cmd, arg, code⟩)
  simp only [enV, enA, En.row]
  clear hl
  go_enter Try.func8, Try.ntmps8
  go_wp2_with (first | (go_at_call 9; refine (eawake_any _).mono ?_; rintro e w1 ⟨rfl, hb1⟩; have hx1 := after_alloc hb1; have RX := Lib.hid (show ∀ X, Below w1.heap.size w1 X → X.rangeAt w.heap.size 0 (En.row ⟨kind, tick, epoch, user, sess, count, cmd, arg, code⟩) from fun X hX => ent_range ((hX.block _ (Array.getElem?_eq_some_iff.1 hx1).1).trans hx1)); have HBw1 := Lib.hid (after_one hb1).1; clear hb1 hx1) | (go_at_call 19; (with_reducible refine (esame_any A n c l A n c l w1 (HL.out.below HBw1.out) (HL.out.below HBw1.out)).mono ?_); rintro e w2 ⟨he, hbx⟩; rw [HSELF.out] at he; subst he; have RX := Lib.hid (show ∀ X, Below w2.heap.size w2 X → X.rangeAt w.heap.size 0 (En.row ⟨kind, tick, epoch, user, sess, count, cmd, arg, code⟩) from fun X hX => RX.out X (hbx.trans (hX.mono hbx.size))); have HBw2 := Lib.hid (HBw1.out.trans (hbx.mono HBw1.out.size)); clear hbx))
  obtain ⟨Y0, hY0⟩ : ∃ Y, w2.drew = Y := ⟨_, rfl⟩
  have hB3 := HBw2.out
  have hb0 : Below w2.heap.size w2 Y0 := by rw [← hY0]; exact (Below.refl _ w2).drew
  have hBd : Below w.heap.size w Y0 := hB3.trans (hb0.mono hB3.size)
  have SC := Lib.hid (show ∀ X, Below w2.heap.size w2 X → (fun w' => w'.rangeAt w.heap.size 0 (En.row ⟨kind, tick, epoch, user, sess, count, cmd, arg, code⟩)) X from fun X hX => RX.out _ hX)
  have Sd := SC.out _ hb0
  refine wp_region_held_drew (S := (fun w' => w'.rangeAt w.heap.size 0 (En.row ⟨kind, tick, epoch, user, sess, count, cmd, arg, code⟩))) (by kernel_rfl) (by rw [hY0]; exact Sd) (fun hHeld => ?_)
  rw [hY0] at hHeld ⊢
  clear hY0 Sd
  refine take_move 0 (.tmp 0) (.slice A n c) rfl rfl rfl (by kernel_rfl) (by kernel_rfl) (by kernel_rfl) (fun _ _ _ h => h) rfl hHeld ?_
  simp only [Act.put, List.setIfInBounds_toArray, List.set_cons_zero, List.set_cons_succ]
  refine take_if 2 (.agg #[.int .i64 kind, .int .i64 tick, .int .i64 epoch, .int .i64 user, .int .u64 sess, .int .u64 count, .int .i64 cmd, .int .i64 arg, .int .i64 code]) rfl (by kernel_rfl) (by kernel_rfl) (by kernel_rfl) (fun _ _ _ h => h) rfl hHeld (fun w' hw' => ?_) ?_
  · exact run_load_en (u := ⟨kind, tick, epoch, user, sess, count, cmd, arg, code⟩) rfl rfl hw'
  simp only [Act.put, List.setIfInBounds_toArray, List.set_cons_zero, List.set_cons_succ]
  refine two_steps 1 3 (by kernel_rfl) rfl rfl (fun Kq hKq => ?_) (fun Kq hKq => ?_)
  refine step_append_r 27 25 9 72 _ _ rfl Try.underlying27 info_entry (by omega) w2.heap.size (.slice none 0 0) [] rfl (OwnR.nil _ _ _ _) A n c (l.map En.row) rfl (HL.out.below hBd).rws (by simp; omega) (by simp; omega) hb0.size rfl ?_
  intro v1 y1 hown1 hg1
  have hBy1 : Below w.heap.size w y1 := hBd.grown hg1 hBd.size (fun g hg => by simp [Value.ownBlock] at hg)
  have hby1 : Below w2.heap.size w2 y1 := hb0.grown hg1 hb0.size (fun g hg => by simp [Value.ownBlock] at hg)
  have Sy1 := SC.out _ hby1
  refine hKq.out _ _ Sy1 (fun hHeld0 => ?_)
  clear hKq Kq hHeld Sy1 hg1
  have hHeld := hHeld0
  clear hHeld0
  try simp only [Act.put, List.setIfInBounds_toArray, List.set_cons_zero, List.set_cons_succ]
  refine one_step 3 (by kernel_rfl) rfl (fun Kq hKq => ?_)
  have hBz := hBy1.trans ((one_alloc y1 (.cells #[.int .i64 kind, .int .i64 tick, .int .i64 epoch, .int .i64 user, .int .u64 sess, .int .u64 count, .int .i64 cmd, .int .i64 arg, .int .i64 code] 25)).mono hBy1.size)
  have hbz := hby1.trans ((one_alloc y1 (.cells #[.int .i64 kind, .int .i64 tick, .int .i64 epoch, .int .i64 user, .int .u64 sess, .int .u64 count, .int .i64 cmd, .int .i64 arg, .int .i64 code] 25)).mono hby1.size)
  have Sz := SC.out _ hbz
  have hz := one_rws 9 25 y1 [.int .i64 kind, .int .i64 tick, .int .i64 epoch, .int .i64 user, .int .u64 sess, .int .u64 count, .int .i64 cmd, .int .i64 arg, .int .i64 code] rfl (row_one9 ⟨kind, tick, epoch, user, sess, count, cmd, arg, code⟩)
  have hown1 := hown1.more (.cells #[.int .i64 kind, .int .i64 tick, .int .i64 epoch, .int .i64 user, .int .u64 sess, .int .u64 count, .int .i64 cmd, .int .i64 arg, .int .i64 code] 25)
  go_simp
  refine hKq.out _ _ Sz (fun hHeld0 => ?_)
  clear hKq Kq hHeld Sz 
  have hHeld := hHeld0
  clear hHeld0
  try simp only [Act.put, List.setIfInBounds_toArray, List.set_cons_zero, List.set_cons_succ]
  refine one_step 4 (by kernel_rfl) rfl (fun Kq hKq => ?_)
  refine step_append_r 27 25 9 72 _ _ rfl Try.underlying27 info_entry (by omega) w2.heap.size v1 ([] ++ l.map En.row) rfl hown1 _ 1 1 [[.int .i64 kind, .int .i64 tick, .int .i64 epoch, .int .i64 user, .int .u64 sess, .int .u64 count, .int .i64 cmd, .int .i64 arg, .int .i64 code]] rfl hz (by have := HLL.out; simp; omega) (by have := HLL.out; simp; omega) hbz.size rfl ?_
  intro v2 wM hown2 hg2
  have hBM : Below w.heap.size w wM := hBz.grown hg2 hBz.size (fun g hg => Nat.le_trans hB3.size (hown1.size g hg).1)
  have hbM : Below w2.heap.size w2 wM := hbz.grown hg2 hbz.size (fun g hg => (hown1.size g hg).1)
  have SM := SC.out _ hbM
  have hown2 : OwnR 25 9 wM w2.heap.size v2 ((l ++ [(⟨kind, tick, epoch, user, sess, count, cmd, arg, code⟩ : En)]).map En.row) := by rw [map_row]; exact hown2
  obtain ⟨A5, n5, c5, rfl, hus⟩ := own_ens hown2
  have HUS := Lib.hid hus
  refine hKq.out _ _ SM (fun hHeld0 => ?_)
  clear hKq Kq hHeld SM hown1 hown2 hg2 hz hus
  have hHeld := hHeld0
  clear hHeld0
  try simp only [Act.put, List.setIfInBounds_toArray, List.set_cons_zero, List.set_cons_succ]
  refine take_run 5 (.slice A5 n5 c5) rfl (by kernel_rfl) (by kernel_rfl) (by kernel_rfl) (fun _ _ _ h => h) rfl hHeld (fun w => ?_) ?_
  · go_simp
  simp only [Act.put, List.setIfInBounds_toArray, List.set_cons_zero, List.set_cons_succ]
  refine wpAnyH_done (by kernel_rfl) ?_ _
  clear hHeld
  rotate_left
  have hBz := hBd.trans ((one_alloc Y0 (.cells #[.int .i64 kind, .int .i64 tick, .int .i64 epoch, .int .i64 user, .int .u64 sess, .int .u64 count, .int .i64 cmd, .int .i64 arg, .int .i64 code] 25)).mono hBd.size)
  have hbz := hb0.trans ((one_alloc Y0 (.cells #[.int .i64 kind, .int .i64 tick, .int .i64 epoch, .int .i64 user, .int .u64 sess, .int .u64 count, .int .i64 cmd, .int .i64 arg, .int .i64 code] 25)).mono hb0.size)
  have Sz := SC.out _ hbz
  have hz := one_rws 9 25 Y0 [.int .i64 kind, .int .i64 tick, .int .i64 epoch, .int .i64 user, .int .u64 sess, .int .u64 count, .int .i64 cmd, .int .i64 arg, .int .i64 code] rfl (row_one9 ⟨kind, tick, epoch, user, sess, count, cmd, arg, code⟩)
  go_simp
  refine hKq.out _ _ Sz (fun hHeld0 => ?_)
  clear hKq Kq hHeld Sz 
  have hHeld := hHeld0
  clear hHeld0
  try simp only [Act.put, List.setIfInBounds_toArray, List.set_cons_zero, List.set_cons_succ]
  refine one_step 1 (by kernel_rfl) rfl (fun Kq hKq => ?_)
  refine step_append_r 27 25 9 72 _ _ rfl Try.underlying27 info_entry (by omega) w2.heap.size (.slice none 0 0) [] rfl (OwnR.nil _ _ _ _) A n c (l.map En.row) rfl (HL.out.below hBz).rws (by simp; omega) (by simp; omega) hbz.size rfl ?_
  intro v1 y1 hown1 hg1
  have hBy1 : Below w.heap.size w y1 := hBz.grown hg1 hBz.size (fun g hg => by simp [Value.ownBlock] at hg)
  have hby1 : Below w2.heap.size w2 y1 := hbz.grown hg1 hbz.size (fun g hg => by simp [Value.ownBlock] at hg)
  have Sy1 := SC.out _ hby1
  have hz := hz.grown hg1 (fun b off e => by intro e2; simp [Value.ownBlock] at e2)
  refine hKq.out _ _ Sy1 (fun hHeld0 => ?_)
  clear hKq Kq hHeld Sy1 hg1
  have hHeld := hHeld0
  clear hHeld0
  try simp only [Act.put, List.setIfInBounds_toArray, List.set_cons_zero, List.set_cons_succ]
  refine one_step 4 (by kernel_rfl) rfl (fun Kq hKq => ?_)
  refine step_append_r 27 25 9 72 _ _ rfl Try.underlying27 info_entry (by omega) w2.heap.size v1 ([] ++ l.map En.row) rfl hown1 _ 1 1 [[.int .i64 kind, .int .i64 tick, .int .i64 epoch, .int .i64 user, .int .u64 sess, .int .u64 count, .int .i64 cmd, .int .i64 arg, .int .i64 code]] rfl hz (by have := HLL.out; simp; omega) (by have := HLL.out; simp; omega) hby1.size rfl ?_
  intro v2 wM hown2 hg2
  have hBM : Below w.heap.size w wM := hBy1.grown hg2 hBy1.size (fun g hg => Nat.le_trans hB3.size (hown1.size g hg).1)
  have hbM : Below w2.heap.size w2 wM := hby1.grown hg2 hby1.size (fun g hg => (hown1.size g hg).1)
  have SM := SC.out _ hbM
  have hown2 : OwnR 25 9 wM w2.heap.size v2 ((l ++ [(⟨kind, tick, epoch, user, sess, count, cmd, arg, code⟩ : En)]).map En.row) := by rw [map_row]; exact hown2
  obtain ⟨A5, n5, c5, rfl, hus⟩ := own_ens hown2
  have HUS := Lib.hid hus
  refine hKq.out _ _ SM (fun hHeld0 => ?_)
  clear hKq Kq hHeld SM hown1 hown2 hg2 hz hus
  have hHeld := hHeld0
  clear hHeld0
  try simp only [Act.put, List.setIfInBounds_toArray, List.set_cons_zero, List.set_cons_succ]
  refine take_run 5 (.slice A5 n5 c5) rfl (by kernel_rfl) (by kernel_rfl) (by kernel_rfl) (fun _ _ _ h => h) rfl hHeld (fun w => ?_) ?_
  · go_simp
  simp only [Act.put, List.setIfInBounds_toArray, List.set_cons_zero, List.set_cons_succ]
  refine wpAnyH_done (by kernel_rfl) ?_ _
  clear hHeld
  all_goals
    rcases e1 with e1 | ⟨e1, e2⟩
    all_goals
      go_wp2_with (go_at_call 19; (with_reducible refine (esame_any A n c l A5 n5 c5 (l ++ [(⟨kind, tick, epoch, user, sess, count, cmd, arg, code⟩ : En)]) wM (HL.out.below hBM) HUS.out).mono ?_); rintro e w6 ⟨he, hbx⟩; rw [HMORE.out] at he; subst he; have hb6 := hbM.trans (hbx.mono hbM.size); have HBw6 := Lib.hid (hBM.trans (hbx.mono hBM.size)); have HX6 := Lib.hid (show ∀ X, Below w6.heap.size w6 X → X.rangeAt w.heap.size 0 (En.row ⟨kind, tick, epoch, user, sess, count, cmd, arg, code⟩) from fun X hX => SC.out X (hb6.trans (hX.mono hb6.size))); clear hbx hb6)
      go_ret
      exact ⟨rfl, HBw6.out⟩
set_option maxRecDepth 100000 in
set_option maxHeartbeats 4000000 in
theorem esamew_in (A : Option Addr) (n c : Nat) (l : List En) (u : En) (i : Int) (w : World) (hl : Ens w A n c l) (h : n ≤ 300) (j : Nat) (hi : i = j) (hj : j < n) :
    Calls Try.prog 8 #[.slice A n c, enV u, .int .i64 i] w fun e w' => e = .returned (.bool true) ∧ Below w.heap.size w w' := by
  have hn := hl.small
  have h1 : (n : Int) ≤ 300 := by omega
  have HL := Lib.hid hl
  have HLL := Lib.hid hl.len
  subst hi
  obtain ⟨b, off, v, rfl, hv, hr⟩ := hl.range j hj
  have HR := Lib.hid hr
  have HSET := Lib.hid (same_set hv u)
  obtain ⟨E, hE⟩ : ∃ E, decide (v = u) = E := ⟨_, rfl⟩
  have HE := Lib.hid hE
  have e1 : decide ((j : Int) < 0) = false := by rw [decide_eq_false_iff_not]; omega
  have e2 : decide ((n : Int) ≤ (j : Int)) = false := by rw [decide_eq_false_iff_not]; omega
  have q0 : 0 ≤ (j : Int) := by omega
  have q1 : (j : Int) < n := by omega
  clear hr hv hE
  have HSELF := Lib.hid (same_self l)
  rcases u with ⟨kind, tick, epoch, user, sess, count, cmd, arg, code⟩
  have HMORE := Lib.hid (same_more l ⟨kind, tick, epoch, user, sess, count, cmd, arg, code⟩)
  simp only [enV, enA, En.row]
  clear hl
  go_enter Try.func8, Try.ntmps8
  go_wp2_with (first | (go_at_call 9; refine (eawake_any _).mono ?_; rintro e w1 ⟨rfl, hb1⟩; have hx1 := after_alloc hb1; have RX := Lib.hid (show ∀ X, Below w1.heap.size w1 X → X.rangeAt w.heap.size 0 (En.row ⟨kind, tick, epoch, user, sess, count, cmd, arg, code⟩) from fun X hX => ent_range ((hX.block _ (Array.getElem?_eq_some_iff.1 hx1).1).trans hx1)); have HBw1 := Lib.hid (after_one hb1).1; clear hb1 hx1) | (go_at_call 19; (with_reducible refine (esame_any (some ⟨b, off, none⟩) n c l (some ⟨b, off, none⟩) n c l w1 (HL.out.below HBw1.out) (HL.out.below HBw1.out)).mono ?_); rintro e w2 ⟨he, hbx⟩; rw [HSELF.out] at he; subst he; have RX := Lib.hid (show ∀ X, Below w2.heap.size w2 X → X.rangeAt w.heap.size 0 (En.row ⟨kind, tick, epoch, user, sess, count, cmd, arg, code⟩) from fun X hX => RX.out X (hbx.trans (hX.mono hbx.size))); have HBw2 := Lib.hid (HBw1.out.trans (hbx.mono HBw1.out.size)); clear hbx))
  obtain ⟨Y0, hY0⟩ : ∃ Y, w2.drew = Y := ⟨_, rfl⟩
  have hB3 := HBw2.out
  have hb0 : Below w2.heap.size w2 Y0 := by rw [← hY0]; exact (Below.refl _ w2).drew
  have hBd : Below w.heap.size w Y0 := hB3.trans (hb0.mono hB3.size)
  have SC := Lib.hid (show ∀ X, Below w2.heap.size w2 X → (fun w' => w'.rangeAt w.heap.size 0 (En.row ⟨kind, tick, epoch, user, sess, count, cmd, arg, code⟩)) X from fun X hX => RX.out _ hX)
  have Sd := SC.out _ hb0
  refine wp_region_held_drew (S := (fun w' => w'.rangeAt w.heap.size 0 (En.row ⟨kind, tick, epoch, user, sess, count, cmd, arg, code⟩))) (by kernel_rfl) (by rw [hY0]; exact Sd) (fun hHeld => ?_)
  rw [hY0] at hHeld ⊢
  clear hY0 Sd
  refine take_move 0 (.tmp 0) (.slice (some ⟨b, off, none⟩) n c) rfl rfl rfl (by kernel_rfl) (by kernel_rfl) (by kernel_rfl) (fun _ _ _ h => h) rfl hHeld ?_
  simp only [Act.put, List.setIfInBounds_toArray, List.set_cons_zero, List.set_cons_succ]
  refine take_if 2 (.agg #[.int .i64 kind, .int .i64 tick, .int .i64 epoch, .int .i64 user, .int .u64 sess, .int .u64 count, .int .i64 cmd, .int .i64 arg, .int .i64 code]) rfl (by kernel_rfl) (by kernel_rfl) (by kernel_rfl) (fun _ _ _ h => h) rfl hHeld (fun w' hw' => ?_) ?_
  · exact run_load_en (u := ⟨kind, tick, epoch, user, sess, count, cmd, arg, code⟩) rfl rfl hw'
  simp only [Act.put, List.setIfInBounds_toArray, List.set_cons_zero, List.set_cons_succ]
  refine two_steps 1 3 (by kernel_rfl) rfl rfl (fun Kq hKq => ?_) (fun Kq hKq => ?_)
  refine step_append_r 27 25 9 72 _ _ rfl Try.underlying27 info_entry (by omega) w2.heap.size (.slice none 0 0) [] rfl (OwnR.nil _ _ _ _) (some ⟨b, off, none⟩) n c (l.map En.row) rfl (HL.out.below hBd).rws (by simp; omega) (by simp; omega) hb0.size rfl ?_
  intro v1 y1 hown1 hg1
  have hBy1 : Below w.heap.size w y1 := hBd.grown hg1 hBd.size (fun g hg => by simp [Value.ownBlock] at hg)
  have hby1 : Below w2.heap.size w2 y1 := hb0.grown hg1 hb0.size (fun g hg => by simp [Value.ownBlock] at hg)
  have Sy1 := SC.out _ hby1
  refine hKq.out _ _ Sy1 (fun hHeld0 => ?_)
  clear hKq Kq hHeld Sy1 hg1
  have hHeld := hHeld0
  clear hHeld0
  try simp only [Act.put, List.setIfInBounds_toArray, List.set_cons_zero, List.set_cons_succ]
  refine one_step 3 (by kernel_rfl) rfl (fun Kq hKq => ?_)
  have hBz := hBy1.trans ((one_alloc y1 (.cells #[.int .i64 kind, .int .i64 tick, .int .i64 epoch, .int .i64 user, .int .u64 sess, .int .u64 count, .int .i64 cmd, .int .i64 arg, .int .i64 code] 25)).mono hBy1.size)
  have hbz := hby1.trans ((one_alloc y1 (.cells #[.int .i64 kind, .int .i64 tick, .int .i64 epoch, .int .i64 user, .int .u64 sess, .int .u64 count, .int .i64 cmd, .int .i64 arg, .int .i64 code] 25)).mono hby1.size)
  have Sz := SC.out _ hbz
  have hz := one_rws 9 25 y1 [.int .i64 kind, .int .i64 tick, .int .i64 epoch, .int .i64 user, .int .u64 sess, .int .u64 count, .int .i64 cmd, .int .i64 arg, .int .i64 code] rfl (row_one9 ⟨kind, tick, epoch, user, sess, count, cmd, arg, code⟩)
  have hown1 := hown1.more (.cells #[.int .i64 kind, .int .i64 tick, .int .i64 epoch, .int .i64 user, .int .u64 sess, .int .u64 count, .int .i64 cmd, .int .i64 arg, .int .i64 code] 25)
  go_simp
  refine hKq.out _ _ Sz (fun hHeld0 => ?_)
  clear hKq Kq hHeld Sz 
  have hHeld := hHeld0
  clear hHeld0
  try simp only [Act.put, List.setIfInBounds_toArray, List.set_cons_zero, List.set_cons_succ]
  refine one_step 4 (by kernel_rfl) rfl (fun Kq hKq => ?_)
  refine step_append_r 27 25 9 72 _ _ rfl Try.underlying27 info_entry (by omega) w2.heap.size v1 ([] ++ l.map En.row) rfl hown1 _ 1 1 [[.int .i64 kind, .int .i64 tick, .int .i64 epoch, .int .i64 user, .int .u64 sess, .int .u64 count, .int .i64 cmd, .int .i64 arg, .int .i64 code]] rfl hz (by have := HLL.out; simp; omega) (by have := HLL.out; simp; omega) hbz.size rfl ?_
  intro v2 wM hown2 hg2
  have hBM : Below w.heap.size w wM := hBz.grown hg2 hBz.size (fun g hg => Nat.le_trans hB3.size (hown1.size g hg).1)
  have hbM : Below w2.heap.size w2 wM := hbz.grown hg2 hbz.size (fun g hg => (hown1.size g hg).1)
  have SM := SC.out _ hbM
  have hown2 : OwnR 25 9 wM w2.heap.size v2 ((l ++ [(⟨kind, tick, epoch, user, sess, count, cmd, arg, code⟩ : En)]).map En.row) := by rw [map_row]; exact hown2
  obtain ⟨A5, n5, c5, rfl, hus⟩ := own_ens hown2
  have HUS := Lib.hid hus
  refine hKq.out _ _ SM (fun hHeld0 => ?_)
  clear hKq Kq hHeld SM hown1 hown2 hg2 hz hus
  have hHeld := hHeld0
  clear hHeld0
  try simp only [Act.put, List.setIfInBounds_toArray, List.set_cons_zero, List.set_cons_succ]
  refine take_run 5 (.slice A5 n5 c5) rfl (by kernel_rfl) (by kernel_rfl) (by kernel_rfl) (fun _ _ _ h => h) rfl hHeld (fun w => ?_) ?_
  · go_simp
  simp only [Act.put, List.setIfInBounds_toArray, List.set_cons_zero, List.set_cons_succ]
  refine wpAnyH_done (by kernel_rfl) ?_ _
  clear hHeld
  rotate_left
  have hBz := hBd.trans ((one_alloc Y0 (.cells #[.int .i64 kind, .int .i64 tick, .int .i64 epoch, .int .i64 user, .int .u64 sess, .int .u64 count, .int .i64 cmd, .int .i64 arg, .int .i64 code] 25)).mono hBd.size)
  have hbz := hb0.trans ((one_alloc Y0 (.cells #[.int .i64 kind, .int .i64 tick, .int .i64 epoch, .int .i64 user, .int .u64 sess, .int .u64 count, .int .i64 cmd, .int .i64 arg, .int .i64 code] 25)).mono hb0.size)
  have Sz := SC.out _ hbz
  have hz := one_rws 9 25 Y0 [.int .i64 kind, .int .i64 tick, .int .i64 epoch, .int .i64 user, .int .u64 sess, .int .u64 count, .int .i64 cmd, .int .i64 arg, .int .i64 code] rfl (row_one9 ⟨kind, tick, epoch, user, sess, count, cmd, arg, code⟩)
  go_simp
  refine hKq.out _ _ Sz (fun hHeld0 => ?_)
  clear hKq Kq hHeld Sz 
  have hHeld := hHeld0
  clear hHeld0
  try simp only [Act.put, List.setIfInBounds_toArray, List.set_cons_zero, List.set_cons_succ]
  refine one_step 1 (by kernel_rfl) rfl (fun Kq hKq => ?_)
  refine step_append_r 27 25 9 72 _ _ rfl Try.underlying27 info_entry (by omega) w2.heap.size (.slice none 0 0) [] rfl (OwnR.nil _ _ _ _) (some ⟨b, off, none⟩) n c (l.map En.row) rfl (HL.out.below hBz).rws (by simp; omega) (by simp; omega) hbz.size rfl ?_
  intro v1 y1 hown1 hg1
  have hBy1 : Below w.heap.size w y1 := hBz.grown hg1 hBz.size (fun g hg => by simp [Value.ownBlock] at hg)
  have hby1 : Below w2.heap.size w2 y1 := hbz.grown hg1 hbz.size (fun g hg => by simp [Value.ownBlock] at hg)
  have Sy1 := SC.out _ hby1
  have hz := hz.grown hg1 (fun b off e => by intro e2; simp [Value.ownBlock] at e2)
  refine hKq.out _ _ Sy1 (fun hHeld0 => ?_)
  clear hKq Kq hHeld Sy1 hg1
  have hHeld := hHeld0
  clear hHeld0
  try simp only [Act.put, List.setIfInBounds_toArray, List.set_cons_zero, List.set_cons_succ]
  refine one_step 4 (by kernel_rfl) rfl (fun Kq hKq => ?_)
  refine step_append_r 27 25 9 72 _ _ rfl Try.underlying27 info_entry (by omega) w2.heap.size v1 ([] ++ l.map En.row) rfl hown1 _ 1 1 [[.int .i64 kind, .int .i64 tick, .int .i64 epoch, .int .i64 user, .int .u64 sess, .int .u64 count, .int .i64 cmd, .int .i64 arg, .int .i64 code]] rfl hz (by have := HLL.out; simp; omega) (by have := HLL.out; simp; omega) hby1.size rfl ?_
  intro v2 wM hown2 hg2
  have hBM : Below w.heap.size w wM := hBy1.grown hg2 hBy1.size (fun g hg => Nat.le_trans hB3.size (hown1.size g hg).1)
  have hbM : Below w2.heap.size w2 wM := hby1.grown hg2 hby1.size (fun g hg => (hown1.size g hg).1)
  have SM := SC.out _ hbM
  have hown2 : OwnR 25 9 wM w2.heap.size v2 ((l ++ [(⟨kind, tick, epoch, user, sess, count, cmd, arg, code⟩ : En)]).map En.row) := by rw [map_row]; exact hown2
  obtain ⟨A5, n5, c5, rfl, hus⟩ := own_ens hown2
  have HUS := Lib.hid hus
  refine hKq.out _ _ SM (fun hHeld0 => ?_)
  clear hKq Kq hHeld SM hown1 hown2 hg2 hz hus
  have hHeld := hHeld0
  clear hHeld0
  try simp only [Act.put, List.setIfInBounds_toArray, List.set_cons_zero, List.set_cons_succ]
  refine take_run 5 (.slice A5 n5 c5) rfl (by kernel_rfl) (by kernel_rfl) (by kernel_rfl) (fun _ _ _ h => h) rfl hHeld (fun w => ?_) ?_
  · go_simp
  simp only [Act.put, List.setIfInBounds_toArray, List.set_cons_zero, List.set_cons_succ]
  refine wpAnyH_done (by kernel_rfl) ?_ _
  clear hHeld
  all_goals
    go_wp2_with (first
      | (go_at_call 19; (with_reducible refine (esame_any (some ⟨b, off, none⟩) n c l A5 n5 c5 (l ++ [(⟨kind, tick, epoch, user, sess, count, cmd, arg, code⟩ : En)]) wM (HL.out.below hBM) HUS.out).mono ?_); rintro e w6 ⟨he, hbx⟩; rw [HMORE.out] at he; subst he; have hb6 := hbM.trans (hbx.mono hbM.size); have HBw6 := Lib.hid (hBM.trans (hbx.mono hBM.size)); have HX6 := Lib.hid (show ∀ X, Below w6.heap.size w6 X → X.rangeAt w.heap.size 0 (En.row ⟨kind, tick, epoch, user, sess, count, cmd, arg, code⟩) from fun X hX => SC.out X (hb6.trans (hX.mono hb6.size))); clear hbx hb6)
      | (at_builtin; refine wpList_append_r rfl 27 25 9 72 _ _ rfl Try.underlying27 info_entry (by omega) w6.heap.size (.slice none 0 0) [] rfl (OwnR.nil _ _ _ _) (some ⟨b, off, none⟩) n c (l.map En.row) rfl (HL.out.below HBw6.out).rws (by simp; omega) (by simp; omega) (Nat.le_refl _) ?_; intro v7 w7 hown7 hg7; obtain ⟨g7, c7, rfl, hBg, hlt7, hth7, hput7⟩ := ens_put (l := l) hown7 HLL.out j hj; have hb7 : Below w6.heap.size w6 w7 := (Below.refl _ w6).grown hg7 (Nat.le_refl _) (fun g hg => by simp [Value.ownBlock] at hg); have HX7 := Lib.hid (show ∀ X, Below w7.heap.size w7 X → X.rangeAt w.heap.size 0 (En.row ⟨kind, tick, epoch, user, sess, count, cmd, arg, code⟩) from fun X hX => HX6.out X (hb7.trans (hX.mono hb7.size))); have hx7 := HX7.out w7 (Below.refl _ _); have HPUT := Lib.hid (hput7 ⟨kind, tick, epoch, user, sess, count, cmd, arg, code⟩); clear hg7 hown7 hput7)
      | ((with_reducible refine wpList_load_on 25 _ rfl w.heap.size 0 ?hx8 (En.row ⟨kind, tick, epoch, user, sess, count, cmd, arg, code⟩) #[.int .i64 kind, .int .i64 tick, .int .i64 epoch, .int .i64 user, .int .u64 sess, .int .u64 count, .int .i64 cmd, .int .i64 arg, .int .i64 code] ?ht8 _ hx7 Try.underlying25 ?hd8 ?hi8 ?_ ?hw8); (case hx8 => rfl); (case ht8 => rfl); (case hd8 => rfl); (case hi8 => kernel_rfl); (case hw8 => rfl))
      | ((with_reducible refine store_en rfl _ _ rfl rfl g7 j ⟨kind, tick, epoch, user, sess, count, cmd, arg, code⟩ ?hx9 ?hy9 hth7 ?_); (case hx9 => rfl); (case hy9 => rfl); intro w8 hw8; have hb8 : Below w6.heap.size w6 w8 := (by rw [hw8]; exact setCells_below hBg _ _ _ hb7); have HO8 := Lib.hid (show Ens w8 (some ⟨g7, 0, none⟩) n c7 (l.set j ⟨kind, tick, epoch, user, sess, count, cmd, arg, code⟩) by rw [hw8]; exact HPUT.out); have hx8 := HX6.out w8 hb8; clear hw8 hth7 hx7))
    try simp only [Act.put]
    obtain ⟨Y8, hY8⟩ : ∃ Y, w8.drew = Y := ⟨_, rfl⟩
    have hB8 := HBw6.out.trans (hb8.mono HBw6.out.size)
    have HBY := Lib.hid (show Below w.heap.size w Y8 by rw [← hY8]; exact hB8.drew)
    have HO8 := Lib.hid (show Ens Y8 (some ⟨g7, 0, none⟩) n c7 (l.set j ⟨kind, tick, epoch, user, sess, count, cmd, arg, code⟩) from HO8.out.below (by rw [← hY8]; exact (Below.refl _ w8).drew))
    have hS8 : (fun w' => w'.rangeAt b (off + j * 9) v.row ∧ w'.rangeAt w.heap.size 0 (En.row ⟨kind, tick, epoch, user, sess, count, cmd, arg, code⟩)) Y8 := by rw [← hY8]; exact ⟨rangeAt_below HR.out hB8.drew, hx8⟩
    refine wp_region_held_drew (S := (fun w' => w'.rangeAt b (off + j * 9) v.row ∧ w'.rangeAt w.heap.size 0 (En.row ⟨kind, tick, epoch, user, sess, count, cmd, arg, code⟩))) (by kernel_rfl) (by rw [hY8]; exact hS8) (fun hHeld => ?_)
    rw [hY8] at hHeld ⊢
    clear hY8 hB8
    refine take_move 0 (.tmp 0) (.slice (some ⟨b, off, none⟩) n c) rfl rfl rfl (by kernel_rfl) (by kernel_rfl) (by kernel_rfl) (fun _ _ _ h => h) rfl hHeld ?_
    simp only [Act.put, List.setIfInBounds_toArray, List.set_cons_zero, List.set_cons_succ]
    refine take_move 1 (.tmp 9) (.slice (some ⟨g7, 0, none⟩) n c7) rfl rfl rfl (by kernel_rfl) (by kernel_rfl) (by kernel_rfl) (fun _ _ _ h => h) rfl hHeld ?_
    simp only [Act.put, List.setIfInBounds_toArray, List.set_cons_zero, List.set_cons_succ]
    refine take_move 3 (.tmp 0) (.slice (some ⟨b, off, none⟩) n c) rfl rfl rfl (by kernel_rfl) (by kernel_rfl) (by kernel_rfl) (fun _ _ _ h => h) rfl hHeld ?_
    simp only [Act.put, List.setIfInBounds_toArray, List.set_cons_zero, List.set_cons_succ]
    refine take_move 4 (.tmp 2) (.int .i64 j) rfl rfl rfl (by kernel_rfl) (by kernel_rfl) (by kernel_rfl) (fun _ _ _ h => h) rfl hHeld ?_
    simp only [Act.put, List.setIfInBounds_toArray, List.set_cons_zero, List.set_cons_succ]
    refine take_run 5 (.pointer (some ⟨b, off + j * 9, none⟩)) rfl (by kernel_rfl) (by kernel_rfl) (by kernel_rfl) (fun _ _ _ h => h) rfl hHeld (fun w => ?_) ?_
    · go_simp
    simp only [Act.put, List.setIfInBounds_toArray, List.set_cons_zero, List.set_cons_succ]
    refine take_if 6 (.agg (enA v)) rfl (by kernel_rfl) (by kernel_rfl) (by kernel_rfl) (fun _ _ _ h => h) rfl hHeld (fun w' hw' => ?_) ?_
    · exact run_load_en rfl rfl hw'.1
    simp only [Act.put, List.setIfInBounds_toArray, List.set_cons_zero, List.set_cons_succ]
    refine take_if 7 (.agg (enA ⟨kind, tick, epoch, user, sess, count, cmd, arg, code⟩)) rfl (by kernel_rfl) (by kernel_rfl) (by kernel_rfl) (fun _ _ _ h => h) rfl hHeld (fun w' hw' => ?_) ?_
    · exact run_load_en (u := ⟨kind, tick, epoch, user, sess, count, cmd, arg, code⟩) rfl rfl hw'.2
    simp only [Act.put, List.setIfInBounds_toArray, List.set_cons_zero, List.set_cons_succ]
    refine take_run 8 (.bool E) rfl (by kernel_rfl) (by kernel_rfl) (by kernel_rfl) (fun _ _ _ h => h) rfl hHeld (fun w => ?_) ?_
    · exact run_eq_en rfl rfl rfl (.inl ⟨rfl, rfl⟩) (by rw [← HE.out]; exact eq_ens v ⟨kind, tick, epoch, user, sess, count, cmd, arg, code⟩ w)
    simp only [Act.put, List.setIfInBounds_toArray, List.set_cons_zero, List.set_cons_succ]
    refine one_step 2 (by kernel_rfl) rfl (fun K hK => ?_)
    go_simp
    go_at_call 19
    refine (esame_any _ n c l _ n c7 (l.set j ⟨kind, tick, epoch, user, sess, count, cmd, arg, code⟩) Y8 (HL.out.below HBY.out) HO8.out).mono ?_
    rintro e w9 ⟨he, hb9⟩
    rw [HSET.out, HE.out] at he
    subst he
    have hS9 : _ ∧ _ := ⟨rangeAt_below hS8.1 hb9, rangeAt_below hS8.2 hb9⟩
    have HB9 := Lib.hid (HBY.out.trans (hb9.mono HBY.out.size))
    clear hb9
    refine hK.out _ _ hS9 (fun hHeld0 => ?_)
    clear hK K hHeld hS9
    have hHeld := hHeld0
    clear hHeld0
    try simp only [Act.put, List.setIfInBounds_toArray, List.set_cons_zero, List.set_cons_succ]
    refine take_run 9 (.bool true) rfl (by kernel_rfl) (by kernel_rfl) (by kernel_rfl) (fun _ _ _ h => h) rfl hHeld (fun w => ?_) ?_
    · go_simp
    simp only [Act.put, List.setIfInBounds_toArray, List.set_cons_zero, List.set_cons_succ]
    refine take_run 10 (.bool true) rfl (by kernel_rfl) (by kernel_rfl) (by kernel_rfl) (fun _ _ _ h => h) rfl hHeld (fun w => ?_) ?_
    · go_simp
    simp only [Act.put, List.setIfInBounds_toArray, List.set_cons_zero, List.set_cons_succ]
    refine wpAnyH_done (by kernel_rfl) ?_ _
    clear hHeld
    go_wp2
    go_ret
    exact ⟨rfl, HB9.out⟩
theorem esamew_any (A : Option Addr) (n c : Nat) (l : List En) (u : En) (i : Int) (w : World) (hl : Ens w A n c l) :
    Calls Try.prog 8 #[.slice A n c, enV u, .int .i64 i] w fun e w' => e = .returned (.bool true) ∧ Below w.heap.size w w' := by
  by_cases h : 300 < n
  · exact esamew_big A n c l u i w hl h
  · by_cases hi : i < 0 ∨ (n : Int) ≤ i
    · exact esamew_out A n c l u i w hl (by omega) hi
    · obtain ⟨j, rfl⟩ : ∃ j : Nat, i = j := ⟨i.toNat, by omega⟩
      exact esamew_in A n c l u j w hl (by omega) j rfl (by omega)
end Go.Proofs.Ytfjiefhicjnnnaa
