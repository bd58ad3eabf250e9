/- Joined texts: The walks over package store's done, for each method. The walks over package store's Write, Sync, Cut and Crash. The walks over package store's Write, Cut, Sync and Crash once more: what they give lies in new memory. A desk: a log at which something is done; a block of which parts are overwritten; slices.Clone of entries. -/
import Derived.Test.YtafmompplcaadaaGreatDoorAuJK
import Derived.Test.YtafmompplcaadaaGreatDoorAuJI
import Derived.Laws.CopyRow
/- The walks over package store's done, for each method. -/
namespace Go.Proofs.YtafmompplcaadaaGreatDoor
set_option maxRecDepth 100000
set_option linter.unusedVariables false
set_option linter.unusedSimpArgs false
open Go.RowKit

set_option maxHeartbeats 1000000 in
theorem done_write (s : Sp) (A : Option Addr) (n c : Nat) (x : Value) (r : Sp × Int) (w : World) (hb : Bts w A n c s.data) (hs : n ≤ 140737488355328) (hr : r.1.data.length ≤ 140737488355328)
    (hK : mayP s = true → ∀ W, Below w.heap.size w W → Calls Tryz.prog 70 #[s.val A n c, x] W (GSE r A n W)) (hno : mayP s = false → r = (s, 1)) :
    Calls Tryz.prog 69 #[s.val A n c, .func (.func 70) #[] #[], x] w fun e w' => ∃ A' n' c', e = .returned (.tuple #[r.1.val A' n' c', .int .i64 r.2]) ∧ Bts w' A' n' c' r.1.data ∧ (∀ a, A' = some a → w.heap.size ≤ a.block) ∧ Below w.heap.size w w' := by
  have hn := hb.small
  have hl := hb.len
  have hmm : mayP s = mayT s.cap n s.sure := by rw [mayP, hl]
  rw [hmm] at hK hno
  obtain ⟨cap, data, sure⟩ := s
  obtain ⟨⟨cap', data', sure'⟩, er⟩ := r
  unfold Sp.val at hK ⊢
  simp only at hb hK hno hl hr ⊢
  cases hm : mayT cap n sure with
  | false =>
    have hr2 := hno hm
    injection hr2 with e1 e2
    injection e1 with e3 e4 e5
    subst e2 e3 e4 e5
    have HM := Lib.hid hm
    have HB := Lib.hid hb
    clear hb hm hno hK hmm hl hr
    go_enter Tryz.func69, Tryz.ntmps69
    go_wp2_with (first
      | (go_at_call 42
         (with_reducible refine (stmay_any _ A n c _ _ hn).mono ?_)
         rintro e w2 ⟨he, hb2⟩
         rw [HM.out] at he
         subst he
         obtain ⟨hB2, hs2, y1, y2, y3⟩ := after_3 hb2
         have HX2 := Lib.hid (show BoxT w2 (w.heap.size + 1) 24 0 none 0 0 0 from y2)
         have HF2 := Lib.hid (show BoxT w2 (w.heap.size + 2) 80 _ A n c _ from y3)
         obtain ⟨x0, x1, x2⟩ := HF2.out.cells
         have HB2 := Lib.hid hB2
         have HS2 := Lib.hid hs2
         clear hb2 hB2 hs2 y1 y2 y3)
      | (go_at_call 48
         (with_reducible refine (clone_bts A n c _ w2 (HB.out.below HB2.out) hs).mono ?_)
         rintro e w3 ⟨A', c', rfl, hb3, hlo, hbel⟩
         have HX3 := Lib.hid (HX2.out.below hbel)
         have HF3 := Lib.hid (HF2.out.below hbel)
         clear x0 x1 x2
         obtain ⟨x0, x1, x2⟩ := HF3.out.cells
         obtain ⟨z0, z1, z2⟩ := HX3.out.cells
         have g0 := HX3.out.free 0
         have g1 := HX3.out.free 1
         have g2 := HX3.out.free 2
         have f1 := HF3.out.free 1
         have HB3 := Lib.hid hb3
         have HLO := Lib.hid hlo
         have HBE := Lib.hid (HB2.out.trans (hbel.mono HB2.out.size))
         clear hb3 hlo hbel))
    have hf : Far A' n w.heap.size (w.heap.size + 3) := fun a ha _ => .inr (Nat.le_trans HS2.out (HLO.out a ha))
    refine bodyPost_ret (v := .tuple #[.agg #[.int .i64 cap', .slice A' n c', .int .i64 sure'], .int .i64 1]) ?_ ?_ ?_
    · exact ret_store Tryz.results69 _ _ (w.heap.size + 1) 24 _ _ _ _ rfl (set3_heap _ _ _ ((heap_setCell_other _ _ _ _ (by simp)).trans HX3.out)) rfl
    · rfl
    · exact ⟨A', n, c', rfl, (HB3.out.set hf (by omega) (by omega) _).set3 hf (Nat.le_succ _) (by omega) _ _ _, (fun a ha => Nat.le_trans HB2.out.size (HLO.out a ha)), set3_below (below_at HBE.out (by omega) _ _) (Nat.le_succ _) _ _ _⟩
  | true =>
    have HM := Lib.hid hm
    have HB := Lib.hid hb
    have HK := Lib.hid (hK hm)
    have HR := Lib.hid hr
    clear hb hm hno hK hmm hl hr
    go_enter Tryz.func69, Tryz.ntmps69
    go_wp2_with (first
      | (go_at_call 42
         (with_reducible refine (stmay_any _ A n c _ _ hn).mono ?_)
         rintro e w2 ⟨he, hb2⟩
         rw [HM.out] at he
         subst he
         obtain ⟨hB2, hs2, y1, y2, y3⟩ := after_3 hb2
         have HX2 := Lib.hid (show BoxT w2 (w.heap.size + 1) 24 0 none 0 0 0 from y2)
         have HF2 := Lib.hid (show BoxT w2 (w.heap.size + 2) 80 _ A n c _ from y3)
         obtain ⟨x0, x1, x2⟩ := HF2.out.cells
         have HB2 := Lib.hid hB2
         have HS2 := Lib.hid hs2
         clear hb2 hB2 hs2 y1 y2 y3)
      | (go_at_call 70
         (with_reducible refine (HK.out w2 HB2.out).mono ?_)
         rintro e w3 ⟨A1, n1, c1, he, hb3, hlo3, hbel⟩
         have he2 : e = .returned (.tuple #[.agg #[.int .i64 cap', .slice A1 n1 c1, .int .i64 sure'], .int .i64 er]) := he
         clear he
         subst he2
         have hb3 : Bts w3 A1 n1 c1 data' := hb3
         have HX3 := Lib.hid (HX2.out.below hbel)
         have HF3 := Lib.hid (HF2.out.below hbel)
         clear x0 x1 x2
         obtain ⟨x0, x1, x2⟩ := HF3.out.cells
         have f0 := HF3.out.free 0
         have f1 := HF3.out.free 1
         have f2 := HF3.out.free 2
         have hf3 := far_loc HB.out hlo3 HS2.out
         have hsz3 : n1 ≤ 140737488355328 := by have := HR.out; have := hb3.len; omega
         have HB3 := Lib.hid (hb3.set3 hf3 (g := w.heap.size + 2) (by omega) (by omega) (.int .i64 cap') (.slice A1 n1 c1) (.int .i64 sure'))
         have HXS := Lib.hid (show BoxT (((w3.setCell ⟨w.heap.size + 2, 0, none⟩ (.int .i64 cap')).setCell ⟨w.heap.size + 2, 1, none⟩ (.slice A1 n1 c1)).setCell ⟨w.heap.size + 2, 2, none⟩ (.int .i64 sure')) (w.heap.size + 1) 24 0 none 0 0 0 from (heap_setCell_other _ _ _ _ (by simp)).trans ((heap_setCell_other _ _ _ _ (by simp)).trans ((heap_setCell_other _ _ _ _ (by simp)).trans HX3.out)))
         have HFS := Lib.hid (show BoxT (((w3.setCell ⟨w.heap.size + 2, 0, none⟩ (.int .i64 cap')).setCell ⟨w.heap.size + 2, 1, none⟩ (.slice A1 n1 c1)).setCell ⟨w.heap.size + 2, 2, none⟩ (.int .i64 sure')) (w.heap.size + 2) 80 cap' A1 n1 c1 sure' from set3_heap _ _ _ HF3.out)
         have hbs := set3_below (B := w.heap.size) (HB2.out.trans (hbel.mono HB2.out.size)) (g := w.heap.size + 2) (by omega) (.int .i64 cap') (.slice A1 n1 c1) (.int .i64 sure')
         have HLS := Lib.hid (show w.heap.size + 3 ≤ (((w3.setCell ⟨w.heap.size + 2, 0, none⟩ (.int .i64 cap')).setCell ⟨w.heap.size + 2, 1, none⟩ (.slice A1 n1 c1)).setCell ⟨w.heap.size + 2, 2, none⟩ (.int .i64 sure')).heap.size from by have := HS2.out; have := hbel.size; simp; omega)
         have HBS := Lib.hid hbs
         clear hb3 hlo3 hbel hf3 hbs)
      | (go_at_call 48
         (with_reducible refine (clone_bts A1 n1 c1 data' _ HB3.out hsz3).mono ?_)
         rintro e w4 ⟨A', c', rfl, hb4, hlo, hbel⟩
         have HX4 := Lib.hid (HXS.out.below hbel)
         have HF4 := Lib.hid (HFS.out.below hbel)
         clear x0 x1 x2 f0 f1 f2
         obtain ⟨x0, x1, x2⟩ := HF4.out.cells
         obtain ⟨z0, z1, z2⟩ := HX4.out.cells
         have g0 := HX4.out.free 0
         have g1 := HX4.out.free 1
         have g2 := HX4.out.free 2
         have f1 := HF4.out.free 1
         have HB4 := Lib.hid hb4
         have HLO := Lib.hid (fun a ha => Nat.le_trans HLS.out (hlo a ha))
         have HBE := Lib.hid (HBS.out.trans (hbel.mono HBS.out.size))
         clear hb4 hlo hbel))
    have hf : Far A' n1 w.heap.size (w.heap.size + 3) := fun a ha _ => .inr (HLO.out a ha)
    refine bodyPost_ret (v := .tuple #[.agg #[.int .i64 cap', .slice A' n1 c', .int .i64 sure'], .int .i64 er]) ?_ ?_ ?_
    · exact ret_store Tryz.results69 _ _ (w.heap.size + 1) 24 _ _ _ _ rfl (set3_heap _ _ _ ((heap_setCell_other _ _ _ _ (by simp)).trans HX4.out)) rfl
    · rfl
    · exact ⟨A', n1, c', rfl, (HB4.out.set hf (by omega) (by omega) _).set3 hf (Nat.le_succ _) (by omega) _ _ _, (fun a ha => Nat.le_trans (Nat.le_add_right _ 3) (HLO.out a ha)), set3_below (below_at HBE.out (by omega) _ _) (Nat.le_succ _) _ _ _⟩
set_option maxHeartbeats 1000000 in
theorem done_cut (s : Sp) (A : Option Addr) (n c : Nat) (x : Value) (r : Sp × Int) (w : World) (hb : Bts w A n c s.data) (hs : n ≤ 140737488355328) (hr : r.1.data.length ≤ 140737488355328)
    (hK : mayP s = true → ∀ W, Below w.heap.size w W → Calls Tryz.prog 54 #[s.val A n c, x] W (GSE r A n W)) (hno : mayP s = false → r = (s, 1)) :
    Calls Tryz.prog 53 #[s.val A n c, .func (.func 54) #[] #[], x] w fun e w' => ∃ A' n' c', e = .returned (.tuple #[r.1.val A' n' c', .int .i64 r.2]) ∧ Bts w' A' n' c' r.1.data ∧ (∀ a, A' = some a → w.heap.size ≤ a.block) ∧ Below w.heap.size w w' := by
  have hn := hb.small
  have hl := hb.len
  have hmm : mayP s = mayT s.cap n s.sure := by rw [mayP, hl]
  rw [hmm] at hK hno
  obtain ⟨cap, data, sure⟩ := s
  obtain ⟨⟨cap', data', sure'⟩, er⟩ := r
  unfold Sp.val at hK ⊢
  simp only at hb hK hno hl hr ⊢
  cases hm : mayT cap n sure with
  | false =>
    have hr2 := hno hm
    injection hr2 with e1 e2
    injection e1 with e3 e4 e5
    subst e2 e3 e4 e5
    have HM := Lib.hid hm
    have HB := Lib.hid hb
    clear hb hm hno hK hmm hl hr
    go_enter Tryz.func53, Tryz.ntmps53
    go_wp2_with (first
      | (go_at_call 42
         (with_reducible refine (stmay_any _ A n c _ _ hn).mono ?_)
         rintro e w2 ⟨he, hb2⟩
         rw [HM.out] at he
         subst he
         obtain ⟨hB2, hs2, y1, y2, y3⟩ := after_3 hb2
         have HX2 := Lib.hid (show BoxT w2 (w.heap.size + 1) 24 0 none 0 0 0 from y2)
         have HF2 := Lib.hid (show BoxT w2 (w.heap.size + 2) 80 _ A n c _ from y3)
         obtain ⟨x0, x1, x2⟩ := HF2.out.cells
         have HB2 := Lib.hid hB2
         have HS2 := Lib.hid hs2
         clear hb2 hB2 hs2 y1 y2 y3)
      | (go_at_call 48
         (with_reducible refine (clone_bts A n c _ w2 (HB.out.below HB2.out) hs).mono ?_)
         rintro e w3 ⟨A', c', rfl, hb3, hlo, hbel⟩
         have HX3 := Lib.hid (HX2.out.below hbel)
         have HF3 := Lib.hid (HF2.out.below hbel)
         clear x0 x1 x2
         obtain ⟨x0, x1, x2⟩ := HF3.out.cells
         obtain ⟨z0, z1, z2⟩ := HX3.out.cells
         have g0 := HX3.out.free 0
         have g1 := HX3.out.free 1
         have g2 := HX3.out.free 2
         have f1 := HF3.out.free 1
         have HB3 := Lib.hid hb3
         have HLO := Lib.hid hlo
         have HBE := Lib.hid (HB2.out.trans (hbel.mono HB2.out.size))
         clear hb3 hlo hbel))
    have hf : Far A' n w.heap.size (w.heap.size + 3) := fun a ha _ => .inr (Nat.le_trans HS2.out (HLO.out a ha))
    refine bodyPost_ret (v := .tuple #[.agg #[.int .i64 cap', .slice A' n c', .int .i64 sure'], .int .i64 1]) ?_ ?_ ?_
    · exact ret_store Tryz.results53 _ _ (w.heap.size + 1) 24 _ _ _ _ rfl (set3_heap _ _ _ ((heap_setCell_other _ _ _ _ (by simp)).trans HX3.out)) rfl
    · rfl
    · exact ⟨A', n, c', rfl, (HB3.out.set hf (by omega) (by omega) _).set3 hf (Nat.le_succ _) (by omega) _ _ _, (fun a ha => Nat.le_trans HB2.out.size (HLO.out a ha)), set3_below (below_at HBE.out (by omega) _ _) (Nat.le_succ _) _ _ _⟩
  | true =>
    have HM := Lib.hid hm
    have HB := Lib.hid hb
    have HK := Lib.hid (hK hm)
    have HR := Lib.hid hr
    clear hb hm hno hK hmm hl hr
    go_enter Tryz.func53, Tryz.ntmps53
    go_wp2_with (first
      | (go_at_call 42
         (with_reducible refine (stmay_any _ A n c _ _ hn).mono ?_)
         rintro e w2 ⟨he, hb2⟩
         rw [HM.out] at he
         subst he
         obtain ⟨hB2, hs2, y1, y2, y3⟩ := after_3 hb2
         have HX2 := Lib.hid (show BoxT w2 (w.heap.size + 1) 24 0 none 0 0 0 from y2)
         have HF2 := Lib.hid (show BoxT w2 (w.heap.size + 2) 80 _ A n c _ from y3)
         obtain ⟨x0, x1, x2⟩ := HF2.out.cells
         have HB2 := Lib.hid hB2
         have HS2 := Lib.hid hs2
         clear hb2 hB2 hs2 y1 y2 y3)
      | (go_at_call 54
         (with_reducible refine (HK.out w2 HB2.out).mono ?_)
         rintro e w3 ⟨A1, n1, c1, he, hb3, hlo3, hbel⟩
         have he2 : e = .returned (.tuple #[.agg #[.int .i64 cap', .slice A1 n1 c1, .int .i64 sure'], .int .i64 er]) := he
         clear he
         subst he2
         have hb3 : Bts w3 A1 n1 c1 data' := hb3
         have HX3 := Lib.hid (HX2.out.below hbel)
         have HF3 := Lib.hid (HF2.out.below hbel)
         clear x0 x1 x2
         obtain ⟨x0, x1, x2⟩ := HF3.out.cells
         have f0 := HF3.out.free 0
         have f1 := HF3.out.free 1
         have f2 := HF3.out.free 2
         have hf3 := far_loc HB.out hlo3 HS2.out
         have hsz3 : n1 ≤ 140737488355328 := by have := HR.out; have := hb3.len; omega
         have HB3 := Lib.hid (hb3.set3 hf3 (g := w.heap.size + 2) (by omega) (by omega) (.int .i64 cap') (.slice A1 n1 c1) (.int .i64 sure'))
         have HXS := Lib.hid (show BoxT (((w3.setCell ⟨w.heap.size + 2, 0, none⟩ (.int .i64 cap')).setCell ⟨w.heap.size + 2, 1, none⟩ (.slice A1 n1 c1)).setCell ⟨w.heap.size + 2, 2, none⟩ (.int .i64 sure')) (w.heap.size + 1) 24 0 none 0 0 0 from (heap_setCell_other _ _ _ _ (by simp)).trans ((heap_setCell_other _ _ _ _ (by simp)).trans ((heap_setCell_other _ _ _ _ (by simp)).trans HX3.out)))
         have HFS := Lib.hid (show BoxT (((w3.setCell ⟨w.heap.size + 2, 0, none⟩ (.int .i64 cap')).setCell ⟨w.heap.size + 2, 1, none⟩ (.slice A1 n1 c1)).setCell ⟨w.heap.size + 2, 2, none⟩ (.int .i64 sure')) (w.heap.size + 2) 80 cap' A1 n1 c1 sure' from set3_heap _ _ _ HF3.out)
         have hbs := set3_below (B := w.heap.size) (HB2.out.trans (hbel.mono HB2.out.size)) (g := w.heap.size + 2) (by omega) (.int .i64 cap') (.slice A1 n1 c1) (.int .i64 sure')
         have HLS := Lib.hid (show w.heap.size + 3 ≤ (((w3.setCell ⟨w.heap.size + 2, 0, none⟩ (.int .i64 cap')).setCell ⟨w.heap.size + 2, 1, none⟩ (.slice A1 n1 c1)).setCell ⟨w.heap.size + 2, 2, none⟩ (.int .i64 sure')).heap.size from by have := HS2.out; have := hbel.size; simp; omega)
         have HBS := Lib.hid hbs
         clear hb3 hlo3 hbel hf3 hbs)
      | (go_at_call 48
         (with_reducible refine (clone_bts A1 n1 c1 data' _ HB3.out hsz3).mono ?_)
         rintro e w4 ⟨A', c', rfl, hb4, hlo, hbel⟩
         have HX4 := Lib.hid (HXS.out.below hbel)
         have HF4 := Lib.hid (HFS.out.below hbel)
         clear x0 x1 x2 f0 f1 f2
         obtain ⟨x0, x1, x2⟩ := HF4.out.cells
         obtain ⟨z0, z1, z2⟩ := HX4.out.cells
         have g0 := HX4.out.free 0
         have g1 := HX4.out.free 1
         have g2 := HX4.out.free 2
         have f1 := HF4.out.free 1
         have HB4 := Lib.hid hb4
         have HLO := Lib.hid (fun a ha => Nat.le_trans HLS.out (hlo a ha))
         have HBE := Lib.hid (HBS.out.trans (hbel.mono HBS.out.size))
         clear hb4 hlo hbel))
    have hf : Far A' n1 w.heap.size (w.heap.size + 3) := fun a ha _ => .inr (HLO.out a ha)
    refine bodyPost_ret (v := .tuple #[.agg #[.int .i64 cap', .slice A' n1 c', .int .i64 sure'], .int .i64 er]) ?_ ?_ ?_
    · exact ret_store Tryz.results53 _ _ (w.heap.size + 1) 24 _ _ _ _ rfl (set3_heap _ _ _ ((heap_setCell_other _ _ _ _ (by simp)).trans HX4.out)) rfl
    · rfl
    · exact ⟨A', n1, c', rfl, (HB4.out.set hf (by omega) (by omega) _).set3 hf (Nat.le_succ _) (by omega) _ _ _, (fun a ha => Nat.le_trans (Nat.le_add_right _ 3) (HLO.out a ha)), set3_below (below_at HBE.out (by omega) _ _) (Nat.le_succ _) _ _ _⟩
set_option maxHeartbeats 1000000 in
theorem done_crash (s : Sp) (A : Option Addr) (n c : Nat) (x : Value) (r : Sp × Int) (w : World) (hb : Bts w A n c s.data) (hs : n ≤ 140737488355328) (hr : r.1.data.length ≤ 140737488355328)
    (hK : mayP s = true → ∀ W, Below w.heap.size w W → Calls Tryz.prog 62 #[s.val A n c, x] W (GSE r A n W)) (hno : mayP s = false → r = (s, 1)) :
    Calls Tryz.prog 53 #[s.val A n c, .func (.func 62) #[] #[], x] w fun e w' => ∃ A' n' c', e = .returned (.tuple #[r.1.val A' n' c', .int .i64 r.2]) ∧ Bts w' A' n' c' r.1.data ∧ (∀ a, A' = some a → w.heap.size ≤ a.block) ∧ Below w.heap.size w w' := by
  have hn := hb.small
  have hl := hb.len
  have hmm : mayP s = mayT s.cap n s.sure := by rw [mayP, hl]
  rw [hmm] at hK hno
  obtain ⟨cap, data, sure⟩ := s
  obtain ⟨⟨cap', data', sure'⟩, er⟩ := r
  unfold Sp.val at hK ⊢
  simp only at hb hK hno hl hr ⊢
  cases hm : mayT cap n sure with
  | false =>
    have hr2 := hno hm
    injection hr2 with e1 e2
    injection e1 with e3 e4 e5
    subst e2 e3 e4 e5
    have HM := Lib.hid hm
    have HB := Lib.hid hb
    clear hb hm hno hK hmm hl hr
    go_enter Tryz.func53, Tryz.ntmps53
    go_wp2_with (first
      | (go_at_call 42
         (with_reducible refine (stmay_any _ A n c _ _ hn).mono ?_)
         rintro e w2 ⟨he, hb2⟩
         rw [HM.out] at he
         subst he
         obtain ⟨hB2, hs2, y1, y2, y3⟩ := after_3 hb2
         have HX2 := Lib.hid (show BoxT w2 (w.heap.size + 1) 24 0 none 0 0 0 from y2)
         have HF2 := Lib.hid (show BoxT w2 (w.heap.size + 2) 80 _ A n c _ from y3)
         obtain ⟨x0, x1, x2⟩ := HF2.out.cells
         have HB2 := Lib.hid hB2
         have HS2 := Lib.hid hs2
         clear hb2 hB2 hs2 y1 y2 y3)
      | (go_at_call 48
         (with_reducible refine (clone_bts A n c _ w2 (HB.out.below HB2.out) hs).mono ?_)
         rintro e w3 ⟨A', c', rfl, hb3, hlo, hbel⟩
         have HX3 := Lib.hid (HX2.out.below hbel)
         have HF3 := Lib.hid (HF2.out.below hbel)
         clear x0 x1 x2
         obtain ⟨x0, x1, x2⟩ := HF3.out.cells
         obtain ⟨z0, z1, z2⟩ := HX3.out.cells
         have g0 := HX3.out.free 0
         have g1 := HX3.out.free 1
         have g2 := HX3.out.free 2
         have f1 := HF3.out.free 1
         have HB3 := Lib.hid hb3
         have HLO := Lib.hid hlo
         have HBE := Lib.hid (HB2.out.trans (hbel.mono HB2.out.size))
         clear hb3 hlo hbel))
    have hf : Far A' n w.heap.size (w.heap.size + 3) := fun a ha _ => .inr (Nat.le_trans HS2.out (HLO.out a ha))
    refine bodyPost_ret (v := .tuple #[.agg #[.int .i64 cap', .slice A' n c', .int .i64 sure'], .int .i64 1]) ?_ ?_ ?_
    · exact ret_store Tryz.results53 _ _ (w.heap.size + 1) 24 _ _ _ _ rfl (set3_heap _ _ _ ((heap_setCell_other _ _ _ _ (by simp)).trans HX3.out)) rfl
    · rfl
    · exact ⟨A', n, c', rfl, (HB3.out.set hf (by omega) (by omega) _).set3 hf (Nat.le_succ _) (by omega) _ _ _, (fun a ha => Nat.le_trans HB2.out.size (HLO.out a ha)), set3_below (below_at HBE.out (by omega) _ _) (Nat.le_succ _) _ _ _⟩
  | true =>
    have HM := Lib.hid hm
    have HB := Lib.hid hb
    have HK := Lib.hid (hK hm)
    have HR := Lib.hid hr
    clear hb hm hno hK hmm hl hr
    go_enter Tryz.func53, Tryz.ntmps53
    go_wp2_with (first
      | (go_at_call 42
         (with_reducible refine (stmay_any _ A n c _ _ hn).mono ?_)
         rintro e w2 ⟨he, hb2⟩
         rw [HM.out] at he
         subst he
         obtain ⟨hB2, hs2, y1, y2, y3⟩ := after_3 hb2
         have HX2 := Lib.hid (show BoxT w2 (w.heap.size + 1) 24 0 none 0 0 0 from y2)
         have HF2 := Lib.hid (show BoxT w2 (w.heap.size + 2) 80 _ A n c _ from y3)
         obtain ⟨x0, x1, x2⟩ := HF2.out.cells
         have HB2 := Lib.hid hB2
         have HS2 := Lib.hid hs2
         clear hb2 hB2 hs2 y1 y2 y3)
      | (go_at_call 62
         (with_reducible refine (HK.out w2 HB2.out).mono ?_)
         rintro e w3 ⟨A1, n1, c1, he, hb3, hlo3, hbel⟩
         have he2 : e = .returned (.tuple #[.agg #[.int .i64 cap', .slice A1 n1 c1, .int .i64 sure'], .int .i64 er]) := he
         clear he
         subst he2
         have hb3 : Bts w3 A1 n1 c1 data' := hb3
         have HX3 := Lib.hid (HX2.out.below hbel)
         have HF3 := Lib.hid (HF2.out.below hbel)
         clear x0 x1 x2
         obtain ⟨x0, x1, x2⟩ := HF3.out.cells
         have f0 := HF3.out.free 0
         have f1 := HF3.out.free 1
         have f2 := HF3.out.free 2
         have hf3 := far_loc HB.out hlo3 HS2.out
         have hsz3 : n1 ≤ 140737488355328 := by have := HR.out; have := hb3.len; omega
         have HB3 := Lib.hid (hb3.set3 hf3 (g := w.heap.size + 2) (by omega) (by omega) (.int .i64 cap') (.slice A1 n1 c1) (.int .i64 sure'))
         have HXS := Lib.hid (show BoxT (((w3.setCell ⟨w.heap.size + 2, 0, none⟩ (.int .i64 cap')).setCell ⟨w.heap.size + 2, 1, none⟩ (.slice A1 n1 c1)).setCell ⟨w.heap.size + 2, 2, none⟩ (.int .i64 sure')) (w.heap.size + 1) 24 0 none 0 0 0 from (heap_setCell_other _ _ _ _ (by simp)).trans ((heap_setCell_other _ _ _ _ (by simp)).trans ((heap_setCell_other _ _ _ _ (by simp)).trans HX3.out)))
         have HFS := Lib.hid (show BoxT (((w3.setCell ⟨w.heap.size + 2, 0, none⟩ (.int .i64 cap')).setCell ⟨w.heap.size + 2, 1, none⟩ (.slice A1 n1 c1)).setCell ⟨w.heap.size + 2, 2, none⟩ (.int .i64 sure')) (w.heap.size + 2) 80 cap' A1 n1 c1 sure' from set3_heap _ _ _ HF3.out)
         have hbs := set3_below (B := w.heap.size) (HB2.out.trans (hbel.mono HB2.out.size)) (g := w.heap.size + 2) (by omega) (.int .i64 cap') (.slice A1 n1 c1) (.int .i64 sure')
         have HLS := Lib.hid (show w.heap.size + 3 ≤ (((w3.setCell ⟨w.heap.size + 2, 0, none⟩ (.int .i64 cap')).setCell ⟨w.heap.size + 2, 1, none⟩ (.slice A1 n1 c1)).setCell ⟨w.heap.size + 2, 2, none⟩ (.int .i64 sure')).heap.size from by have := HS2.out; have := hbel.size; simp; omega)
         have HBS := Lib.hid hbs
         clear hb3 hlo3 hbel hf3 hbs)
      | (go_at_call 48
         (with_reducible refine (clone_bts A1 n1 c1 data' _ HB3.out hsz3).mono ?_)
         rintro e w4 ⟨A', c', rfl, hb4, hlo, hbel⟩
         have HX4 := Lib.hid (HXS.out.below hbel)
         have HF4 := Lib.hid (HFS.out.below hbel)
         clear x0 x1 x2 f0 f1 f2
         obtain ⟨x0, x1, x2⟩ := HF4.out.cells
         obtain ⟨z0, z1, z2⟩ := HX4.out.cells
         have g0 := HX4.out.free 0
         have g1 := HX4.out.free 1
         have g2 := HX4.out.free 2
         have f1 := HF4.out.free 1
         have HB4 := Lib.hid hb4
         have HLO := Lib.hid (fun a ha => Nat.le_trans HLS.out (hlo a ha))
         have HBE := Lib.hid (HBS.out.trans (hbel.mono HBS.out.size))
         clear hb4 hlo hbel))
    have hf : Far A' n1 w.heap.size (w.heap.size + 3) := fun a ha _ => .inr (HLO.out a ha)
    refine bodyPost_ret (v := .tuple #[.agg #[.int .i64 cap', .slice A' n1 c', .int .i64 sure'], .int .i64 er]) ?_ ?_ ?_
    · exact ret_store Tryz.results53 _ _ (w.heap.size + 1) 24 _ _ _ _ rfl (set3_heap _ _ _ ((heap_setCell_other _ _ _ _ (by simp)).trans HX4.out)) rfl
    · rfl
    · exact ⟨A', n1, c', rfl, (HB4.out.set hf (by omega) (by omega) _).set3 hf (Nat.le_succ _) (by omega) _ _ _, (fun a ha => Nat.le_trans (Nat.le_add_right _ 3) (HLO.out a ha)), set3_below (below_at HBE.out (by omega) _ _) (Nat.le_succ _) _ _ _⟩
end Go.Proofs.YtafmompplcaadaaGreatDoor

/- The walks over package store's Write, Sync, Cut and Crash. -/
namespace Go.Proofs.YtafmompplcaadaaGreatDoor
set_option maxRecDepth 100000
set_option linter.unusedVariables false
set_option linter.unusedSimpArgs false
open Go.RowKit

theorem fcut_len (s : Sp) (k : Int) : (fcutP s k).1.data.length ≤ s.data.length := by
  unfold fcutP
  split
  · exact Nat.le_refl _
  · simp only [Sp.upto, List.length_take]; omega
theorem cut_len (s : Sp) (k : Int) : (cutP s k).1.data.length ≤ s.data.length := by
  unfold cutP
  split
  · exact fcut_len s k
  · exact Nat.le_refl _
theorem crash_len (s : Sp) (k : Int) : (crashP s k).data.length ≤ s.data.length := by
  unfold crashP
  split
  · simp only [Sp.upto, List.length_take]; omega
  · exact Nat.le_refl _
theorem write_len (s : Sp) (b : List Int) : (writeP s b).1.data.length ≤ s.data.length ∨ (writeP s b).1.data.length ≤ 16384 := by
  unfold writeP
  split
  · rename_i h
    have h := mayT_iff.1 h
    unfold fwriteP
    split
    · exact .inl (Nat.le_refl _)
    · rename_i h2
      right
      simp only [List.length_append]
      omega
  · exact .inl (Nat.le_refl _)
set_option maxHeartbeats 1000000 in
theorem stwrite_any (s : Sp) (b : List Int) (A B : Option Addr) (n c : Nat) (m d : Nat) (w : World) (hb : Bts w A n c s.data) (hs : n ≤ 140737488355328) (h2 : Bts w B m d b) :
    Calls Tryz.prog 52 #[s.val A n c, .slice B m d] w (GSE (writeP s b) A n w) := by
  have hn := hb.small
  have hl := hb.len
  obtain ⟨r, hr⟩ : ∃ r, writeP s b = r := ⟨_, rfl⟩
  have hrl : r.1.data.length ≤ 140737488355328 := by rw [← hr]; have := write_len s b; omega
  have HC : ∀ W, Below w.heap.size w W → Calls Tryz.prog 69 #[s.val A n c, .func (.func 70) #[] #[], .slice B m d] W fun e w' => ∃ A' n' c', e = .returned (.tuple #[r.1.val A' n' c', .int .i64 r.2]) ∧ Bts w' A' n' c' r.1.data ∧ (∀ a, A' = some a → W.heap.size ≤ a.block) ∧ Below W.heap.size W w' := fun W hW =>
    done_write s A n c (.slice B m d) r W (hb.below hW) hs hrl (fun hm W2 hW2 => by rw [← hr, writeP, if_pos hm]; exact fwrite_any s b A B n c m d W2 (hb.below (hW.trans (hW2.mono hW.size))) (h2.below (hW.trans (hW2.mono hW.size))) hm) (fun hm => by rw [← hr, writeP, if_neg (by rw [hm]; simp)])
  have HR := Lib.hid hr
  obtain ⟨⟨cap', data', sure'⟩, er⟩ := r
  obtain ⟨cap, data, sure⟩ := s
  unfold Sp.val at HC ⊢
  simp only at hb HC hl ⊢
  have HC := Lib.hid HC
  clear hb hr hrl h2
  go_enter Tryz.func52, Tryz.ntmps52
  go_wp2_with (go_at_call 69
               (with_reducible refine (HC.out _ (two_below _ _ _)).mono ?_)
               rintro e w2 ⟨A', n', c', rfl, hb2, hlo2, hbel2⟩
               obtain ⟨hB2, hs2, y1, y2⟩ := after_two hbel2
               have HX2 := Lib.hid (show BoxT w2 (w.heap.size + 1) 24 0 none 0 0 0 from y2)
               obtain ⟨z0, z1, z2⟩ := HX2.out.cells
               have g0 := HX2.out.free 0
               have g1 := HX2.out.free 1
               have g2 := HX2.out.free 2
               have HLO := Lib.hid (show ∀ a, A' = some a → w.heap.size + 2 ≤ a.block from fun a ha => by have := hlo2 a ha; simp at this; omega)
               have HB2 := Lib.hid hb2
               have HBE := Lib.hid hB2
               have HS2 := Lib.hid hs2
               clear hb2 hlo2 hbel2 hB2 hs2 y1 y2)
  have hf : Far A' n' w.heap.size (w.heap.size + 2) := fun a ha _ => .inr (HLO.out a ha)
  refine bodyPost_ret (v := .tuple #[.agg #[.int .i64 cap', .slice A' n' c', .int .i64 sure'], .int .i64 er]) ?_ ?_ ?_
  · exact ret_store Tryz.results52 _ _ (w.heap.size + 1) 24 _ _ _ _ rfl (set3_heap _ _ _ HX2.out) rfl
  · rfl
  · rw [HR.out]
    exact ⟨A', n', c', rfl, HB2.out.set3 hf (Nat.le_succ _) (Nat.lt_succ_self _) _ _ _, .inr (fun a ha => Nat.le_trans (Nat.le_add_right _ 2) (HLO.out a ha)), set3_below HBE.out (Nat.le_succ _) _ _ _⟩
set_option maxHeartbeats 1000000 in
theorem stcut_any (s : Sp) (k : Int) (A : Option Addr) (n c : Nat) (w : World) (hb : Bts w A n c s.data) (hs : n ≤ 140737488355328) :
    Calls Tryz.prog 30 #[s.val A n c, .int .i64 k] w (GSE (cutP s k) A n w) := by
  have hn := hb.small
  have hl := hb.len
  obtain ⟨r, hr⟩ : ∃ r, cutP s k = r := ⟨_, rfl⟩
  have hrl : r.1.data.length ≤ 140737488355328 := by rw [← hr]; have := cut_len s k; omega
  have HC : ∀ W, Below w.heap.size w W → Calls Tryz.prog 53 #[s.val A n c, .func (.func 54) #[] #[], .int .i64 k] W fun e w' => ∃ A' n' c', e = .returned (.tuple #[r.1.val A' n' c', .int .i64 r.2]) ∧ Bts w' A' n' c' r.1.data ∧ (∀ a, A' = some a → W.heap.size ≤ a.block) ∧ Below W.heap.size W w' := fun W hW =>
    done_cut s A n c (.int .i64 k) r W (hb.below hW) hs hrl (fun hm W2 hW2 => by rw [← hr, cutP, if_pos hm]; exact fcut_any s A n c k W2 (hb.below (hW.trans (hW2.mono hW.size)))) (fun hm => by rw [← hr, cutP, if_neg (by rw [hm]; simp)])
  have HR := Lib.hid hr
  obtain ⟨⟨cap', data', sure'⟩, er⟩ := r
  obtain ⟨cap, data, sure⟩ := s
  unfold Sp.val at HC ⊢
  simp only at hb HC hl ⊢
  have HC := Lib.hid HC
  clear hb hr hrl 
  go_enter Tryz.func30, Tryz.ntmps30
  go_wp2_with (go_at_call 53
               (with_reducible refine (HC.out _ (two_below _ _ _)).mono ?_)
               rintro e w2 ⟨A', n', c', rfl, hb2, hlo2, hbel2⟩
               obtain ⟨hB2, hs2, y1, y2⟩ := after_two hbel2
               have HX2 := Lib.hid (show BoxT w2 (w.heap.size + 1) 24 0 none 0 0 0 from y2)
               obtain ⟨z0, z1, z2⟩ := HX2.out.cells
               have g0 := HX2.out.free 0
               have g1 := HX2.out.free 1
               have g2 := HX2.out.free 2
               have HLO := Lib.hid (show ∀ a, A' = some a → w.heap.size + 2 ≤ a.block from fun a ha => by have := hlo2 a ha; simp at this; omega)
               have HB2 := Lib.hid hb2
               have HBE := Lib.hid hB2
               have HS2 := Lib.hid hs2
               clear hb2 hlo2 hbel2 hB2 hs2 y1 y2)
  have hf : Far A' n' w.heap.size (w.heap.size + 2) := fun a ha _ => .inr (HLO.out a ha)
  refine bodyPost_ret (v := .tuple #[.agg #[.int .i64 cap', .slice A' n' c', .int .i64 sure'], .int .i64 er]) ?_ ?_ ?_
  · exact ret_store Tryz.results30 _ _ (w.heap.size + 1) 24 _ _ _ _ rfl (set3_heap _ _ _ HX2.out) rfl
  · rfl
  · rw [HR.out]
    exact ⟨A', n', c', rfl, HB2.out.set3 hf (Nat.le_succ _) (Nat.lt_succ_self _) _ _ _, .inr (fun a ha => Nat.le_trans (Nat.le_add_right _ 2) (HLO.out a ha)), set3_below HBE.out (Nat.le_succ _) _ _ _⟩
set_option maxHeartbeats 1000000 in
theorem stsync_any (s : Sp) (A : Option Addr) (n c : Nat) (w : World) (hb : Bts w A n c s.data) (hs : n ≤ 140737488355328) :
    Calls Tryz.prog 23 #[s.val A n c] w (GSE (syncP s) A n w) := by
  have hn := hb.small
  have hl := hb.len
  obtain ⟨r, hr⟩ : ∃ r, syncP s = r := ⟨_, rfl⟩
  have hrl : r.1.data.length ≤ 140737488355328 := by rw [← hr]; have := cut_len s s.data.length; rw [syncP]; omega
  have HC : ∀ W, Below w.heap.size w W → Calls Tryz.prog 53 #[s.val A n c, .func (.func 54) #[] #[], .int .i64 n] W fun e w' => ∃ A' n' c', e = .returned (.tuple #[r.1.val A' n' c', .int .i64 r.2]) ∧ Bts w' A' n' c' r.1.data ∧ (∀ a, A' = some a → W.heap.size ≤ a.block) ∧ Below W.heap.size W w' := fun W hW =>
    done_cut s A n c (.int .i64 n) r W (hb.below hW) hs hrl (fun hm W2 hW2 => by rw [← hr, syncP, cutP, if_pos hm, hl]; exact fcut_any s A n c n W2 (hb.below (hW.trans (hW2.mono hW.size)))) (fun hm => by rw [← hr, syncP, cutP, if_neg (by rw [hm]; simp)])
  have HR := Lib.hid hr
  obtain ⟨⟨cap', data', sure'⟩, er⟩ := r
  obtain ⟨cap, data, sure⟩ := s
  unfold Sp.val at HC ⊢
  simp only at hb HC hl ⊢
  have HC := Lib.hid HC
  clear hb hr hrl 
  go_enter Tryz.func23, Tryz.ntmps23
  go_wp2_with (go_at_call 53
               (with_reducible refine (HC.out _ (two_below _ _ _)).mono ?_)
               rintro e w2 ⟨A', n', c', rfl, hb2, hlo2, hbel2⟩
               obtain ⟨hB2, hs2, y1, y2⟩ := after_two hbel2
               have HX2 := Lib.hid (show BoxT w2 (w.heap.size + 1) 24 0 none 0 0 0 from y2)
               obtain ⟨z0, z1, z2⟩ := HX2.out.cells
               have g0 := HX2.out.free 0
               have g1 := HX2.out.free 1
               have g2 := HX2.out.free 2
               have HLO := Lib.hid (show ∀ a, A' = some a → w.heap.size + 2 ≤ a.block from fun a ha => by have := hlo2 a ha; simp at this; omega)
               have HB2 := Lib.hid hb2
               have HBE := Lib.hid hB2
               have HS2 := Lib.hid hs2
               clear hb2 hlo2 hbel2 hB2 hs2 y1 y2)
  have hf : Far A' n' w.heap.size (w.heap.size + 2) := fun a ha _ => .inr (HLO.out a ha)
  refine bodyPost_ret (v := .tuple #[.agg #[.int .i64 cap', .slice A' n' c', .int .i64 sure'], .int .i64 er]) ?_ ?_ ?_
  · exact ret_store Tryz.results23 _ _ (w.heap.size + 1) 24 _ _ _ _ rfl (set3_heap _ _ _ HX2.out) rfl
  · rfl
  · rw [HR.out]
    exact ⟨A', n', c', rfl, HB2.out.set3 hf (Nat.le_succ _) (Nat.lt_succ_self _) _ _ _, .inr (fun a ha => Nat.le_trans (Nat.le_add_right _ 2) (HLO.out a ha)), set3_below HBE.out (Nat.le_succ _) _ _ _⟩
set_option maxHeartbeats 1000000 in
theorem stcrash_any (s : Sp) (keep : Int) (A : Option Addr) (n c : Nat) (w : World) (hb : Bts w A n c s.data) (hs : n ≤ 140737488355328) :
    Calls Tryz.prog 39 #[s.val A n c, .int .i64 keep] w (GS (crashP s keep) A n w) := by
  have hn := hb.small
  have hl := hb.len
  obtain ⟨r, hr⟩ : ∃ r, (crashP s keep, if mayP s = true then (0 : Int) else 1) = r := ⟨_, rfl⟩
  have hrl : r.1.data.length ≤ 140737488355328 := by rw [← hr]; have := crash_len s keep; simp only; omega
  have HC : ∀ W, Below w.heap.size w W → Calls Tryz.prog 53 #[s.val A n c, .func (.func 62) #[] #[], .int .i64 keep] W fun e w' => ∃ A' n' c', e = .returned (.tuple #[r.1.val A' n' c', .int .i64 r.2]) ∧ Bts w' A' n' c' r.1.data ∧ (∀ a, A' = some a → W.heap.size ≤ a.block) ∧ Below W.heap.size W w' := fun W hW =>
    done_crash s A n c (.int .i64 keep) r W (hb.below hW) hs hrl (fun hm W2 hW2 => by rw [← hr, crashP, if_pos hm, if_pos hm]; exact fcrash_any s A n c keep W2 (hb.below (hW.trans (hW2.mono hW.size))) hm) (fun hm => by rw [← hr, crashP, if_neg (by rw [hm]; simp), if_neg (by rw [hm]; simp)])
  have HR := Lib.hid hr
  obtain ⟨⟨cap', data', sure'⟩, er⟩ := r
  obtain ⟨cap, data, sure⟩ := s
  unfold Sp.val at HC ⊢
  simp only at hb HC hl ⊢
  have HC := Lib.hid HC
  clear hb hr hrl 
  go_enter Tryz.func39, Tryz.ntmps39
  go_wp2_with (go_at_call 53
               (with_reducible refine (HC.out _ (two_below _ _ _)).mono ?_)
               rintro e w2 ⟨A', n', c', rfl, hb2, hlo2, hbel2⟩
               obtain ⟨hB2, hs2, y1, y2⟩ := after_two hbel2
               have HX2 := Lib.hid (show BoxT w2 (w.heap.size + 1) 24 0 none 0 0 0 from y2)
               obtain ⟨z0, z1, z2⟩ := HX2.out.cells
               have g0 := HX2.out.free 0
               have g1 := HX2.out.free 1
               have g2 := HX2.out.free 2
               have HLO := Lib.hid (show ∀ a, A' = some a → w.heap.size + 2 ≤ a.block from fun a ha => by have := hlo2 a ha; simp at this; omega)
               have HB2 := Lib.hid hb2
               have HBE := Lib.hid hB2
               have HS2 := Lib.hid hs2
               have hx3 := HX2.out.below (one_alloc w2 (.cells #[.int .i64 cap', .slice A' n' c', .int .i64 sure'] 24))
               obtain ⟨v0, v1, v2⟩ := hx3.cells
               have e0 := hx3.free 0
               have e1 := hx3.free 1
               have e2 := hx3.free 2
               have HX3 := Lib.hid hx3
               clear hb2 hlo2 hbel2 hB2 hs2 y1 y2 hx3)
  have hf : Far A' n' w.heap.size (w.heap.size + 2) := fun a ha _ => .inr (HLO.out a ha)
  refine bodyPost_ret (v := .agg #[.int .i64 cap', .slice A' n' c', .int .i64 sure']) ?_ ?_ ?_
  · exact ret_store1 Tryz.results39 _ _ (w.heap.size + 1) 24 _ _ _ rfl (set3_heap _ _ _ HX3.out)
  · rfl
  · rw [(Prod.mk.inj HR.out).1]
    exact ⟨A', n', c', rfl, (HB2.out.more _).set3 hf (Nat.le_succ _) (Nat.lt_succ_self _) _ _ _, .inr (fun a ha => Nat.le_trans (Nat.le_add_right _ 2) (HLO.out a ha)), set3_below (HBE.out.alloc HBE.out.size _) (Nat.le_succ _) _ _ _⟩
end Go.Proofs.YtafmompplcaadaaGreatDoor

/- The walks over package store's Write, Cut, Sync and Crash once more: what they give lies in new memory. -/
namespace Go.Proofs.YtafmompplcaadaaGreatDoor
set_option maxRecDepth 100000
set_option linter.unusedVariables false
set_option linter.unusedSimpArgs false
open Go.RowKit

def GSEn (r : Sp × Int) (w : World) (e : Ending) (w' : World) : Prop := ∃ A' n' c', e = .returned (.tuple #[.agg #[.int .i64 r.1.cap, .slice A' n' c', .int .i64 r.1.sure], .int .i64 r.2]) ∧ Bts w' A' n' c' r.1.data ∧ (∀ a, A' = some a → w.heap.size ≤ a.block) ∧ Below w.heap.size w w'
def GSn (r : Sp) (w : World) (e : Ending) (w' : World) : Prop := ∃ A' n' c', e = .returned (.agg #[.int .i64 r.cap, .slice A' n' c', .int .i64 r.sure]) ∧ Bts w' A' n' c' r.data ∧ (∀ a, A' = some a → w.heap.size ≤ a.block) ∧ Below w.heap.size w w'
set_option maxHeartbeats 1000000 in
theorem stwrite_new (s : Sp) (b : List Int) (A B : Option Addr) (n c : Nat) (m d : Nat) (w : World) (hb : Bts w A n c s.data) (hs : n ≤ 140737488355328) (h2 : Bts w B m d b) :
    Calls Tryz.prog 52 #[s.val A n c, .slice B m d] w (GSEn (writeP s b) w) := by
  have hn := hb.small
  have hl := hb.len
  obtain ⟨r, hr⟩ : ∃ r, writeP s b = r := ⟨_, rfl⟩
  have hrl : r.1.data.length ≤ 140737488355328 := by rw [← hr]; have := write_len s b; omega
  have HC : ∀ W, Below w.heap.size w W → Calls Tryz.prog 69 #[s.val A n c, .func (.func 70) #[] #[], .slice B m d] W fun e w' => ∃ A' n' c', e = .returned (.tuple #[r.1.val A' n' c', .int .i64 r.2]) ∧ Bts w' A' n' c' r.1.data ∧ (∀ a, A' = some a → W.heap.size ≤ a.block) ∧ Below W.heap.size W w' := fun W hW =>
    done_write s A n c (.slice B m d) r W (hb.below hW) hs hrl (fun hm W2 hW2 => by rw [← hr, writeP, if_pos hm]; exact fwrite_any s b A B n c m d W2 (hb.below (hW.trans (hW2.mono hW.size))) (h2.below (hW.trans (hW2.mono hW.size))) hm) (fun hm => by rw [← hr, writeP, if_neg (by rw [hm]; simp)])
  have HR := Lib.hid hr
  obtain ⟨⟨cap', data', sure'⟩, er⟩ := r
  obtain ⟨cap, data, sure⟩ := s
  unfold Sp.val at HC ⊢
  simp only at hb HC hl ⊢
  have HC := Lib.hid HC
  clear hb hr hrl h2
  go_enter Tryz.func52, Tryz.ntmps52
  go_wp2_with (go_at_call 69
               (with_reducible refine (HC.out _ (two_below _ _ _)).mono ?_)
               rintro e w2 ⟨A', n', c', rfl, hb2, hlo2, hbel2⟩
               obtain ⟨hB2, hs2, y1, y2⟩ := after_two hbel2
               have HX2 := Lib.hid (show BoxT w2 (w.heap.size + 1) 24 0 none 0 0 0 from y2)
               obtain ⟨z0, z1, z2⟩ := HX2.out.cells
               have g0 := HX2.out.free 0
               have g1 := HX2.out.free 1
               have g2 := HX2.out.free 2
               have HLO := Lib.hid (show ∀ a, A' = some a → w.heap.size + 2 ≤ a.block from fun a ha => by have := hlo2 a ha; simp at this; omega)
               have HB2 := Lib.hid hb2
               have HBE := Lib.hid hB2
               have HS2 := Lib.hid hs2
               clear hb2 hlo2 hbel2 hB2 hs2 y1 y2)
  have hf : Far A' n' w.heap.size (w.heap.size + 2) := fun a ha _ => .inr (HLO.out a ha)
  refine bodyPost_ret (v := .tuple #[.agg #[.int .i64 cap', .slice A' n' c', .int .i64 sure'], .int .i64 er]) ?_ ?_ ?_
  · exact ret_store Tryz.results52 _ _ (w.heap.size + 1) 24 _ _ _ _ rfl (set3_heap _ _ _ HX2.out) rfl
  · rfl
  · rw [HR.out]
    exact ⟨A', n', c', rfl, HB2.out.set3 hf (Nat.le_succ _) (Nat.lt_succ_self _) _ _ _, (fun a ha => Nat.le_trans (Nat.le_add_right _ 2) (HLO.out a ha)), set3_below HBE.out (Nat.le_succ _) _ _ _⟩
set_option maxHeartbeats 1000000 in
theorem stcut_new (s : Sp) (k : Int) (A : Option Addr) (n c : Nat) (w : World) (hb : Bts w A n c s.data) (hs : n ≤ 140737488355328) :
    Calls Tryz.prog 30 #[s.val A n c, .int .i64 k] w (GSEn (cutP s k) w) := by
  have hn := hb.small
  have hl := hb.len
  obtain ⟨r, hr⟩ : ∃ r, cutP s k = r := ⟨_, rfl⟩
  have hrl : r.1.data.length ≤ 140737488355328 := by rw [← hr]; have := cut_len s k; omega
  have HC : ∀ W, Below w.heap.size w W → Calls Tryz.prog 53 #[s.val A n c, .func (.func 54) #[] #[], .int .i64 k] W fun e w' => ∃ A' n' c', e = .returned (.tuple #[r.1.val A' n' c', .int .i64 r.2]) ∧ Bts w' A' n' c' r.1.data ∧ (∀ a, A' = some a → W.heap.size ≤ a.block) ∧ Below W.heap.size W w' := fun W hW =>
    done_cut s A n c (.int .i64 k) r W (hb.below hW) hs hrl (fun hm W2 hW2 => by rw [← hr, cutP, if_pos hm]; exact fcut_any s A n c k W2 (hb.below (hW.trans (hW2.mono hW.size)))) (fun hm => by rw [← hr, cutP, if_neg (by rw [hm]; simp)])
  have HR := Lib.hid hr
  obtain ⟨⟨cap', data', sure'⟩, er⟩ := r
  obtain ⟨cap, data, sure⟩ := s
  unfold Sp.val at HC ⊢
  simp only at hb HC hl ⊢
  have HC := Lib.hid HC
  clear hb hr hrl 
  go_enter Tryz.func30, Tryz.ntmps30
  go_wp2_with (go_at_call 53
               (with_reducible refine (HC.out _ (two_below _ _ _)).mono ?_)
               rintro e w2 ⟨A', n', c', rfl, hb2, hlo2, hbel2⟩
               obtain ⟨hB2, hs2, y1, y2⟩ := after_two hbel2
               have HX2 := Lib.hid (show BoxT w2 (w.heap.size + 1) 24 0 none 0 0 0 from y2)
               obtain ⟨z0, z1, z2⟩ := HX2.out.cells
               have g0 := HX2.out.free 0
               have g1 := HX2.out.free 1
               have g2 := HX2.out.free 2
               have HLO := Lib.hid (show ∀ a, A' = some a → w.heap.size + 2 ≤ a.block from fun a ha => by have := hlo2 a ha; simp at this; omega)
               have HB2 := Lib.hid hb2
               have HBE := Lib.hid hB2
               have HS2 := Lib.hid hs2
               clear hb2 hlo2 hbel2 hB2 hs2 y1 y2)
  have hf : Far A' n' w.heap.size (w.heap.size + 2) := fun a ha _ => .inr (HLO.out a ha)
  refine bodyPost_ret (v := .tuple #[.agg #[.int .i64 cap', .slice A' n' c', .int .i64 sure'], .int .i64 er]) ?_ ?_ ?_
  · exact ret_store Tryz.results30 _ _ (w.heap.size + 1) 24 _ _ _ _ rfl (set3_heap _ _ _ HX2.out) rfl
  · rfl
  · rw [HR.out]
    exact ⟨A', n', c', rfl, HB2.out.set3 hf (Nat.le_succ _) (Nat.lt_succ_self _) _ _ _, (fun a ha => Nat.le_trans (Nat.le_add_right _ 2) (HLO.out a ha)), set3_below HBE.out (Nat.le_succ _) _ _ _⟩
set_option maxHeartbeats 1000000 in
theorem stsync_new (s : Sp) (A : Option Addr) (n c : Nat) (w : World) (hb : Bts w A n c s.data) (hs : n ≤ 140737488355328) :
    Calls Tryz.prog 23 #[s.val A n c] w (GSEn (syncP s) w) := by
  have hn := hb.small
  have hl := hb.len
  obtain ⟨r, hr⟩ : ∃ r, syncP s = r := ⟨_, rfl⟩
  have hrl : r.1.data.length ≤ 140737488355328 := by rw [← hr]; have := cut_len s s.data.length; rw [syncP]; omega
  have HC : ∀ W, Below w.heap.size w W → Calls Tryz.prog 53 #[s.val A n c, .func (.func 54) #[] #[], .int .i64 n] W fun e w' => ∃ A' n' c', e = .returned (.tuple #[r.1.val A' n' c', .int .i64 r.2]) ∧ Bts w' A' n' c' r.1.data ∧ (∀ a, A' = some a → W.heap.size ≤ a.block) ∧ Below W.heap.size W w' := fun W hW =>
    done_cut s A n c (.int .i64 n) r W (hb.below hW) hs hrl (fun hm W2 hW2 => by rw [← hr, syncP, cutP, if_pos hm, hl]; exact fcut_any s A n c n W2 (hb.below (hW.trans (hW2.mono hW.size)))) (fun hm => by rw [← hr, syncP, cutP, if_neg (by rw [hm]; simp)])
  have HR := Lib.hid hr
  obtain ⟨⟨cap', data', sure'⟩, er⟩ := r
  obtain ⟨cap, data, sure⟩ := s
  unfold Sp.val at HC ⊢
  simp only at hb HC hl ⊢
  have HC := Lib.hid HC
  clear hb hr hrl 
  go_enter Tryz.func23, Tryz.ntmps23
  go_wp2_with (go_at_call 53
               (with_reducible refine (HC.out _ (two_below _ _ _)).mono ?_)
               rintro e w2 ⟨A', n', c', rfl, hb2, hlo2, hbel2⟩
               obtain ⟨hB2, hs2, y1, y2⟩ := after_two hbel2
               have HX2 := Lib.hid (show BoxT w2 (w.heap.size + 1) 24 0 none 0 0 0 from y2)
               obtain ⟨z0, z1, z2⟩ := HX2.out.cells
               have g0 := HX2.out.free 0
               have g1 := HX2.out.free 1
               have g2 := HX2.out.free 2
               have HLO := Lib.hid (show ∀ a, A' = some a → w.heap.size + 2 ≤ a.block from fun a ha => by have := hlo2 a ha; simp at this; omega)
               have HB2 := Lib.hid hb2
               have HBE := Lib.hid hB2
               have HS2 := Lib.hid hs2
               clear hb2 hlo2 hbel2 hB2 hs2 y1 y2)
  have hf : Far A' n' w.heap.size (w.heap.size + 2) := fun a ha _ => .inr (HLO.out a ha)
  refine bodyPost_ret (v := .tuple #[.agg #[.int .i64 cap', .slice A' n' c', .int .i64 sure'], .int .i64 er]) ?_ ?_ ?_
  · exact ret_store Tryz.results23 _ _ (w.heap.size + 1) 24 _ _ _ _ rfl (set3_heap _ _ _ HX2.out) rfl
  · rfl
  · rw [HR.out]
    exact ⟨A', n', c', rfl, HB2.out.set3 hf (Nat.le_succ _) (Nat.lt_succ_self _) _ _ _, (fun a ha => Nat.le_trans (Nat.le_add_right _ 2) (HLO.out a ha)), set3_below HBE.out (Nat.le_succ _) _ _ _⟩
set_option maxHeartbeats 1000000 in
theorem stcrash_new (s : Sp) (keep : Int) (A : Option Addr) (n c : Nat) (w : World) (hb : Bts w A n c s.data) (hs : n ≤ 140737488355328) :
    Calls Tryz.prog 39 #[s.val A n c, .int .i64 keep] w (GSn (crashP s keep) w) := by
  have hn := hb.small
  have hl := hb.len
  obtain ⟨r, hr⟩ : ∃ r, (crashP s keep, if mayP s = true then (0 : Int) else 1) = r := ⟨_, rfl⟩
  have hrl : r.1.data.length ≤ 140737488355328 := by rw [← hr]; have := crash_len s keep; simp only; omega
  have HC : ∀ W, Below w.heap.size w W → Calls Tryz.prog 53 #[s.val A n c, .func (.func 62) #[] #[], .int .i64 keep] W fun e w' => ∃ A' n' c', e = .returned (.tuple #[r.1.val A' n' c', .int .i64 r.2]) ∧ Bts w' A' n' c' r.1.data ∧ (∀ a, A' = some a → W.heap.size ≤ a.block) ∧ Below W.heap.size W w' := fun W hW =>
    done_crash s A n c (.int .i64 keep) r W (hb.below hW) hs hrl (fun hm W2 hW2 => by rw [← hr, crashP, if_pos hm, if_pos hm]; exact fcrash_any s A n c keep W2 (hb.below (hW.trans (hW2.mono hW.size))) hm) (fun hm => by rw [← hr, crashP, if_neg (by rw [hm]; simp), if_neg (by rw [hm]; simp)])
  have HR := Lib.hid hr
  obtain ⟨⟨cap', data', sure'⟩, er⟩ := r
  obtain ⟨cap, data, sure⟩ := s
  unfold Sp.val at HC ⊢
  simp only at hb HC hl ⊢
  have HC := Lib.hid HC
  clear hb hr hrl 
  go_enter Tryz.func39, Tryz.ntmps39
  go_wp2_with (go_at_call 53
               (with_reducible refine (HC.out _ (two_below _ _ _)).mono ?_)
               rintro e w2 ⟨A', n', c', rfl, hb2, hlo2, hbel2⟩
               obtain ⟨hB2, hs2, y1, y2⟩ := after_two hbel2
               have HX2 := Lib.hid (show BoxT w2 (w.heap.size + 1) 24 0 none 0 0 0 from y2)
               obtain ⟨z0, z1, z2⟩ := HX2.out.cells
               have g0 := HX2.out.free 0
               have g1 := HX2.out.free 1
               have g2 := HX2.out.free 2
               have HLO := Lib.hid (show ∀ a, A' = some a → w.heap.size + 2 ≤ a.block from fun a ha => by have := hlo2 a ha; simp at this; omega)
               have HB2 := Lib.hid hb2
               have HBE := Lib.hid hB2
               have HS2 := Lib.hid hs2
               have hx3 := HX2.out.below (one_alloc w2 (.cells #[.int .i64 cap', .slice A' n' c', .int .i64 sure'] 24))
               obtain ⟨v0, v1, v2⟩ := hx3.cells
               have e0 := hx3.free 0
               have e1 := hx3.free 1
               have e2 := hx3.free 2
               have HX3 := Lib.hid hx3
               clear hb2 hlo2 hbel2 hB2 hs2 y1 y2 hx3)
  have hf : Far A' n' w.heap.size (w.heap.size + 2) := fun a ha _ => .inr (HLO.out a ha)
  refine bodyPost_ret (v := .agg #[.int .i64 cap', .slice A' n' c', .int .i64 sure']) ?_ ?_ ?_
  · exact ret_store1 Tryz.results39 _ _ (w.heap.size + 1) 24 _ _ _ rfl (set3_heap _ _ _ HX3.out)
  · rfl
  · rw [(Prod.mk.inj HR.out).1]
    exact ⟨A', n', c', rfl, (HB2.out.more _).set3 hf (Nat.le_succ _) (Nat.lt_succ_self _) _ _ _, (fun a ha => Nat.le_trans (Nat.le_add_right _ 2) (HLO.out a ha)), set3_below (HBE.out.alloc HBE.out.size _) (Nat.le_succ _) _ _ _⟩
end Go.Proofs.YtafmompplcaadaaGreatDoor

/- A desk: a log at which something is done; a block of which parts are overwritten; slices.Clone of entries. -/
namespace Go.Proofs.YtafmompplcaadaaGreatDoor
set_option maxRecDepth 100000
set_option linter.unusedVariables false
set_option linter.unusedSimpArgs false
open Go.RowKit

section
variable {P : Program}
/-- a store into the middle of a block -/
theorem run_storeVar_in (w : World) (g o : Nat) (t ty : TypeId) (v : Value) (old cells new : Array Value) (hv : v.cells = cells) (hg : w.heap[g]? = some (.cells old t (0, 0))) (hi : (P.info? ty).map (·.size) = some cells.size)
    (hl : o + cells.size ≤ old.size) (h1 : cells.all (·.oneCell') = true) (hn : old.toList.take o ++ cells.toList ++ old.toList.drop (o + cells.size) = new.toList) :
    (storeVar ty ⟨g, o, none⟩ v).run P w = .ok () (w.setRow g new) := by
  have h := run_storeCells_at P g o t cells.toList 0 old w hg (by simpa using hl) (fun v hv => (Array.all_eq_true_iff_forall_mem.1 h1) v (by simpa using hv))
  simp only [Nat.add_zero, Array.length_toList, hn, Array.toArray_toList] at h
  cases hq : P.info? ty with
  | none => simp [hq] at hi
  | some i =>
    have hs : cells.size = i.size := by simp [hq] at hi; omega
    simp [storeVar, sizeOf, typeInfo, hq, hv, hs, h]
theorem wp_store_in {o : Oper} {a : Act} {w : World} {K : Act → World → Prop} {Q : Exit → Act → World → Prop} (ty : TypeId) (x y : Operand) (ho : o.op = .store ty x y)
    (g off : Nat) (v : Value) (cells : Array Value) (hx : a.eval x = .pointer (some ⟨g, off, none⟩)) (hy : a.eval y = v) (hv : v.cells = cells) (t : TypeId) (old new : Array Value) (hg : w.heap[g]? = some (.cells old t (0, 0))) (hi : (P.info? ty).map (·.size) = some cells.size)
    (hl : off + cells.size ≤ old.size) (h1 : cells.all (·.oneCell') = true) (hn : old.toList.take off ++ cells.toList ++ old.toList.drop (off + cells.size) = new.toList)
    (h : ∀ w', w.grownBy w' (some g) → w'.heap[g]? = some (.cells new t (0, 0)) → w'.heap.size = w.heap.size → K (a.put o.dst undef) w') : o.wp P a w K Q := by
  unfold Oper.wp execOp
  simp only [ho, hx, hy, Instr.storeAt, Instr.sureAddr, Sem.run_bind, Sem.run_pure, Result.andThen_ok, run_storeVar_in w g off t ty v old cells new hv hg hi hl h1 hn]
  exact h _ (grown_setRow _ _ _) (setRow_heap _ _ _ _ _ _ hg) (by simp)
theorem wpList_store_in {ops : Array Oper} {rest : List Oper} {o : Oper} {a : Act} {w : World} {Q : Exit → Act → World → Prop} (hgd : o.guard = none) (ty : TypeId) (x y : Operand) (ho : o.op = .store ty x y)
    (g off : Nat) (v : Value) (cells : Array Value) (hx : a.eval x = .pointer (some ⟨g, off, none⟩)) (hy : a.eval y = v) (hv : v.cells = cells) (t : TypeId) (old new : Array Value) (hg : w.heap[g]? = some (.cells old t (0, 0))) (hi : (P.info? ty).map (·.size) = some cells.size)
    (hl : off + cells.size ≤ old.size) (h1 : cells.all (·.oneCell') = true) (hn : old.toList.take off ++ cells.toList ++ old.toList.drop (off + cells.size) = new.toList)
    (h : ∀ w', w.grownBy w' (some g) → w'.heap[g]? = some (.cells new t (0, 0)) → w'.heap.size = w.heap.size → wpList P ops Q rest (a.put o.dst undef) w') : wpList P ops Q (o :: rest) a w :=
  wpList_plain hgd fun _ hK => wp_store_in ty x y ho g off v cells hx hy hv t old new hg hi hl h1 hn fun w' h2 h3 h4 => hK _ _ (h w' h2 h3 h4)
theorem step_store_in {ops : Array Oper} {o : Oper} {a : Act} {w : World} {K : Act → World → Prop} {Q : Exit → Act → World → Prop} {E : Prop} (ty : TypeId) (x y : Operand) (ho : o.op = .store ty x y)
    (g off : Nat) (v : Value) (cells : Array Value) (hx : a.eval x = .pointer (some ⟨g, off, none⟩)) (hy : a.eval y = v) (hv : v.cells = cells) (t : TypeId) (old new : Array Value) (hg : w.heap[g]? = some (.cells old t (0, 0))) (hi : (P.info? ty).map (·.size) = some cells.size)
    (hl : off + cells.size ≤ old.size) (h1 : cells.all (·.oneCell') = true) (hn : old.toList.take off ++ cells.toList ++ old.toList.drop (off + cells.size) = new.toList) (hw : Region.wanted o (yielded ops a.tmps) = true)
    (h : ∀ w', w.grownBy w' (some g) → w'.heap[g]? = some (.cells new t (0, 0)) → w'.heap.size = w.heap.size → K (a.put o.dst undef) w') : if Region.wanted o (yielded ops a.tmps) = true then Oper.wp P o a w K Q else E := by
  rw [if_pos hw]
  exact wp_store_in ty x y ho g off v cells hx hy hv t old new hg hi hl h1 hn h
end
/-- parts of a log overwritten: its store, its bytes, its entries, its head -/
def Lp.putS (p : Lp) (cap : Int) (A : Option Addr) (n c : Nat) (sure : Int) : Lp := ⟨cap, A, n, c, sure, p.B, p.m, p.d, p.H⟩
def Lp.putA (p : Lp) (A : Option Addr) (n c : Nat) : Lp := ⟨p.cap, A, n, c, p.sure, p.B, p.m, p.d, p.H⟩
def Lp.putB (p : Lp) (B : Option Addr) (m d : Nat) : Lp := ⟨p.cap, p.A, p.n, p.c, p.sure, B, m, d, p.H⟩
def Lp.putH (p : Lp) (H : List Int) : Lp := ⟨p.cap, p.A, p.n, p.c, p.sure, p.B, p.m, p.d, H⟩
theorem new_s (p : Lp) (cap : Int) (A : Option Addr) (n c : Nat) (sure : Int) : p.arr.toList.take 0 ++ (#[.int .i64 cap, .slice A n c, .int .i64 sure] : Array Value).toList ++ p.arr.toList.drop (0 + (#[.int .i64 cap, .slice A n c, .int .i64 sure] : Array Value).size) = (p.putS cap A n c sure).arr.toList := rfl
theorem new_a (p : Lp) (A : Option Addr) (n c : Nat) : p.arr.toList.take 1 ++ (#[.slice A n c] : Array Value).toList ++ p.arr.toList.drop (1 + (#[.slice A n c] : Array Value).size) = (p.putA A n c).arr.toList := rfl
theorem new_b (p : Lp) (A : Option Addr) (n c : Nat) : p.arr.toList.take 3 ++ (#[.slice A n c] : Array Value).toList ++ p.arr.toList.drop (3 + (#[.slice A n c] : Array Value).size) = (p.putB A n c).arr.toList := rfl
theorem new_h (p : Lp) (H : List Int) (hp : p.H.length = 32) (h : H.length = 32) : p.arr.toList.take 4 ++ (idv H).toList ++ p.arr.toList.drop (4 + (idv H).size) = (p.putH H).arr.toList := by
  have e1 : p.arr.toList.take 4 = [.int .i64 p.cap, .slice p.A p.n p.c, .int .i64 p.sure, .slice p.B p.m p.d] := rfl
  have e2 : p.arr.toList.drop (4 + (idv H).size) = [] := List.drop_eq_nil_of_le (by rw [Array.length_toList, lp_size hp, idv_size, h]; omega)
  rw [e1, e2, List.append_nil]
  rfl
theorem info_desk {C : Array Value} (h : C.size = 36) : (Tryz.prog.info? 48).map (·.size) = some C.size := by rw [h]; kernel_rfl
theorem fill_desk (p : Lp) (h : p.H.length = 32) : Instr.fill (([(0, 36)] : List (Nat × Nat)).toArray[·]?) Lp.zero.arr [(0, .agg p.arr)] = some p.arr := by
  rcases p with ⟨cap, A, n, c, sure, B, m, d, H⟩
  obtain ⟨a0, a1, a2, a3, a4, a5, a6, a7, a8, a9, b0, b1, b2, b3, b4, b5, b6, b7, b8, b9, c0, c1, c2, c3, c4, c5, c6, c7, c8, c9, d0, d1, rfl⟩ := list32c H h
  kernel_rfl
theorem built_desk (p : Lp) (h : p.H.length = 32) : Tryz.prog.built 48 [(0, .agg p.arr)] = some p.arr :=
  built_of (z := .agg Lp.zero.arr) (places := [(0, 36)]) Tryz.underlying48 (by kernel_rfl) (by kernel_rfl) (fill_desk p h)
section
variable {w : World} {b : Nat} {p : Lp} {t : TypeId}
theorem dk_cells (h : w.heap[b]? = some (.cells p.arr t (0, 0))) : w.cell? ⟨b, 0, none⟩ = some (.int .i64 p.cap) ∧ w.cell? ⟨b, 1, none⟩ = some (.slice p.A p.n p.c) ∧ w.cell? ⟨b, 2, none⟩ = some (.int .i64 p.sure) ∧ w.cell? ⟨b, 3, none⟩ = some (.slice p.B p.m p.d) :=
  ⟨by rw [cell_of_row _ _ _ _ _ _ h]; rfl, by rw [cell_of_row _ _ _ _ _ _ h]; rfl, by rw [cell_of_row _ _ _ _ _ _ h]; rfl, by rw [cell_of_row _ _ _ _ _ _ h]; rfl⟩
theorem dk_head (h : w.heap[b]? = some (.cells p.arr t (0, 0))) : w.rangeAt b 4 (byv p.H) := fun j v hv => by
  rw [cell_of_row _ _ _ _ _ _ h, Lp.arr, List.getElem?_toArray, Nat.add_comm]
  exact hv
theorem dk_st (h : w.heap[b]? = some (.cells p.arr t (0, 0))) : w.rangeAt b 0 [.int .i64 p.cap, .slice p.A p.n p.c, .int .i64 p.sure] := fun j v hv => by
  obtain ⟨c0, c1, c2, -⟩ := dk_cells h
  match j, hv with
  | 0, hv => rw [← (Option.some.inj hv)]; exact c0
  | 1, hv => rw [← (Option.some.inj hv)]; exact c1
  | 2, hv => rw [← (Option.some.inj hv)]; exact c2
end
theorem none_own_r (w : World) : OwnR 33 9 (w.alloc (.cells #[] 33)) w.heap.size (.slice (some ⟨w.heap.size, 0, none⟩) 0 0) [] :=
  ⟨⟨rfl, .inr ⟨w.heap.size, 0, #[], rfl, Nat.le_refl _, heap_alloc_new w _, Nat.le_refl _, by unfold maxLen; omega, rfl, rfl⟩⟩, (fun _ h => by cases h), (fun _ h => by cases h)⟩
set_option maxHeartbeats 1000000 in
theorem clone_ens (A : Option Addr) (n c : Nat) (l : List En) (w : World) (hb : Ens w A n c l) (hsm : n ≤ 1000000) :
    Calls Tryz.prog 49 #[.slice A n c] w fun e w' => ∃ B m d, e = .returned (.slice B m d) ∧ Ens w' B m d l ∧ OwnR 33 9 w' w.heap.size (.slice B m d) (l.map En.row) ∧ Below w.heap.size w w' := by
  have q25 : ∀ (w : World) (a : Option Addr) (n c n' c' : Nat), (binOp .eql 25 (.slice a n c) (.slice none n' c')).run Tryz.prog w = .ok (.bool a.isNone) w := fun w a n c n' c' => Lib.run_eql_slice_nil w _ _ a n c n' c' Tryz.underlying25
  cases A with
  | none =>
    have h0 := hb.rws.bare rfl
    have hn : n = 0 := by have := hb.rws.le; omega
    have hl : l = [] := List.eq_nil_of_length_eq_zero (hb.len.trans hn)
    have HL := Lib.hid hl
    clear hl hb h0
    go_enter Tryz.func49, Tryz.ntmps49
    go_wp2
    go_ret
    exact ⟨_, _, _, rfl, by rw [HL.out]; exact Ens.nil _, by rw [HL.out]; exact OwnR.nil _ _ _ _, Below.refl _ _⟩
  | some a =>
    have hln := hb.len
    have hb1 := hb.below (one_alloc w (.cells #[] 33))
    go_enter Tryz.func49, Tryz.ntmps49
    go_wp2_with (at_builtin
                 refine wpList_append_r rfl 25 33 9 72 _ _ rfl Tryz.underlying25 info_entry (by omega) w.heap.size _ [] rfl (none_own_r w) _ n c (l.map En.row) rfl hb1.rws (by simp; omega) (by simp; omega) (size_le_alloc _ _) ?_
                 intro v5 w5 hown5 hg5
                 rw [List.nil_append] at hown5
                 have hB5 : Below w.heap.size w w5 := (one_alloc w _).grown hg5 (size_le_alloc _ _) (fun k hk => by cases hk; exact Nat.le_refl _)
                 clear hg5)
    go_ret
    obtain ⟨B, m, d, rfl, he⟩ := own_ens hown5
    exact ⟨B, m, d, rfl, he, hown5, hB5⟩
end Go.Proofs.YtafmompplcaadaaGreatDoor
