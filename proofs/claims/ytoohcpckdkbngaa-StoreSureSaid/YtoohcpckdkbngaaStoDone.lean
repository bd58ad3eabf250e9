/- The walks over package store's done, for each method. -/
import Derived.Test.YtoohcpckdkbngaaStoFile
namespace Go.Proofs.Ytoohcpckdkbngaa
set_option linter.unusedVariables false
set_option linter.unusedSimpArgs false
open Go.RowKit

set_option maxHeartbeats 1000000 in
theorem done_write (s : Sp) (A : Option Addr) (n c : Nat) (x : Value) (r : Sp × Int) (w : World) (hb : Bts w A n c s.data) (hs : n ≤ 140737488355328) (hr : r.1.data.length ≤ 140737488355328)
    (hK : mayP s = true → ∀ W, Below w.heap.size w W → Calls Try.prog 28 #[s.val A n c, x] W (GSE r A n W)) (hno : mayP s = false → r = (s, 1)) :
    Calls Try.prog 27 #[s.val A n c, .func (.func 28) #[] #[], x] w fun e w' => ∃ A' n' c', e = .returned (.tuple #[r.1.val A' n' c', .int .i64 r.2]) ∧ Bts w' A' n' c' r.1.data ∧ (∀ a, A' = some a → w.heap.size ≤ a.block) ∧ Below w.heap.size w w' := by
  have hn := hb.small
  have hl := hb.len
  have hmm : mayP s = mayT s.cap n s.sure := by rw [mayP, hl]
  rw [hmm] at hK hno
  obtain ⟨cap, data, sure⟩ := s
  obtain ⟨⟨cap', data', sure'⟩, er⟩ := r
  unfold Sp.val at hK ⊢
  simp only at hb hK hno hl hr ⊢
  cases hm : mayT cap n sure with
  | false =>
    have hr2 := hno hm
    injection hr2 with e1 e2
    injection e1 with e3 e4 e5
    subst e2 e3 e4 e5
    have HM := Lib.hid hm
    have HB := Lib.hid hb
    clear hb hm hno hK hmm hl hr
    go_enter Try.func27, Try.ntmps27
    go_wp2_with (first
      | (go_at_call 23
         (with_reducible refine (stmay_any _ A n c _ _ hn).mono ?_)
         rintro e w2 ⟨he, hb2⟩
         rw [HM.out] at he
         subst he
         obtain ⟨hB2, hs2, y1, y2, y3⟩ := after_3 hb2
         have HX2 := Lib.hid (show BoxT w2 (w.heap.size + 1) 24 0 none 0 0 0 from y2)
         have HF2 := Lib.hid (show BoxT w2 (w.heap.size + 2) 43 _ A n c _ from y3)
         obtain ⟨x0, x1, x2⟩ := HF2.out.cells
         have HB2 := Lib.hid hB2
         have HS2 := Lib.hid hs2
         clear hb2 hB2 hs2 y1 y2 y3)
      | (go_at_call 33
         (with_reducible refine (clone_bts A n c _ w2 (HB.out.below HB2.out) hs).mono ?_)
         rintro e w3 ⟨A', c', rfl, hb3, hlo, hbel⟩
         have HX3 := Lib.hid (HX2.out.below hbel)
         have HF3 := Lib.hid (HF2.out.below hbel)
         clear x0 x1 x2
         obtain ⟨x0, x1, x2⟩ := HF3.out.cells
         obtain ⟨z0, z1, z2⟩ := HX3.out.cells
         have g0 := HX3.out.free 0
         have g1 := HX3.out.free 1
         have g2 := HX3.out.free 2
         have f1 := HF3.out.free 1
         have HB3 := Lib.hid hb3
         have HLO := Lib.hid hlo
         have HBE := Lib.hid (HB2.out.trans (hbel.mono HB2.out.size))
         clear hb3 hlo hbel))
    have hf : Far A' n w.heap.size (w.heap.size + 3) := fun a ha _ => .inr (Nat.le_trans HS2.out (HLO.out a ha))
    refine bodyPost_ret (v := .tuple #[.agg #[.int .i64 cap', .slice A' n c', .int .i64 sure'], .int .i64 1]) ?_ ?_ ?_
    · exact ret_store Try.results27 _ _ (w.heap.size + 1) 24 _ _ _ _ rfl (set3_heap _ _ _ ((heap_setCell_other _ _ _ _ (by simp)).trans HX3.out)) rfl
    · rfl
    · exact ⟨A', n, c', rfl, (HB3.out.set hf (by omega) (by omega) _).set3 hf (Nat.le_succ _) (by omega) _ _ _, (fun a ha => Nat.le_trans HB2.out.size (HLO.out a ha)), set3_below (below_at HBE.out (by omega) _ _) (Nat.le_succ _) _ _ _⟩
  | true =>
    have HM := Lib.hid hm
    have HB := Lib.hid hb
    have HK := Lib.hid (hK hm)
    have HR := Lib.hid hr
    clear hb hm hno hK hmm hl hr
    go_enter Try.func27, Try.ntmps27
    go_wp2_with (first
      | (go_at_call 23
         (with_reducible refine (stmay_any _ A n c _ _ hn).mono ?_)
         rintro e w2 ⟨he, hb2⟩
         rw [HM.out] at he
         subst he
         obtain ⟨hB2, hs2, y1, y2, y3⟩ := after_3 hb2
         have HX2 := Lib.hid (show BoxT w2 (w.heap.size + 1) 24 0 none 0 0 0 from y2)
         have HF2 := Lib.hid (show BoxT w2 (w.heap.size + 2) 43 _ A n c _ from y3)
         obtain ⟨x0, x1, x2⟩ := HF2.out.cells
         have HB2 := Lib.hid hB2
         have HS2 := Lib.hid hs2
         clear hb2 hB2 hs2 y1 y2 y3)
      | (go_at_call 28
         (with_reducible refine (HK.out w2 HB2.out).mono ?_)
         rintro e w3 ⟨A1, n1, c1, he, hb3, hlo3, hbel⟩
         have he2 : e = .returned (.tuple #[.agg #[.int .i64 cap', .slice A1 n1 c1, .int .i64 sure'], .int .i64 er]) := he
         clear he
         subst he2
         have hb3 : Bts w3 A1 n1 c1 data' := hb3
         have HX3 := Lib.hid (HX2.out.below hbel)
         have HF3 := Lib.hid (HF2.out.below hbel)
         clear x0 x1 x2
         obtain ⟨x0, x1, x2⟩ := HF3.out.cells
         have f0 := HF3.out.free 0
         have f1 := HF3.out.free 1
         have f2 := HF3.out.free 2
         have hf3 := far_loc HB.out hlo3 HS2.out
         have hsz3 : n1 ≤ 140737488355328 := by have := HR.out; have := hb3.len; omega
         have HB3 := Lib.hid (hb3.set3 hf3 (g := w.heap.size + 2) (by omega) (by omega) (.int .i64 cap') (.slice A1 n1 c1) (.int .i64 sure'))
         have HXS := Lib.hid (show BoxT (((w3.setCell ⟨w.heap.size + 2, 0, none⟩ (.int .i64 cap')).setCell ⟨w.heap.size + 2, 1, none⟩ (.slice A1 n1 c1)).setCell ⟨w.heap.size + 2, 2, none⟩ (.int .i64 sure')) (w.heap.size + 1) 24 0 none 0 0 0 from (heap_setCell_other _ _ _ _ (by simp)).trans ((heap_setCell_other _ _ _ _ (by simp)).trans ((heap_setCell_other _ _ _ _ (by simp)).trans HX3.out)))
         have HFS := Lib.hid (show BoxT (((w3.setCell ⟨w.heap.size + 2, 0, none⟩ (.int .i64 cap')).setCell ⟨w.heap.size + 2, 1, none⟩ (.slice A1 n1 c1)).setCell ⟨w.heap.size + 2, 2, none⟩ (.int .i64 sure')) (w.heap.size + 2) 43 cap' A1 n1 c1 sure' from set3_heap _ _ _ HF3.out)
         have hbs := set3_below (B := w.heap.size) (HB2.out.trans (hbel.mono HB2.out.size)) (g := w.heap.size + 2) (by omega) (.int .i64 cap') (.slice A1 n1 c1) (.int .i64 sure')
         have HLS := Lib.hid (show w.heap.size + 3 ≤ (((w3.setCell ⟨w.heap.size + 2, 0, none⟩ (.int .i64 cap')).setCell ⟨w.heap.size + 2, 1, none⟩ (.slice A1 n1 c1)).setCell ⟨w.heap.size + 2, 2, none⟩ (.int .i64 sure')).heap.size from by have := HS2.out; have := hbel.size; simp; omega)
         have HBS := Lib.hid hbs
         clear hb3 hlo3 hbel hf3 hbs)
      | (go_at_call 33
         (with_reducible refine (clone_bts A1 n1 c1 data' _ HB3.out hsz3).mono ?_)
         rintro e w4 ⟨A', c', rfl, hb4, hlo, hbel⟩
         have HX4 := Lib.hid (HXS.out.below hbel)
         have HF4 := Lib.hid (HFS.out.below hbel)
         clear x0 x1 x2 f0 f1 f2
         obtain ⟨x0, x1, x2⟩ := HF4.out.cells
         obtain ⟨z0, z1, z2⟩ := HX4.out.cells
         have g0 := HX4.out.free 0
         have g1 := HX4.out.free 1
         have g2 := HX4.out.free 2
         have f1 := HF4.out.free 1
         have HB4 := Lib.hid hb4
         have HLO := Lib.hid (fun a ha => Nat.le_trans HLS.out (hlo a ha))
         have HBE := Lib.hid (HBS.out.trans (hbel.mono HBS.out.size))
         clear hb4 hlo hbel))
    have hf : Far A' n1 w.heap.size (w.heap.size + 3) := fun a ha _ => .inr (HLO.out a ha)
    refine bodyPost_ret (v := .tuple #[.agg #[.int .i64 cap', .slice A' n1 c', .int .i64 sure'], .int .i64 er]) ?_ ?_ ?_
    · exact ret_store Try.results27 _ _ (w.heap.size + 1) 24 _ _ _ _ rfl (set3_heap _ _ _ ((heap_setCell_other _ _ _ _ (by simp)).trans HX4.out)) rfl
    · rfl
    · exact ⟨A', n1, c', rfl, (HB4.out.set hf (by omega) (by omega) _).set3 hf (Nat.le_succ _) (by omega) _ _ _, (fun a ha => Nat.le_trans (Nat.le_add_right _ 3) (HLO.out a ha)), set3_below (below_at HBE.out (by omega) _ _) (Nat.le_succ _) _ _ _⟩
set_option maxHeartbeats 1000000 in
theorem done_cut (s : Sp) (A : Option Addr) (n c : Nat) (x : Value) (r : Sp × Int) (w : World) (hb : Bts w A n c s.data) (hs : n ≤ 140737488355328) (hr : r.1.data.length ≤ 140737488355328)
    (hK : mayP s = true → ∀ W, Below w.heap.size w W → Calls Try.prog 30 #[s.val A n c, x] W (GSE r A n W)) (hno : mayP s = false → r = (s, 1)) :
    Calls Try.prog 29 #[s.val A n c, .func (.func 30) #[] #[], x] w fun e w' => ∃ A' n' c', e = .returned (.tuple #[r.1.val A' n' c', .int .i64 r.2]) ∧ Bts w' A' n' c' r.1.data ∧ (∀ a, A' = some a → w.heap.size ≤ a.block) ∧ Below w.heap.size w w' := by
  have hn := hb.small
  have hl := hb.len
  have hmm : mayP s = mayT s.cap n s.sure := by rw [mayP, hl]
  rw [hmm] at hK hno
  obtain ⟨cap, data, sure⟩ := s
  obtain ⟨⟨cap', data', sure'⟩, er⟩ := r
  unfold Sp.val at hK ⊢
  simp only at hb hK hno hl hr ⊢
  cases hm : mayT cap n sure with
  | false =>
    have hr2 := hno hm
    injection hr2 with e1 e2
    injection e1 with e3 e4 e5
    subst e2 e3 e4 e5
    have HM := Lib.hid hm
    have HB := Lib.hid hb
    clear hb hm hno hK hmm hl hr
    go_enter Try.func29, Try.ntmps29
    go_wp2_with (first
      | (go_at_call 23
         (with_reducible refine (stmay_any _ A n c _ _ hn).mono ?_)
         rintro e w2 ⟨he, hb2⟩
         rw [HM.out] at he
         subst he
         obtain ⟨hB2, hs2, y1, y2, y3⟩ := after_3 hb2
         have HX2 := Lib.hid (show BoxT w2 (w.heap.size + 1) 24 0 none 0 0 0 from y2)
         have HF2 := Lib.hid (show BoxT w2 (w.heap.size + 2) 43 _ A n c _ from y3)
         obtain ⟨x0, x1, x2⟩ := HF2.out.cells
         have HB2 := Lib.hid hB2
         have HS2 := Lib.hid hs2
         clear hb2 hB2 hs2 y1 y2 y3)
      | (go_at_call 33
         (with_reducible refine (clone_bts A n c _ w2 (HB.out.below HB2.out) hs).mono ?_)
         rintro e w3 ⟨A', c', rfl, hb3, hlo, hbel⟩
         have HX3 := Lib.hid (HX2.out.below hbel)
         have HF3 := Lib.hid (HF2.out.below hbel)
         clear x0 x1 x2
         obtain ⟨x0, x1, x2⟩ := HF3.out.cells
         obtain ⟨z0, z1, z2⟩ := HX3.out.cells
         have g0 := HX3.out.free 0
         have g1 := HX3.out.free 1
         have g2 := HX3.out.free 2
         have f1 := HF3.out.free 1
         have HB3 := Lib.hid hb3
         have HLO := Lib.hid hlo
         have HBE := Lib.hid (HB2.out.trans (hbel.mono HB2.out.size))
         clear hb3 hlo hbel))
    have hf : Far A' n w.heap.size (w.heap.size + 3) := fun a ha _ => .inr (Nat.le_trans HS2.out (HLO.out a ha))
    refine bodyPost_ret (v := .tuple #[.agg #[.int .i64 cap', .slice A' n c', .int .i64 sure'], .int .i64 1]) ?_ ?_ ?_
    · exact ret_store Try.results29 _ _ (w.heap.size + 1) 24 _ _ _ _ rfl (set3_heap _ _ _ ((heap_setCell_other _ _ _ _ (by simp)).trans HX3.out)) rfl
    · rfl
    · exact ⟨A', n, c', rfl, (HB3.out.set hf (by omega) (by omega) _).set3 hf (Nat.le_succ _) (by omega) _ _ _, (fun a ha => Nat.le_trans HB2.out.size (HLO.out a ha)), set3_below (below_at HBE.out (by omega) _ _) (Nat.le_succ _) _ _ _⟩
  | true =>
    have HM := Lib.hid hm
    have HB := Lib.hid hb
    have HK := Lib.hid (hK hm)
    have HR := Lib.hid hr
    clear hb hm hno hK hmm hl hr
    go_enter Try.func29, Try.ntmps29
    go_wp2_with (first
      | (go_at_call 23
         (with_reducible refine (stmay_any _ A n c _ _ hn).mono ?_)
         rintro e w2 ⟨he, hb2⟩
         rw [HM.out] at he
         subst he
         obtain ⟨hB2, hs2, y1, y2, y3⟩ := after_3 hb2
         have HX2 := Lib.hid (show BoxT w2 (w.heap.size + 1) 24 0 none 0 0 0 from y2)
         have HF2 := Lib.hid (show BoxT w2 (w.heap.size + 2) 43 _ A n c _ from y3)
         obtain ⟨x0, x1, x2⟩ := HF2.out.cells
         have HB2 := Lib.hid hB2
         have HS2 := Lib.hid hs2
         clear hb2 hB2 hs2 y1 y2 y3)
      | (go_at_call 30
         (with_reducible refine (HK.out w2 HB2.out).mono ?_)
         rintro e w3 ⟨A1, n1, c1, he, hb3, hlo3, hbel⟩
         have he2 : e = .returned (.tuple #[.agg #[.int .i64 cap', .slice A1 n1 c1, .int .i64 sure'], .int .i64 er]) := he
         clear he
         subst he2
         have hb3 : Bts w3 A1 n1 c1 data' := hb3
         have HX3 := Lib.hid (HX2.out.below hbel)
         have HF3 := Lib.hid (HF2.out.below hbel)
         clear x0 x1 x2
         obtain ⟨x0, x1, x2⟩ := HF3.out.cells
         have f0 := HF3.out.free 0
         have f1 := HF3.out.free 1
         have f2 := HF3.out.free 2
         have hf3 := far_loc HB.out hlo3 HS2.out
         have hsz3 : n1 ≤ 140737488355328 := by have := HR.out; have := hb3.len; omega
         have HB3 := Lib.hid (hb3.set3 hf3 (g := w.heap.size + 2) (by omega) (by omega) (.int .i64 cap') (.slice A1 n1 c1) (.int .i64 sure'))
         have HXS := Lib.hid (show BoxT (((w3.setCell ⟨w.heap.size + 2, 0, none⟩ (.int .i64 cap')).setCell ⟨w.heap.size + 2, 1, none⟩ (.slice A1 n1 c1)).setCell ⟨w.heap.size + 2, 2, none⟩ (.int .i64 sure')) (w.heap.size + 1) 24 0 none 0 0 0 from (heap_setCell_other _ _ _ _ (by simp)).trans ((heap_setCell_other _ _ _ _ (by simp)).trans ((heap_setCell_other _ _ _ _ (by simp)).trans HX3.out)))
         have HFS := Lib.hid (show BoxT (((w3.setCell ⟨w.heap.size + 2, 0, none⟩ (.int .i64 cap')).setCell ⟨w.heap.size + 2, 1, none⟩ (.slice A1 n1 c1)).setCell ⟨w.heap.size + 2, 2, none⟩ (.int .i64 sure')) (w.heap.size + 2) 43 cap' A1 n1 c1 sure' from set3_heap _ _ _ HF3.out)
         have hbs := set3_below (B := w.heap.size) (HB2.out.trans (hbel.mono HB2.out.size)) (g := w.heap.size + 2) (by omega) (.int .i64 cap') (.slice A1 n1 c1) (.int .i64 sure')
         have HLS := Lib.hid (show w.heap.size + 3 ≤ (((w3.setCell ⟨w.heap.size + 2, 0, none⟩ (.int .i64 cap')).setCell ⟨w.heap.size + 2, 1, none⟩ (.slice A1 n1 c1)).setCell ⟨w.heap.size + 2, 2, none⟩ (.int .i64 sure')).heap.size from by have := HS2.out; have := hbel.size; simp; omega)
         have HBS := Lib.hid hbs
         clear hb3 hlo3 hbel hf3 hbs)
      | (go_at_call 33
         (with_reducible refine (clone_bts A1 n1 c1 data' _ HB3.out hsz3).mono ?_)
         rintro e w4 ⟨A', c', rfl, hb4, hlo, hbel⟩
         have HX4 := Lib.hid (HXS.out.below hbel)
         have HF4 := Lib.hid (HFS.out.below hbel)
         clear x0 x1 x2 f0 f1 f2
         obtain ⟨x0, x1, x2⟩ := HF4.out.cells
         obtain ⟨z0, z1, z2⟩ := HX4.out.cells
         have g0 := HX4.out.free 0
         have g1 := HX4.out.free 1
         have g2 := HX4.out.free 2
         have f1 := HF4.out.free 1
         have HB4 := Lib.hid hb4
         have HLO := Lib.hid (fun a ha => Nat.le_trans HLS.out (hlo a ha))
         have HBE := Lib.hid (HBS.out.trans (hbel.mono HBS.out.size))
         clear hb4 hlo hbel))
    have hf : Far A' n1 w.heap.size (w.heap.size + 3) := fun a ha _ => .inr (HLO.out a ha)
    refine bodyPost_ret (v := .tuple #[.agg #[.int .i64 cap', .slice A' n1 c', .int .i64 sure'], .int .i64 er]) ?_ ?_ ?_
    · exact ret_store Try.results29 _ _ (w.heap.size + 1) 24 _ _ _ _ rfl (set3_heap _ _ _ ((heap_setCell_other _ _ _ _ (by simp)).trans HX4.out)) rfl
    · rfl
    · exact ⟨A', n1, c', rfl, (HB4.out.set hf (by omega) (by omega) _).set3 hf (Nat.le_succ _) (by omega) _ _ _, (fun a ha => Nat.le_trans (Nat.le_add_right _ 3) (HLO.out a ha)), set3_below (below_at HBE.out (by omega) _ _) (Nat.le_succ _) _ _ _⟩
set_option maxHeartbeats 1000000 in
theorem done_crash (s : Sp) (A : Option Addr) (n c : Nat) (x : Value) (r : Sp × Int) (w : World) (hb : Bts w A n c s.data) (hs : n ≤ 140737488355328) (hr : r.1.data.length ≤ 140737488355328)
    (hK : mayP s = true → ∀ W, Below w.heap.size w W → Calls Try.prog 31 #[s.val A n c, x] W (GSE r A n W)) (hno : mayP s = false → r = (s, 1)) :
    Calls Try.prog 29 #[s.val A n c, .func (.func 31) #[] #[], x] w fun e w' => ∃ A' n' c', e = .returned (.tuple #[r.1.val A' n' c', .int .i64 r.2]) ∧ Bts w' A' n' c' r.1.data ∧ (∀ a, A' = some a → w.heap.size ≤ a.block) ∧ Below w.heap.size w w' := by
  have hn := hb.small
  have hl := hb.len
  have hmm : mayP s = mayT s.cap n s.sure := by rw [mayP, hl]
  rw [hmm] at hK hno
  obtain ⟨cap, data, sure⟩ := s
  obtain ⟨⟨cap', data', sure'⟩, er⟩ := r
  unfold Sp.val at hK ⊢
  simp only at hb hK hno hl hr ⊢
  cases hm : mayT cap n sure with
  | false =>
    have hr2 := hno hm
    injection hr2 with e1 e2
    injection e1 with e3 e4 e5
    subst e2 e3 e4 e5
    have HM := Lib.hid hm
    have HB := Lib.hid hb
    clear hb hm hno hK hmm hl hr
    go_enter Try.func29, Try.ntmps29
    go_wp2_with (first
      | (go_at_call 23
         (with_reducible refine (stmay_any _ A n c _ _ hn).mono ?_)
         rintro e w2 ⟨he, hb2⟩
         rw [HM.out] at he
         subst he
         obtain ⟨hB2, hs2, y1, y2, y3⟩ := after_3 hb2
         have HX2 := Lib.hid (show BoxT w2 (w.heap.size + 1) 24 0 none 0 0 0 from y2)
         have HF2 := Lib.hid (show BoxT w2 (w.heap.size + 2) 43 _ A n c _ from y3)
         obtain ⟨x0, x1, x2⟩ := HF2.out.cells
         have HB2 := Lib.hid hB2
         have HS2 := Lib.hid hs2
         clear hb2 hB2 hs2 y1 y2 y3)
      | (go_at_call 33
         (with_reducible refine (clone_bts A n c _ w2 (HB.out.below HB2.out) hs).mono ?_)
         rintro e w3 ⟨A', c', rfl, hb3, hlo, hbel⟩
         have HX3 := Lib.hid (HX2.out.below hbel)
         have HF3 := Lib.hid (HF2.out.below hbel)
         clear x0 x1 x2
         obtain ⟨x0, x1, x2⟩ := HF3.out.cells
         obtain ⟨z0, z1, z2⟩ := HX3.out.cells
         have g0 := HX3.out.free 0
         have g1 := HX3.out.free 1
         have g2 := HX3.out.free 2
         have f1 := HF3.out.free 1
         have HB3 := Lib.hid hb3
         have HLO := Lib.hid hlo
         have HBE := Lib.hid (HB2.out.trans (hbel.mono HB2.out.size))
         clear hb3 hlo hbel))
    have hf : Far A' n w.heap.size (w.heap.size + 3) := fun a ha _ => .inr (Nat.le_trans HS2.out (HLO.out a ha))
    refine bodyPost_ret (v := .tuple #[.agg #[.int .i64 cap', .slice A' n c', .int .i64 sure'], .int .i64 1]) ?_ ?_ ?_
    · exact ret_store Try.results29 _ _ (w.heap.size + 1) 24 _ _ _ _ rfl (set3_heap _ _ _ ((heap_setCell_other _ _ _ _ (by simp)).trans HX3.out)) rfl
    · rfl
    · exact ⟨A', n, c', rfl, (HB3.out.set hf (by omega) (by omega) _).set3 hf (Nat.le_succ _) (by omega) _ _ _, (fun a ha => Nat.le_trans HB2.out.size (HLO.out a ha)), set3_below (below_at HBE.out (by omega) _ _) (Nat.le_succ _) _ _ _⟩
  | true =>
    have HM := Lib.hid hm
    have HB := Lib.hid hb
    have HK := Lib.hid (hK hm)
    have HR := Lib.hid hr
    clear hb hm hno hK hmm hl hr
    go_enter Try.func29, Try.ntmps29
    go_wp2_with (first
      | (go_at_call 23
         (with_reducible refine (stmay_any _ A n c _ _ hn).mono ?_)
         rintro e w2 ⟨he, hb2⟩
         rw [HM.out] at he
         subst he
         obtain ⟨hB2, hs2, y1, y2, y3⟩ := after_3 hb2
         have HX2 := Lib.hid (show BoxT w2 (w.heap.size + 1) 24 0 none 0 0 0 from y2)
         have HF2 := Lib.hid (show BoxT w2 (w.heap.size + 2) 43 _ A n c _ from y3)
         obtain ⟨x0, x1, x2⟩ := HF2.out.cells
         have HB2 := Lib.hid hB2
         have HS2 := Lib.hid hs2
         clear hb2 hB2 hs2 y1 y2 y3)
      | (go_at_call 31
         (with_reducible refine (HK.out w2 HB2.out).mono ?_)
         rintro e w3 ⟨A1, n1, c1, he, hb3, hlo3, hbel⟩
         have he2 : e = .returned (.tuple #[.agg #[.int .i64 cap', .slice A1 n1 c1, .int .i64 sure'], .int .i64 er]) := he
         clear he
         subst he2
         have hb3 : Bts w3 A1 n1 c1 data' := hb3
         have HX3 := Lib.hid (HX2.out.below hbel)
         have HF3 := Lib.hid (HF2.out.below hbel)
         clear x0 x1 x2
         obtain ⟨x0, x1, x2⟩ := HF3.out.cells
         have f0 := HF3.out.free 0
         have f1 := HF3.out.free 1
         have f2 := HF3.out.free 2
         have hf3 := far_loc HB.out hlo3 HS2.out
         have hsz3 : n1 ≤ 140737488355328 := by have := HR.out; have := hb3.len; omega
         have HB3 := Lib.hid (hb3.set3 hf3 (g := w.heap.size + 2) (by omega) (by omega) (.int .i64 cap') (.slice A1 n1 c1) (.int .i64 sure'))
         have HXS := Lib.hid (show BoxT (((w3.setCell ⟨w.heap.size + 2, 0, none⟩ (.int .i64 cap')).setCell ⟨w.heap.size + 2, 1, none⟩ (.slice A1 n1 c1)).setCell ⟨w.heap.size + 2, 2, none⟩ (.int .i64 sure')) (w.heap.size + 1) 24 0 none 0 0 0 from (heap_setCell_other _ _ _ _ (by simp)).trans ((heap_setCell_other _ _ _ _ (by simp)).trans ((heap_setCell_other _ _ _ _ (by simp)).trans HX3.out)))
         have HFS := Lib.hid (show BoxT (((w3.setCell ⟨w.heap.size + 2, 0, none⟩ (.int .i64 cap')).setCell ⟨w.heap.size + 2, 1, none⟩ (.slice A1 n1 c1)).setCell ⟨w.heap.size + 2, 2, none⟩ (.int .i64 sure')) (w.heap.size + 2) 43 cap' A1 n1 c1 sure' from set3_heap _ _ _ HF3.out)
         have hbs := set3_below (B := w.heap.size) (HB2.out.trans (hbel.mono HB2.out.size)) (g := w.heap.size + 2) (by omega) (.int .i64 cap') (.slice A1 n1 c1) (.int .i64 sure')
         have HLS := Lib.hid (show w.heap.size + 3 ≤ (((w3.setCell ⟨w.heap.size + 2, 0, none⟩ (.int .i64 cap')).setCell ⟨w.heap.size + 2, 1, none⟩ (.slice A1 n1 c1)).setCell ⟨w.heap.size + 2, 2, none⟩ (.int .i64 sure')).heap.size from by have := HS2.out; have := hbel.size; simp; omega)
         have HBS := Lib.hid hbs
         clear hb3 hlo3 hbel hf3 hbs)
      | (go_at_call 33
         (with_reducible refine (clone_bts A1 n1 c1 data' _ HB3.out hsz3).mono ?_)
         rintro e w4 ⟨A', c', rfl, hb4, hlo, hbel⟩
         have HX4 := Lib.hid (HXS.out.below hbel)
         have HF4 := Lib.hid (HFS.out.below hbel)
         clear x0 x1 x2 f0 f1 f2
         obtain ⟨x0, x1, x2⟩ := HF4.out.cells
         obtain ⟨z0, z1, z2⟩ := HX4.out.cells
         have g0 := HX4.out.free 0
         have g1 := HX4.out.free 1
         have g2 := HX4.out.free 2
         have f1 := HF4.out.free 1
         have HB4 := Lib.hid hb4
         have HLO := Lib.hid (fun a ha => Nat.le_trans HLS.out (hlo a ha))
         have HBE := Lib.hid (HBS.out.trans (hbel.mono HBS.out.size))
         clear hb4 hlo hbel))
    have hf : Far A' n1 w.heap.size (w.heap.size + 3) := fun a ha _ => .inr (HLO.out a ha)
    refine bodyPost_ret (v := .tuple #[.agg #[.int .i64 cap', .slice A' n1 c', .int .i64 sure'], .int .i64 er]) ?_ ?_ ?_
    · exact ret_store Try.results29 _ _ (w.heap.size + 1) 24 _ _ _ _ rfl (set3_heap _ _ _ ((heap_setCell_other _ _ _ _ (by simp)).trans HX4.out)) rfl
    · rfl
    · exact ⟨A', n1, c', rfl, (HB4.out.set hf (by omega) (by omega) _).set3 hf (Nat.le_succ _) (by omega) _ _ _, (fun a ha => Nat.le_trans (Nat.le_add_right _ 3) (HLO.out a ha)), set3_below (below_at HBE.out (by omega) _ _) (Nat.le_succ _) _ _ _⟩
end Go.Proofs.Ytoohcpckdkbngaa
