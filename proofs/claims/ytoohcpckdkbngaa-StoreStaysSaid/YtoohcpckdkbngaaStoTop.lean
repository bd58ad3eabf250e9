/- The walks over package store's Write, Sync, Cut and Crash. -/
import Derived.Test.YtoohcpckdkbngaaStoDone
namespace Go.Proofs.Ytoohcpckdkbngaa
set_option linter.unusedVariables false
set_option linter.unusedSimpArgs false
open Go.RowKit

theorem fcut_len (s : Sp) (k : Int) : (fcutP s k).1.data.length ≤ s.data.length := by
  unfold fcutP
  split
  · exact Nat.le_refl _
  · simp only [Sp.upto, List.length_take]; omega
theorem cut_len (s : Sp) (k : Int) : (cutP s k).1.data.length ≤ s.data.length := by
  unfold cutP
  split
  · exact fcut_len s k
  · exact Nat.le_refl _
theorem crash_len (s : Sp) (k : Int) : (crashP s k).data.length ≤ s.data.length := by
  unfold crashP
  split
  · simp only [Sp.upto, List.length_take]; omega
  · exact Nat.le_refl _
theorem write_len (s : Sp) (b : List Int) : (writeP s b).1.data.length ≤ s.data.length ∨ (writeP s b).1.data.length ≤ 16384 := by
  unfold writeP
  split
  · rename_i h
    have h := mayT_iff.1 h
    unfold fwriteP
    split
    · exact .inl (Nat.le_refl _)
    · rename_i h2
      right
      simp only [List.length_append]
      omega
  · exact .inl (Nat.le_refl _)
set_option maxHeartbeats 1000000 in
theorem stwrite_any (s : Sp) (b : List Int) (A B : Option Addr) (n c : Nat) (m d : Nat) (w : World) (hb : Bts w A n c s.data) (hs : n ≤ 140737488355328) (h2 : Bts w B m d b) :
    Calls Try.prog 11 #[s.val A n c, .slice B m d] w (GSE (writeP s b) A n w) := by
  have hn := hb.small
  have hl := hb.len
  obtain ⟨r, hr⟩ : ∃ r, writeP s b = r := ⟨_, rfl⟩
  have hrl : r.1.data.length ≤ 140737488355328 := by rw [← hr]; have := write_len s b; omega
  have HC : ∀ W, Below w.heap.size w W → Calls Try.prog 27 #[s.val A n c, .func (.func 28) #[] #[], .slice B m d] W fun e w' => ∃ A' n' c', e = .returned (.tuple #[r.1.val A' n' c', .int .i64 r.2]) ∧ Bts w' A' n' c' r.1.data ∧ (∀ a, A' = some a → W.heap.size ≤ a.block) ∧ Below W.heap.size W w' := fun W hW =>
    done_write s A n c (.slice B m d) r W (hb.below hW) hs hrl (fun hm W2 hW2 => by rw [← hr, writeP, if_pos hm]; exact fwrite_any s b A B n c m d W2 (hb.below (hW.trans (hW2.mono hW.size))) (h2.below (hW.trans (hW2.mono hW.size))) hm) (fun hm => by rw [← hr, writeP, if_neg (by rw [hm]; simp)])
  have HR := Lib.hid hr
  obtain ⟨⟨cap', data', sure'⟩, er⟩ := r
  obtain ⟨cap, data, sure⟩ := s
  unfold Sp.val at HC ⊢
  simp only at hb HC hl ⊢
  have HC := Lib.hid HC
  clear hb hr hrl h2
  go_enter Try.func11, Try.ntmps11
  go_wp2_with (go_at_call 27
               (with_reducible refine (HC.out _ (two_below _ _ _)).mono ?_)
               rintro e w2 ⟨A', n', c', rfl, hb2, hlo2, hbel2⟩
               obtain ⟨hB2, hs2, y1, y2⟩ := after_two hbel2
               have HX2 := Lib.hid (show BoxT w2 (w.heap.size + 1) 24 0 none 0 0 0 from y2)
               obtain ⟨z0, z1, z2⟩ := HX2.out.cells
               have g0 := HX2.out.free 0
               have g1 := HX2.out.free 1
               have g2 := HX2.out.free 2
               have HLO := Lib.hid (show ∀ a, A' = some a → w.heap.size + 2 ≤ a.block from fun a ha => by have := hlo2 a ha; simp at this; omega)
               have HB2 := Lib.hid hb2
               have HBE := Lib.hid hB2
               have HS2 := Lib.hid hs2
               clear hb2 hlo2 hbel2 hB2 hs2 y1 y2)
  have hf : Far A' n' w.heap.size (w.heap.size + 2) := fun a ha _ => .inr (HLO.out a ha)
  refine bodyPost_ret (v := .tuple #[.agg #[.int .i64 cap', .slice A' n' c', .int .i64 sure'], .int .i64 er]) ?_ ?_ ?_
  · exact ret_store Try.results11 _ _ (w.heap.size + 1) 24 _ _ _ _ rfl (set3_heap _ _ _ HX2.out) rfl
  · rfl
  · rw [HR.out]
    exact ⟨A', n', c', rfl, HB2.out.set3 hf (Nat.le_succ _) (Nat.lt_succ_self _) _ _ _, .inr (fun a ha => Nat.le_trans (Nat.le_add_right _ 2) (HLO.out a ha)), set3_below HBE.out (Nat.le_succ _) _ _ _⟩
set_option maxHeartbeats 1000000 in
theorem stcut_any (s : Sp) (k : Int) (A : Option Addr) (n c : Nat) (w : World) (hb : Bts w A n c s.data) (hs : n ≤ 140737488355328) :
    Calls Try.prog 15 #[s.val A n c, .int .i64 k] w (GSE (cutP s k) A n w) := by
  have hn := hb.small
  have hl := hb.len
  obtain ⟨r, hr⟩ : ∃ r, cutP s k = r := ⟨_, rfl⟩
  have hrl : r.1.data.length ≤ 140737488355328 := by rw [← hr]; have := cut_len s k; omega
  have HC : ∀ W, Below w.heap.size w W → Calls Try.prog 29 #[s.val A n c, .func (.func 30) #[] #[], .int .i64 k] W fun e w' => ∃ A' n' c', e = .returned (.tuple #[r.1.val A' n' c', .int .i64 r.2]) ∧ Bts w' A' n' c' r.1.data ∧ (∀ a, A' = some a → W.heap.size ≤ a.block) ∧ Below W.heap.size W w' := fun W hW =>
    done_cut s A n c (.int .i64 k) r W (hb.below hW) hs hrl (fun hm W2 hW2 => by rw [← hr, cutP, if_pos hm]; exact fcut_any s A n c k W2 (hb.below (hW.trans (hW2.mono hW.size)))) (fun hm => by rw [← hr, cutP, if_neg (by rw [hm]; simp)])
  have HR := Lib.hid hr
  obtain ⟨⟨cap', data', sure'⟩, er⟩ := r
  obtain ⟨cap, data, sure⟩ := s
  unfold Sp.val at HC ⊢
  simp only at hb HC hl ⊢
  have HC := Lib.hid HC
  clear hb hr hrl 
  go_enter Try.func15, Try.ntmps15
  go_wp2_with (go_at_call 29
               (with_reducible refine (HC.out _ (two_below _ _ _)).mono ?_)
               rintro e w2 ⟨A', n', c', rfl, hb2, hlo2, hbel2⟩
               obtain ⟨hB2, hs2, y1, y2⟩ := after_two hbel2
               have HX2 := Lib.hid (show BoxT w2 (w.heap.size + 1) 24 0 none 0 0 0 from y2)
               obtain ⟨z0, z1, z2⟩ := HX2.out.cells
               have g0 := HX2.out.free 0
               have g1 := HX2.out.free 1
               have g2 := HX2.out.free 2
               have HLO := Lib.hid (show ∀ a, A' = some a → w.heap.size + 2 ≤ a.block from fun a ha => by have := hlo2 a ha; simp at this; omega)
               have HB2 := Lib.hid hb2
               have HBE := Lib.hid hB2
               have HS2 := Lib.hid hs2
               clear hb2 hlo2 hbel2 hB2 hs2 y1 y2)
  have hf : Far A' n' w.heap.size (w.heap.size + 2) := fun a ha _ => .inr (HLO.out a ha)
  refine bodyPost_ret (v := .tuple #[.agg #[.int .i64 cap', .slice A' n' c', .int .i64 sure'], .int .i64 er]) ?_ ?_ ?_
  · exact ret_store Try.results15 _ _ (w.heap.size + 1) 24 _ _ _ _ rfl (set3_heap _ _ _ HX2.out) rfl
  · rfl
  · rw [HR.out]
    exact ⟨A', n', c', rfl, HB2.out.set3 hf (Nat.le_succ _) (Nat.lt_succ_self _) _ _ _, .inr (fun a ha => Nat.le_trans (Nat.le_add_right _ 2) (HLO.out a ha)), set3_below HBE.out (Nat.le_succ _) _ _ _⟩
set_option maxHeartbeats 1000000 in
theorem stsync_any (s : Sp) (A : Option Addr) (n c : Nat) (w : World) (hb : Bts w A n c s.data) (hs : n ≤ 140737488355328) :
    Calls Try.prog 13 #[s.val A n c] w (GSE (syncP s) A n w) := by
  have hn := hb.small
  have hl := hb.len
  obtain ⟨r, hr⟩ : ∃ r, syncP s = r := ⟨_, rfl⟩
  have hrl : r.1.data.length ≤ 140737488355328 := by rw [← hr]; have := cut_len s s.data.length; rw [syncP]; omega
  have HC : ∀ W, Below w.heap.size w W → Calls Try.prog 29 #[s.val A n c, .func (.func 30) #[] #[], .int .i64 n] W fun e w' => ∃ A' n' c', e = .returned (.tuple #[r.1.val A' n' c', .int .i64 r.2]) ∧ Bts w' A' n' c' r.1.data ∧ (∀ a, A' = some a → W.heap.size ≤ a.block) ∧ Below W.heap.size W w' := fun W hW =>
    done_cut s A n c (.int .i64 n) r W (hb.below hW) hs hrl (fun hm W2 hW2 => by rw [← hr, syncP, cutP, if_pos hm, hl]; exact fcut_any s A n c n W2 (hb.below (hW.trans (hW2.mono hW.size)))) (fun hm => by rw [← hr, syncP, cutP, if_neg (by rw [hm]; simp)])
  have HR := Lib.hid hr
  obtain ⟨⟨cap', data', sure'⟩, er⟩ := r
  obtain ⟨cap, data, sure⟩ := s
  unfold Sp.val at HC ⊢
  simp only at hb HC hl ⊢
  have HC := Lib.hid HC
  clear hb hr hrl 
  go_enter Try.func13, Try.ntmps13
  go_wp2_with (go_at_call 29
               (with_reducible refine (HC.out _ (two_below _ _ _)).mono ?_)
               rintro e w2 ⟨A', n', c', rfl, hb2, hlo2, hbel2⟩
               obtain ⟨hB2, hs2, y1, y2⟩ := after_two hbel2
               have HX2 := Lib.hid (show BoxT w2 (w.heap.size + 1) 24 0 none 0 0 0 from y2)
               obtain ⟨z0, z1, z2⟩ := HX2.out.cells
               have g0 := HX2.out.free 0
               have g1 := HX2.out.free 1
               have g2 := HX2.out.free 2
               have HLO := Lib.hid (show ∀ a, A' = some a → w.heap.size + 2 ≤ a.block from fun a ha => by have := hlo2 a ha; simp at this; omega)
               have HB2 := Lib.hid hb2
               have HBE := Lib.hid hB2
               have HS2 := Lib.hid hs2
               clear hb2 hlo2 hbel2 hB2 hs2 y1 y2)
  have hf : Far A' n' w.heap.size (w.heap.size + 2) := fun a ha _ => .inr (HLO.out a ha)
  refine bodyPost_ret (v := .tuple #[.agg #[.int .i64 cap', .slice A' n' c', .int .i64 sure'], .int .i64 er]) ?_ ?_ ?_
  · exact ret_store Try.results13 _ _ (w.heap.size + 1) 24 _ _ _ _ rfl (set3_heap _ _ _ HX2.out) rfl
  · rfl
  · rw [HR.out]
    exact ⟨A', n', c', rfl, HB2.out.set3 hf (Nat.le_succ _) (Nat.lt_succ_self _) _ _ _, .inr (fun a ha => Nat.le_trans (Nat.le_add_right _ 2) (HLO.out a ha)), set3_below HBE.out (Nat.le_succ _) _ _ _⟩
set_option maxHeartbeats 1000000 in
theorem stcrash_any (s : Sp) (keep : Int) (A : Option Addr) (n c : Nat) (w : World) (hb : Bts w A n c s.data) (hs : n ≤ 140737488355328) :
    Calls Try.prog 20 #[s.val A n c, .int .i64 keep] w (GS (crashP s keep) A n w) := by
  have hn := hb.small
  have hl := hb.len
  obtain ⟨r, hr⟩ : ∃ r, (crashP s keep, if mayP s = true then (0 : Int) else 1) = r := ⟨_, rfl⟩
  have hrl : r.1.data.length ≤ 140737488355328 := by rw [← hr]; have := crash_len s keep; simp only; omega
  have HC : ∀ W, Below w.heap.size w W → Calls Try.prog 29 #[s.val A n c, .func (.func 31) #[] #[], .int .i64 keep] W fun e w' => ∃ A' n' c', e = .returned (.tuple #[r.1.val A' n' c', .int .i64 r.2]) ∧ Bts w' A' n' c' r.1.data ∧ (∀ a, A' = some a → W.heap.size ≤ a.block) ∧ Below W.heap.size W w' := fun W hW =>
    done_crash s A n c (.int .i64 keep) r W (hb.below hW) hs hrl (fun hm W2 hW2 => by rw [← hr, crashP, if_pos hm, if_pos hm]; exact fcrash_any s A n c keep W2 (hb.below (hW.trans (hW2.mono hW.size))) hm) (fun hm => by rw [← hr, crashP, if_neg (by rw [hm]; simp), if_neg (by rw [hm]; simp)])
  have HR := Lib.hid hr
  obtain ⟨⟨cap', data', sure'⟩, er⟩ := r
  obtain ⟨cap, data, sure⟩ := s
  unfold Sp.val at HC ⊢
  simp only at hb HC hl ⊢
  have HC := Lib.hid HC
  clear hb hr hrl 
  go_enter Try.func20, Try.ntmps20
  go_wp2_with (go_at_call 29
               (with_reducible refine (HC.out _ (two_below _ _ _)).mono ?_)
               rintro e w2 ⟨A', n', c', rfl, hb2, hlo2, hbel2⟩
               obtain ⟨hB2, hs2, y1, y2⟩ := after_two hbel2
               have HX2 := Lib.hid (show BoxT w2 (w.heap.size + 1) 24 0 none 0 0 0 from y2)
               obtain ⟨z0, z1, z2⟩ := HX2.out.cells
               have g0 := HX2.out.free 0
               have g1 := HX2.out.free 1
               have g2 := HX2.out.free 2
               have HLO := Lib.hid (show ∀ a, A' = some a → w.heap.size + 2 ≤ a.block from fun a ha => by have := hlo2 a ha; simp at this; omega)
               have HB2 := Lib.hid hb2
               have HBE := Lib.hid hB2
               have HS2 := Lib.hid hs2
               have hx3 := HX2.out.below (one_alloc w2 (.cells #[.int .i64 cap', .slice A' n' c', .int .i64 sure'] 24))
               obtain ⟨v0, v1, v2⟩ := hx3.cells
               have e0 := hx3.free 0
               have e1 := hx3.free 1
               have e2 := hx3.free 2
               have HX3 := Lib.hid hx3
               clear hb2 hlo2 hbel2 hB2 hs2 y1 y2 hx3)
  have hf : Far A' n' w.heap.size (w.heap.size + 2) := fun a ha _ => .inr (HLO.out a ha)
  refine bodyPost_ret (v := .agg #[.int .i64 cap', .slice A' n' c', .int .i64 sure']) ?_ ?_ ?_
  · exact ret_store1 Try.results20 _ _ (w.heap.size + 1) 24 _ _ _ rfl (set3_heap _ _ _ HX3.out)
  · rfl
  · rw [(Prod.mk.inj HR.out).1]
    exact ⟨A', n', c', rfl, (HB2.out.more _).set3 hf (Nat.le_succ _) (Nat.lt_succ_self _) _ _ _, .inr (fun a ha => Nat.le_trans (Nat.le_add_right _ 2) (HLO.out a ha)), set3_below (HBE.out.alloc HBE.out.size _) (Nat.le_succ _) _ _ _⟩
end Go.Proofs.Ytoohcpckdkbngaa
