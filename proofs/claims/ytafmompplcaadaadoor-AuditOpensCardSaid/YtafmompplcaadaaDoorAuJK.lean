/- Joined texts: The walks over package store's Write, Sync, Cut and Crash. The walks over package store's Write, Cut, Sync and Crash once more: what they give lies in new memory. A desk: a log at which something is done; a block of which parts are overwritten; slices.Clone of entries. The walk over package audit's May. The walks over package audit's left and Room. One operation of a drawn region as a step: a value it yields at this very world, a row loaded; parts of a desk set cell by cell. The walk over the document's record of an entry, as it would stand in a log. -/
import Derived.Test.YtafmompplcaadaaDoorAuJJ
import Derived.Test.YtafmompplcaadaaDoorAuJG
import Derived.Laws.CopyRow
import Derived.Test.YtafmompplcaadaaDoorAuJI
import Derived.Test.YtafmompplcaadaaDoorAuJH
import Derived.ScopeJumps
import Derived.WalkMore
import Derived.Test.YtafmompplcaadaaDoorAuJE
import Derived.Test.YtafmompplcaadaaDoorAuJD
/- The walks over package store's Write, Sync, Cut and Crash. -/
namespace Go.Proofs.YtafmompplcaadaaDoor
set_option maxRecDepth 100000
set_option linter.unusedVariables false
set_option linter.unusedSimpArgs false
open Go.RowKit

theorem fcut_len (s : Sp) (k : Int) : (fcutP s k).1.data.length ≤ s.data.length := by
  unfold fcutP
  split
  · exact Nat.le_refl _
  · simp only [Sp.upto, List.length_take]; omega
theorem cut_len (s : Sp) (k : Int) : (cutP s k).1.data.length ≤ s.data.length := by
  unfold cutP
  split
  · exact fcut_len s k
  · exact Nat.le_refl _
theorem crash_len (s : Sp) (k : Int) : (crashP s k).data.length ≤ s.data.length := by
  unfold crashP
  split
  · simp only [Sp.upto, List.length_take]; omega
  · exact Nat.le_refl _
theorem write_len (s : Sp) (b : List Int) : (writeP s b).1.data.length ≤ s.data.length ∨ (writeP s b).1.data.length ≤ 16384 := by
  unfold writeP
  split
  · rename_i h
    have h := mayT_iff.1 h
    unfold fwriteP
    split
    · exact .inl (Nat.le_refl _)
    · rename_i h2
      right
      simp only [List.length_append]
      omega
  · exact .inl (Nat.le_refl _)
set_option maxHeartbeats 1000000 in
theorem stwrite_any (s : Sp) (b : List Int) (A B : Option Addr) (n c : Nat) (m d : Nat) (w : World) (hb : Bts w A n c s.data) (hs : n ≤ 140737488355328) (h2 : Bts w B m d b) :
    Calls Tryd.prog 40 #[s.val A n c, .slice B m d] w (GSE (writeP s b) A n w) := by
  have hn := hb.small
  have hl := hb.len
  obtain ⟨r, hr⟩ : ∃ r, writeP s b = r := ⟨_, rfl⟩
  have hrl : r.1.data.length ≤ 140737488355328 := by rw [← hr]; have := write_len s b; omega
  have HC : ∀ W, Below w.heap.size w W → Calls Tryd.prog 51 #[s.val A n c, .func (.func 52) #[] #[], .slice B m d] W fun e w' => ∃ A' n' c', e = .returned (.tuple #[r.1.val A' n' c', .int .i64 r.2]) ∧ Bts w' A' n' c' r.1.data ∧ (∀ a, A' = some a → W.heap.size ≤ a.block) ∧ Below W.heap.size W w' := fun W hW =>
    done_write s A n c (.slice B m d) r W (hb.below hW) hs hrl (fun hm W2 hW2 => by rw [← hr, writeP, if_pos hm]; exact fwrite_any s b A B n c m d W2 (hb.below (hW.trans (hW2.mono hW.size))) (h2.below (hW.trans (hW2.mono hW.size))) hm) (fun hm => by rw [← hr, writeP, if_neg (by rw [hm]; simp)])
  have HR := Lib.hid hr
  obtain ⟨⟨cap', data', sure'⟩, er⟩ := r
  obtain ⟨cap, data, sure⟩ := s
  unfold Sp.val at HC ⊢
  simp only at hb HC hl ⊢
  have HC := Lib.hid HC
  clear hb hr hrl h2
  go_enter Tryd.func40, Tryd.ntmps40
  go_wp2_with (go_at_call 51
               (with_reducible refine (HC.out _ (two_below _ _ _)).mono ?_)
               rintro e w2 ⟨A', n', c', rfl, hb2, hlo2, hbel2⟩
               obtain ⟨hB2, hs2, y1, y2⟩ := after_two hbel2
               have HX2 := Lib.hid (show BoxT w2 (w.heap.size + 1) 24 0 none 0 0 0 from y2)
               obtain ⟨z0, z1, z2⟩ := HX2.out.cells
               have g0 := HX2.out.free 0
               have g1 := HX2.out.free 1
               have g2 := HX2.out.free 2
               have HLO := Lib.hid (show ∀ a, A' = some a → w.heap.size + 2 ≤ a.block from fun a ha => by have := hlo2 a ha; simp at this; omega)
               have HB2 := Lib.hid hb2
               have HBE := Lib.hid hB2
               have HS2 := Lib.hid hs2
               clear hb2 hlo2 hbel2 hB2 hs2 y1 y2)
  have hf : Far A' n' w.heap.size (w.heap.size + 2) := fun a ha _ => .inr (HLO.out a ha)
  refine bodyPost_ret (v := .tuple #[.agg #[.int .i64 cap', .slice A' n' c', .int .i64 sure'], .int .i64 er]) ?_ ?_ ?_
  · exact ret_store Tryd.results40 _ _ (w.heap.size + 1) 24 _ _ _ _ rfl (set3_heap _ _ _ HX2.out) rfl
  · rfl
  · rw [HR.out]
    exact ⟨A', n', c', rfl, HB2.out.set3 hf (Nat.le_succ _) (Nat.lt_succ_self _) _ _ _, .inr (fun a ha => Nat.le_trans (Nat.le_add_right _ 2) (HLO.out a ha)), set3_below HBE.out (Nat.le_succ _) _ _ _⟩
set_option maxHeartbeats 1000000 in
theorem stcut_any (s : Sp) (k : Int) (A : Option Addr) (n c : Nat) (w : World) (hb : Bts w A n c s.data) (hs : n ≤ 140737488355328) :
    Calls Tryd.prog 26 #[s.val A n c, .int .i64 k] w (GSE (cutP s k) A n w) := by
  have hn := hb.small
  have hl := hb.len
  obtain ⟨r, hr⟩ : ∃ r, cutP s k = r := ⟨_, rfl⟩
  have hrl : r.1.data.length ≤ 140737488355328 := by rw [← hr]; have := cut_len s k; omega
  have HC : ∀ W, Below w.heap.size w W → Calls Tryd.prog 41 #[s.val A n c, .func (.func 42) #[] #[], .int .i64 k] W fun e w' => ∃ A' n' c', e = .returned (.tuple #[r.1.val A' n' c', .int .i64 r.2]) ∧ Bts w' A' n' c' r.1.data ∧ (∀ a, A' = some a → W.heap.size ≤ a.block) ∧ Below W.heap.size W w' := fun W hW =>
    done_cut s A n c (.int .i64 k) r W (hb.below hW) hs hrl (fun hm W2 hW2 => by rw [← hr, cutP, if_pos hm]; exact fcut_any s A n c k W2 (hb.below (hW.trans (hW2.mono hW.size)))) (fun hm => by rw [← hr, cutP, if_neg (by rw [hm]; simp)])
  have HR := Lib.hid hr
  obtain ⟨⟨cap', data', sure'⟩, er⟩ := r
  obtain ⟨cap, data, sure⟩ := s
  unfold Sp.val at HC ⊢
  simp only at hb HC hl ⊢
  have HC := Lib.hid HC
  clear hb hr hrl 
  go_enter Tryd.func26, Tryd.ntmps26
  go_wp2_with (go_at_call 41
               (with_reducible refine (HC.out _ (two_below _ _ _)).mono ?_)
               rintro e w2 ⟨A', n', c', rfl, hb2, hlo2, hbel2⟩
               obtain ⟨hB2, hs2, y1, y2⟩ := after_two hbel2
               have HX2 := Lib.hid (show BoxT w2 (w.heap.size + 1) 24 0 none 0 0 0 from y2)
               obtain ⟨z0, z1, z2⟩ := HX2.out.cells
               have g0 := HX2.out.free 0
               have g1 := HX2.out.free 1
               have g2 := HX2.out.free 2
               have HLO := Lib.hid (show ∀ a, A' = some a → w.heap.size + 2 ≤ a.block from fun a ha => by have := hlo2 a ha; simp at this; omega)
               have HB2 := Lib.hid hb2
               have HBE := Lib.hid hB2
               have HS2 := Lib.hid hs2
               clear hb2 hlo2 hbel2 hB2 hs2 y1 y2)
  have hf : Far A' n' w.heap.size (w.heap.size + 2) := fun a ha _ => .inr (HLO.out a ha)
  refine bodyPost_ret (v := .tuple #[.agg #[.int .i64 cap', .slice A' n' c', .int .i64 sure'], .int .i64 er]) ?_ ?_ ?_
  · exact ret_store Tryd.results26 _ _ (w.heap.size + 1) 24 _ _ _ _ rfl (set3_heap _ _ _ HX2.out) rfl
  · rfl
  · rw [HR.out]
    exact ⟨A', n', c', rfl, HB2.out.set3 hf (Nat.le_succ _) (Nat.lt_succ_self _) _ _ _, .inr (fun a ha => Nat.le_trans (Nat.le_add_right _ 2) (HLO.out a ha)), set3_below HBE.out (Nat.le_succ _) _ _ _⟩
set_option maxHeartbeats 1000000 in
theorem stsync_any (s : Sp) (A : Option Addr) (n c : Nat) (w : World) (hb : Bts w A n c s.data) (hs : n ≤ 140737488355328) :
    Calls Tryd.prog 25 #[s.val A n c] w (GSE (syncP s) A n w) := by
  have hn := hb.small
  have hl := hb.len
  obtain ⟨r, hr⟩ : ∃ r, syncP s = r := ⟨_, rfl⟩
  have hrl : r.1.data.length ≤ 140737488355328 := by rw [← hr]; have := cut_len s s.data.length; rw [syncP]; omega
  have HC : ∀ W, Below w.heap.size w W → Calls Tryd.prog 41 #[s.val A n c, .func (.func 42) #[] #[], .int .i64 n] W fun e w' => ∃ A' n' c', e = .returned (.tuple #[r.1.val A' n' c', .int .i64 r.2]) ∧ Bts w' A' n' c' r.1.data ∧ (∀ a, A' = some a → W.heap.size ≤ a.block) ∧ Below W.heap.size W w' := fun W hW =>
    done_cut s A n c (.int .i64 n) r W (hb.below hW) hs hrl (fun hm W2 hW2 => by rw [← hr, syncP, cutP, if_pos hm, hl]; exact fcut_any s A n c n W2 (hb.below (hW.trans (hW2.mono hW.size)))) (fun hm => by rw [← hr, syncP, cutP, if_neg (by rw [hm]; simp)])
  have HR := Lib.hid hr
  obtain ⟨⟨cap', data', sure'⟩, er⟩ := r
  obtain ⟨cap, data, sure⟩ := s
  unfold Sp.val at HC ⊢
  simp only at hb HC hl ⊢
  have HC := Lib.hid HC
  clear hb hr hrl 
  go_enter Tryd.func25, Tryd.ntmps25
  go_wp2_with (go_at_call 41
               (with_reducible refine (HC.out _ (two_below _ _ _)).mono ?_)
               rintro e w2 ⟨A', n', c', rfl, hb2, hlo2, hbel2⟩
               obtain ⟨hB2, hs2, y1, y2⟩ := after_two hbel2
               have HX2 := Lib.hid (show BoxT w2 (w.heap.size + 1) 24 0 none 0 0 0 from y2)
               obtain ⟨z0, z1, z2⟩ := HX2.out.cells
               have g0 := HX2.out.free 0
               have g1 := HX2.out.free 1
               have g2 := HX2.out.free 2
               have HLO := Lib.hid (show ∀ a, A' = some a → w.heap.size + 2 ≤ a.block from fun a ha => by have := hlo2 a ha; simp at this; omega)
               have HB2 := Lib.hid hb2
               have HBE := Lib.hid hB2
               have HS2 := Lib.hid hs2
               clear hb2 hlo2 hbel2 hB2 hs2 y1 y2)
  have hf : Far A' n' w.heap.size (w.heap.size + 2) := fun a ha _ => .inr (HLO.out a ha)
  refine bodyPost_ret (v := .tuple #[.agg #[.int .i64 cap', .slice A' n' c', .int .i64 sure'], .int .i64 er]) ?_ ?_ ?_
  · exact ret_store Tryd.results25 _ _ (w.heap.size + 1) 24 _ _ _ _ rfl (set3_heap _ _ _ HX2.out) rfl
  · rfl
  · rw [HR.out]
    exact ⟨A', n', c', rfl, HB2.out.set3 hf (Nat.le_succ _) (Nat.lt_succ_self _) _ _ _, .inr (fun a ha => Nat.le_trans (Nat.le_add_right _ 2) (HLO.out a ha)), set3_below HBE.out (Nat.le_succ _) _ _ _⟩
set_option maxHeartbeats 1000000 in
theorem stcrash_any (s : Sp) (keep : Int) (A : Option Addr) (n c : Nat) (w : World) (hb : Bts w A n c s.data) (hs : n ≤ 140737488355328) :
    Calls Tryd.prog 29 #[s.val A n c, .int .i64 keep] w (GS (crashP s keep) A n w) := by
  have hn := hb.small
  have hl := hb.len
  obtain ⟨r, hr⟩ : ∃ r, (crashP s keep, if mayP s = true then (0 : Int) else 1) = r := ⟨_, rfl⟩
  have hrl : r.1.data.length ≤ 140737488355328 := by rw [← hr]; have := crash_len s keep; simp only; omega
  have HC : ∀ W, Below w.heap.size w W → Calls Tryd.prog 41 #[s.val A n c, .func (.func 43) #[] #[], .int .i64 keep] W fun e w' => ∃ A' n' c', e = .returned (.tuple #[r.1.val A' n' c', .int .i64 r.2]) ∧ Bts w' A' n' c' r.1.data ∧ (∀ a, A' = some a → W.heap.size ≤ a.block) ∧ Below W.heap.size W w' := fun W hW =>
    done_crash s A n c (.int .i64 keep) r W (hb.below hW) hs hrl (fun hm W2 hW2 => by rw [← hr, crashP, if_pos hm, if_pos hm]; exact fcrash_any s A n c keep W2 (hb.below (hW.trans (hW2.mono hW.size))) hm) (fun hm => by rw [← hr, crashP, if_neg (by rw [hm]; simp), if_neg (by rw [hm]; simp)])
  have HR := Lib.hid hr
  obtain ⟨⟨cap', data', sure'⟩, er⟩ := r
  obtain ⟨cap, data, sure⟩ := s
  unfold Sp.val at HC ⊢
  simp only at hb HC hl ⊢
  have HC := Lib.hid HC
  clear hb hr hrl 
  go_enter Tryd.func29, Tryd.ntmps29
  go_wp2_with (go_at_call 41
               (with_reducible refine (HC.out _ (two_below _ _ _)).mono ?_)
               rintro e w2 ⟨A', n', c', rfl, hb2, hlo2, hbel2⟩
               obtain ⟨hB2, hs2, y1, y2⟩ := after_two hbel2
               have HX2 := Lib.hid (show BoxT w2 (w.heap.size + 1) 24 0 none 0 0 0 from y2)
               obtain ⟨z0, z1, z2⟩ := HX2.out.cells
               have g0 := HX2.out.free 0
               have g1 := HX2.out.free 1
               have g2 := HX2.out.free 2
               have HLO := Lib.hid (show ∀ a, A' = some a → w.heap.size + 2 ≤ a.block from fun a ha => by have := hlo2 a ha; simp at this; omega)
               have HB2 := Lib.hid hb2
               have HBE := Lib.hid hB2
               have HS2 := Lib.hid hs2
               have hx3 := HX2.out.below (one_alloc w2 (.cells #[.int .i64 cap', .slice A' n' c', .int .i64 sure'] 24))
               obtain ⟨v0, v1, v2⟩ := hx3.cells
               have e0 := hx3.free 0
               have e1 := hx3.free 1
               have e2 := hx3.free 2
               have HX3 := Lib.hid hx3
               clear hb2 hlo2 hbel2 hB2 hs2 y1 y2 hx3)
  have hf : Far A' n' w.heap.size (w.heap.size + 2) := fun a ha _ => .inr (HLO.out a ha)
  refine bodyPost_ret (v := .agg #[.int .i64 cap', .slice A' n' c', .int .i64 sure']) ?_ ?_ ?_
  · exact ret_store1 Tryd.results29 _ _ (w.heap.size + 1) 24 _ _ _ rfl (set3_heap _ _ _ HX3.out)
  · rfl
  · rw [(Prod.mk.inj HR.out).1]
    exact ⟨A', n', c', rfl, (HB2.out.more _).set3 hf (Nat.le_succ _) (Nat.lt_succ_self _) _ _ _, .inr (fun a ha => Nat.le_trans (Nat.le_add_right _ 2) (HLO.out a ha)), set3_below (HBE.out.alloc HBE.out.size _) (Nat.le_succ _) _ _ _⟩
end Go.Proofs.YtafmompplcaadaaDoor

/- The walks over package store's Write, Cut, Sync and Crash once more: what they give lies in new memory. -/
namespace Go.Proofs.YtafmompplcaadaaDoor
set_option maxRecDepth 100000
set_option linter.unusedVariables false
set_option linter.unusedSimpArgs false
open Go.RowKit

def GSEn (r : Sp × Int) (w : World) (e : Ending) (w' : World) : Prop := ∃ A' n' c', e = .returned (.tuple #[.agg #[.int .i64 r.1.cap, .slice A' n' c', .int .i64 r.1.sure], .int .i64 r.2]) ∧ Bts w' A' n' c' r.1.data ∧ (∀ a, A' = some a → w.heap.size ≤ a.block) ∧ Below w.heap.size w w'
def GSn (r : Sp) (w : World) (e : Ending) (w' : World) : Prop := ∃ A' n' c', e = .returned (.agg #[.int .i64 r.cap, .slice A' n' c', .int .i64 r.sure]) ∧ Bts w' A' n' c' r.data ∧ (∀ a, A' = some a → w.heap.size ≤ a.block) ∧ Below w.heap.size w w'
set_option maxHeartbeats 1000000 in
theorem stwrite_new (s : Sp) (b : List Int) (A B : Option Addr) (n c : Nat) (m d : Nat) (w : World) (hb : Bts w A n c s.data) (hs : n ≤ 140737488355328) (h2 : Bts w B m d b) :
    Calls Tryd.prog 40 #[s.val A n c, .slice B m d] w (GSEn (writeP s b) w) := by
  have hn := hb.small
  have hl := hb.len
  obtain ⟨r, hr⟩ : ∃ r, writeP s b = r := ⟨_, rfl⟩
  have hrl : r.1.data.length ≤ 140737488355328 := by rw [← hr]; have := write_len s b; omega
  have HC : ∀ W, Below w.heap.size w W → Calls Tryd.prog 51 #[s.val A n c, .func (.func 52) #[] #[], .slice B m d] W fun e w' => ∃ A' n' c', e = .returned (.tuple #[r.1.val A' n' c', .int .i64 r.2]) ∧ Bts w' A' n' c' r.1.data ∧ (∀ a, A' = some a → W.heap.size ≤ a.block) ∧ Below W.heap.size W w' := fun W hW =>
    done_write s A n c (.slice B m d) r W (hb.below hW) hs hrl (fun hm W2 hW2 => by rw [← hr, writeP, if_pos hm]; exact fwrite_any s b A B n c m d W2 (hb.below (hW.trans (hW2.mono hW.size))) (h2.below (hW.trans (hW2.mono hW.size))) hm) (fun hm => by rw [← hr, writeP, if_neg (by rw [hm]; simp)])
  have HR := Lib.hid hr
  obtain ⟨⟨cap', data', sure'⟩, er⟩ := r
  obtain ⟨cap, data, sure⟩ := s
  unfold Sp.val at HC ⊢
  simp only at hb HC hl ⊢
  have HC := Lib.hid HC
  clear hb hr hrl h2
  go_enter Tryd.func40, Tryd.ntmps40
  go_wp2_with (go_at_call 51
               (with_reducible refine (HC.out _ (two_below _ _ _)).mono ?_)
               rintro e w2 ⟨A', n', c', rfl, hb2, hlo2, hbel2⟩
               obtain ⟨hB2, hs2, y1, y2⟩ := after_two hbel2
               have HX2 := Lib.hid (show BoxT w2 (w.heap.size + 1) 24 0 none 0 0 0 from y2)
               obtain ⟨z0, z1, z2⟩ := HX2.out.cells
               have g0 := HX2.out.free 0
               have g1 := HX2.out.free 1
               have g2 := HX2.out.free 2
               have HLO := Lib.hid (show ∀ a, A' = some a → w.heap.size + 2 ≤ a.block from fun a ha => by have := hlo2 a ha; simp at this; omega)
               have HB2 := Lib.hid hb2
               have HBE := Lib.hid hB2
               have HS2 := Lib.hid hs2
               clear hb2 hlo2 hbel2 hB2 hs2 y1 y2)
  have hf : Far A' n' w.heap.size (w.heap.size + 2) := fun a ha _ => .inr (HLO.out a ha)
  refine bodyPost_ret (v := .tuple #[.agg #[.int .i64 cap', .slice A' n' c', .int .i64 sure'], .int .i64 er]) ?_ ?_ ?_
  · exact ret_store Tryd.results40 _ _ (w.heap.size + 1) 24 _ _ _ _ rfl (set3_heap _ _ _ HX2.out) rfl
  · rfl
  · rw [HR.out]
    exact ⟨A', n', c', rfl, HB2.out.set3 hf (Nat.le_succ _) (Nat.lt_succ_self _) _ _ _, (fun a ha => Nat.le_trans (Nat.le_add_right _ 2) (HLO.out a ha)), set3_below HBE.out (Nat.le_succ _) _ _ _⟩
set_option maxHeartbeats 1000000 in
theorem stcut_new (s : Sp) (k : Int) (A : Option Addr) (n c : Nat) (w : World) (hb : Bts w A n c s.data) (hs : n ≤ 140737488355328) :
    Calls Tryd.prog 26 #[s.val A n c, .int .i64 k] w (GSEn (cutP s k) w) := by
  have hn := hb.small
  have hl := hb.len
  obtain ⟨r, hr⟩ : ∃ r, cutP s k = r := ⟨_, rfl⟩
  have hrl : r.1.data.length ≤ 140737488355328 := by rw [← hr]; have := cut_len s k; omega
  have HC : ∀ W, Below w.heap.size w W → Calls Tryd.prog 41 #[s.val A n c, .func (.func 42) #[] #[], .int .i64 k] W fun e w' => ∃ A' n' c', e = .returned (.tuple #[r.1.val A' n' c', .int .i64 r.2]) ∧ Bts w' A' n' c' r.1.data ∧ (∀ a, A' = some a → W.heap.size ≤ a.block) ∧ Below W.heap.size W w' := fun W hW =>
    done_cut s A n c (.int .i64 k) r W (hb.below hW) hs hrl (fun hm W2 hW2 => by rw [← hr, cutP, if_pos hm]; exact fcut_any s A n c k W2 (hb.below (hW.trans (hW2.mono hW.size)))) (fun hm => by rw [← hr, cutP, if_neg (by rw [hm]; simp)])
  have HR := Lib.hid hr
  obtain ⟨⟨cap', data', sure'⟩, er⟩ := r
  obtain ⟨cap, data, sure⟩ := s
  unfold Sp.val at HC ⊢
  simp only at hb HC hl ⊢
  have HC := Lib.hid HC
  clear hb hr hrl 
  go_enter Tryd.func26, Tryd.ntmps26
  go_wp2_with (go_at_call 41
               (with_reducible refine (HC.out _ (two_below _ _ _)).mono ?_)
               rintro e w2 ⟨A', n', c', rfl, hb2, hlo2, hbel2⟩
               obtain ⟨hB2, hs2, y1, y2⟩ := after_two hbel2
               have HX2 := Lib.hid (show BoxT w2 (w.heap.size + 1) 24 0 none 0 0 0 from y2)
               obtain ⟨z0, z1, z2⟩ := HX2.out.cells
               have g0 := HX2.out.free 0
               have g1 := HX2.out.free 1
               have g2 := HX2.out.free 2
               have HLO := Lib.hid (show ∀ a, A' = some a → w.heap.size + 2 ≤ a.block from fun a ha => by have := hlo2 a ha; simp at this; omega)
               have HB2 := Lib.hid hb2
               have HBE := Lib.hid hB2
               have HS2 := Lib.hid hs2
               clear hb2 hlo2 hbel2 hB2 hs2 y1 y2)
  have hf : Far A' n' w.heap.size (w.heap.size + 2) := fun a ha _ => .inr (HLO.out a ha)
  refine bodyPost_ret (v := .tuple #[.agg #[.int .i64 cap', .slice A' n' c', .int .i64 sure'], .int .i64 er]) ?_ ?_ ?_
  · exact ret_store Tryd.results26 _ _ (w.heap.size + 1) 24 _ _ _ _ rfl (set3_heap _ _ _ HX2.out) rfl
  · rfl
  · rw [HR.out]
    exact ⟨A', n', c', rfl, HB2.out.set3 hf (Nat.le_succ _) (Nat.lt_succ_self _) _ _ _, (fun a ha => Nat.le_trans (Nat.le_add_right _ 2) (HLO.out a ha)), set3_below HBE.out (Nat.le_succ _) _ _ _⟩
set_option maxHeartbeats 1000000 in
theorem stsync_new (s : Sp) (A : Option Addr) (n c : Nat) (w : World) (hb : Bts w A n c s.data) (hs : n ≤ 140737488355328) :
    Calls Tryd.prog 25 #[s.val A n c] w (GSEn (syncP s) w) := by
  have hn := hb.small
  have hl := hb.len
  obtain ⟨r, hr⟩ : ∃ r, syncP s = r := ⟨_, rfl⟩
  have hrl : r.1.data.length ≤ 140737488355328 := by rw [← hr]; have := cut_len s s.data.length; rw [syncP]; omega
  have HC : ∀ W, Below w.heap.size w W → Calls Tryd.prog 41 #[s.val A n c, .func (.func 42) #[] #[], .int .i64 n] W fun e w' => ∃ A' n' c', e = .returned (.tuple #[r.1.val A' n' c', .int .i64 r.2]) ∧ Bts w' A' n' c' r.1.data ∧ (∀ a, A' = some a → W.heap.size ≤ a.block) ∧ Below W.heap.size W w' := fun W hW =>
    done_cut s A n c (.int .i64 n) r W (hb.below hW) hs hrl (fun hm W2 hW2 => by rw [← hr, syncP, cutP, if_pos hm, hl]; exact fcut_any s A n c n W2 (hb.below (hW.trans (hW2.mono hW.size)))) (fun hm => by rw [← hr, syncP, cutP, if_neg (by rw [hm]; simp)])
  have HR := Lib.hid hr
  obtain ⟨⟨cap', data', sure'⟩, er⟩ := r
  obtain ⟨cap, data, sure⟩ := s
  unfold Sp.val at HC ⊢
  simp only at hb HC hl ⊢
  have HC := Lib.hid HC
  clear hb hr hrl 
  go_enter Tryd.func25, Tryd.ntmps25
  go_wp2_with (go_at_call 41
               (with_reducible refine (HC.out _ (two_below _ _ _)).mono ?_)
               rintro e w2 ⟨A', n', c', rfl, hb2, hlo2, hbel2⟩
               obtain ⟨hB2, hs2, y1, y2⟩ := after_two hbel2
               have HX2 := Lib.hid (show BoxT w2 (w.heap.size + 1) 24 0 none 0 0 0 from y2)
               obtain ⟨z0, z1, z2⟩ := HX2.out.cells
               have g0 := HX2.out.free 0
               have g1 := HX2.out.free 1
               have g2 := HX2.out.free 2
               have HLO := Lib.hid (show ∀ a, A' = some a → w.heap.size + 2 ≤ a.block from fun a ha => by have := hlo2 a ha; simp at this; omega)
               have HB2 := Lib.hid hb2
               have HBE := Lib.hid hB2
               have HS2 := Lib.hid hs2
               clear hb2 hlo2 hbel2 hB2 hs2 y1 y2)
  have hf : Far A' n' w.heap.size (w.heap.size + 2) := fun a ha _ => .inr (HLO.out a ha)
  refine bodyPost_ret (v := .tuple #[.agg #[.int .i64 cap', .slice A' n' c', .int .i64 sure'], .int .i64 er]) ?_ ?_ ?_
  · exact ret_store Tryd.results25 _ _ (w.heap.size + 1) 24 _ _ _ _ rfl (set3_heap _ _ _ HX2.out) rfl
  · rfl
  · rw [HR.out]
    exact ⟨A', n', c', rfl, HB2.out.set3 hf (Nat.le_succ _) (Nat.lt_succ_self _) _ _ _, (fun a ha => Nat.le_trans (Nat.le_add_right _ 2) (HLO.out a ha)), set3_below HBE.out (Nat.le_succ _) _ _ _⟩
set_option maxHeartbeats 1000000 in
theorem stcrash_new (s : Sp) (keep : Int) (A : Option Addr) (n c : Nat) (w : World) (hb : Bts w A n c s.data) (hs : n ≤ 140737488355328) :
    Calls Tryd.prog 29 #[s.val A n c, .int .i64 keep] w (GSn (crashP s keep) w) := by
  have hn := hb.small
  have hl := hb.len
  obtain ⟨r, hr⟩ : ∃ r, (crashP s keep, if mayP s = true then (0 : Int) else 1) = r := ⟨_, rfl⟩
  have hrl : r.1.data.length ≤ 140737488355328 := by rw [← hr]; have := crash_len s keep; simp only; omega
  have HC : ∀ W, Below w.heap.size w W → Calls Tryd.prog 41 #[s.val A n c, .func (.func 43) #[] #[], .int .i64 keep] W fun e w' => ∃ A' n' c', e = .returned (.tuple #[r.1.val A' n' c', .int .i64 r.2]) ∧ Bts w' A' n' c' r.1.data ∧ (∀ a, A' = some a → W.heap.size ≤ a.block) ∧ Below W.heap.size W w' := fun W hW =>
    done_crash s A n c (.int .i64 keep) r W (hb.below hW) hs hrl (fun hm W2 hW2 => by rw [← hr, crashP, if_pos hm, if_pos hm]; exact fcrash_any s A n c keep W2 (hb.below (hW.trans (hW2.mono hW.size))) hm) (fun hm => by rw [← hr, crashP, if_neg (by rw [hm]; simp), if_neg (by rw [hm]; simp)])
  have HR := Lib.hid hr
  obtain ⟨⟨cap', data', sure'⟩, er⟩ := r
  obtain ⟨cap, data, sure⟩ := s
  unfold Sp.val at HC ⊢
  simp only at hb HC hl ⊢
  have HC := Lib.hid HC
  clear hb hr hrl 
  go_enter Tryd.func29, Tryd.ntmps29
  go_wp2_with (go_at_call 41
               (with_reducible refine (HC.out _ (two_below _ _ _)).mono ?_)
               rintro e w2 ⟨A', n', c', rfl, hb2, hlo2, hbel2⟩
               obtain ⟨hB2, hs2, y1, y2⟩ := after_two hbel2
               have HX2 := Lib.hid (show BoxT w2 (w.heap.size + 1) 24 0 none 0 0 0 from y2)
               obtain ⟨z0, z1, z2⟩ := HX2.out.cells
               have g0 := HX2.out.free 0
               have g1 := HX2.out.free 1
               have g2 := HX2.out.free 2
               have HLO := Lib.hid (show ∀ a, A' = some a → w.heap.size + 2 ≤ a.block from fun a ha => by have := hlo2 a ha; simp at this; omega)
               have HB2 := Lib.hid hb2
               have HBE := Lib.hid hB2
               have HS2 := Lib.hid hs2
               have hx3 := HX2.out.below (one_alloc w2 (.cells #[.int .i64 cap', .slice A' n' c', .int .i64 sure'] 24))
               obtain ⟨v0, v1, v2⟩ := hx3.cells
               have e0 := hx3.free 0
               have e1 := hx3.free 1
               have e2 := hx3.free 2
               have HX3 := Lib.hid hx3
               clear hb2 hlo2 hbel2 hB2 hs2 y1 y2 hx3)
  have hf : Far A' n' w.heap.size (w.heap.size + 2) := fun a ha _ => .inr (HLO.out a ha)
  refine bodyPost_ret (v := .agg #[.int .i64 cap', .slice A' n' c', .int .i64 sure']) ?_ ?_ ?_
  · exact ret_store1 Tryd.results29 _ _ (w.heap.size + 1) 24 _ _ _ rfl (set3_heap _ _ _ HX3.out)
  · rfl
  · rw [(Prod.mk.inj HR.out).1]
    exact ⟨A', n', c', rfl, (HB2.out.more _).set3 hf (Nat.le_succ _) (Nat.lt_succ_self _) _ _ _, (fun a ha => Nat.le_trans (Nat.le_add_right _ 2) (HLO.out a ha)), set3_below (HBE.out.alloc HBE.out.size _) (Nat.le_succ _) _ _ _⟩
end Go.Proofs.YtafmompplcaadaaDoor

/- A desk: a log at which something is done; a block of which parts are overwritten; slices.Clone of entries. -/
namespace Go.Proofs.YtafmompplcaadaaDoor
set_option maxRecDepth 100000
set_option linter.unusedVariables false
set_option linter.unusedSimpArgs false
open Go.RowKit

section
variable {P : Program}
/-- a store into the middle of a block -/
theorem run_storeVar_in (w : World) (g o : Nat) (t ty : TypeId) (v : Value) (old cells new : Array Value) (hv : v.cells = cells) (hg : w.heap[g]? = some (.cells old t (0, 0))) (hi : (P.info? ty).map (·.size) = some cells.size)
    (hl : o + cells.size ≤ old.size) (h1 : cells.all (·.oneCell') = true) (hn : old.toList.take o ++ cells.toList ++ old.toList.drop (o + cells.size) = new.toList) :
    (storeVar ty ⟨g, o, none⟩ v).run P w = .ok () (w.setRow g new) := by
  have h := run_storeCells_at P g o t cells.toList 0 old w hg (by simpa using hl) (fun v hv => (Array.all_eq_true_iff_forall_mem.1 h1) v (by simpa using hv))
  simp only [Nat.add_zero, Array.length_toList, hn, Array.toArray_toList] at h
  cases hq : P.info? ty with
  | none => simp [hq] at hi
  | some i =>
    have hs : cells.size = i.size := by simp [hq] at hi; omega
    simp [storeVar, sizeOf, typeInfo, hq, hv, hs, h]
theorem wp_store_in {o : Oper} {a : Act} {w : World} {K : Act → World → Prop} {Q : Exit → Act → World → Prop} (ty : TypeId) (x y : Operand) (ho : o.op = .store ty x y)
    (g off : Nat) (v : Value) (cells : Array Value) (hx : a.eval x = .pointer (some ⟨g, off, none⟩)) (hy : a.eval y = v) (hv : v.cells = cells) (t : TypeId) (old new : Array Value) (hg : w.heap[g]? = some (.cells old t (0, 0))) (hi : (P.info? ty).map (·.size) = some cells.size)
    (hl : off + cells.size ≤ old.size) (h1 : cells.all (·.oneCell') = true) (hn : old.toList.take off ++ cells.toList ++ old.toList.drop (off + cells.size) = new.toList)
    (h : ∀ w', w.grownBy w' (some g) → w'.heap[g]? = some (.cells new t (0, 0)) → w'.heap.size = w.heap.size → K (a.put o.dst undef) w') : o.wp P a w K Q := by
  unfold Oper.wp execOp
  simp only [ho, hx, hy, Instr.storeAt, Instr.sureAddr, Sem.run_bind, Sem.run_pure, Result.andThen_ok, run_storeVar_in w g off t ty v old cells new hv hg hi hl h1 hn]
  exact h _ (grown_setRow _ _ _) (setRow_heap _ _ _ _ _ _ hg) (by simp)
theorem wpList_store_in {ops : Array Oper} {rest : List Oper} {o : Oper} {a : Act} {w : World} {Q : Exit → Act → World → Prop} (hgd : o.guard = none) (ty : TypeId) (x y : Operand) (ho : o.op = .store ty x y)
    (g off : Nat) (v : Value) (cells : Array Value) (hx : a.eval x = .pointer (some ⟨g, off, none⟩)) (hy : a.eval y = v) (hv : v.cells = cells) (t : TypeId) (old new : Array Value) (hg : w.heap[g]? = some (.cells old t (0, 0))) (hi : (P.info? ty).map (·.size) = some cells.size)
    (hl : off + cells.size ≤ old.size) (h1 : cells.all (·.oneCell') = true) (hn : old.toList.take off ++ cells.toList ++ old.toList.drop (off + cells.size) = new.toList)
    (h : ∀ w', w.grownBy w' (some g) → w'.heap[g]? = some (.cells new t (0, 0)) → w'.heap.size = w.heap.size → wpList P ops Q rest (a.put o.dst undef) w') : wpList P ops Q (o :: rest) a w :=
  wpList_plain hgd fun _ hK => wp_store_in ty x y ho g off v cells hx hy hv t old new hg hi hl h1 hn fun w' h2 h3 h4 => hK _ _ (h w' h2 h3 h4)
theorem step_store_in {ops : Array Oper} {o : Oper} {a : Act} {w : World} {K : Act → World → Prop} {Q : Exit → Act → World → Prop} {E : Prop} (ty : TypeId) (x y : Operand) (ho : o.op = .store ty x y)
    (g off : Nat) (v : Value) (cells : Array Value) (hx : a.eval x = .pointer (some ⟨g, off, none⟩)) (hy : a.eval y = v) (hv : v.cells = cells) (t : TypeId) (old new : Array Value) (hg : w.heap[g]? = some (.cells old t (0, 0))) (hi : (P.info? ty).map (·.size) = some cells.size)
    (hl : off + cells.size ≤ old.size) (h1 : cells.all (·.oneCell') = true) (hn : old.toList.take off ++ cells.toList ++ old.toList.drop (off + cells.size) = new.toList) (hw : Region.wanted o (yielded ops a.tmps) = true)
    (h : ∀ w', w.grownBy w' (some g) → w'.heap[g]? = some (.cells new t (0, 0)) → w'.heap.size = w.heap.size → K (a.put o.dst undef) w') : if Region.wanted o (yielded ops a.tmps) = true then Oper.wp P o a w K Q else E := by
  rw [if_pos hw]
  exact wp_store_in ty x y ho g off v cells hx hy hv t old new hg hi hl h1 hn h
end
/-- parts of a log overwritten: its store, its bytes, its entries, its head -/
def Lp.putS (p : Lp) (cap : Int) (A : Option Addr) (n c : Nat) (sure : Int) : Lp := ⟨cap, A, n, c, sure, p.B, p.m, p.d, p.H⟩
def Lp.putA (p : Lp) (A : Option Addr) (n c : Nat) : Lp := ⟨p.cap, A, n, c, p.sure, p.B, p.m, p.d, p.H⟩
def Lp.putB (p : Lp) (B : Option Addr) (m d : Nat) : Lp := ⟨p.cap, p.A, p.n, p.c, p.sure, B, m, d, p.H⟩
def Lp.putH (p : Lp) (H : List Int) : Lp := ⟨p.cap, p.A, p.n, p.c, p.sure, p.B, p.m, p.d, H⟩
theorem new_s (p : Lp) (cap : Int) (A : Option Addr) (n c : Nat) (sure : Int) : p.arr.toList.take 0 ++ (#[.int .i64 cap, .slice A n c, .int .i64 sure] : Array Value).toList ++ p.arr.toList.drop (0 + (#[.int .i64 cap, .slice A n c, .int .i64 sure] : Array Value).size) = (p.putS cap A n c sure).arr.toList := rfl
theorem new_a (p : Lp) (A : Option Addr) (n c : Nat) : p.arr.toList.take 1 ++ (#[.slice A n c] : Array Value).toList ++ p.arr.toList.drop (1 + (#[.slice A n c] : Array Value).size) = (p.putA A n c).arr.toList := rfl
theorem new_b (p : Lp) (A : Option Addr) (n c : Nat) : p.arr.toList.take 3 ++ (#[.slice A n c] : Array Value).toList ++ p.arr.toList.drop (3 + (#[.slice A n c] : Array Value).size) = (p.putB A n c).arr.toList := rfl
theorem new_h (p : Lp) (H : List Int) (hp : p.H.length = 32) (h : H.length = 32) : p.arr.toList.take 4 ++ (idv H).toList ++ p.arr.toList.drop (4 + (idv H).size) = (p.putH H).arr.toList := by
  have e1 : p.arr.toList.take 4 = [.int .i64 p.cap, .slice p.A p.n p.c, .int .i64 p.sure, .slice p.B p.m p.d] := rfl
  have e2 : p.arr.toList.drop (4 + (idv H).size) = [] := List.drop_eq_nil_of_le (by rw [Array.length_toList, lp_size hp, idv_size, h]; omega)
  rw [e1, e2, List.append_nil]
  rfl
theorem info_desk {C : Array Value} (h : C.size = 36) : (Tryd.prog.info? 57).map (·.size) = some C.size := by rw [h]; kernel_rfl
theorem fill_desk (p : Lp) (h : p.H.length = 32) : Instr.fill (([(0, 36)] : List (Nat × Nat)).toArray[·]?) Lp.zero.arr [(0, .agg p.arr)] = some p.arr := by
  rcases p with ⟨cap, A, n, c, sure, B, m, d, H⟩
  obtain ⟨a0, a1, a2, a3, a4, a5, a6, a7, a8, a9, b0, b1, b2, b3, b4, b5, b6, b7, b8, b9, c0, c1, c2, c3, c4, c5, c6, c7, c8, c9, d0, d1, rfl⟩ := list32c H h
  kernel_rfl
theorem built_desk (p : Lp) (h : p.H.length = 32) : Tryd.prog.built 57 [(0, .agg p.arr)] = some p.arr :=
  built_of (z := .agg Lp.zero.arr) (places := [(0, 36)]) Tryd.underlying57 (by kernel_rfl) (by kernel_rfl) (fill_desk p h)
section
variable {w : World} {b : Nat} {p : Lp} {t : TypeId}
theorem dk_cells (h : w.heap[b]? = some (.cells p.arr t (0, 0))) : w.cell? ⟨b, 0, none⟩ = some (.int .i64 p.cap) ∧ w.cell? ⟨b, 1, none⟩ = some (.slice p.A p.n p.c) ∧ w.cell? ⟨b, 2, none⟩ = some (.int .i64 p.sure) ∧ w.cell? ⟨b, 3, none⟩ = some (.slice p.B p.m p.d) :=
  ⟨by rw [cell_of_row _ _ _ _ _ _ h]; rfl, by rw [cell_of_row _ _ _ _ _ _ h]; rfl, by rw [cell_of_row _ _ _ _ _ _ h]; rfl, by rw [cell_of_row _ _ _ _ _ _ h]; rfl⟩
theorem dk_head (h : w.heap[b]? = some (.cells p.arr t (0, 0))) : w.rangeAt b 4 (byv p.H) := fun j v hv => by
  rw [cell_of_row _ _ _ _ _ _ h, Lp.arr, List.getElem?_toArray, Nat.add_comm]
  exact hv
theorem dk_st (h : w.heap[b]? = some (.cells p.arr t (0, 0))) : w.rangeAt b 0 [.int .i64 p.cap, .slice p.A p.n p.c, .int .i64 p.sure] := fun j v hv => by
  obtain ⟨c0, c1, c2, -⟩ := dk_cells h
  match j, hv with
  | 0, hv => rw [← (Option.some.inj hv)]; exact c0
  | 1, hv => rw [← (Option.some.inj hv)]; exact c1
  | 2, hv => rw [← (Option.some.inj hv)]; exact c2
end
theorem none_own_r (w : World) : OwnR 33 9 (w.alloc (.cells #[] 33)) w.heap.size (.slice (some ⟨w.heap.size, 0, none⟩) 0 0) [] :=
  ⟨⟨rfl, .inr ⟨w.heap.size, 0, #[], rfl, Nat.le_refl _, heap_alloc_new w _, Nat.le_refl _, by unfold maxLen; omega, rfl, rfl⟩⟩, (fun _ h => by cases h), (fun _ h => by cases h)⟩
set_option maxHeartbeats 1000000 in
theorem clone_ens (A : Option Addr) (n c : Nat) (l : List En) (w : World) (hb : Ens w A n c l) (hsm : n ≤ 1000000) :
    Calls Tryd.prog 39 #[.slice A n c] w fun e w' => ∃ B m d, e = .returned (.slice B m d) ∧ Ens w' B m d l ∧ OwnR 33 9 w' w.heap.size (.slice B m d) (l.map En.row) ∧ Below w.heap.size w w' := by
  have q25 : ∀ (w : World) (a : Option Addr) (n c n' c' : Nat), (binOp .eql 25 (.slice a n c) (.slice none n' c')).run Tryd.prog w = .ok (.bool a.isNone) w := fun w a n c n' c' => Lib.run_eql_slice_nil w _ _ a n c n' c' Tryd.underlying25
  cases A with
  | none =>
    have h0 := hb.rws.bare rfl
    have hn : n = 0 := by have := hb.rws.le; omega
    have hl : l = [] := List.eq_nil_of_length_eq_zero (hb.len.trans hn)
    have HL := Lib.hid hl
    clear hl hb h0
    go_enter Tryd.func39, Tryd.ntmps39
    go_wp2
    go_ret
    exact ⟨_, _, _, rfl, by rw [HL.out]; exact Ens.nil _, by rw [HL.out]; exact OwnR.nil _ _ _ _, Below.refl _ _⟩
  | some a =>
    have hln := hb.len
    have hb1 := hb.below (one_alloc w (.cells #[] 33))
    go_enter Tryd.func39, Tryd.ntmps39
    go_wp2_with (at_builtin
                 refine wpList_append_r rfl 25 33 9 72 _ _ rfl Tryd.underlying25 info_entry (by omega) w.heap.size _ [] rfl (none_own_r w) _ n c (l.map En.row) rfl hb1.rws (by simp; omega) (by simp; omega) (size_le_alloc _ _) ?_
                 intro v5 w5 hown5 hg5
                 rw [List.nil_append] at hown5
                 have hB5 : Below w.heap.size w w5 := (one_alloc w _).grown hg5 (size_le_alloc _ _) (fun k hk => by cases hk; exact Nat.le_refl _)
                 clear hg5)
    go_ret
    obtain ⟨B, m, d, rfl, he⟩ := own_ens hown5
    exact ⟨B, m, d, rfl, he, hown5, hB5⟩
end Go.Proofs.YtafmompplcaadaaDoor

/- The walk over package audit's May. -/
namespace Go.Proofs.YtafmompplcaadaaDoor
set_option maxRecDepth 100000
set_option linter.unusedVariables false
set_option linter.unusedSimpArgs false
open Go.RowKit

set_option maxHeartbeats 2000000 in
theorem amay_no (p : Lp) (g : Lg) (w : World) (hK : KTab w) (h : LgAt w p g) (hm : mayP g.st = false) :
    Calls Tryd.prog 10 #[.agg p.arr] w (GBe false w) := by
  have hns := h.data.small
  have hnl := h.data.len
  have hHL := h.hlen
  have HMY := Lib.hid (fun X => stmay_any p.cap p.A p.n p.c p.sure X (by omega))
  rw [h.may] at HMY
  have HPU := Lib.hid (fun (X : World) (hX : Below w.heap.size w X) => cput_any p.B p.m p.d g.l X (hK.from hX) (h.ents.below hX) h.ok.each)
  have HDT := Lib.hid (fun (X : World) (hX : Below w.heap.size w X) => h.data.below hX)
  have hbox := heap_alloc_new w (.cells p.arr 29 (0, 0))
  have HB0 := Lib.hid (one_alloc w (.cells p.arr 29 (0, 0)))
  have hrs := lg_st hbox
  rw [hm] at HMY
  clear HPU HDT
  clear h hK
  go_enter Tryd.func10, Tryd.ntmps10
  go_wp2_with (first
    | ((with_reducible refine wpList_load_on 24 _ rfl w.heap.size 0 ?hx1 [.int .i64 p.cap, .slice p.A p.n p.c, .int .i64 p.sure] _ rfl _ hrs Tryd.underlying24 ?hd1 (by kernel_rfl) ?_ ?hw1); (case hx1 => rfl); (case hd1 => rfl); (case hw1 => rfl))
    | (go_at_call 16
       (with_reducible refine (HMY.out _).mono ?_)
       rintro e w1 ⟨rfl, hb1⟩
       have hbox := blk_below hbox hb1
       obtain ⟨x0, x1, x2, x3⟩ := lg_cells hbox
       have HB1 := Lib.hid (HB0.out.trans (hb1.mono HB0.out.size))
       clear x0 x1 x2 x3
       clear hb1))
  go_ret
  exact ⟨rfl, HB1.out⟩
set_option maxHeartbeats 2000000 in
theorem amay_sure (p : Lp) (g : Lg) (w : World) (hK : KTab w) (h : LgAt w p g) (hm : mayP g.st = true) (hq : ¬ p.sure = (p.n : Int)) :
    Calls Tryd.prog 10 #[.agg p.arr] w (GBe false w) := by
  have hns := h.data.small
  have hnl := h.data.len
  have hHL := h.hlen
  have HMY := Lib.hid (fun X => stmay_any p.cap p.A p.n p.c p.sure X (by omega))
  rw [h.may] at HMY
  have HPU := Lib.hid (fun (X : World) (hX : Below w.heap.size w X) => cput_any p.B p.m p.d g.l X (hK.from hX) (h.ents.below hX) h.ok.each)
  have HDT := Lib.hid (fun (X : World) (hX : Below w.heap.size w X) => h.data.below hX)
  have hbox := heap_alloc_new w (.cells p.arr 29 (0, 0))
  have HB0 := Lib.hid (one_alloc w (.cells p.arr 29 (0, 0)))
  have hrs := lg_st hbox
  rw [hm] at HMY
  clear HPU HDT
  clear h hK
  go_enter Tryd.func10, Tryd.ntmps10
  go_wp2_with (first
    | ((with_reducible refine wpList_load_on 24 _ rfl w.heap.size 0 ?hx1 [.int .i64 p.cap, .slice p.A p.n p.c, .int .i64 p.sure] _ rfl _ hrs Tryd.underlying24 ?hd1 (by kernel_rfl) ?_ ?hw1); (case hx1 => rfl); (case hd1 => rfl); (case hw1 => rfl))
    | (go_at_call 16
       (with_reducible refine (HMY.out _).mono ?_)
       rintro e w1 ⟨rfl, hb1⟩
       have hbox := blk_below hbox hb1
       obtain ⟨x0, x1, x2, x3⟩ := lg_cells hbox
       have HB1 := Lib.hid (HB0.out.trans (hb1.mono HB0.out.size))
       clear hb1))
  go_ret
  exact ⟨rfl, HB1.out⟩
set_option maxHeartbeats 2000000 in
theorem amay_not (p : Lp) (g : Lg) (w : World) (hK : KTab w) (h : LgAt w p g) (hm : mayP g.st = true) (hq : p.sure = (p.n : Int)) (hp : putC g.l = false) :
    Calls Tryd.prog 10 #[.agg p.arr] w (GBe false w) := by
  have hns := h.data.small
  have hnl := h.data.len
  have hHL := h.hlen
  have HMY := Lib.hid (fun X => stmay_any p.cap p.A p.n p.c p.sure X (by omega))
  rw [h.may] at HMY
  have HPU := Lib.hid (fun (X : World) (hX : Below w.heap.size w X) => cput_any p.B p.m p.d g.l X (hK.from hX) (h.ents.below hX) h.ok.each)
  have HDT := Lib.hid (fun (X : World) (hX : Below w.heap.size w X) => h.data.below hX)
  have hbox := heap_alloc_new w (.cells p.arr 29 (0, 0))
  have HB0 := Lib.hid (one_alloc w (.cells p.arr 29 (0, 0)))
  have hrs := lg_st hbox
  rw [hm] at HMY
  have HQ := Lib.hid hq
  rw [hp] at HPU
  simp only [Bool.false_eq_true, if_false] at HPU
  obtain ⟨Z, hZ⟩ : ∃ Z, noughtsC = Z := ⟨_, rfl⟩
  have HZL := Lib.hid (show Z.length = 32 by rw [← hZ]; rfl)
  rw [hZ] at HPU
  clear hq hZ
  clear h hK
  go_enter Tryd.func10, Tryd.ntmps10
  go_wp2_with (first
    | ((with_reducible refine wpList_load_on 24 _ rfl w.heap.size 0 ?hx1 [.int .i64 p.cap, .slice p.A p.n p.c, .int .i64 p.sure] _ rfl _ hrs Tryd.underlying24 ?hd1 (by kernel_rfl) ?_ ?hw1); (case hx1 => rfl); (case hd1 => rfl); (case hw1 => rfl))
    | (go_at_call 16
       (with_reducible refine (HMY.out _).mono ?_)
       rintro e w1 ⟨rfl, hb1⟩
       have hbox := blk_below hbox hb1
       obtain ⟨x0, x1, x2, x3⟩ := lg_cells hbox
       have HB1 := Lib.hid (HB0.out.trans (hb1.mono HB0.out.size))
       have hq := HQ.out
       clear hb1)
    | (go_at_call 21
       (with_reducible refine (HPU.out _ HB1.out).mono ?_)
       rintro e w2 ⟨A6, n6, c6, rfl, hbt, hbx⟩
       have HBT := Lib.hid hbt
       have hbox := blk_below hbox hbx
       clear x0 x1 x2 x3
       have HB2 := Lib.hid (HB1.out.trans (hbx.mono HB1.out.size))
       clear hbt hbx)
    | ((with_reducible refine wpList_store_blk rfl 27 _ _ rfl w2.heap.size (idv Z) ?hx2 ?hy2 27 _ (heap_alloc_new w2 _) (info32 HZL.out) ?hs2 (idv_one _) ?_); (case hx2 => rfl); (case hy2 => rfl); (case hs2 => rw [idv_size, HZL.out]; rfl)
       intro w3 hg2 hH hs2
       have hbx : Below w2.heap.size w2 w3 := Below.grows (one_alloc w2 _) hg2 (size_le_alloc _ _) (Nat.le_refl _)
       have HB3 := Lib.hid (HB2.out.trans (hbx.mono HB2.out.size))
       have hbox := blk_below hbox hbx
       have HBT := Lib.hid (HBT.out.below hbx)
       clear hbx hg2 hs2))
  go_ret
  exact ⟨rfl, HB3.out⟩
set_option maxHeartbeats 2000000 in
theorem amay_data (p : Lp) (g : Lg) (w : World) (hK : KTab w) (h : LgAt w p g) (hm : mayP g.st = true) (hq : p.sure = (p.n : Int)) (hp : putC g.l = true) (hr : ¬ recsC g.l = g.st.data) :
    Calls Tryd.prog 10 #[.agg p.arr] w (GBe false w) := by
  have hns := h.data.small
  have hnl := h.data.len
  have hHL := h.hlen
  have HMY := Lib.hid (fun X => stmay_any p.cap p.A p.n p.c p.sure X (by omega))
  rw [h.may] at HMY
  have HPU := Lib.hid (fun (X : World) (hX : Below w.heap.size w X) => cput_any p.B p.m p.d g.l X (hK.from hX) (h.ents.below hX) h.ok.each)
  have HDT := Lib.hid (fun (X : World) (hX : Below w.heap.size w X) => h.data.below hX)
  have hbox := heap_alloc_new w (.cells p.arr 29 (0, 0))
  have HB0 := Lib.hid (one_alloc w (.cells p.arr 29 (0, 0)))
  have hrs := lg_st hbox
  rw [hm] at HMY
  have HQ := Lib.hid hq
  rw [hp] at HPU
  simp only [if_true] at HPU
  obtain ⟨Z, hZ⟩ : ∃ Z, headC g.l = Z := ⟨_, rfl⟩
  have HZL := Lib.hid (show Z.length = 32 by rw [← hZ]; exact headC_len _)
  rw [hZ] at HPU
  obtain ⟨RC, hRC⟩ : ∃ RC, recsC g.l = RC := ⟨_, rfl⟩
  rw [hRC] at HPU hr
  have HEQ := Lib.hid (show ∀ (A6 : Option Addr) (n6 c6 : Nat) (X : World), Below w.heap.size w X → Bts X A6 n6 c6 RC → Calls Tryd.prog 22 #[.slice p.A p.n p.c, .slice A6 n6 c6] X fun e w' => e = .returned (.bool false) ∧ X = w' from fun A6 n6 c6 X hX hb => by
    have h0 := equal_any p.A A6 p.n p.c n6 c6 g.st.data RC X (h.data.below hX) hb
    rw [show (g.st.data == RC) = false by simp [Ne.symm hr]] at h0
    exact h0)
  clear hq hZ hRC hr
  clear h hK
  go_enter Tryd.func10, Tryd.ntmps10
  go_wp2_with (first
    | ((with_reducible refine wpList_load_on 24 _ rfl w.heap.size 0 ?hx1 [.int .i64 p.cap, .slice p.A p.n p.c, .int .i64 p.sure] _ rfl _ hrs Tryd.underlying24 ?hd1 (by kernel_rfl) ?_ ?hw1); (case hx1 => rfl); (case hd1 => rfl); (case hw1 => rfl))
    | (go_at_call 16
       (with_reducible refine (HMY.out _).mono ?_)
       rintro e w1 ⟨rfl, hb1⟩
       have hbox := blk_below hbox hb1
       obtain ⟨x0, x1, x2, x3⟩ := lg_cells hbox
       have HB1 := Lib.hid (HB0.out.trans (hb1.mono HB0.out.size))
       have hq := HQ.out
       clear hb1)
    | (go_at_call 21
       (with_reducible refine (HPU.out _ HB1.out).mono ?_)
       rintro e w2 ⟨A6, n6, c6, rfl, hbt, hbx⟩
       have HBT := Lib.hid hbt
       have hbox := blk_below hbox hbx
       clear x0 x1 x2 x3
       have HB2 := Lib.hid (HB1.out.trans (hbx.mono HB1.out.size))
       clear hbt hbx)
    | ((with_reducible refine wpList_store_blk rfl 27 _ _ rfl w2.heap.size (idv Z) ?hx2 ?hy2 27 _ (heap_alloc_new w2 _) (info32 HZL.out) ?hs2 (idv_one _) ?_); (case hx2 => rfl); (case hy2 => rfl); (case hs2 => rw [idv_size, HZL.out]; rfl)
       intro w3 hg2 hH hs2
       have hbx : Below w2.heap.size w2 w3 := Below.grows (one_alloc w2 _) hg2 (size_le_alloc _ _) (Nat.le_refl _)
       have HB3 := Lib.hid (HB2.out.trans (hbx.mono HB2.out.size))
       have hbox := blk_below hbox hbx
       have HBT := Lib.hid (HBT.out.below hbx)
       obtain ⟨x0, x1, x2, x3⟩ := lg_cells hbox
       clear hbx hg2 hs2)
    | (go_at_call 22
       (with_reducible refine (HEQ.out A6 n6 c6 w3 HB3.out HBT.out).mono ?_)
       rintro e w4 ⟨rfl, rfl⟩
       skip))
  go_ret
  exact ⟨rfl, HB3.out⟩
set_option maxHeartbeats 2000000 in
theorem amay_head (p : Lp) (g : Lg) (w : World) (hK : KTab w) (h : LgAt w p g) (hm : mayP g.st = true) (hq : p.sure = (p.n : Int)) (hp : putC g.l = true) (hr : recsC g.l = g.st.data) :
    Calls Tryd.prog 10 #[.agg p.arr] w (GBe (decide (headC g.l = g.head)) w) := by
  have hns := h.data.small
  have hnl := h.data.len
  have hHL := h.hlen
  have HMY := Lib.hid (fun X => stmay_any p.cap p.A p.n p.c p.sure X (by omega))
  rw [h.may] at HMY
  have HPU := Lib.hid (fun (X : World) (hX : Below w.heap.size w X) => cput_any p.B p.m p.d g.l X (hK.from hX) (h.ents.below hX) h.ok.each)
  have HDT := Lib.hid (fun (X : World) (hX : Below w.heap.size w X) => h.data.below hX)
  have hbox := heap_alloc_new w (.cells p.arr 29 (0, 0))
  have HB0 := Lib.hid (one_alloc w (.cells p.arr 29 (0, 0)))
  have hrs := lg_st hbox
  rw [hm] at HMY
  have HQ := Lib.hid hq
  rw [hp] at HPU
  simp only [if_true] at HPU
  obtain ⟨Z, hZ⟩ : ∃ Z, headC g.l = Z := ⟨_, rfl⟩
  have HZL := Lib.hid (show Z.length = 32 by rw [← hZ]; exact headC_len _)
  rw [hZ] at HPU
  obtain ⟨RC, hRC⟩ : ∃ RC, recsC g.l = RC := ⟨_, rfl⟩
  rw [hRC] at HPU hr
  have HEQ := Lib.hid (show ∀ (A6 : Option Addr) (n6 c6 : Nat) (X : World), Below w.heap.size w X → Bts X A6 n6 c6 RC → Calls Tryd.prog 22 #[.slice p.A p.n p.c, .slice A6 n6 c6] X fun e w' => e = .returned (.bool true) ∧ X = w' from fun A6 n6 c6 X hX hb => by
    have h0 := equal_any p.A A6 p.n p.c n6 c6 g.st.data RC X (h.data.below hX) hb
    rw [show (g.st.data == RC) = true by simp [hr]] at h0
    exact h0)
  have HE := Lib.hid (show ∀ w, (Op.equalIn 10000 27 (.agg (idv p.H)) (.agg (idv Z))).run Tryd.prog w = .ok (decide (headC g.l = g.head)) w from fun w => by
    rw [eq_ids _ _ hHL HZL.out, h.head, hZ]
    congr 1
    exact decide_eq_decide.2 eq_comm)
  have HHI := Lib.hid h.info
  obtain ⟨E, hE⟩ : ∃ E, decide (headC g.l = g.head) = E := ⟨_, rfl⟩
  rw [hE] at HE ⊢
  clear hE hq hZ hRC hr
  clear h hK
  go_enter Tryd.func10, Tryd.ntmps10
  go_wp2_with (first
    | ((with_reducible refine wpList_load_on 24 _ rfl w.heap.size 0 ?hx1 [.int .i64 p.cap, .slice p.A p.n p.c, .int .i64 p.sure] _ rfl _ hrs Tryd.underlying24 ?hd1 (by kernel_rfl) ?_ ?hw1); (case hx1 => rfl); (case hd1 => rfl); (case hw1 => rfl))
    | (go_at_call 16
       (with_reducible refine (HMY.out _).mono ?_)
       rintro e w1 ⟨rfl, hb1⟩
       have hbox := blk_below hbox hb1
       obtain ⟨x0, x1, x2, x3⟩ := lg_cells hbox
       have HB1 := Lib.hid (HB0.out.trans (hb1.mono HB0.out.size))
       have hq := HQ.out
       clear hb1)
    | (go_at_call 21
       (with_reducible refine (HPU.out _ HB1.out).mono ?_)
       rintro e w2 ⟨A6, n6, c6, rfl, hbt, hbx⟩
       have HBT := Lib.hid hbt
       have hbox := blk_below hbox hbx
       clear x0 x1 x2 x3
       have HB2 := Lib.hid (HB1.out.trans (hbx.mono HB1.out.size))
       clear hbt hbx)
    | ((with_reducible refine wpList_store_blk rfl 27 _ _ rfl w2.heap.size (idv Z) ?hx2 ?hy2 27 _ (heap_alloc_new w2 _) (info32 HZL.out) ?hs2 (idv_one _) ?_); (case hx2 => rfl); (case hy2 => rfl); (case hs2 => rw [idv_size, HZL.out]; rfl)
       intro w3 hg2 hH hs2
       have hbx : Below w2.heap.size w2 w3 := Below.grows (one_alloc w2 _) hg2 (size_le_alloc _ _) (Nat.le_refl _)
       have HB3 := Lib.hid (HB2.out.trans (hbx.mono HB2.out.size))
       have hbox := blk_below hbox hbx
       have HBT := Lib.hid (HBT.out.below hbx)
       have hrh := lg_head hbox
       obtain ⟨x0, x1, x2, x3⟩ := lg_cells hbox
       clear hbx hg2 hs2)
    | (go_at_call 22
       (with_reducible refine (HEQ.out A6 n6 c6 w3 HB3.out HBT.out).mono ?_)
       rintro e w4 ⟨rfl, rfl⟩
       skip)
    | ((with_reducible refine wpList_load_blk 27 _ rfl w2.heap.size ?hx3 27 (idv Z) (0, 0) _ hH Tryd.underlying27 ?hd3 (info32 HZL.out) ?_ ?hw3); (case hx3 => rfl); (case hd3 => rfl); (case hw3 => rfl))
    | ((with_reducible refine wpList_load_on 27 _ rfl w.heap.size 4 ?hx4 (byv p.H) (idv p.H) rfl _ hrh Tryd.underlying27 ?hd4 HHI.out ?_ ?hw4); (case hx4 => rfl); (case hd4 => rfl); (case hw4 => rfl))
    | ((with_reducible refine wpList_eq_id .eql _ _ rfl (idv p.H) (idv Z) ?hx5 ?hy5 E E (.inl ⟨rfl, rfl⟩) (fun w => HE.out w) ?_ ?hw5); (case hx5 => rfl); (case hy5 => rfl); (case hw5 => rfl)))
  go_ret
  exact ⟨rfl, HB3.out⟩
theorem amay_any (p : Lp) (g : Lg) (w : World) (hK : KTab w) (h : LgAt w p g) : Calls Tryd.prog 10 #[.agg p.arr] w (GBe (mayG g) w) := by
  cases hm : mayP g.st with
  | false => rw [show mayG g = false by rw [mayG, hm]; rfl]; exact amay_no p g w hK h hm
  | true =>
    by_cases hq : p.sure = (p.n : Int)
    · have hq' : g.st.sure = (g.st.data.length : Int) := by rw [← h.sure, hq, h.data.len]
      cases hp : putC g.l with
      | false => rw [show mayG g = false by rw [mayG, hp]; simp]; exact amay_not p g w hK h hm hq hp
      | true =>
        by_cases hr : recsC g.l = g.st.data
        · rw [show mayG g = decide (headC g.l = g.head) by rw [mayG, hm, hp, decide_eq_true hq', decide_eq_true hr]; simp]; exact amay_head p g w hK h hm hq hp hr
        · rw [show mayG g = false by rw [mayG, decide_eq_false hr]; simp]; exact amay_data p g w hK h hm hq hp hr
    · have hq' : ¬ g.st.sure = (g.st.data.length : Int) := by rw [← h.sure, h.data.len]; exact hq
      rw [show mayG g = false by rw [mayG, decide_eq_false hq']; simp]
      exact amay_sure p g w hK h hm hq
end Go.Proofs.YtafmompplcaadaaDoor

/- The walks over package audit's left and Room. -/
namespace Go.Proofs.YtafmompplcaadaaDoor
set_option maxRecDepth 100000
set_option linter.unusedVariables false
set_option linter.unusedSimpArgs false
open Go.RowKit

set_option maxHeartbeats 1000000 in
theorem aleft_any (p : Lp) (w : World) (hH : p.H.length = 32) (hf : -9223372036854775808 ≤ p.cap ∧ p.cap ≤ 9223372036854775807) (hm : p.m ≤ 1000000) :
    Calls Tryd.prog 33 #[.agg p.arr] w fun e w' => e = .returned (.int .i64 (p.cap.tdiv 62 - p.m)) ∧ Below w.heap.size w w' := by
  obtain ⟨x0, x1, x2, x3⟩ := dk_cells (heap_alloc_new w (.cells p.arr 57 (0, 0)))
  have HB0 := Lib.hid (one_alloc w (.cells p.arr 57 (0, 0)))
  have hs := slots_at hf
  have hw1 : IntKind.i64.wrap (p.cap.tdiv 62 - (p.m : Int)) = p.cap.tdiv 62 - (p.m : Int) := by rw [IntKind.wrap_i64]; omega
  go_enter Tryd.func33, Tryd.ntmps33
  go_wp2
  go_ret
  exact ⟨rfl, HB0.out⟩
set_option maxHeartbeats 2000000 in
theorem aroom_any (p : Lp) (g : Lg) (w : World) (hK : KTab w) (h : LgAt w p g) (hsm : p.m ≤ 1000000) : Calls Tryd.prog 19 #[.agg p.arr] w fun e w' => e = .returned (.int .i64 (roomG g)) ∧ Below w.heap.size w w' := by
  have hnl := h.ents.len
  have HMY := Lib.hid (fun (X : World) (hX : Below w.heap.size w X) => amay_any p g X (hK.from hX) (h.below hX))
  have hbox := heap_alloc_new w (.cells p.arr 29 (0, 0))
  have HB0 := Lib.hid (one_alloc w (.cells p.arr 29 (0, 0)))
  have HW := Lib.hid h.whole
  have HDK := Lib.hid (built_desk p h.hlen)
  have HLF := Lib.hid (fun X => aleft_any p X h.hlen h.fits hsm)
  have hsl := slots_at h.fits
  have hsq : slotsG g = p.cap.tdiv 62 := by rw [slotsG, h.cap]
  obtain ⟨q, hq⟩ : ∃ q, p.cap.tdiv 62 - (p.m : Int) = q := ⟨_, rfl⟩
  have hqb : -150000000001000000 ≤ q ∧ q ≤ 150000000000000000 := by omega
  simp only [hq] at HLF
  have hw0 : IntKind.i64.wrap (q - 4) = q - 4 := by rw [IntKind.wrap_i64]; omega
  obtain ⟨M, hM⟩ : ∃ M, mayG g = M := ⟨_, rfl⟩
  have HRN := Lib.hid (show M = false → roomG g = 0 from fun e => room_no (hM.trans e))
  have HRY := Lib.hid (show M = true → roomG g = max (q - 4) 0 from fun e => by rw [room_yes (hM.trans e), hsq, hnl, ← hq]; congr 1; omega)
  simp only [hM] at HMY
  clear h hM hsq hq hnl hK hsl
  obtain ⟨R, hR⟩ : ∃ R, roomG g = R := ⟨_, rfl⟩
  rw [hR] at HRN HRY ⊢
  clear hR
  cases M with
  | false =>
    have HR0 := Lib.hid (HRN.out rfl)
    clear HRN HRY HLF HDK
    go_enter Tryd.func19, Tryd.ntmps19
    go_wp2_with (first
      | ((with_reducible refine wpList_load_blk 29 _ rfl w.heap.size ?hx1 29 p.arr (0, 0) _ hbox Tryd.underlying29 ?hd1 HW.out ?_ ?hw1); (case hx1 => rfl); (case hd1 => rfl); (case hw1 => rfl))
      | (go_at_call 10
         (with_reducible refine (HMY.out _ HB0.out).mono ?_)
         rintro e w1 ⟨rfl, hb1⟩
         have hbox := blk_below hbox hb1
         have HB1 := Lib.hid (HB0.out.trans (hb1.mono HB0.out.size))
         clear hb1))
    go_ret
    exact ⟨by rw [HR0.out]; rfl, HB1.out⟩
  | true =>
    have HR0 := Lib.hid (HRY.out rfl)
    clear HRN HRY
    by_cases hn : 0 ≤ q - 4
    all_goals
      go_enter Tryd.func19, Tryd.ntmps19
      go_wp2_with (first
        | ((with_reducible refine wpList_load_blk 29 _ rfl w.heap.size ?hx1 29 p.arr (0, 0) _ hbox Tryd.underlying29 ?hd1 HW.out ?_ ?hw1); (case hx1 => rfl); (case hd1 => rfl); (case hw1 => rfl))
        | (go_at_call 10
           (with_reducible refine (HMY.out _ HB0.out).mono ?_)
           rintro e w1 ⟨rfl, hb1⟩
           have hbox := blk_below hbox hb1
           have HB1 := Lib.hid (HB0.out.trans (hb1.mono HB0.out.size))
           clear hb1)
        | ((with_reducible refine wpList_build_to rfl 57 _ rfl [(0, .agg p.arr)] p.arr ?hl2 ?hb2 ?_); (case hl2 => rfl); (case hb2 => exact HDK.out))
        | (go_at_call 33
           (with_reducible refine (HLF.out _).mono ?_)
           rintro e w2 ⟨rfl, hb1⟩
           have HB2 := Lib.hid (HB1.out.trans (hb1.mono HB1.out.size))
           clear hb1))
      go_ret
      refine ⟨?_, HB2.out⟩
      rw [HR0.out]
      first
        | (rw [Int.max_eq_left hn]; rfl)
        | (rw [Int.max_eq_right (by omega)]; rfl)
        | (simp only [Int.max_def]; split <;> first | rfl | omega)
end Go.Proofs.YtafmompplcaadaaDoor

/- One operation of a drawn region as a step: a value it yields at this very world, a row loaded; parts of a desk set cell by cell. -/
namespace Go.Proofs.YtafmompplcaadaaDoor
set_option maxRecDepth 100000
set_option linter.unusedVariables false
set_option linter.unusedSimpArgs false
open Go.RowKit

section
variable {P : Program} {a : Act} {w : World} {Q : Exit → Act → World → Prop}
theorem wp_weaker {c : Code} {Q' : Exit → Act → World → Prop} (h : c.wp P Q a w) (hq : ∀ e a w, Q e a w → Q' e a w) : c.wp P Q' a w := fun b k cs => by
  obtain ⟨e, a1, w1, h1, h2⟩ := h b k cs
  exact ⟨e, a1, w1, hq _ _ _ h1, h2⟩
/-- a scope out of which the run jumps ahead to a label, once -/
theorem wp_scope_ahead {c rest : Code} (l : Nat) (hf : findLabel c l = some rest) (first : c.wp P (Exit.jump l (fun a w => rest.wp P (Exit.noGoto Q) a w) Q) a w) : (Code.scope c).wp P Q a w :=
  wp_scope_jumps l (fun a w => rest.wp P (Exit.noGoto Q) a w) (fun _ _ => 0) hf first fun a w h => wp_weaker h fun e a w h => by
    cases e <;> first | exact h | exact absurd h id
theorem jump_ret (l : Nat) (J : Act → World → Prop) : Exit.jump l J Q .ret a w = Q .ret a w := rfl
theorem jump_goto {l : Nat} {J : Act → World → Prop} (h : J a w) : Exit.jump l J Q (.goto l) a w := ⟨rfl, h⟩
end
section
variable {P : Program}
theorem step_run {ops : Array Oper} {o : Oper} {a : Act} {w : World} {K : Act → World → Prop} {Q : Exit → Act → World → Prop} {E : Prop} (v : Value) (hw : Region.wanted o (yielded ops a.tmps) = true) (hr : (execOp a.eval o).run P w = .ok (.value v) w)
    (h : K (a.put o.dst v) w) : if Region.wanted o (yielded ops a.tmps) = true then Oper.wp P o a w K Q else E := by
  rw [if_pos hw]
  unfold Oper.wp
  simp only [hr]
  exact h
theorem step_load_mid {ops : Array Oper} {o : Oper} {a : Act} {w : World} {K : Act → World → Prop} {Q : Exit → Act → World → Prop} {E : Prop} (ty : TypeId) (x : Operand) (ho : o.op = .load ty x) (b off : Nat) (hx : a.eval x = .pointer (some ⟨b, off, none⟩)) (cs : List Value) (T : Array Value) (hT : cs.toArray = T) (d : TypeDesc) (hc : w.rangeAt b off cs)
    (hu : P.underlying ty = some d) (hd : d.isRow = true) (hi : (P.info? ty).map (·.size) = some cs.length) (hw : Region.wanted o (yielded ops a.tmps) = true)
    (h : K (a.put o.dst (.agg T)) w) : if Region.wanted o (yielded ops a.tmps) = true then Oper.wp P o a w K Q else E := by
  subst hT
  rw [if_pos hw]
  exact wp_load_mid ty x ho b off hx cs d hc hu hd hi h
end
section
variable {w : World} {g : Nat} {p : Lp} {t : TypeId}
theorem dk_free (h : w.heap[g]? = some (.cells p.arr t (0, 0))) (i : Nat) : w.frozen? ⟨g, i, none⟩ = false := frozen_of_row _ _ i _ _ h
theorem dk_eq3 (h : w.heap[g]? = some (.cells p.arr t (0, 0))) (B : Option Addr) (m d : Nat) : w.setCell ⟨g, 3, none⟩ (.slice B m d) = w.setRow g (p.putB B m d).arr := by
  rw [setCell_eq_setRow w g 3 _ t _ _ h]
  congr 1 <;> simp only [Lp.arr, Lp.cells, Lp.putB, List.setIfInBounds_toArray, List.set_cons_zero, List.set_cons_succ]
theorem dk_set3 (h : w.heap[g]? = some (.cells p.arr t (0, 0))) (B : Option Addr) (m d : Nat) : (w.setCell ⟨g, 3, none⟩ (.slice B m d)).heap[g]? = some (.cells (p.putB B m d).arr t (0, 0)) := by
  rw [dk_eq3 h]; exact setRow_heap _ _ _ _ _ _ h
theorem dk_grown3 (h : w.heap[g]? = some (.cells p.arr t (0, 0))) (B : Option Addr) (m d : Nat) : w.grownBy (w.setCell ⟨g, 3, none⟩ (.slice B m d)) (some g) := by
  rw [dk_eq3 h]; exact grown_setRow _ _ _
theorem dk_eq012 (h : w.heap[g]? = some (.cells p.arr t (0, 0))) (cap : Int) (A : Option Addr) (n c : Nat) (sure : Int) :
    ((w.setCell ⟨g, 0, none⟩ (.int .i64 cap)).setCell ⟨g, 1, none⟩ (.slice A n c)).setCell ⟨g, 2, none⟩ (.int .i64 sure) = w.setRow g (p.putS cap A n c sure).arr := by
  rw [setCell_eq_setRow w g 0 _ t _ _ h]
  have h1 := setRow_heap w g _ (p.arr.setIfInBounds 0 (.int .i64 cap)) t _ h
  rw [setCell_eq_setRow _ g 1 _ t _ _ h1]
  have h2 := setRow_heap _ g _ ((p.arr.setIfInBounds 0 (.int .i64 cap)).setIfInBounds 1 (.slice A n c)) t _ h1
  rw [setCell_eq_setRow _ g 2 _ t _ _ h2, setRow_setRow, setRow_setRow]
  congr 1 <;> simp only [Lp.arr, Lp.cells, Lp.putS, List.setIfInBounds_toArray, List.set_cons_zero, List.set_cons_succ]
theorem dk_set012 (h : w.heap[g]? = some (.cells p.arr t (0, 0))) (cap : Int) (A : Option Addr) (n c : Nat) (sure : Int) :
    (((w.setCell ⟨g, 0, none⟩ (.int .i64 cap)).setCell ⟨g, 1, none⟩ (.slice A n c)).setCell ⟨g, 2, none⟩ (.int .i64 sure)).heap[g]? = some (.cells (p.putS cap A n c sure).arr t (0, 0)) := by
  rw [dk_eq012 h]; exact setRow_heap _ _ _ _ _ _ h
theorem dk_grown012 (h : w.heap[g]? = some (.cells p.arr t (0, 0))) (cap : Int) (A : Option Addr) (n c : Nat) (sure : Int) :
    w.grownBy (((w.setCell ⟨g, 0, none⟩ (.int .i64 cap)).setCell ⟨g, 1, none⟩ (.slice A n c)).setCell ⟨g, 2, none⟩ (.int .i64 sure)) (some g) := by
  rw [dk_eq012 h]; exact grown_setRow _ _ _
end
theorem agg_cells (cs : Array Value) : (Value.agg cs).cells = cs := rfl
theorem putB_len (B : Option Addr) (m d : Nat) : (Lp.zero.putB B m d).H.length = 32 := rfl
theorem one_slice (A : Option Addr) (n c : Nat) : (#[.slice A n c] : Array Value).all (·.oneCell') = true := all_oneCell_toArray (cs := [.slice A n c]) (fun v hv => by rcases List.mem_singleton.1 hv with rfl; rfl)
theorem one_store (x y : Int) (A : Option Addr) (n c : Nat) : (#[.int .i64 x, .slice A n c, .int .i64 y] : Array Value).all (·.oneCell') = true :=
  all_oneCell_toArray (cs := [.int .i64 x, .slice A n c, .int .i64 y]) (fun v hv => by simp only [List.mem_cons, List.mem_nil_iff, or_false] at hv; rcases hv with rfl | rfl | rfl <;> rfl)
theorem size_bytes1 (v : Value) : (Tryd.prog.info? 22).map (·.size) = some (#[v] : Array Value).size := by
  show _ = some 1
  kernel_rfl
theorem size_ens1 (v : Value) : (Tryd.prog.info? 25).map (·.size) = some (#[v] : Array Value).size := by
  show _ = some 1
  kernel_rfl
theorem cut_read {s : Sp} (hm : mayP s = true) (hb : ∀ x ∈ s.data, 0 ≤ x ∧ x < 256) : (cutP s (62 * ((readC s.data).length : Int))).2 = 0 := by
  obtain ⟨r1, r2, r3, r4⟩ := reads_all hb
  rcases cut_cases (k := 62 * ((readC s.data).length : Int)) hm with ⟨-, h⟩ | ⟨i, hi, hil, hcu⟩
  · omega
  · rw [hcu]
theorem cut_no_st {s : Sp} (hm : mayP s = false) (k : Int) : cutP s k = (s, 1) := by rw [cutP, if_neg (by rw [hm]; simp)]
end Go.Proofs.YtafmompplcaadaaDoor

/- The walk over the document's record of an entry, as it would stand in a log. -/
namespace Go.Proofs.YtafmompplcaadaaDoor
set_option maxRecDepth 100000
set_option linter.unusedVariables false
set_option linter.unusedSimpArgs false
open Go.RowKit

theorem results_tmp_blk {fn : Func} {p u : Tmp} {ty : TypeId} (h : fn.results = #[.tmp u, .cell p ty]) (tmps : Array Value) (P : Program) (w : World) (g : Nat) (t : TypeId) (cs : Array Value) (fr : Nat × Nat) (d : TypeDesc)
    (hp : tmps.getD p undef = .pointer (some ⟨g, 0, none⟩)) (hg : w.heap[g]? = some (.cells cs t fr))
    (hu : P.underlying ty = some d) (hd : d.isRow = true) (hi : (P.info? ty).map (·.size) = some cs.size) (v : Value) (hv : tmps.getD u undef = v) :
    (results fn tmps).run P w = .ok (.tuple #[v, .agg cs]) w := by
  have hp' : tmps[p]?.getD undef = .pointer (some ⟨g, 0, none⟩) := by simpa using hp
  have hv' : tmps[u]?.getD undef = v := by simpa using hv
  simp [results, h, hp', hv', asAddr, run_loadVar_row w g t ty cs fr d hg hu (by cases d <;> simp_all) hi]
theorem rec_ok {g : Lg} {u : En} : ∀ j, 0 ≤ (recG g u).getD j 0 ∧ (recG g u).getD j 0 < 256 := by
  unfold recG
  refine ok_append ?_ (linkP_byte _ _)
  split
  · exact put_ok u
  · intro j; simp
theorem rec_len (g : Lg) (u : En) : (recG g u).length ≤ 62 := by
  unfold recG
  rw [List.length_append, linkP_len]
  split
  · rw [put_len]; omega
  · simp
/-- gives a record, and a head -/
def GRc (L Z : List Int) (w : World) (e : Ending) (w' : World) : Prop := ∃ A n c, e = .returned (.tuple #[.slice A n c, .agg (idv Z)]) ∧ Bts w' A n c L ∧ (∀ a, A = some a → w.heap.size ≤ a.block) ∧ Below w.heap.size w w'
end Go.Proofs.YtafmompplcaadaaDoor
