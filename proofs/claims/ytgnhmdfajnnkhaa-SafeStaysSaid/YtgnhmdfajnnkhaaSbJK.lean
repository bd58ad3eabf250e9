/- Joined texts: What a tick makes of a machine of package stage: by its phase. Whether a machine of package stage fits: that all is there. -/
import Derived.Test.YtgnhmdfajnnkhaaSbJJ
import Derived.Test.YtgnhmdfajnnkhaaSbJH
/- What a tick makes of a machine of package stage: by its phase. -/
namespace Go.Proofs.Ytgnhmdfajnnkhaa
set_option maxRecDepth 100000
set_option linter.unusedVariables false
set_option linter.unusedSimpArgs false
open Go.RowKit

set_option maxHeartbeats 8000000 in
theorem ticked_0 (A : Option Addr) (n c : Nat) (l : List Pl) (s : Sg) (w : World) (hl : Pls w A n c l) (hm : MayS l s) (hp : s.ph = 0) : Calls Try.prog 45 #[mcV A n c s] w (GivesM A n c (tickS l s) w) := by
  obtain ⟨W1, hW1⟩ : ∃ W1, w.alloc (.cells #[.slice A n c, .int .i64 s.pl, .int .i64 s.st, .int .i64 s.nx, .int .i64 s.ph, .int .i64 s.t, .int .i64 s.hd, .int .i64 s.hl, .int .i64 s.ak, .int .i64 s.wt, .bool s.sp] 66) = W1 := ⟨_, rfl⟩
  have hB1 : Below w.heap.size w W1 := by rw [← hW1]; exact one_alloc w _
  have hbm : BoxM W1 w.heap.size A n c s := by rw [← hW1]; exact BoxM.new w A n c s
  have hz1 : W1.heap.size = w.heap.size + 1 := by rw [← hW1]; simp
  obtain ⟨W2, hW2⟩ : ∃ W2, W1.alloc (.cells #[.slice none 0 0, .int .i64 0, .int .i64 0, .int .i64 0, .int .i64 0, .int .i64 0, .int .i64 0, .int .i64 0, .int .i64 0, .int .i64 0, .bool false] 66) = W2 := ⟨_, rfl⟩
  have hB2 : Below W1.heap.size W1 W2 := by rw [← hW2]; exact one_alloc W1 _
  have hz2 : W2.heap.size = w.heap.size + 1 + 1 := by rw [← hW2, ← hz1]; simp
  have hr2 : W2.heap[w.heap.size + 1]? = some (.cells #[.slice none 0 0, .int .i64 0, .int .i64 0, .int .i64 0, .int .i64 0, .int .i64 0, .int .i64 0, .int .i64 0, .int .i64 0, .int .i64 0, .bool false] 66 (0, 0)) := by rw [← hW2, ← hz1]; exact heap_alloc_new W1 _
  obtain ⟨W0, hW0⟩ : ∃ W0, W2.alloc (.cells #[.func (Fn.func 64) #[] #[], .func (Fn.func 65) #[] #[], .func (Fn.func 66) #[] #[]] 81) = W0 := ⟨_, rfl⟩
  have hB20 : Below W2.heap.size W2 W0 := by rw [← hW0]; exact one_alloc W2 _
  have hB0 : Below W1.heap.size W1 W0 := hB2.trans (hB20.mono hB2.size)
  have hr : W0.heap[w.heap.size + 1]? = some (.cells #[.slice none 0 0, .int .i64 0, .int .i64 0, .int .i64 0, .int .i64 0, .int .i64 0, .int .i64 0, .int .i64 0, .int .i64 0, .int .i64 0, .bool false] 66 (0, 0)) := (hB20.block _ (by omega)).trans hr2
  have ha : W0.heap[w.heap.size + 1 + 1]? = some (.cells #[.func (Fn.func 64) #[] #[], .func (Fn.func 65) #[] #[], .func (Fn.func 66) #[] #[]] 81 (0, 0)) := by rw [← hW0, ← hz2]; exact heap_alloc_new W2 _
  have hlt1 : W1.heap.size ≤ w.heap.size + 1 := by omega
  have HW := Lib.hid (show ((w.alloc (.cells #[.slice A n c, .int .i64 s.pl, .int .i64 s.st, .int .i64 s.nx, .int .i64 s.ph, .int .i64 s.t, .int .i64 s.hd, .int .i64 s.hl, .int .i64 s.ak, .int .i64 s.wt, .bool s.sp] 66)).alloc (.cells #[.slice none 0 0, .int .i64 0, .int .i64 0, .int .i64 0, .int .i64 0, .int .i64 0, .int .i64 0, .int .i64 0, .int .i64 0, .int .i64 0, .bool false] 66)).alloc (.cells #[.func (Fn.func 64) #[] #[], .func (Fn.func 65) #[] #[], .func (Fn.func 66) #[] #[]] 81) = W0 by rw [hW1, hW2, hW0])
  have HB0 := Lib.hid hB0
  have HB1 := Lib.hid hB1
  clear hz1 hz2 hr2 hW0 hW1 hW2 hB0 hB2 hB20
  have HMC := Lib.hid (show ∀ X, Below W1.heap.size W1 X → X.cell? ⟨w.heap.size, 0, none⟩ = some (.slice A n c) ∧ X.cell? ⟨w.heap.size, 1, none⟩ = some (.int .i64 s.pl) ∧ X.cell? ⟨w.heap.size, 2, none⟩ = some (.int .i64 s.st) ∧ X.cell? ⟨w.heap.size, 3, none⟩ = some (.int .i64 s.nx) ∧ X.cell? ⟨w.heap.size, 4, none⟩ = some (.int .i64 s.ph) ∧ X.cell? ⟨w.heap.size, 5, none⟩ = some (.int .i64 s.t) ∧ X.cell? ⟨w.heap.size, 6, none⟩ = some (.int .i64 s.hd) ∧ X.cell? ⟨w.heap.size, 7, none⟩ = some (.int .i64 s.hl) ∧ X.cell? ⟨w.heap.size, 8, none⟩ = some (.int .i64 s.ak) ∧ X.cell? ⟨w.heap.size, 9, none⟩ = some (.int .i64 s.wt) ∧ X.cell? ⟨w.heap.size, 10, none⟩ = some (.bool s.sp) from fun X hX => by
    obtain ⟨cm, c0, c1, c2, c3, c4, c5, c6, c7, c8, c9⟩ := (hbm.below hX).cells
    exact ⟨cm, c0, c1, c2, c3, c4, c5, c6, c7, c8, c9⟩)
  have HF := Lib.hid (show ∀ X : World, X.heap[w.heap.size + 1 + 1]? = some (.cells #[.func (Fn.func 64) #[] #[], .func (Fn.func 65) #[] #[], .func (Fn.func 66) #[] #[]] 81 (0, 0)) → X.cell? ⟨w.heap.size + 1 + 1, 0, none⟩ = some (.func (Fn.func 64) #[] #[]) from fun X hX => (cell_of_row _ _ _ _ _ _ hX).trans rfl)
  have HT := Lib.hid (show ∀ X, Below W1.heap.size W1 X → Calls Try.prog 64 #[mcV A n c s] X (GivesM A n c (tickS l s) X) from fun X hX => by
    have H := (hl.below hB1).below hX
    rw [tickS, if_pos (mayS_iff.2 hm), if_pos hp]
    exact green_any A n c l s X H hm hp)
  obtain ⟨g, hg⟩ : ∃ g, tickS l s = g := ⟨_, rfl⟩
  rw [hg] at HT ⊢
  unfold GivesM mcV at HT ⊢
  have q0 : ¬ ((0 : Int) < 0) := by omega
  have q3 : (0 : Int) < 3 := by omega
  clear hbm hB1 hl hm hg
  obtain ⟨pl, st, nx, ph, t, hd, hh, ak, wt, sp⟩ := s
  simp only at *
  subst hp
  go_enter Try.func45, Try.ntmps45
  go_wp2
  rw [HW.out]
  have hSd : Below W1.heap.size W1 W0.drew := HB0.out.drew
  have hxd : W0.drew.heap[w.heap.size + 1 + 1]? = some (.cells #[.func (Fn.func 64) #[] #[], .func (Fn.func 65) #[] #[], .func (Fn.func 66) #[] #[]] 81 (0, 0)) := ha
  refine wp_region_held_drew (S := fun X => Below W1.heap.size W1 X ∧ X.heap[w.heap.size + 1 + 1]? = some (.cells #[.func (Fn.func 64) #[] #[], .func (Fn.func 65) #[] #[], .func (Fn.func 66) #[] #[]] 81 (0, 0))) (by kernel_rfl) ⟨hSd, hxd⟩ (fun hHeld => ?_)
  obtain ⟨y0, hY0⟩ : ∃ Y, W0.drew = Y := ⟨_, rfl⟩
  have hr0 := (show W0.drew.heap[w.heap.size + 1]? = _ from hr)
  rw [hY0] at hr0
  rw [hY0] at hSd hHeld hxd ⊢
  clear hY0
  refine tk 0 (.pointer (some ⟨w.heap.size, 1, none⟩)) hHeld (fun w => ?_) ?_
  · go_simp
  simp only [PT]
  refine tk 1 (.pointer (some ⟨w.heap.size, 4, none⟩)) hHeld (fun w => ?_) ?_
  · go_simp
  simp only [PT]
  refine tkS 2 (.int .i64 0) hHeld (fun w hq => ?_) ?_
  · obtain ⟨hq, hqa⟩ := hq; obtain ⟨cm, c0, c1, c2, c3, c4, c5, c6, c7, c8, c9⟩ := HMC.out w hq; have hfn := HF.out w hqa
    go_simp
  simp only [PT]
  refine tk 3 (.pointer (some ⟨w.heap.size + 1 + 1, 0, none⟩)) hHeld (fun w => ?_) ?_
  · go_simp
  simp only [PT]
  refine tkS 4 (.func (Fn.func 64) #[] #[]) hHeld (fun w hq => ?_) ?_
  · obtain ⟨hq, hqa⟩ := hq; obtain ⟨cm, c0, c1, c2, c3, c4, c5, c6, c7, c8, c9⟩ := HMC.out w hq; have hfn := HF.out w hqa
    go_simp
  simp only [PT]
  refine tkS 5 (.agg #[.slice A n c, .int .i64 pl, .int .i64 st, .int .i64 nx, .int .i64 0, .int .i64 t, .int .i64 hd, .int .i64 hh, .int .i64 ak, .int .i64 wt, .bool sp]) hHeld (fun w hq => ?_) ?_
  · obtain ⟨hq, hqa⟩ := hq; obtain ⟨cm, c0, c1, c2, c3, c4, c5, c6, c7, c8, c9⟩ := HMC.out w hq; have hfn := HF.out w hqa
    go_simp
  simp only [PT]
  refine one_step 6 (by kernel_rfl) rfl (fun Kq hKq => ?_)
  go_simp
  go_at_call 64
  (with_reducible refine (HT.out _ hSd).mono ?_)
  rintro e y1 ⟨rfl, hbx⟩
  have hS1 : Below W1.heap.size W1 y1 := hSd.trans (hbx.mono hSd.size)
  have hr1 := (hbx.block (w.heap.size + 1) (Array.getElem?_eq_some_iff.1 hr0).1).trans hr0
  have hx1 := (hbx.block (w.heap.size + 1 + 1) (Array.getElem?_eq_some_iff.1 hxd).1).trans hxd
  clear hbx
  refine hKq.out _ _ ⟨hS1, hx1⟩ (fun hHeld0 => ?_)
  clear hKq Kq hHeld
  have hHeld := hHeld0
  clear hHeld0
  try simp only [PT]
  refine one_step 7 (by kernel_rfl) rfl (fun Kq hKq => ?_)
  refine step_store_part 66 _ _ rfl (w.heap.size + 1) 0 (.agg #[.slice A n c, .int .i64 g.pl, .int .i64 g.st, .int .i64 g.nx, .int .i64 g.ph, .int .i64 g.t, .int .i64 g.hd, .int .i64 g.hl, .int .i64 g.ak, .int .i64 g.wt, .bool g.sp]) #[.slice A n c, .int .i64 g.pl, .int .i64 g.st, .int .i64 g.nx, .int .i64 g.ph, .int .i64 g.t, .int .i64 g.hd, .int .i64 g.hl, .int .i64 g.ak, .int .i64 g.wt, .bool g.sp] rfl rfl rfl 66 #[.slice none 0 0, .int .i64 0, .int .i64 0, .int .i64 0, .int .i64 0, .int .i64 0, .int .i64 0, .int .i64 0, .int .i64 0, .int .i64 0, .bool false] #[.slice A n c, .int .i64 g.pl, .int .i64 g.st, .int .i64 g.nx, .int .i64 g.ph, .int .i64 g.t, .int .i64 g.hd, .int .i64 g.hl, .int .i64 g.ak, .int .i64 g.wt, .bool g.sp] hr1 (info_mac) (by simp) (one_mac _ _ _ _ _ _ _ _ _ _ _ _ _) rfl rfl ?_
  intro y2 hgk hr2 hzk
  have hS2 : Below W1.heap.size W1 y2 := Below.grows hS1 hgk hS1.size hlt1
  have hx2 := (other_block hgk (show w.heap.size + 1 + 1 ≠ w.heap.size + 1 by omega) (Array.getElem?_eq_some_iff.1 hx1).1).trans hx1
  clear hgk hzk
  refine hKq.out _ _ ⟨hS2, hx2⟩ (fun hHeld0 => ?_)
  clear hKq Kq hHeld
  have hHeld := hHeld0
  clear hHeld0
  try simp only [PT]
  refine wpAnyH_done (by kernel_rfl) ?_ _
  clear hHeld
  go_wp2
  refine bodyPost_ret (v := .agg #[.slice A n c, .int .i64 g.pl, .int .i64 g.st, .int .i64 g.nx, .int .i64 g.ph, .int .i64 g.t, .int .i64 g.hd, .int .i64 g.hl, .int .i64 g.ak, .int .i64 g.wt, .bool g.sp]) ?_ rfl ⟨rfl, HB1.out.trans (hS2.mono HB1.out.size)⟩
  exact results_cell_row Try.results45 _ _ (w.heap.size + 1) 66 #[.slice A n c, .int .i64 g.pl, .int .i64 g.st, .int .i64 g.nx, .int .i64 g.ph, .int .i64 g.t, .int .i64 g.hd, .int .i64 g.hl, .int .i64 g.ak, .int .i64 g.wt, .bool g.sp] (0, 0) _ rfl hr2 Try.underlying66 rfl info_mac
set_option maxHeartbeats 8000000 in
theorem ticked_1 (A : Option Addr) (n c : Nat) (l : List Pl) (s : Sg) (w : World) (hl : Pls w A n c l) (hm : MayS l s) (hp : s.ph = 1) : Calls Try.prog 45 #[mcV A n c s] w (GivesM A n c (tickS l s) w) := by
  obtain ⟨W1, hW1⟩ : ∃ W1, w.alloc (.cells #[.slice A n c, .int .i64 s.pl, .int .i64 s.st, .int .i64 s.nx, .int .i64 s.ph, .int .i64 s.t, .int .i64 s.hd, .int .i64 s.hl, .int .i64 s.ak, .int .i64 s.wt, .bool s.sp] 66) = W1 := ⟨_, rfl⟩
  have hB1 : Below w.heap.size w W1 := by rw [← hW1]; exact one_alloc w _
  have hbm : BoxM W1 w.heap.size A n c s := by rw [← hW1]; exact BoxM.new w A n c s
  have hz1 : W1.heap.size = w.heap.size + 1 := by rw [← hW1]; simp
  obtain ⟨W2, hW2⟩ : ∃ W2, W1.alloc (.cells #[.slice none 0 0, .int .i64 0, .int .i64 0, .int .i64 0, .int .i64 0, .int .i64 0, .int .i64 0, .int .i64 0, .int .i64 0, .int .i64 0, .bool false] 66) = W2 := ⟨_, rfl⟩
  have hB2 : Below W1.heap.size W1 W2 := by rw [← hW2]; exact one_alloc W1 _
  have hz2 : W2.heap.size = w.heap.size + 1 + 1 := by rw [← hW2, ← hz1]; simp
  have hr2 : W2.heap[w.heap.size + 1]? = some (.cells #[.slice none 0 0, .int .i64 0, .int .i64 0, .int .i64 0, .int .i64 0, .int .i64 0, .int .i64 0, .int .i64 0, .int .i64 0, .int .i64 0, .bool false] 66 (0, 0)) := by rw [← hW2, ← hz1]; exact heap_alloc_new W1 _
  obtain ⟨W0, hW0⟩ : ∃ W0, W2.alloc (.cells #[.func (Fn.func 64) #[] #[], .func (Fn.func 65) #[] #[], .func (Fn.func 66) #[] #[]] 81) = W0 := ⟨_, rfl⟩
  have hB20 : Below W2.heap.size W2 W0 := by rw [← hW0]; exact one_alloc W2 _
  have hB0 : Below W1.heap.size W1 W0 := hB2.trans (hB20.mono hB2.size)
  have hr : W0.heap[w.heap.size + 1]? = some (.cells #[.slice none 0 0, .int .i64 0, .int .i64 0, .int .i64 0, .int .i64 0, .int .i64 0, .int .i64 0, .int .i64 0, .int .i64 0, .int .i64 0, .bool false] 66 (0, 0)) := (hB20.block _ (by omega)).trans hr2
  have ha : W0.heap[w.heap.size + 1 + 1]? = some (.cells #[.func (Fn.func 64) #[] #[], .func (Fn.func 65) #[] #[], .func (Fn.func 66) #[] #[]] 81 (0, 0)) := by rw [← hW0, ← hz2]; exact heap_alloc_new W2 _
  have hlt1 : W1.heap.size ≤ w.heap.size + 1 := by omega
  have HW := Lib.hid (show ((w.alloc (.cells #[.slice A n c, .int .i64 s.pl, .int .i64 s.st, .int .i64 s.nx, .int .i64 s.ph, .int .i64 s.t, .int .i64 s.hd, .int .i64 s.hl, .int .i64 s.ak, .int .i64 s.wt, .bool s.sp] 66)).alloc (.cells #[.slice none 0 0, .int .i64 0, .int .i64 0, .int .i64 0, .int .i64 0, .int .i64 0, .int .i64 0, .int .i64 0, .int .i64 0, .int .i64 0, .bool false] 66)).alloc (.cells #[.func (Fn.func 64) #[] #[], .func (Fn.func 65) #[] #[], .func (Fn.func 66) #[] #[]] 81) = W0 by rw [hW1, hW2, hW0])
  have HB0 := Lib.hid hB0
  have HB1 := Lib.hid hB1
  clear hz1 hz2 hr2 hW0 hW1 hW2 hB0 hB2 hB20
  have HMC := Lib.hid (show ∀ X, Below W1.heap.size W1 X → X.cell? ⟨w.heap.size, 0, none⟩ = some (.slice A n c) ∧ X.cell? ⟨w.heap.size, 1, none⟩ = some (.int .i64 s.pl) ∧ X.cell? ⟨w.heap.size, 2, none⟩ = some (.int .i64 s.st) ∧ X.cell? ⟨w.heap.size, 3, none⟩ = some (.int .i64 s.nx) ∧ X.cell? ⟨w.heap.size, 4, none⟩ = some (.int .i64 s.ph) ∧ X.cell? ⟨w.heap.size, 5, none⟩ = some (.int .i64 s.t) ∧ X.cell? ⟨w.heap.size, 6, none⟩ = some (.int .i64 s.hd) ∧ X.cell? ⟨w.heap.size, 7, none⟩ = some (.int .i64 s.hl) ∧ X.cell? ⟨w.heap.size, 8, none⟩ = some (.int .i64 s.ak) ∧ X.cell? ⟨w.heap.size, 9, none⟩ = some (.int .i64 s.wt) ∧ X.cell? ⟨w.heap.size, 10, none⟩ = some (.bool s.sp) from fun X hX => by
    obtain ⟨cm, c0, c1, c2, c3, c4, c5, c6, c7, c8, c9⟩ := (hbm.below hX).cells
    exact ⟨cm, c0, c1, c2, c3, c4, c5, c6, c7, c8, c9⟩)
  have HF := Lib.hid (show ∀ X : World, X.heap[w.heap.size + 1 + 1]? = some (.cells #[.func (Fn.func 64) #[] #[], .func (Fn.func 65) #[] #[], .func (Fn.func 66) #[] #[]] 81 (0, 0)) → X.cell? ⟨w.heap.size + 1 + 1, 1, none⟩ = some (.func (Fn.func 65) #[] #[]) from fun X hX => (cell_of_row _ _ _ _ _ _ hX).trans rfl)
  have HT := Lib.hid (show ∀ X, Below W1.heap.size W1 X → Calls Try.prog 65 #[mcV A n c s] X (GivesM A n c (tickS l s) X) from fun X hX => by
    have H := (hl.below hB1).below hX
    rw [tickS, if_pos (mayS_iff.2 hm), if_neg (by omega), if_pos hp]
    exact amber_any A n c l s X H hm hp)
  obtain ⟨g, hg⟩ : ∃ g, tickS l s = g := ⟨_, rfl⟩
  rw [hg] at HT ⊢
  unfold GivesM mcV at HT ⊢
  have q0 : ¬ ((1 : Int) < 0) := by omega
  have q3 : (1 : Int) < 3 := by omega
  clear hbm hB1 hl hm hg
  obtain ⟨pl, st, nx, ph, t, hd, hh, ak, wt, sp⟩ := s
  simp only at *
  subst hp
  go_enter Try.func45, Try.ntmps45
  go_wp2
  rw [HW.out]
  have hSd : Below W1.heap.size W1 W0.drew := HB0.out.drew
  have hxd : W0.drew.heap[w.heap.size + 1 + 1]? = some (.cells #[.func (Fn.func 64) #[] #[], .func (Fn.func 65) #[] #[], .func (Fn.func 66) #[] #[]] 81 (0, 0)) := ha
  refine wp_region_held_drew (S := fun X => Below W1.heap.size W1 X ∧ X.heap[w.heap.size + 1 + 1]? = some (.cells #[.func (Fn.func 64) #[] #[], .func (Fn.func 65) #[] #[], .func (Fn.func 66) #[] #[]] 81 (0, 0))) (by kernel_rfl) ⟨hSd, hxd⟩ (fun hHeld => ?_)
  obtain ⟨y0, hY0⟩ : ∃ Y, W0.drew = Y := ⟨_, rfl⟩
  have hr0 := (show W0.drew.heap[w.heap.size + 1]? = _ from hr)
  rw [hY0] at hr0
  rw [hY0] at hSd hHeld hxd ⊢
  clear hY0
  refine tk 0 (.pointer (some ⟨w.heap.size, 1, none⟩)) hHeld (fun w => ?_) ?_
  · go_simp
  simp only [PT]
  refine tk 1 (.pointer (some ⟨w.heap.size, 4, none⟩)) hHeld (fun w => ?_) ?_
  · go_simp
  simp only [PT]
  refine tkS 2 (.int .i64 1) hHeld (fun w hq => ?_) ?_
  · obtain ⟨hq, hqa⟩ := hq; obtain ⟨cm, c0, c1, c2, c3, c4, c5, c6, c7, c8, c9⟩ := HMC.out w hq; have hfn := HF.out w hqa
    go_simp
  simp only [PT]
  refine tk 3 (.pointer (some ⟨w.heap.size + 1 + 1, 1, none⟩)) hHeld (fun w => ?_) ?_
  · go_simp
  simp only [PT]
  refine tkS 4 (.func (Fn.func 65) #[] #[]) hHeld (fun w hq => ?_) ?_
  · obtain ⟨hq, hqa⟩ := hq; obtain ⟨cm, c0, c1, c2, c3, c4, c5, c6, c7, c8, c9⟩ := HMC.out w hq; have hfn := HF.out w hqa
    go_simp
  simp only [PT]
  refine tkS 5 (.agg #[.slice A n c, .int .i64 pl, .int .i64 st, .int .i64 nx, .int .i64 1, .int .i64 t, .int .i64 hd, .int .i64 hh, .int .i64 ak, .int .i64 wt, .bool sp]) hHeld (fun w hq => ?_) ?_
  · obtain ⟨hq, hqa⟩ := hq; obtain ⟨cm, c0, c1, c2, c3, c4, c5, c6, c7, c8, c9⟩ := HMC.out w hq; have hfn := HF.out w hqa
    go_simp
  simp only [PT]
  refine one_step 6 (by kernel_rfl) rfl (fun Kq hKq => ?_)
  go_simp
  go_at_call 65
  (with_reducible refine (HT.out _ hSd).mono ?_)
  rintro e y1 ⟨rfl, hbx⟩
  have hS1 : Below W1.heap.size W1 y1 := hSd.trans (hbx.mono hSd.size)
  have hr1 := (hbx.block (w.heap.size + 1) (Array.getElem?_eq_some_iff.1 hr0).1).trans hr0
  have hx1 := (hbx.block (w.heap.size + 1 + 1) (Array.getElem?_eq_some_iff.1 hxd).1).trans hxd
  clear hbx
  refine hKq.out _ _ ⟨hS1, hx1⟩ (fun hHeld0 => ?_)
  clear hKq Kq hHeld
  have hHeld := hHeld0
  clear hHeld0
  try simp only [PT]
  refine one_step 7 (by kernel_rfl) rfl (fun Kq hKq => ?_)
  refine step_store_part 66 _ _ rfl (w.heap.size + 1) 0 (.agg #[.slice A n c, .int .i64 g.pl, .int .i64 g.st, .int .i64 g.nx, .int .i64 g.ph, .int .i64 g.t, .int .i64 g.hd, .int .i64 g.hl, .int .i64 g.ak, .int .i64 g.wt, .bool g.sp]) #[.slice A n c, .int .i64 g.pl, .int .i64 g.st, .int .i64 g.nx, .int .i64 g.ph, .int .i64 g.t, .int .i64 g.hd, .int .i64 g.hl, .int .i64 g.ak, .int .i64 g.wt, .bool g.sp] rfl rfl rfl 66 #[.slice none 0 0, .int .i64 0, .int .i64 0, .int .i64 0, .int .i64 0, .int .i64 0, .int .i64 0, .int .i64 0, .int .i64 0, .int .i64 0, .bool false] #[.slice A n c, .int .i64 g.pl, .int .i64 g.st, .int .i64 g.nx, .int .i64 g.ph, .int .i64 g.t, .int .i64 g.hd, .int .i64 g.hl, .int .i64 g.ak, .int .i64 g.wt, .bool g.sp] hr1 (info_mac) (by simp) (one_mac _ _ _ _ _ _ _ _ _ _ _ _ _) rfl rfl ?_
  intro y2 hgk hr2 hzk
  have hS2 : Below W1.heap.size W1 y2 := Below.grows hS1 hgk hS1.size hlt1
  have hx2 := (other_block hgk (show w.heap.size + 1 + 1 ≠ w.heap.size + 1 by omega) (Array.getElem?_eq_some_iff.1 hx1).1).trans hx1
  clear hgk hzk
  refine hKq.out _ _ ⟨hS2, hx2⟩ (fun hHeld0 => ?_)
  clear hKq Kq hHeld
  have hHeld := hHeld0
  clear hHeld0
  try simp only [PT]
  refine wpAnyH_done (by kernel_rfl) ?_ _
  clear hHeld
  go_wp2
  refine bodyPost_ret (v := .agg #[.slice A n c, .int .i64 g.pl, .int .i64 g.st, .int .i64 g.nx, .int .i64 g.ph, .int .i64 g.t, .int .i64 g.hd, .int .i64 g.hl, .int .i64 g.ak, .int .i64 g.wt, .bool g.sp]) ?_ rfl ⟨rfl, HB1.out.trans (hS2.mono HB1.out.size)⟩
  exact results_cell_row Try.results45 _ _ (w.heap.size + 1) 66 #[.slice A n c, .int .i64 g.pl, .int .i64 g.st, .int .i64 g.nx, .int .i64 g.ph, .int .i64 g.t, .int .i64 g.hd, .int .i64 g.hl, .int .i64 g.ak, .int .i64 g.wt, .bool g.sp] (0, 0) _ rfl hr2 Try.underlying66 rfl info_mac
set_option maxHeartbeats 8000000 in
theorem ticked_2 (A : Option Addr) (n c : Nat) (l : List Pl) (s : Sg) (w : World) (hl : Pls w A n c l) (hm : MayS l s) (hp : s.ph = 2) : Calls Try.prog 45 #[mcV A n c s] w (GivesM A n c (tickS l s) w) := by
  obtain ⟨W1, hW1⟩ : ∃ W1, w.alloc (.cells #[.slice A n c, .int .i64 s.pl, .int .i64 s.st, .int .i64 s.nx, .int .i64 s.ph, .int .i64 s.t, .int .i64 s.hd, .int .i64 s.hl, .int .i64 s.ak, .int .i64 s.wt, .bool s.sp] 66) = W1 := ⟨_, rfl⟩
  have hB1 : Below w.heap.size w W1 := by rw [← hW1]; exact one_alloc w _
  have hbm : BoxM W1 w.heap.size A n c s := by rw [← hW1]; exact BoxM.new w A n c s
  have hz1 : W1.heap.size = w.heap.size + 1 := by rw [← hW1]; simp
  obtain ⟨W2, hW2⟩ : ∃ W2, W1.alloc (.cells #[.slice none 0 0, .int .i64 0, .int .i64 0, .int .i64 0, .int .i64 0, .int .i64 0, .int .i64 0, .int .i64 0, .int .i64 0, .int .i64 0, .bool false] 66) = W2 := ⟨_, rfl⟩
  have hB2 : Below W1.heap.size W1 W2 := by rw [← hW2]; exact one_alloc W1 _
  have hz2 : W2.heap.size = w.heap.size + 1 + 1 := by rw [← hW2, ← hz1]; simp
  have hr2 : W2.heap[w.heap.size + 1]? = some (.cells #[.slice none 0 0, .int .i64 0, .int .i64 0, .int .i64 0, .int .i64 0, .int .i64 0, .int .i64 0, .int .i64 0, .int .i64 0, .int .i64 0, .bool false] 66 (0, 0)) := by rw [← hW2, ← hz1]; exact heap_alloc_new W1 _
  obtain ⟨W0, hW0⟩ : ∃ W0, W2.alloc (.cells #[.func (Fn.func 64) #[] #[], .func (Fn.func 65) #[] #[], .func (Fn.func 66) #[] #[]] 81) = W0 := ⟨_, rfl⟩
  have hB20 : Below W2.heap.size W2 W0 := by rw [← hW0]; exact one_alloc W2 _
  have hB0 : Below W1.heap.size W1 W0 := hB2.trans (hB20.mono hB2.size)
  have hr : W0.heap[w.heap.size + 1]? = some (.cells #[.slice none 0 0, .int .i64 0, .int .i64 0, .int .i64 0, .int .i64 0, .int .i64 0, .int .i64 0, .int .i64 0, .int .i64 0, .int .i64 0, .bool false] 66 (0, 0)) := (hB20.block _ (by omega)).trans hr2
  have ha : W0.heap[w.heap.size + 1 + 1]? = some (.cells #[.func (Fn.func 64) #[] #[], .func (Fn.func 65) #[] #[], .func (Fn.func 66) #[] #[]] 81 (0, 0)) := by rw [← hW0, ← hz2]; exact heap_alloc_new W2 _
  have hlt1 : W1.heap.size ≤ w.heap.size + 1 := by omega
  have HW := Lib.hid (show ((w.alloc (.cells #[.slice A n c, .int .i64 s.pl, .int .i64 s.st, .int .i64 s.nx, .int .i64 s.ph, .int .i64 s.t, .int .i64 s.hd, .int .i64 s.hl, .int .i64 s.ak, .int .i64 s.wt, .bool s.sp] 66)).alloc (.cells #[.slice none 0 0, .int .i64 0, .int .i64 0, .int .i64 0, .int .i64 0, .int .i64 0, .int .i64 0, .int .i64 0, .int .i64 0, .int .i64 0, .bool false] 66)).alloc (.cells #[.func (Fn.func 64) #[] #[], .func (Fn.func 65) #[] #[], .func (Fn.func 66) #[] #[]] 81) = W0 by rw [hW1, hW2, hW0])
  have HB0 := Lib.hid hB0
  have HB1 := Lib.hid hB1
  clear hz1 hz2 hr2 hW0 hW1 hW2 hB0 hB2 hB20
  have HMC := Lib.hid (show ∀ X, Below W1.heap.size W1 X → X.cell? ⟨w.heap.size, 0, none⟩ = some (.slice A n c) ∧ X.cell? ⟨w.heap.size, 1, none⟩ = some (.int .i64 s.pl) ∧ X.cell? ⟨w.heap.size, 2, none⟩ = some (.int .i64 s.st) ∧ X.cell? ⟨w.heap.size, 3, none⟩ = some (.int .i64 s.nx) ∧ X.cell? ⟨w.heap.size, 4, none⟩ = some (.int .i64 s.ph) ∧ X.cell? ⟨w.heap.size, 5, none⟩ = some (.int .i64 s.t) ∧ X.cell? ⟨w.heap.size, 6, none⟩ = some (.int .i64 s.hd) ∧ X.cell? ⟨w.heap.size, 7, none⟩ = some (.int .i64 s.hl) ∧ X.cell? ⟨w.heap.size, 8, none⟩ = some (.int .i64 s.ak) ∧ X.cell? ⟨w.heap.size, 9, none⟩ = some (.int .i64 s.wt) ∧ X.cell? ⟨w.heap.size, 10, none⟩ = some (.bool s.sp) from fun X hX => by
    obtain ⟨cm, c0, c1, c2, c3, c4, c5, c6, c7, c8, c9⟩ := (hbm.below hX).cells
    exact ⟨cm, c0, c1, c2, c3, c4, c5, c6, c7, c8, c9⟩)
  have HF := Lib.hid (show ∀ X : World, X.heap[w.heap.size + 1 + 1]? = some (.cells #[.func (Fn.func 64) #[] #[], .func (Fn.func 65) #[] #[], .func (Fn.func 66) #[] #[]] 81 (0, 0)) → X.cell? ⟨w.heap.size + 1 + 1, 2, none⟩ = some (.func (Fn.func 66) #[] #[]) from fun X hX => (cell_of_row _ _ _ _ _ _ hX).trans rfl)
  have HT := Lib.hid (show ∀ X, Below W1.heap.size W1 X → Calls Try.prog 66 #[mcV A n c s] X (GivesM A n c (tickS l s) X) from fun X hX => by
    have H := (hl.below hB1).below hX
    rw [tickS, if_pos (mayS_iff.2 hm), if_neg (by omega), if_neg (by omega)]
    exact mred_any A n c l s X H hm (by omega) (by omega))
  obtain ⟨g, hg⟩ : ∃ g, tickS l s = g := ⟨_, rfl⟩
  rw [hg] at HT ⊢
  unfold GivesM mcV at HT ⊢
  have q0 : ¬ ((2 : Int) < 0) := by omega
  have q3 : (2 : Int) < 3 := by omega
  clear hbm hB1 hl hm hg
  obtain ⟨pl, st, nx, ph, t, hd, hh, ak, wt, sp⟩ := s
  simp only at *
  subst hp
  go_enter Try.func45, Try.ntmps45
  go_wp2
  rw [HW.out]
  have hSd : Below W1.heap.size W1 W0.drew := HB0.out.drew
  have hxd : W0.drew.heap[w.heap.size + 1 + 1]? = some (.cells #[.func (Fn.func 64) #[] #[], .func (Fn.func 65) #[] #[], .func (Fn.func 66) #[] #[]] 81 (0, 0)) := ha
  refine wp_region_held_drew (S := fun X => Below W1.heap.size W1 X ∧ X.heap[w.heap.size + 1 + 1]? = some (.cells #[.func (Fn.func 64) #[] #[], .func (Fn.func 65) #[] #[], .func (Fn.func 66) #[] #[]] 81 (0, 0))) (by kernel_rfl) ⟨hSd, hxd⟩ (fun hHeld => ?_)
  obtain ⟨y0, hY0⟩ : ∃ Y, W0.drew = Y := ⟨_, rfl⟩
  have hr0 := (show W0.drew.heap[w.heap.size + 1]? = _ from hr)
  rw [hY0] at hr0
  rw [hY0] at hSd hHeld hxd ⊢
  clear hY0
  refine tk 0 (.pointer (some ⟨w.heap.size, 1, none⟩)) hHeld (fun w => ?_) ?_
  · go_simp
  simp only [PT]
  refine tk 1 (.pointer (some ⟨w.heap.size, 4, none⟩)) hHeld (fun w => ?_) ?_
  · go_simp
  simp only [PT]
  refine tkS 2 (.int .i64 2) hHeld (fun w hq => ?_) ?_
  · obtain ⟨hq, hqa⟩ := hq; obtain ⟨cm, c0, c1, c2, c3, c4, c5, c6, c7, c8, c9⟩ := HMC.out w hq; have hfn := HF.out w hqa
    go_simp
  simp only [PT]
  refine tk 3 (.pointer (some ⟨w.heap.size + 1 + 1, 2, none⟩)) hHeld (fun w => ?_) ?_
  · go_simp
  simp only [PT]
  refine tkS 4 (.func (Fn.func 66) #[] #[]) hHeld (fun w hq => ?_) ?_
  · obtain ⟨hq, hqa⟩ := hq; obtain ⟨cm, c0, c1, c2, c3, c4, c5, c6, c7, c8, c9⟩ := HMC.out w hq; have hfn := HF.out w hqa
    go_simp
  simp only [PT]
  refine tkS 5 (.agg #[.slice A n c, .int .i64 pl, .int .i64 st, .int .i64 nx, .int .i64 2, .int .i64 t, .int .i64 hd, .int .i64 hh, .int .i64 ak, .int .i64 wt, .bool sp]) hHeld (fun w hq => ?_) ?_
  · obtain ⟨hq, hqa⟩ := hq; obtain ⟨cm, c0, c1, c2, c3, c4, c5, c6, c7, c8, c9⟩ := HMC.out w hq; have hfn := HF.out w hqa
    go_simp
  simp only [PT]
  refine one_step 6 (by kernel_rfl) rfl (fun Kq hKq => ?_)
  go_simp
  go_at_call 66
  (with_reducible refine (HT.out _ hSd).mono ?_)
  rintro e y1 ⟨rfl, hbx⟩
  have hS1 : Below W1.heap.size W1 y1 := hSd.trans (hbx.mono hSd.size)
  have hr1 := (hbx.block (w.heap.size + 1) (Array.getElem?_eq_some_iff.1 hr0).1).trans hr0
  have hx1 := (hbx.block (w.heap.size + 1 + 1) (Array.getElem?_eq_some_iff.1 hxd).1).trans hxd
  clear hbx
  refine hKq.out _ _ ⟨hS1, hx1⟩ (fun hHeld0 => ?_)
  clear hKq Kq hHeld
  have hHeld := hHeld0
  clear hHeld0
  try simp only [PT]
  refine one_step 7 (by kernel_rfl) rfl (fun Kq hKq => ?_)
  refine step_store_part 66 _ _ rfl (w.heap.size + 1) 0 (.agg #[.slice A n c, .int .i64 g.pl, .int .i64 g.st, .int .i64 g.nx, .int .i64 g.ph, .int .i64 g.t, .int .i64 g.hd, .int .i64 g.hl, .int .i64 g.ak, .int .i64 g.wt, .bool g.sp]) #[.slice A n c, .int .i64 g.pl, .int .i64 g.st, .int .i64 g.nx, .int .i64 g.ph, .int .i64 g.t, .int .i64 g.hd, .int .i64 g.hl, .int .i64 g.ak, .int .i64 g.wt, .bool g.sp] rfl rfl rfl 66 #[.slice none 0 0, .int .i64 0, .int .i64 0, .int .i64 0, .int .i64 0, .int .i64 0, .int .i64 0, .int .i64 0, .int .i64 0, .int .i64 0, .bool false] #[.slice A n c, .int .i64 g.pl, .int .i64 g.st, .int .i64 g.nx, .int .i64 g.ph, .int .i64 g.t, .int .i64 g.hd, .int .i64 g.hl, .int .i64 g.ak, .int .i64 g.wt, .bool g.sp] hr1 (info_mac) (by simp) (one_mac _ _ _ _ _ _ _ _ _ _ _ _ _) rfl rfl ?_
  intro y2 hgk hr2 hzk
  have hS2 : Below W1.heap.size W1 y2 := Below.grows hS1 hgk hS1.size hlt1
  have hx2 := (other_block hgk (show w.heap.size + 1 + 1 ≠ w.heap.size + 1 by omega) (Array.getElem?_eq_some_iff.1 hx1).1).trans hx1
  clear hgk hzk
  refine hKq.out _ _ ⟨hS2, hx2⟩ (fun hHeld0 => ?_)
  clear hKq Kq hHeld
  have hHeld := hHeld0
  clear hHeld0
  try simp only [PT]
  refine wpAnyH_done (by kernel_rfl) ?_ _
  clear hHeld
  go_wp2
  refine bodyPost_ret (v := .agg #[.slice A n c, .int .i64 g.pl, .int .i64 g.st, .int .i64 g.nx, .int .i64 g.ph, .int .i64 g.t, .int .i64 g.hd, .int .i64 g.hl, .int .i64 g.ak, .int .i64 g.wt, .bool g.sp]) ?_ rfl ⟨rfl, HB1.out.trans (hS2.mono HB1.out.size)⟩
  exact results_cell_row Try.results45 _ _ (w.heap.size + 1) 66 #[.slice A n c, .int .i64 g.pl, .int .i64 g.st, .int .i64 g.nx, .int .i64 g.ph, .int .i64 g.t, .int .i64 g.hd, .int .i64 g.hl, .int .i64 g.ak, .int .i64 g.wt, .bool g.sp] (0, 0) _ rfl hr2 Try.underlying66 rfl info_mac
theorem ticked_any (A : Option Addr) (n c : Nat) (l : List Pl) (s : Sg) (w : World) (hl : Pls w A n c l) (hm : MayS l s) : Calls Try.prog 45 #[mcV A n c s] w (GivesM A n c (tickS l s) w) := by
  have h0 := hm.range.p0
  have h1 := hm.range.p1
  by_cases p0 : s.ph = 0
  · exact ticked_0 A n c l s w hl hm p0
  · by_cases p1 : s.ph = 1
    · exact ticked_1 A n c l s w hl hm p1
    · exact ticked_2 A n c l s w hl hm (by omega)
end Go.Proofs.Ytgnhmdfajnnkhaa


/- Whether a machine of package stage fits: that all is there. -/
namespace Go.Proofs.Ytgnhmdfajnnkhaa
set_option maxRecDepth 100000
set_option linter.unusedVariables false
set_option linter.unusedSimpArgs false
open Go.RowKit

/-- is all there that it is in, and that is asked for? -/
def placedB (p : Pl) (n : Nat) (s : Sg) : Bool := ((placeB s.st p.k && placeB s.nx p.k) && (decide (s.ak = -1) || placeB s.ak p.k)) && (decide (s.wt = -1) || placeB s.wt n)
theorem place_iff {x y : Int} : placeB x y = true ↔ 0 ≤ x ∧ x < y := by rw [placeB, Bool.and_eq_true, decide_eq_true_eq, decide_eq_true_eq]
theorem range_placed {p : Pl} {n : Nat} {s : Sg} (hk : p.s.length = p.k) : rangeB p n s = (placedB p n s && decide (0 ≤ s.ph ∧ s.ph < 3)) := by
  rw [Bool.eq_iff_iff, Bool.and_eq_true, range_iff, placedB, Bool.and_eq_true, Bool.and_eq_true, Bool.and_eq_true, Bool.or_eq_true, Bool.or_eq_true, decide_eq_true_eq, decide_eq_true_eq, decide_eq_true_eq, place_iff, place_iff, place_iff, place_iff]
  constructor
  · rintro ⟨a, b, c, d, e, f, g, h, i, j⟩
    rw [hk] at b d h
    exact ⟨⟨⟨⟨⟨a, b⟩, c, d⟩, by omega⟩, by omega⟩, e, f⟩
  · rintro ⟨⟨⟨⟨⟨a, b⟩, c, d⟩, g⟩, h⟩, e, f⟩
    exact ⟨a, by rw [hk]; exact b, c, by rw [hk]; exact d, e, f, by omega, by rw [hk]; omega, by omega, by omega⟩
set_option maxHeartbeats 8000000 in
theorem placed_any (A : Option Addr) (n c : Nat) (l : List Pl) (s : Sg) (w : World) (hl : Pls w A n c l) (h0 : 0 ≤ s.pl) (h1 : s.pl < n) : Calls Try.prog 60 #[mcV A n c s] w fun e w' => e = .returned (.bool (placedB (planAt l s.pl) n s)) ∧ Below w.heap.size w w' := by
  obtain ⟨W1, hW1⟩ : ∃ W1, w.alloc (.cells #[.slice A n c, .int .i64 s.pl, .int .i64 s.st, .int .i64 s.nx, .int .i64 s.ph, .int .i64 s.t, .int .i64 s.hd, .int .i64 s.hl, .int .i64 s.ak, .int .i64 s.wt, .bool s.sp] 66) = W1 := ⟨_, rfl⟩
  have hB1 : Below w.heap.size w W1 := by rw [← hW1]; exact one_alloc w _
  have hbm : BoxM W1 w.heap.size A n c s := by rw [← hW1]; exact BoxM.new w A n c s
  have HW := Lib.hid hW1
  clear hW1
  have HB1 := Lib.hid hB1
  have HMC := Lib.hid (show ∀ X, Below W1.heap.size W1 X → X.cell? ⟨w.heap.size, 0, none⟩ = some (.slice A n c) ∧ X.cell? ⟨w.heap.size, 1, none⟩ = some (.int .i64 s.pl) ∧ X.cell? ⟨w.heap.size, 2, none⟩ = some (.int .i64 s.st) ∧ X.cell? ⟨w.heap.size, 3, none⟩ = some (.int .i64 s.nx) ∧ X.cell? ⟨w.heap.size, 4, none⟩ = some (.int .i64 s.ph) ∧ X.cell? ⟨w.heap.size, 5, none⟩ = some (.int .i64 s.t) ∧ X.cell? ⟨w.heap.size, 6, none⟩ = some (.int .i64 s.hd) ∧ X.cell? ⟨w.heap.size, 7, none⟩ = some (.int .i64 s.hl) ∧ X.cell? ⟨w.heap.size, 8, none⟩ = some (.int .i64 s.ak) ∧ X.cell? ⟨w.heap.size, 9, none⟩ = some (.int .i64 s.wt) ∧ X.cell? ⟨w.heap.size, 10, none⟩ = some (.bool s.sp) from fun X hX => by
    obtain ⟨cm, c0, c1, c2, c3, c4, c5, c6, c7, c8, c9⟩ := (hbm.below hX).cells
    exact ⟨cm, c0, c1, c2, c3, c4, c5, c6, c7, c8, c9⟩)
  have HOW := Lib.hid (fun X (hX : Below W1.heap.size W1 X) => own_plan A n c l s X ((hl.below hB1).below hX) h0 h1)
  have HQI := Lib.hid (show ∀ X, Below W1.heap.size W1 X → PlIn X (planAt l s.pl) from fun X hX => plan_lies ((hl.below hB1).below hX) h0 h1)
  unfold mcV at HOW ⊢
  clear hbm hB1 hl
  have HE := Lib.hid (show placedB (planAt l s.pl) n s = (((placeB s.st (planAt l s.pl).k && placeB s.nx (planAt l s.pl).k) && (decide (s.ak = -1) || placeB s.ak (planAt l s.pl).k)) && (decide (s.wt = -1) || placeB s.wt n)) from rfl)
  obtain ⟨R, hR⟩ : ∃ R, placedB (planAt l s.pl) n s = R := ⟨_, rfl⟩
  rw [hR] at HE ⊢
  obtain ⟨q, hq⟩ : ∃ q, planAt l s.pl = q := ⟨_, rfl⟩
  rw [hq] at HOW HE
  clear hq hR HQI
  unfold plV at HOW
  have HPak := Lib.hid (fun X => place_any s.ak q.k X)
  have HPst := Lib.hid (fun X => place_any s.st q.k X)
  have HPnx := Lib.hid (fun X => place_any s.nx q.k X)
  have HPwt := Lib.hid (fun X => place_any s.wt n X)
  obtain ⟨Bak, h2⟩ : ∃ b, placeB s.ak q.k = b := ⟨_, rfl⟩
  obtain ⟨Bst, h3⟩ : ∃ b, placeB s.st q.k = b := ⟨_, rfl⟩
  obtain ⟨Bnx, h4⟩ : ∃ b, placeB s.nx q.k = b := ⟨_, rfl⟩
  obtain ⟨Bwt, h5⟩ : ∃ b, placeB s.wt n = b := ⟨_, rfl⟩
  rw [h2] at HE HPak
  rw [h3] at HE HPst
  rw [h4] at HE HPnx
  rw [h5] at HE HPwt
  have hea : (s.ak == -1) = decide (s.ak = -1) := beq_dec _ _
  have hew : (s.wt == -1) = decide (s.wt = -1) := beq_dec _ _
  obtain ⟨Ea, h6⟩ : ∃ b, decide (s.ak = -1) = b := ⟨_, rfl⟩
  obtain ⟨Ew, h7⟩ : ∃ b, decide (s.wt = -1) = b := ⟨_, rfl⟩
  rw [h6] at HE hea
  rw [h7] at HE hew
  clear h2 h3 h4 h5 h6 h7
  obtain ⟨pl, st, nx, ph, t, hd, hh, ak, wt, sp⟩ := s
  obtain ⟨A', n', c', m, B, k, d, sl, am, rd, hd'⟩ := q
  simp only at *
  have hfd : ∀ w, Sem.run Try.prog (Instr.field 47 (.agg #[.slice A' n' c', .slice B k d, .int .i64 am, .int .i64 rd, .int .i64 hd']) 1) w = Result.ok (.slice B k d) w := fun _ => rfl
  cases Ea
  · cases Bak
    · cases Ew
      · cases Bwt
        · cases Bst
          · go_enter Try.func60, Try.ntmps60
            go_wp2_with (first
              | (go_at_call 58; rw [HW.out]; (with_reducible refine (HOW.out _ (Below.refl _ _)).mono ?_); rintro e y1 ⟨rfl, hbx⟩; have HS := Lib.hid hbx; obtain ⟨cm, c0, c1, c2, c3, c4, c5, c6, c7, c8, c9⟩ := HMC.out y1 hbx; clear hbx)
              | (go_at_call 43; (with_reducible refine (HPak.out _).mono ?_); rintro e wq ⟨rfl, rfl⟩)
              | (go_at_call 43; (with_reducible refine (HPwt.out _).mono ?_); rintro e wq ⟨rfl, rfl⟩)
              | (go_at_call 43; (with_reducible refine (HPst.out _).mono ?_); rintro e wq ⟨rfl, rfl⟩)
              | (go_at_call 43; (with_reducible refine (HPnx.out _).mono ?_); rintro e wq ⟨rfl, rfl⟩))
            go_ret
            exact ⟨by rw [HE.out]; rfl, HB1.out.trans (HS.out.mono HB1.out.size)⟩
          · cases Bnx
            · go_enter Try.func60, Try.ntmps60
              go_wp2_with (first
                | (go_at_call 58; rw [HW.out]; (with_reducible refine (HOW.out _ (Below.refl _ _)).mono ?_); rintro e y1 ⟨rfl, hbx⟩; have HS := Lib.hid hbx; obtain ⟨cm, c0, c1, c2, c3, c4, c5, c6, c7, c8, c9⟩ := HMC.out y1 hbx; clear hbx)
                | (go_at_call 43; (with_reducible refine (HPak.out _).mono ?_); rintro e wq ⟨rfl, rfl⟩)
                | (go_at_call 43; (with_reducible refine (HPwt.out _).mono ?_); rintro e wq ⟨rfl, rfl⟩)
                | (go_at_call 43; (with_reducible refine (HPst.out _).mono ?_); rintro e wq ⟨rfl, rfl⟩)
                | (go_at_call 43; (with_reducible refine (HPnx.out _).mono ?_); rintro e wq ⟨rfl, rfl⟩))
              go_ret
              exact ⟨by rw [HE.out]; rfl, HB1.out.trans (HS.out.mono HB1.out.size)⟩
            · go_enter Try.func60, Try.ntmps60
              go_wp2_with (first
                | (go_at_call 58; rw [HW.out]; (with_reducible refine (HOW.out _ (Below.refl _ _)).mono ?_); rintro e y1 ⟨rfl, hbx⟩; have HS := Lib.hid hbx; obtain ⟨cm, c0, c1, c2, c3, c4, c5, c6, c7, c8, c9⟩ := HMC.out y1 hbx; clear hbx)
                | (go_at_call 43; (with_reducible refine (HPak.out _).mono ?_); rintro e wq ⟨rfl, rfl⟩)
                | (go_at_call 43; (with_reducible refine (HPwt.out _).mono ?_); rintro e wq ⟨rfl, rfl⟩)
                | (go_at_call 43; (with_reducible refine (HPst.out _).mono ?_); rintro e wq ⟨rfl, rfl⟩)
                | (go_at_call 43; (with_reducible refine (HPnx.out _).mono ?_); rintro e wq ⟨rfl, rfl⟩))
              go_ret
              exact ⟨by rw [HE.out]; rfl, HB1.out.trans (HS.out.mono HB1.out.size)⟩
        · cases Bst
          · go_enter Try.func60, Try.ntmps60
            go_wp2_with (first
              | (go_at_call 58; rw [HW.out]; (with_reducible refine (HOW.out _ (Below.refl _ _)).mono ?_); rintro e y1 ⟨rfl, hbx⟩; have HS := Lib.hid hbx; obtain ⟨cm, c0, c1, c2, c3, c4, c5, c6, c7, c8, c9⟩ := HMC.out y1 hbx; clear hbx)
              | (go_at_call 43; (with_reducible refine (HPak.out _).mono ?_); rintro e wq ⟨rfl, rfl⟩)
              | (go_at_call 43; (with_reducible refine (HPwt.out _).mono ?_); rintro e wq ⟨rfl, rfl⟩)
              | (go_at_call 43; (with_reducible refine (HPst.out _).mono ?_); rintro e wq ⟨rfl, rfl⟩)
              | (go_at_call 43; (with_reducible refine (HPnx.out _).mono ?_); rintro e wq ⟨rfl, rfl⟩))
            go_ret
            exact ⟨by rw [HE.out]; rfl, HB1.out.trans (HS.out.mono HB1.out.size)⟩
          · cases Bnx
            · go_enter Try.func60, Try.ntmps60
              go_wp2_with (first
                | (go_at_call 58; rw [HW.out]; (with_reducible refine (HOW.out _ (Below.refl _ _)).mono ?_); rintro e y1 ⟨rfl, hbx⟩; have HS := Lib.hid hbx; obtain ⟨cm, c0, c1, c2, c3, c4, c5, c6, c7, c8, c9⟩ := HMC.out y1 hbx; clear hbx)
                | (go_at_call 43; (with_reducible refine (HPak.out _).mono ?_); rintro e wq ⟨rfl, rfl⟩)
                | (go_at_call 43; (with_reducible refine (HPwt.out _).mono ?_); rintro e wq ⟨rfl, rfl⟩)
                | (go_at_call 43; (with_reducible refine (HPst.out _).mono ?_); rintro e wq ⟨rfl, rfl⟩)
                | (go_at_call 43; (with_reducible refine (HPnx.out _).mono ?_); rintro e wq ⟨rfl, rfl⟩))
              go_ret
              exact ⟨by rw [HE.out]; rfl, HB1.out.trans (HS.out.mono HB1.out.size)⟩
            · go_enter Try.func60, Try.ntmps60
              go_wp2_with (first
                | (go_at_call 58; rw [HW.out]; (with_reducible refine (HOW.out _ (Below.refl _ _)).mono ?_); rintro e y1 ⟨rfl, hbx⟩; have HS := Lib.hid hbx; obtain ⟨cm, c0, c1, c2, c3, c4, c5, c6, c7, c8, c9⟩ := HMC.out y1 hbx; clear hbx)
                | (go_at_call 43; (with_reducible refine (HPak.out _).mono ?_); rintro e wq ⟨rfl, rfl⟩)
                | (go_at_call 43; (with_reducible refine (HPwt.out _).mono ?_); rintro e wq ⟨rfl, rfl⟩)
                | (go_at_call 43; (with_reducible refine (HPst.out _).mono ?_); rintro e wq ⟨rfl, rfl⟩)
                | (go_at_call 43; (with_reducible refine (HPnx.out _).mono ?_); rintro e wq ⟨rfl, rfl⟩))
              go_ret
              exact ⟨by rw [HE.out]; rfl, HB1.out.trans (HS.out.mono HB1.out.size)⟩
      · cases Bst
        · go_enter Try.func60, Try.ntmps60
          go_wp2_with (first
            | (go_at_call 58; rw [HW.out]; (with_reducible refine (HOW.out _ (Below.refl _ _)).mono ?_); rintro e y1 ⟨rfl, hbx⟩; have HS := Lib.hid hbx; obtain ⟨cm, c0, c1, c2, c3, c4, c5, c6, c7, c8, c9⟩ := HMC.out y1 hbx; clear hbx)
            | (go_at_call 43; (with_reducible refine (HPak.out _).mono ?_); rintro e wq ⟨rfl, rfl⟩)
            | (go_at_call 43; (with_reducible refine (HPwt.out _).mono ?_); rintro e wq ⟨rfl, rfl⟩)
            | (go_at_call 43; (with_reducible refine (HPst.out _).mono ?_); rintro e wq ⟨rfl, rfl⟩)
            | (go_at_call 43; (with_reducible refine (HPnx.out _).mono ?_); rintro e wq ⟨rfl, rfl⟩))
          go_ret
          exact ⟨by rw [HE.out]; rfl, HB1.out.trans (HS.out.mono HB1.out.size)⟩
        · cases Bnx
          · go_enter Try.func60, Try.ntmps60
            go_wp2_with (first
              | (go_at_call 58; rw [HW.out]; (with_reducible refine (HOW.out _ (Below.refl _ _)).mono ?_); rintro e y1 ⟨rfl, hbx⟩; have HS := Lib.hid hbx; obtain ⟨cm, c0, c1, c2, c3, c4, c5, c6, c7, c8, c9⟩ := HMC.out y1 hbx; clear hbx)
              | (go_at_call 43; (with_reducible refine (HPak.out _).mono ?_); rintro e wq ⟨rfl, rfl⟩)
              | (go_at_call 43; (with_reducible refine (HPwt.out _).mono ?_); rintro e wq ⟨rfl, rfl⟩)
              | (go_at_call 43; (with_reducible refine (HPst.out _).mono ?_); rintro e wq ⟨rfl, rfl⟩)
              | (go_at_call 43; (with_reducible refine (HPnx.out _).mono ?_); rintro e wq ⟨rfl, rfl⟩))
            go_ret
            exact ⟨by rw [HE.out]; rfl, HB1.out.trans (HS.out.mono HB1.out.size)⟩
          · go_enter Try.func60, Try.ntmps60
            go_wp2_with (first
              | (go_at_call 58; rw [HW.out]; (with_reducible refine (HOW.out _ (Below.refl _ _)).mono ?_); rintro e y1 ⟨rfl, hbx⟩; have HS := Lib.hid hbx; obtain ⟨cm, c0, c1, c2, c3, c4, c5, c6, c7, c8, c9⟩ := HMC.out y1 hbx; clear hbx)
              | (go_at_call 43; (with_reducible refine (HPak.out _).mono ?_); rintro e wq ⟨rfl, rfl⟩)
              | (go_at_call 43; (with_reducible refine (HPwt.out _).mono ?_); rintro e wq ⟨rfl, rfl⟩)
              | (go_at_call 43; (with_reducible refine (HPst.out _).mono ?_); rintro e wq ⟨rfl, rfl⟩)
              | (go_at_call 43; (with_reducible refine (HPnx.out _).mono ?_); rintro e wq ⟨rfl, rfl⟩))
            go_ret
            exact ⟨by rw [HE.out]; rfl, HB1.out.trans (HS.out.mono HB1.out.size)⟩
    · cases Ew
      · cases Bwt
        · cases Bst
          · go_enter Try.func60, Try.ntmps60
            go_wp2_with (first
              | (go_at_call 58; rw [HW.out]; (with_reducible refine (HOW.out _ (Below.refl _ _)).mono ?_); rintro e y1 ⟨rfl, hbx⟩; have HS := Lib.hid hbx; obtain ⟨cm, c0, c1, c2, c3, c4, c5, c6, c7, c8, c9⟩ := HMC.out y1 hbx; clear hbx)
              | (go_at_call 43; (with_reducible refine (HPak.out _).mono ?_); rintro e wq ⟨rfl, rfl⟩)
              | (go_at_call 43; (with_reducible refine (HPwt.out _).mono ?_); rintro e wq ⟨rfl, rfl⟩)
              | (go_at_call 43; (with_reducible refine (HPst.out _).mono ?_); rintro e wq ⟨rfl, rfl⟩)
              | (go_at_call 43; (with_reducible refine (HPnx.out _).mono ?_); rintro e wq ⟨rfl, rfl⟩))
            go_ret
            exact ⟨by rw [HE.out]; rfl, HB1.out.trans (HS.out.mono HB1.out.size)⟩
          · cases Bnx
            · go_enter Try.func60, Try.ntmps60
              go_wp2_with (first
                | (go_at_call 58; rw [HW.out]; (with_reducible refine (HOW.out _ (Below.refl _ _)).mono ?_); rintro e y1 ⟨rfl, hbx⟩; have HS := Lib.hid hbx; obtain ⟨cm, c0, c1, c2, c3, c4, c5, c6, c7, c8, c9⟩ := HMC.out y1 hbx; clear hbx)
                | (go_at_call 43; (with_reducible refine (HPak.out _).mono ?_); rintro e wq ⟨rfl, rfl⟩)
                | (go_at_call 43; (with_reducible refine (HPwt.out _).mono ?_); rintro e wq ⟨rfl, rfl⟩)
                | (go_at_call 43; (with_reducible refine (HPst.out _).mono ?_); rintro e wq ⟨rfl, rfl⟩)
                | (go_at_call 43; (with_reducible refine (HPnx.out _).mono ?_); rintro e wq ⟨rfl, rfl⟩))
              go_ret
              exact ⟨by rw [HE.out]; rfl, HB1.out.trans (HS.out.mono HB1.out.size)⟩
            · go_enter Try.func60, Try.ntmps60
              go_wp2_with (first
                | (go_at_call 58; rw [HW.out]; (with_reducible refine (HOW.out _ (Below.refl _ _)).mono ?_); rintro e y1 ⟨rfl, hbx⟩; have HS := Lib.hid hbx; obtain ⟨cm, c0, c1, c2, c3, c4, c5, c6, c7, c8, c9⟩ := HMC.out y1 hbx; clear hbx)
                | (go_at_call 43; (with_reducible refine (HPak.out _).mono ?_); rintro e wq ⟨rfl, rfl⟩)
                | (go_at_call 43; (with_reducible refine (HPwt.out _).mono ?_); rintro e wq ⟨rfl, rfl⟩)
                | (go_at_call 43; (with_reducible refine (HPst.out _).mono ?_); rintro e wq ⟨rfl, rfl⟩)
                | (go_at_call 43; (with_reducible refine (HPnx.out _).mono ?_); rintro e wq ⟨rfl, rfl⟩))
              go_ret
              exact ⟨by rw [HE.out]; rfl, HB1.out.trans (HS.out.mono HB1.out.size)⟩
        · cases Bst
          · go_enter Try.func60, Try.ntmps60
            go_wp2_with (first
              | (go_at_call 58; rw [HW.out]; (with_reducible refine (HOW.out _ (Below.refl _ _)).mono ?_); rintro e y1 ⟨rfl, hbx⟩; have HS := Lib.hid hbx; obtain ⟨cm, c0, c1, c2, c3, c4, c5, c6, c7, c8, c9⟩ := HMC.out y1 hbx; clear hbx)
              | (go_at_call 43; (with_reducible refine (HPak.out _).mono ?_); rintro e wq ⟨rfl, rfl⟩)
              | (go_at_call 43; (with_reducible refine (HPwt.out _).mono ?_); rintro e wq ⟨rfl, rfl⟩)
              | (go_at_call 43; (with_reducible refine (HPst.out _).mono ?_); rintro e wq ⟨rfl, rfl⟩)
              | (go_at_call 43; (with_reducible refine (HPnx.out _).mono ?_); rintro e wq ⟨rfl, rfl⟩))
            go_ret
            exact ⟨by rw [HE.out]; rfl, HB1.out.trans (HS.out.mono HB1.out.size)⟩
          · cases Bnx
            · go_enter Try.func60, Try.ntmps60
              go_wp2_with (first
                | (go_at_call 58; rw [HW.out]; (with_reducible refine (HOW.out _ (Below.refl _ _)).mono ?_); rintro e y1 ⟨rfl, hbx⟩; have HS := Lib.hid hbx; obtain ⟨cm, c0, c1, c2, c3, c4, c5, c6, c7, c8, c9⟩ := HMC.out y1 hbx; clear hbx)
                | (go_at_call 43; (with_reducible refine (HPak.out _).mono ?_); rintro e wq ⟨rfl, rfl⟩)
                | (go_at_call 43; (with_reducible refine (HPwt.out _).mono ?_); rintro e wq ⟨rfl, rfl⟩)
                | (go_at_call 43; (with_reducible refine (HPst.out _).mono ?_); rintro e wq ⟨rfl, rfl⟩)
                | (go_at_call 43; (with_reducible refine (HPnx.out _).mono ?_); rintro e wq ⟨rfl, rfl⟩))
              go_ret
              exact ⟨by rw [HE.out]; rfl, HB1.out.trans (HS.out.mono HB1.out.size)⟩
            · go_enter Try.func60, Try.ntmps60
              go_wp2_with (first
                | (go_at_call 58; rw [HW.out]; (with_reducible refine (HOW.out _ (Below.refl _ _)).mono ?_); rintro e y1 ⟨rfl, hbx⟩; have HS := Lib.hid hbx; obtain ⟨cm, c0, c1, c2, c3, c4, c5, c6, c7, c8, c9⟩ := HMC.out y1 hbx; clear hbx)
                | (go_at_call 43; (with_reducible refine (HPak.out _).mono ?_); rintro e wq ⟨rfl, rfl⟩)
                | (go_at_call 43; (with_reducible refine (HPwt.out _).mono ?_); rintro e wq ⟨rfl, rfl⟩)
                | (go_at_call 43; (with_reducible refine (HPst.out _).mono ?_); rintro e wq ⟨rfl, rfl⟩)
                | (go_at_call 43; (with_reducible refine (HPnx.out _).mono ?_); rintro e wq ⟨rfl, rfl⟩))
              go_ret
              exact ⟨by rw [HE.out]; rfl, HB1.out.trans (HS.out.mono HB1.out.size)⟩
      · cases Bst
        · go_enter Try.func60, Try.ntmps60
          go_wp2_with (first
            | (go_at_call 58; rw [HW.out]; (with_reducible refine (HOW.out _ (Below.refl _ _)).mono ?_); rintro e y1 ⟨rfl, hbx⟩; have HS := Lib.hid hbx; obtain ⟨cm, c0, c1, c2, c3, c4, c5, c6, c7, c8, c9⟩ := HMC.out y1 hbx; clear hbx)
            | (go_at_call 43; (with_reducible refine (HPak.out _).mono ?_); rintro e wq ⟨rfl, rfl⟩)
            | (go_at_call 43; (with_reducible refine (HPwt.out _).mono ?_); rintro e wq ⟨rfl, rfl⟩)
            | (go_at_call 43; (with_reducible refine (HPst.out _).mono ?_); rintro e wq ⟨rfl, rfl⟩)
            | (go_at_call 43; (with_reducible refine (HPnx.out _).mono ?_); rintro e wq ⟨rfl, rfl⟩))
          go_ret
          exact ⟨by rw [HE.out]; rfl, HB1.out.trans (HS.out.mono HB1.out.size)⟩
        · cases Bnx
          · go_enter Try.func60, Try.ntmps60
            go_wp2_with (first
              | (go_at_call 58; rw [HW.out]; (with_reducible refine (HOW.out _ (Below.refl _ _)).mono ?_); rintro e y1 ⟨rfl, hbx⟩; have HS := Lib.hid hbx; obtain ⟨cm, c0, c1, c2, c3, c4, c5, c6, c7, c8, c9⟩ := HMC.out y1 hbx; clear hbx)
              | (go_at_call 43; (with_reducible refine (HPak.out _).mono ?_); rintro e wq ⟨rfl, rfl⟩)
              | (go_at_call 43; (with_reducible refine (HPwt.out _).mono ?_); rintro e wq ⟨rfl, rfl⟩)
              | (go_at_call 43; (with_reducible refine (HPst.out _).mono ?_); rintro e wq ⟨rfl, rfl⟩)
              | (go_at_call 43; (with_reducible refine (HPnx.out _).mono ?_); rintro e wq ⟨rfl, rfl⟩))
            go_ret
            exact ⟨by rw [HE.out]; rfl, HB1.out.trans (HS.out.mono HB1.out.size)⟩
          · go_enter Try.func60, Try.ntmps60
            go_wp2_with (first
              | (go_at_call 58; rw [HW.out]; (with_reducible refine (HOW.out _ (Below.refl _ _)).mono ?_); rintro e y1 ⟨rfl, hbx⟩; have HS := Lib.hid hbx; obtain ⟨cm, c0, c1, c2, c3, c4, c5, c6, c7, c8, c9⟩ := HMC.out y1 hbx; clear hbx)
              | (go_at_call 43; (with_reducible refine (HPak.out _).mono ?_); rintro e wq ⟨rfl, rfl⟩)
              | (go_at_call 43; (with_reducible refine (HPwt.out _).mono ?_); rintro e wq ⟨rfl, rfl⟩)
              | (go_at_call 43; (with_reducible refine (HPst.out _).mono ?_); rintro e wq ⟨rfl, rfl⟩)
              | (go_at_call 43; (with_reducible refine (HPnx.out _).mono ?_); rintro e wq ⟨rfl, rfl⟩))
            go_ret
            exact ⟨by rw [HE.out]; rfl, HB1.out.trans (HS.out.mono HB1.out.size)⟩
  · cases Ew
    · cases Bwt
      · cases Bst
        · go_enter Try.func60, Try.ntmps60
          go_wp2_with (first
            | (go_at_call 58; rw [HW.out]; (with_reducible refine (HOW.out _ (Below.refl _ _)).mono ?_); rintro e y1 ⟨rfl, hbx⟩; have HS := Lib.hid hbx; obtain ⟨cm, c0, c1, c2, c3, c4, c5, c6, c7, c8, c9⟩ := HMC.out y1 hbx; clear hbx)
            | (go_at_call 43; (with_reducible refine (HPak.out _).mono ?_); rintro e wq ⟨rfl, rfl⟩)
            | (go_at_call 43; (with_reducible refine (HPwt.out _).mono ?_); rintro e wq ⟨rfl, rfl⟩)
            | (go_at_call 43; (with_reducible refine (HPst.out _).mono ?_); rintro e wq ⟨rfl, rfl⟩)
            | (go_at_call 43; (with_reducible refine (HPnx.out _).mono ?_); rintro e wq ⟨rfl, rfl⟩))
          go_ret
          exact ⟨by rw [HE.out]; rfl, HB1.out.trans (HS.out.mono HB1.out.size)⟩
        · cases Bnx
          · go_enter Try.func60, Try.ntmps60
            go_wp2_with (first
              | (go_at_call 58; rw [HW.out]; (with_reducible refine (HOW.out _ (Below.refl _ _)).mono ?_); rintro e y1 ⟨rfl, hbx⟩; have HS := Lib.hid hbx; obtain ⟨cm, c0, c1, c2, c3, c4, c5, c6, c7, c8, c9⟩ := HMC.out y1 hbx; clear hbx)
              | (go_at_call 43; (with_reducible refine (HPak.out _).mono ?_); rintro e wq ⟨rfl, rfl⟩)
              | (go_at_call 43; (with_reducible refine (HPwt.out _).mono ?_); rintro e wq ⟨rfl, rfl⟩)
              | (go_at_call 43; (with_reducible refine (HPst.out _).mono ?_); rintro e wq ⟨rfl, rfl⟩)
              | (go_at_call 43; (with_reducible refine (HPnx.out _).mono ?_); rintro e wq ⟨rfl, rfl⟩))
            go_ret
            exact ⟨by rw [HE.out]; rfl, HB1.out.trans (HS.out.mono HB1.out.size)⟩
          · go_enter Try.func60, Try.ntmps60
            go_wp2_with (first
              | (go_at_call 58; rw [HW.out]; (with_reducible refine (HOW.out _ (Below.refl _ _)).mono ?_); rintro e y1 ⟨rfl, hbx⟩; have HS := Lib.hid hbx; obtain ⟨cm, c0, c1, c2, c3, c4, c5, c6, c7, c8, c9⟩ := HMC.out y1 hbx; clear hbx)
              | (go_at_call 43; (with_reducible refine (HPak.out _).mono ?_); rintro e wq ⟨rfl, rfl⟩)
              | (go_at_call 43; (with_reducible refine (HPwt.out _).mono ?_); rintro e wq ⟨rfl, rfl⟩)
              | (go_at_call 43; (with_reducible refine (HPst.out _).mono ?_); rintro e wq ⟨rfl, rfl⟩)
              | (go_at_call 43; (with_reducible refine (HPnx.out _).mono ?_); rintro e wq ⟨rfl, rfl⟩))
            go_ret
            exact ⟨by rw [HE.out]; rfl, HB1.out.trans (HS.out.mono HB1.out.size)⟩
      · cases Bst
        · go_enter Try.func60, Try.ntmps60
          go_wp2_with (first
            | (go_at_call 58; rw [HW.out]; (with_reducible refine (HOW.out _ (Below.refl _ _)).mono ?_); rintro e y1 ⟨rfl, hbx⟩; have HS := Lib.hid hbx; obtain ⟨cm, c0, c1, c2, c3, c4, c5, c6, c7, c8, c9⟩ := HMC.out y1 hbx; clear hbx)
            | (go_at_call 43; (with_reducible refine (HPak.out _).mono ?_); rintro e wq ⟨rfl, rfl⟩)
            | (go_at_call 43; (with_reducible refine (HPwt.out _).mono ?_); rintro e wq ⟨rfl, rfl⟩)
            | (go_at_call 43; (with_reducible refine (HPst.out _).mono ?_); rintro e wq ⟨rfl, rfl⟩)
            | (go_at_call 43; (with_reducible refine (HPnx.out _).mono ?_); rintro e wq ⟨rfl, rfl⟩))
          go_ret
          exact ⟨by rw [HE.out]; rfl, HB1.out.trans (HS.out.mono HB1.out.size)⟩
        · cases Bnx
          · go_enter Try.func60, Try.ntmps60
            go_wp2_with (first
              | (go_at_call 58; rw [HW.out]; (with_reducible refine (HOW.out _ (Below.refl _ _)).mono ?_); rintro e y1 ⟨rfl, hbx⟩; have HS := Lib.hid hbx; obtain ⟨cm, c0, c1, c2, c3, c4, c5, c6, c7, c8, c9⟩ := HMC.out y1 hbx; clear hbx)
              | (go_at_call 43; (with_reducible refine (HPak.out _).mono ?_); rintro e wq ⟨rfl, rfl⟩)
              | (go_at_call 43; (with_reducible refine (HPwt.out _).mono ?_); rintro e wq ⟨rfl, rfl⟩)
              | (go_at_call 43; (with_reducible refine (HPst.out _).mono ?_); rintro e wq ⟨rfl, rfl⟩)
              | (go_at_call 43; (with_reducible refine (HPnx.out _).mono ?_); rintro e wq ⟨rfl, rfl⟩))
            go_ret
            exact ⟨by rw [HE.out]; rfl, HB1.out.trans (HS.out.mono HB1.out.size)⟩
          · go_enter Try.func60, Try.ntmps60
            go_wp2_with (first
              | (go_at_call 58; rw [HW.out]; (with_reducible refine (HOW.out _ (Below.refl _ _)).mono ?_); rintro e y1 ⟨rfl, hbx⟩; have HS := Lib.hid hbx; obtain ⟨cm, c0, c1, c2, c3, c4, c5, c6, c7, c8, c9⟩ := HMC.out y1 hbx; clear hbx)
              | (go_at_call 43; (with_reducible refine (HPak.out _).mono ?_); rintro e wq ⟨rfl, rfl⟩)
              | (go_at_call 43; (with_reducible refine (HPwt.out _).mono ?_); rintro e wq ⟨rfl, rfl⟩)
              | (go_at_call 43; (with_reducible refine (HPst.out _).mono ?_); rintro e wq ⟨rfl, rfl⟩)
              | (go_at_call 43; (with_reducible refine (HPnx.out _).mono ?_); rintro e wq ⟨rfl, rfl⟩))
            go_ret
            exact ⟨by rw [HE.out]; rfl, HB1.out.trans (HS.out.mono HB1.out.size)⟩
    · cases Bst
      · go_enter Try.func60, Try.ntmps60
        go_wp2_with (first
          | (go_at_call 58; rw [HW.out]; (with_reducible refine (HOW.out _ (Below.refl _ _)).mono ?_); rintro e y1 ⟨rfl, hbx⟩; have HS := Lib.hid hbx; obtain ⟨cm, c0, c1, c2, c3, c4, c5, c6, c7, c8, c9⟩ := HMC.out y1 hbx; clear hbx)
          | (go_at_call 43; (with_reducible refine (HPak.out _).mono ?_); rintro e wq ⟨rfl, rfl⟩)
          | (go_at_call 43; (with_reducible refine (HPwt.out _).mono ?_); rintro e wq ⟨rfl, rfl⟩)
          | (go_at_call 43; (with_reducible refine (HPst.out _).mono ?_); rintro e wq ⟨rfl, rfl⟩)
          | (go_at_call 43; (with_reducible refine (HPnx.out _).mono ?_); rintro e wq ⟨rfl, rfl⟩))
        go_ret
        exact ⟨by rw [HE.out]; rfl, HB1.out.trans (HS.out.mono HB1.out.size)⟩
      · cases Bnx
        · go_enter Try.func60, Try.ntmps60
          go_wp2_with (first
            | (go_at_call 58; rw [HW.out]; (with_reducible refine (HOW.out _ (Below.refl _ _)).mono ?_); rintro e y1 ⟨rfl, hbx⟩; have HS := Lib.hid hbx; obtain ⟨cm, c0, c1, c2, c3, c4, c5, c6, c7, c8, c9⟩ := HMC.out y1 hbx; clear hbx)
            | (go_at_call 43; (with_reducible refine (HPak.out _).mono ?_); rintro e wq ⟨rfl, rfl⟩)
            | (go_at_call 43; (with_reducible refine (HPwt.out _).mono ?_); rintro e wq ⟨rfl, rfl⟩)
            | (go_at_call 43; (with_reducible refine (HPst.out _).mono ?_); rintro e wq ⟨rfl, rfl⟩)
            | (go_at_call 43; (with_reducible refine (HPnx.out _).mono ?_); rintro e wq ⟨rfl, rfl⟩))
          go_ret
          exact ⟨by rw [HE.out]; rfl, HB1.out.trans (HS.out.mono HB1.out.size)⟩
        · go_enter Try.func60, Try.ntmps60
          go_wp2_with (first
            | (go_at_call 58; rw [HW.out]; (with_reducible refine (HOW.out _ (Below.refl _ _)).mono ?_); rintro e y1 ⟨rfl, hbx⟩; have HS := Lib.hid hbx; obtain ⟨cm, c0, c1, c2, c3, c4, c5, c6, c7, c8, c9⟩ := HMC.out y1 hbx; clear hbx)
            | (go_at_call 43; (with_reducible refine (HPak.out _).mono ?_); rintro e wq ⟨rfl, rfl⟩)
            | (go_at_call 43; (with_reducible refine (HPwt.out _).mono ?_); rintro e wq ⟨rfl, rfl⟩)
            | (go_at_call 43; (with_reducible refine (HPst.out _).mono ?_); rintro e wq ⟨rfl, rfl⟩)
            | (go_at_call 43; (with_reducible refine (HPnx.out _).mono ?_); rintro e wq ⟨rfl, rfl⟩))
          go_ret
          exact ⟨by rw [HE.out]; rfl, HB1.out.trans (HS.out.mono HB1.out.size)⟩
end Go.Proofs.Ytgnhmdfajnnkhaa

