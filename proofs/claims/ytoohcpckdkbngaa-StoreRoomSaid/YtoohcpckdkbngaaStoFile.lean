/- The walks over package store's methods of a file. -/
import Derived.Test.YtoohcpckdkbngaaStoSame
import Derived.Test.YtoohcpckdkbngaaBasFull
import Derived.Test.YtoohcpckdkbngaaBasGuard
namespace Go.Proofs.Ytoohcpckdkbngaa
set_option linter.unusedVariables false
set_option linter.unusedSimpArgs false
open Go.RowKit

theorem size_store : (Try.prog.info? 24).map (·.size) = some 3 := by kernel_rfl
theorem size_file : (Try.prog.info? 43).map (·.size) = some 3 := by kernel_rfl
theorem ret_file {fn : Func} {p u : Tmp} (h : fn.results = #[.cell p 43, .tmp u]) (tmps : Array Value) (w : World) (g : Nat) (t : TypeId) (x y z v : Value)
    (hp : tmps.getD p undef = .pointer (some ⟨g, 0, none⟩)) (hg : w.heap[g]? = some (.cells #[x, y, z] t (0, 0))) (hv : tmps.getD u undef = v) :
    (results fn tmps).run Try.prog w = .ok (.tuple #[.agg #[x, y, z], v]) w :=
  results_blk_tmp h tmps Try.prog w g t _ (0, 0) _ hp hg Try.underlying43 rfl size_file v hv
theorem ret_store {fn : Func} {p u : Tmp} (h : fn.results = #[.cell p 24, .tmp u]) (tmps : Array Value) (w : World) (g : Nat) (t : TypeId) (x y z v : Value)
    (hp : tmps.getD p undef = .pointer (some ⟨g, 0, none⟩)) (hg : w.heap[g]? = some (.cells #[x, y, z] t (0, 0))) (hv : tmps.getD u undef = v) :
    (results fn tmps).run Try.prog w = .ok (.tuple #[.agg #[x, y, z], v]) w :=
  results_blk_tmp h tmps Try.prog w g t _ (0, 0) _ hp hg Try.underlying24 rfl size_store v hv
theorem ret_store1 {fn : Func} {p : Tmp} (h : fn.results = #[.cell p 24]) (tmps : Array Value) (w : World) (g : Nat) (t : TypeId) (x y z : Value)
    (hp : tmps.getD p undef = .pointer (some ⟨g, 0, none⟩)) (hg : w.heap[g]? = some (.cells #[x, y, z] t (0, 0))) :
    (results fn tmps).run Try.prog w = .ok (.agg #[x, y, z]) w :=
  results_cell_row (P := Try.prog) h tmps w g t _ (0, 0) _ hp hg Try.underlying24 rfl size_store

theorem loc_up {w W : World} {A A' : Option Addr} {n n' : Nat} (h : Loc A n A' n' W) (hW : w.heap.size ≤ W.heap.size) : Loc A n A' n' w := h.imp id fun h a ha => Nat.le_trans hW (h a ha)
theorem far_loc {w W : World} {A A' : Option Addr} {n n' c hi : Nat} {l : List Int} (hb : Bts w A n c l) (h : Loc A n A' n' W) (hW : hi ≤ W.heap.size) : Far A' n' w.heap.size hi := fun a ha hn => by
  rcases h with ⟨rfl, h⟩ | h
  · exact hb.far hi a ha (by omega)
  · exact .inr (Nat.le_trans hW (h a ha))
theorem below_at {B g : Nat} {w0 w : World} (h : Below B w0 w) (hg : B ≤ g) (i : Nat) (v : Value) : Below B w0 (w.setCell ⟨g, i, none⟩ v) := h.setCell hg v
set_option maxHeartbeats 1000000 in
theorem fcut_any (s : Sp) (A : Option Addr) (n c : Nat) (k : Int) (w : World) (hb : Bts w A n c s.data) :
    Calls Try.prog 30 #[s.val A n c, .int .i64 k] w (GSE (fcutP s k) A n w) := by
  obtain ⟨cap, data, sure⟩ := s
  simp only at hb
  unfold Sp.val
  simp only
  have hn := hb.small
  have HLL := Lib.hid hb.len
  by_cases h1 : k < 0
  · have HR := Lib.hid (show fcutP ⟨cap, data, sure⟩ k = (⟨cap, data, sure⟩, 1) from by rw [fcutP, if_pos (.inl h1)])
    have HB := Lib.hid hb
    clear hb
    go_enter Try.func30, Try.ntmps30
    go_wp2
    refine bodyPost_ret (v := .tuple #[.agg #[.int .i64 cap, .slice A n c, .int .i64 sure], .int .i64 1]) ?_ ?_ ?_
    · exact ret_file Try.results30 _ _ (w.heap.size + 1) 43 _ _ _ _ rfl (heap_alloc2_new w _ _) rfl
    · rfl
    · rw [HR.out]
      exact ⟨A, n, c, rfl, HB.out.below (two_below _ _ _), .inl ⟨rfl, Nat.le_refl _⟩, two_below _ _ _⟩
  · by_cases h2 : (n : Int) < k
    · have HR := Lib.hid (show fcutP ⟨cap, data, sure⟩ k = (⟨cap, data, sure⟩, 1) from by rw [fcutP, if_pos (.inr (by simp only; rw [HLL.out]; exact h2))])
      have HB := Lib.hid hb
      clear hb
      go_enter Try.func30, Try.ntmps30
      go_wp2
      refine bodyPost_ret (v := .tuple #[.agg #[.int .i64 cap, .slice A n c, .int .i64 sure], .int .i64 1]) ?_ ?_ ?_
      · exact ret_file Try.results30 _ _ (w.heap.size + 1) 43 _ _ _ _ rfl (heap_alloc2_new w _ _) rfl
      · rfl
      · rw [HR.out]
        exact ⟨A, n, c, rfl, HB.out.below (two_below _ _ _), .inl ⟨rfl, Nat.le_refl _⟩, two_below _ _ _⟩
    · obtain ⟨j, rfl⟩ := Int.eq_ofNat_of_zero_le (show 0 ≤ k by omega)
      have hj : j ≤ n := by omega
      obtain ⟨hto, hbt⟩ := run_to hb (j : Int) (hi := j) rfl hj
      have HR := Lib.hid (show fcutP ⟨cap, data, sure⟩ (j : Int) = (⟨cap, data.take j, (j : Int)⟩, 0) from by rw [fcutP, if_neg (by simp only; rw [HLL.out]; omega)]; rfl)
      have HB := Lib.hid hbt
      clear hb hbt
      go_enter Try.func30, Try.ntmps30
      go_wp2
      refine bodyPost_ret (v := .tuple #[.agg #[.int .i64 cap, .slice A j c, .int .i64 (j : Int)], .int .i64 0]) ?_ ?_ ?_
      · exact ret_file Try.results30 _ _ (w.heap.size + 1) 43 _ _ _ _ rfl (heap_alloc2_new w _ _) rfl
      · rfl
      · rw [HR.out]
        exact ⟨A, j, c, rfl, HB.out.below (two_below _ _ _), .inl ⟨rfl, hj⟩, two_below _ _ _⟩
set_option maxHeartbeats 1000000 in
theorem fwrite_any (s : Sp) (b : List Int) (A B : Option Addr) (n c m d : Nat) (w : World) (hb : Bts w A n c s.data) (h2 : Bts w B m d b) (hm : mayP s = true) :
    Calls Try.prog 28 #[s.val A n c, .slice B m d] w (GSE (fwriteP s b) A n w) := by
  obtain ⟨cap, data, sure⟩ := s
  simp only at hb
  unfold Sp.val
  simp only
  have hn := hb.small
  have hn2 := h2.small
  have HLL := Lib.hid hb.len
  have HLB := Lib.hid h2.len
  obtain ⟨q1, q2, q3, q4, q5⟩ := mayT_iff.1 hm
  simp only [hb.len] at q1 q2 q3 q4 q5
  clear hm
  by_cases h1 : cap - n < m
  · have HR := Lib.hid (show fwriteP ⟨cap, data, sure⟩ b = (⟨cap, data, sure⟩, 12) from by rw [fwriteP, if_pos (by simp only; rw [HLL.out, HLB.out]; exact h1)])
    have HB := Lib.hid hb
    clear hb h2
    go_enter Try.func28, Try.ntmps28
    go_wp2
    refine bodyPost_ret (v := .tuple #[.agg #[.int .i64 cap, .slice A n c, .int .i64 sure], .int .i64 12]) ?_ ?_ ?_
    · exact ret_file Try.results28 _ _ (w.heap.size + 1) 43 _ _ _ _ rfl (heap_alloc2_new w _ _) rfl
    · rfl
    · rw [HR.out]
      exact ⟨A, n, c, rfl, HB.out.below (two_below _ _ _), .inl ⟨rfl, Nat.le_refl _⟩, two_below _ _ _⟩
  · have HR := Lib.hid (show fwriteP ⟨cap, data, sure⟩ b = (⟨cap, data ++ b, sure⟩, 0) from by rw [fwriteP, if_neg (by simp only; rw [HLL.out, HLB.out]; exact h1)])
    obtain ⟨hfull, hbf⟩ := run_full hb
    have HB := Lib.hid hb
    have HBF := Lib.hid hbf
    have HB2 := Lib.hid h2
    clear hb h2 hbf
    go_enter Try.func28, Try.ntmps28
    go_wp2_with (at_builtin
                 (with_reducible refine wpList_append_full rfl _ _ rfl A n data rfl (HBF.out.below (two_below _ _ _)) B m d b rfl (HB2.out.below (two_below _ _ _)) (by omega) ?_)
                 intro A' k c' w5 hk hb5 hat5 hbel5
                 have hbx5 : BoxT w5 w.heap.size 43 cap A n c sure := (after_two hbel5).2.2.1
                 have hbz5 : BoxT w5 (w.heap.size + 1) 43 0 none 0 0 0 := (after_two hbel5).2.2.2
                 obtain ⟨x0, x1, x2⟩ := hbx5.cells
                 obtain ⟨z0, z1, z2⟩ := hbz5.cells
                 have f0 := hbx5.free 0
                 have f1 := hbx5.free 1
                 have f2 := hbx5.free 2
                 have g0 := hbz5.free 0
                 have g1 := hbz5.free 1
                 have g2 := hbz5.free 2
                 have HB5 := Lib.hid hb5
                 have HF := Lib.hid (far_full HBF.out hat5).two
                 have HBZ := Lib.hid hbz5
                 have HLO := Lib.hid (loc_up (w := w) (hat5.imp (fun h => ⟨h.1, Nat.le_of_eq h.2⟩) id) (two_below _ _ _).size)
                 have HBE := Lib.hid (after_two hbel5).1
                 clear hb5 hat5 hbel5 hbx5 hbz5)
    have hlt1 := Nat.lt_succ_self (w.heap.size + 1)
    subst hk
    refine bodyPost_ret (v := .tuple #[.agg #[.int .i64 cap, .slice A' (n + m) c', .int .i64 sure], .int .i64 0]) ?_ ?_ ?_
    · exact ret_file Try.results28 _ _ (w.heap.size + 1) 43 _ _ _ _ rfl (set3_heap _ _ _ ((heap_setCell_other _ _ _ _ (by simp)).trans HBZ.out)) rfl
    · rfl
    · rw [HR.out]
      exact ⟨A', n + m, c', rfl, (HB5.out.set HF.out (Nat.le_refl _) (by omega) _).set3 HF.out (Nat.le_succ _) hlt1 _ _ _, HLO.out, set3_below (below_at HBE.out (Nat.le_refl _) _ _) (Nat.le_succ _) _ _ _⟩
set_option maxHeartbeats 1000000 in
theorem fcrash_any (s : Sp) (A : Option Addr) (n c : Nat) (keep : Int) (w : World) (hb : Bts w A n c s.data) (hm : mayP s = true) :
    Calls Try.prog 31 #[s.val A n c, .int .i64 keep] w (GSE (s.upto (keptP s keep).toNat, 0) A n w) := by
  obtain ⟨cap, data, sure⟩ := s
  simp only at hb
  unfold Sp.val
  simp only
  have hn := hb.small
  have HLL := Lib.hid hb.len
  obtain ⟨q1, q2, q3, q4, q5⟩ := mayT_iff.1 hm
  simp only [hb.len] at q1 q2 q3 q4 q5
  clear hm
  obtain ⟨j, hj⟩ := Int.eq_ofNat_of_zero_le (show 0 ≤ keptP ⟨cap, data, sure⟩ keep by simp only [keptP, hb.len]; omega)
  have hjn : j ≤ n := by simp only [keptP, hb.len] at hj; omega
  have hj2 : (j : Int) = sure + min (max keep 0) (n - sure) := by simp only [keptP, hb.len] at hj; omega
  have HR := Lib.hid (show (Sp.upto ⟨cap, data, sure⟩ (keptP ⟨cap, data, sure⟩ keep).toNat, (0 : Int)) = fcutP ⟨cap, data, sure⟩ (j : Int) from by rw [hj, fcutP, if_neg (by simp only [hb.len]; omega)])
  have HR2 := Lib.hid (show fcutP ⟨cap, data, sure⟩ (j : Int) = (⟨cap, data.take j, (j : Int)⟩, 0) from by rw [fcutP, if_neg (by simp only [hb.len]; omega)]; rfl)
  have HB := Lib.hid hb
  have HJ := Lib.hid hj2
  rw [HR.out]
  clear hb hj hj2
  have key : ∀ (W : World) (k : Int), k = j → Below w.heap.size w W → w.heap.size + 2 ≤ W.heap.size → Calls Try.prog 30 #[.agg #[.int .i64 cap, .slice A n c, .int .i64 sure], .int .i64 k] W fun e w' => ∃ A' n' c', e = .returned (.tuple #[.agg #[.int .i64 cap, .slice A' n' c', .int .i64 j], .int .i64 0]) ∧ Bts w' A' n' c' (data.take j) ∧ Far A' n' w.heap.size (w.heap.size + 2) ∧ Loc A n A' n' w ∧ Below W.heap.size W w' := fun W k hk hW h2 => by
    subst hk
    refine (fcut_any ⟨cap, data, sure⟩ A n c j W (HB.out.below hW)).mono ?_
    rintro e w' ⟨A', n', c', rfl, hb', hloc, hbel⟩
    rw [HR2.out] at hb' ⊢
    exact ⟨A', n', c', rfl, hb', far_loc HB.out hloc h2, loc_up hloc hW.size, hbel⟩
  have HK := Lib.hid key
  clear key
  go_enter Try.func31, Try.ntmps31
  go_wp2_with (go_at_call 30
               refine (HK.out _ _ ?hk (two_below _ _ _) (by simp)).mono ?_
               (case hk => have := HJ.out; omega)
               rintro e w5 ⟨A', n', c', rfl, hb5, hf5, hlo5, hbel5⟩
               have hbz5 : BoxT w5 (w.heap.size + 1) 43 0 none 0 0 0 := (after_two hbel5).2.2.2
               obtain ⟨z0, z1, z2⟩ := hbz5.cells
               have g0 := hbz5.free 0
               have g1 := hbz5.free 1
               have g2 := hbz5.free 2
               have HB5 := Lib.hid hb5
               have HF := Lib.hid hf5
               have HBZ := Lib.hid hbz5
               have HLO := Lib.hid hlo5
               have HBE := Lib.hid (after_two hbel5).1
               clear hb5 hf5 hlo5 hbel5 hbz5)
  all_goals
    refine bodyPost_ret (v := .tuple #[.agg #[.int .i64 cap, .slice A' n' c', .int .i64 (j : Int)], .int .i64 0]) ?_ ?_ ?_
    · exact ret_file Try.results31 _ _ (w.heap.size + 1) 43 _ _ _ _ rfl (set3_heap _ _ _ HBZ.out) rfl
    · rfl
    · rw [HR2.out]
      exact ⟨A', n', c', rfl, HB5.out.set3 HF.out (Nat.le_succ _) (Nat.lt_succ_self _) _ _ _, HLO.out, set3_below HBE.out (Nat.le_succ _) _ _ _⟩
end Go.Proofs.Ytoohcpckdkbngaa
