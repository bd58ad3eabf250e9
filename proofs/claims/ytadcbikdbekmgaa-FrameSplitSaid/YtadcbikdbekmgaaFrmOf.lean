/- The walk over package frame's frameOf: the frame of numbers, and a tag. -/
import Derived.Test.YtadcbikdbekmgaaFrmNums
import Derived.Test.YtadcbikdbekmgaaBasGuard
namespace Go.Proofs.Ytadcbikdbekmgaa
set_option linter.unusedVariables false
set_option linter.unusedSimpArgs false
open Go.RowKit

/-- a frame of numbers, and a tag -/
def frOf (n : List Nat) (T : List Int) : Fr := ⟨n.getD 0 0, n.getD 1 0, n.getD 2 0, n.getD 3 0, n.getD 4 0, n.getD 5 0, n.getD 6 0, n.getD 7 0, T⟩
theorem list32 {α : Type} (S : List α) (h : S.length = 32) : ∃ a0 a1 a2 a3 a4 a5 a6 a7 a8 a9 b0 b1 b2 b3 b4 b5 b6 b7 b8 b9 c0 c1 c2 c3 c4 c5 c6 c7 c8 c9 d0 d1, S = [a0, a1, a2, a3, a4, a5, a6, a7, a8, a9, b0, b1, b2, b3, b4, b5, b6, b7, b8, b9, c0, c1, c2, c3, c4, c5, c6, c7, c8, c9, d0, d1] := by
  match S, h with
  | [a0, a1, a2, a3, a4, a5, a6, a7, a8, a9, b0, b1, b2, b3, b4, b5, b6, b7, b8, b9, c0, c1, c2, c3, c4, c5, c6, c7, c8, c9, d0, d1], _ => exact ⟨_, _, _, _, _, _, _, _, _, _, _, _, _, _, _, _, _, _, _, _, _, _, _, _, _, _, _, _, _, _, _, _, rfl⟩
theorem fill_frame (f : Fr) (hT : f.tag.length = 32) : Instr.fill (([(0, 1), (1, 1), (2, 1), (3, 1), (4, 1), (5, 1), (6, 1), (7, 1), (8, 32)] : List (Nat × Nat)).toArray[·]?) (frA Fr.zero)
    [(0, .int .i64 f.kind), (1, .int .i64 f.user), (2, .int .u64 f.sess), (3, .int .u64 f.cn), (4, .int .i64 f.epoch), (5, .int .u64 f.count), (6, .int .i64 f.cmd), (7, .int .i64 f.arg), (8, .agg (idv f.tag))] = some (frA f) := by
  rcases f with ⟨kind, user, sess, cn, epoch, count, cmd, arg, tag⟩
  obtain ⟨a0, a1, a2, a3, a4, a5, a6, a7, a8, a9, b0, b1, b2, b3, b4, b5, b6, b7, b8, b9, c0, c1, c2, c3, c4, c5, c6, c7, c8, c9, d0, d1, rfl⟩ := list32 tag hT
  kernel_rfl
theorem built_frame (f : Fr) (hT : f.tag.length = 32) : Try.prog.built 26 [(0, .int .i64 f.kind), (1, .int .i64 f.user), (2, .int .u64 f.sess), (3, .int .u64 f.cn), (4, .int .i64 f.epoch), (5, .int .u64 f.count), (6, .int .i64 f.cmd), (7, .int .i64 f.arg), (8, .agg (idv f.tag))] = some (frA f) :=
  built_of (z := .agg (frA Fr.zero)) (places := [(0, 1), (1, 1), (2, 1), (3, 1), (4, 1), (5, 1), (6, 1), (7, 1), (8, 32)]) Try.underlying26 (by kernel_rfl) (by kernel_rfl) (fill_frame f hT)
theorem build_frame (f : Fr) (hT : f.tag.length = 32) (w : World) :
    (Instr.build 26 #[(0, .int .i64 f.kind), (1, .int .i64 f.user), (2, .int .u64 f.sess), (3, .int .u64 f.cn), (4, .int .i64 f.epoch), (5, .int .u64 f.count), (6, .int .i64 f.cmd), (7, .int .i64 f.arg), (8, .agg (idv f.tag))]).run Try.prog w = .ok (.agg (frA f)) w :=
  run_build w _ _ _ (built_of (z := .agg (frA Fr.zero)) (places := [(0, 1), (1, 1), (2, 1), (3, 1), (4, 1), (5, 1), (6, 1), (7, 1), (8, 32)]) Try.underlying26 (by kernel_rfl) (by kernel_rfl) (fill_frame f hT))
theorem build_zero (w : World) : (Instr.build 26 #[]).run Try.prog w = .ok (.agg (frA Fr.zero)) w :=
  run_build w _ _ _ (built_of (z := .agg (frA Fr.zero)) (places := [(0, 1), (1, 1), (2, 1), (3, 1), (4, 1), (5, 1), (6, 1), (7, 1), (8, 32)]) Try.underlying26 (by kernel_rfl) (by kernel_rfl) rfl)
theorem of_three (w : World) (o1 o2 o3 : Obj) : (((w.alloc o1).alloc o2).alloc o3).heap[w.heap.size + 1]? = some o2 ∧ (((w.alloc o1).alloc o2).alloc o3).heap[w.heap.size + 2]? = some o3 := by
  have e : (w.alloc o1).heap.size = w.heap.size + 1 := by simp
  have h1 := heap_alloc2_old (w.alloc o1) o2 o3
  have h2 := heap_alloc2_new (w.alloc o1) o2 o3
  rw [e] at h1 h2
  exact ⟨h1, h2⟩
theorem info_frame {C : Array Value} (h : C.size = 40) : (Try.prog.info? 26).map (·.size) = some C.size := by rw [h]; kernel_rfl
theorem info_id {C : Array Value} (h : C.size = 32) : (Try.prog.info? 24).map (·.size) = some C.size := by rw [h]; kernel_rfl
theorem frA_size {f : Fr} (h : f.tag.length = 32) : (frA f).size = 40 := by rw [frA, List.size_toArray, frC_length h]
theorem frA_one (f : Fr) : (frA f).all (·.oneCell') = true := by
  refine all_oneCell_toArray fun v hv => ?_
  rcases List.mem_append.1 hv with h | h
  · simp only [List.mem_cons, List.not_mem_nil, or_false] at h
    rcases h with rfl | rfl | rfl | rfl | rfl | rfl | rfl | rfl <;> rfl
  · exact byv_one _ v h
set_option maxHeartbeats 1000000 in
theorem frame_of (n0 n1 n2 n3 n4 n5 n6 n7 : Nat) (T : List Int) (w : World) (hT : T.length = 32) (h0 : n0 < 9223372036854775808) (h1 : n1 < 9223372036854775808) (h4 : n4 < 9223372036854775808) (h6 : n6 < 9223372036854775808) (h7 : n7 < 9223372036854775808)
    (h2 : n2 < 18446744073709551616) (h3 : n3 < 18446744073709551616) (h5 : n5 < 18446744073709551616) :
    Calls Try.prog 41 #[.agg #[.int .u64 n0, .int .u64 n1, .int .u64 n2, .int .u64 n3, .int .u64 n4, .int .u64 n5, .int .u64 n6, .int .u64 n7], .agg (idv T)] w fun e w' => e = .returned (frV (frOf [n0, n1, n2, n3, n4, n5, n6, n7] T)) ∧ Below w.heap.size w w' := by
  have hl : (idv T).size = 32 := by rw [idv_size, hT]
  have hb := built_frame (frOf [n0, n1, n2, n3, n4, n5, n6, n7] T) hT
  obtain ⟨Y, hY⟩ : ∃ Y, Y = frA (frOf [n0, n1, n2, n3, n4, n5, n6, n7] T) := ⟨_, rfl⟩
  have hYs : Y.size = 40 := by rw [hY]; exact frA_size hT
  have hY1 : Y.all (·.oneCell') = true := by rw [hY]; exact frA_one _
  simp only [frOf, List.getD_cons_zero, List.getD_cons_succ] at hb
  rw [show (frA { kind := (n0 : Int), user := n1, sess := n2, cn := n3, epoch := n4, count := n5, cmd := n6, arg := n7, tag := T }) = Y from hY.symm] at hb
  unfold frV
  rw [← hY]
  obtain ⟨Z, hZ⟩ : ∃ Z, Z = idv T := ⟨_, rfl⟩
  rw [← hZ] at hl hb ⊢
  have g0 : (n0 : Int) ≤ 9223372036854775807 := by omega
  have g1 : (n1 : Int) ≤ 9223372036854775807 := by omega
  have g4 : (n4 : Int) ≤ 9223372036854775807 := by omega
  have g6 : (n6 : Int) ≤ 9223372036854775807 := by omega
  have g7 : (n7 : Int) ≤ 9223372036854775807 := by omega
  have HB := Lib.hid hb
  have HS := Lib.hid hYs
  have HL := Lib.hid hl
  have H1 := Lib.hid hY1
  clear hb hZ hY h0 h1 h2 h3 h4 h5 h6 h7 hYs hl hY1 hT
  go_enter Try.func41, Try.ntmps41
  go_wp2_with (first
    | ((with_reducible refine wpList_load_row rfl 24 _ rfl (w.heap.size + 1) ?hx1 24 Z (0, 0) _ (of_three _ _ _ _).1 Try.underlying24 ?hd1 (info_id HL.out) ?_); (case hx1 => rfl); (case hd1 => rfl))
    | ((with_reducible refine wpList_build_to rfl 26 _ rfl _ Y ?hb3 HB.out ?_); (case hb3 => rfl))
    | ((with_reducible refine wpList_store_blk rfl 26 _ _ rfl (w.heap.size + 2) Y ?hx2 ?hy2 26 _ (of_three _ _ _ _).2 (info_frame HS.out) ?hs2 H1.out ?_); (case hx2 => rfl); (case hy2 => rfl); (case hs2 => rw [HS.out]; rfl)
       intro w6 hg6 hX6 hs6))
  refine bodyPost_ret (v := .agg Y) ?_ ?_ ?_
  · exact results_cell_row Try.results41 _ _ (w.heap.size + 2) 26 _ (0, 0) _ rfl hX6 Try.underlying26 rfl (info_frame HS.out)
  · rfl
  · exact ⟨rfl, (three_below w _ _ _).grown hg6 (by simp; omega) (fun k e => by cases e; omega)⟩
end Go.Proofs.Ytadcbikdbekmgaa
