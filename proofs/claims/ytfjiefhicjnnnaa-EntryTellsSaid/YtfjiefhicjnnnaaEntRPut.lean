/- The walk over the document's Put of entries. -/
import Derived.Test.YtfjiefhicjnnnaaEntPut
import Derived.Test.YtfjiefhicjnnnaaEntRMay
namespace Go.Proofs.Ytfjiefhicjnnnaa
set_option linter.unusedVariables false
set_option linter.unusedSimpArgs false
open Go.RowKit

/-- a literal of rows -/
theorem lit_rws (k : Nat) (e : TypeId) (w : World) (cs : Array Value) (rows : List (List Value)) (n : Nat) (hcs : cs = rows.flatten.toArray) (hn : rows.length = n) (hw : ∀ r ∈ rows, r.length = k) (h1 : ∀ r ∈ rows, ∀ u ∈ r, u.oneCell' = true) (hm : n ≤ maxLen) :
    Rws k (w.alloc (.cells cs e)) (some ⟨w.heap.size, 0, none⟩) n n rows := by
  subst hcs
  refine ⟨hn, hw, h1, Nat.le_refl _, hm, (fun e => by cases e), fun _ => ⟨w.heap.size, 0, rfl, fun j hj i hi => ?_⟩⟩
  rw [Nat.zero_add, cell_of_row _ _ _ _ _ _ (heap_alloc_new w _), List.getElem?_toArray, flat_get hw j i (by omega) hi]
theorem nine_nums (w : World) (u : En) (hs : ∀ p ∈ rowE u, 0 ≤ p.1 ∧ p.1 < 18446744073709551616 ∧ -9223372036854775808 ≤ p.2 ∧ p.2 ≤ 9223372036854775807) :
    Nms (w.alloc (.cells #[.int .u64 u.kind, .int .i64 1, .int .u64 u.tick, .int .i64 4, .int .u64 u.epoch, .int .i64 4, .int .u64 u.user, .int .i64 1, .int .u64 u.sess, .int .i64 8, .int .u64 u.count, .int .i64 8, .int .u64 u.cmd, .int .i64 1, .int .u64 u.arg, .int .i64 2, .int .u64 u.code, .int .i64 1] 49)) (some ⟨w.heap.size, 0, none⟩) 9 9 (rowE u) :=
  ⟨lit_rws 2 _ w _ _ 9 rfl rfl (fun r hr => by obtain ⟨p, _, rfl⟩ := List.mem_map.1 hr; rfl) (fun r hr => by obtain ⟨p, _, rfl⟩ := List.mem_map.1 hr; exact numR_one p) (by unfold maxLen; omega), hs⟩
set_option maxHeartbeats 2000000 in
theorem rput_no' (u : En) (w : World) (hm : mayE u = false) :
    Calls Try.prog 11 #[enV u] w fun e w' => e = .returned (.tuple #[.slice none 0 0, .bool false]) ∧ Below w.heap.size w w' := by
  have hmc := fun w => rmay_any u w
  rw [hm] at hmc
  unfold enV at hmc ⊢
  obtain ⟨C, hC⟩ : ∃ C, C = enA u := ⟨_, rfl⟩
  rw [← hC] at hmc ⊢
  have hCs : C.size = 9 := by rw [hC]; rfl
  have HCS := Lib.hid hCs
  have HMC := Lib.hid hmc
  clear hmc hC hCs
  go_enter Try.func11, Try.ntmps11
  go_wp2_with (first
    | ((with_reducible refine wpList_load_blk 25 _ rfl w.heap.size ?hx2 25 C (0, 0) _ (heap_alloc_new w _) Try.underlying25 ?hd2 (info_en HCS.out) ?_ ?hw2); (case hx2 => rfl); (case hd2 => rfl); (case hw2 => rfl))
    | (go_at_call 14; (with_reducible refine (HMC.out _).mono ?_); rintro e w1 ⟨rfl, hb1⟩))
  go_ret2
  exact ⟨rfl, (after_one hb1).1⟩
set_option maxRecDepth 100000 in
set_option maxHeartbeats 4000000 in
theorem rput_yes' (u : En) (w : World) (hm : mayE u = true) (ho : u.ok) :
    Calls Try.prog 11 #[enV u] w (GivesB (putE u) true w) := by
  have hmc := fun w => rmay_any u w
  rw [hm] at hmc
  have hcat : ∀ W, Below w.heap.size w W → Calls Try.prog 25 #[.slice (some ⟨W.heap.size, 0, none⟩) 9 9] (W.alloc (.cells #[.int .u64 u.kind, .int .i64 1, .int .u64 u.tick, .int .i64 4, .int .u64 u.epoch, .int .i64 4, .int .u64 u.user, .int .i64 1, .int .u64 u.sess, .int .i64 8, .int .u64 u.count, .int .i64 8, .int .u64 u.cmd, .int .i64 1, .int .u64 u.arg, .int .i64 2, .int .u64 u.code, .int .i64 1] 49)) (GivesB (putE u) true w) := fun W hW =>
    (rcat_any _ 9 9 (rowE u) _ (nine_nums W u (row_small hm ho))).mono fun e w' h => by
      have h2 := catPost_gives h
      rw [put_fits hm ho] at h2
      obtain ⟨A, m, c, he, hb, hbel⟩ := h2
      exact ⟨A, m, c, he, hb, hW.trans ((after_one hbel).1.mono hW.size)⟩
  obtain ⟨⟨p0, a0⟩, ⟨p8, a8⟩, ⟨p1, a1⟩, ⟨p2, a2⟩, ⟨p3, a3⟩, ⟨p6, a6⟩, ⟨p7, a7⟩⟩ := may_iff.1 hm
  obtain ⟨⟨b4, a4⟩, ⟨b5, a5⟩⟩ := ho
  obtain ⟨L, hL⟩ : ∃ L, putE u = L := ⟨_, rfl⟩
  rw [hL] at hcat ⊢
  clear hL hm
  have hcells : ∀ (W : World) (g : Nat), W.heap[g]? = some (.cells (enA u) 25 (0, 0)) → BoxE W g u := fun W g h => ⟨h⟩
  unfold enV at hmc ⊢
  obtain ⟨C, hC⟩ : ∃ C, enA u = C := ⟨_, rfl⟩
  rw [hC] at hmc hcells ⊢
  have hCs : C.size = 9 := by rw [← hC]; rfl
  rcases u with ⟨kind, tick, epoch, user, sess, count, cmd, arg, code⟩
  simp only at *
  have HCELL := Lib.hid hcells
  have HCS := Lib.hid hCs
  have HMC := Lib.hid hmc
  have HCAT := Lib.hid hcat
  clear hmc hC hCs hcells hcat
  go_enter Try.func11, Try.ntmps11
  go_wp2_with (first
    | ((with_reducible refine wpList_load_blk 25 _ rfl w.heap.size ?hx2 25 C (0, 0) _ (heap_alloc_new w _) Try.underlying25 ?hd2 (info_en HCS.out) ?_ ?hw2); (case hx2 => rfl); (case hd2 => rfl); (case hw2 => rfl))
    | (go_at_call 14; (with_reducible refine (HMC.out _).mono ?_); rintro e w1 ⟨rfl, hb1⟩
       obtain ⟨z0, z1, z2, z3, z4, z5, z6, z7, z8⟩ := (HCELL.out _ _ (after_alloc hb1)).cells
       simp only at z0 z1 z2 z3 z4 z5 z6 z7 z8
       have HB1 := Lib.hid (after_one hb1).1
       clear hb1)
    | (go_at_call 25; (with_reducible refine (HCAT.out _ HB1.out).mono ?_); rintro e w2 ⟨A2, m2, c2, rfl, hbt2, hb2⟩; have HBT := Lib.hid hbt2; have HB2 := Lib.hid hb2; clear hbt2 hb2))
  go_ret2
  exact ⟨A2, m2, c2, rfl, HBT.out, HB2.out⟩
theorem erput_any (u : En) (w : World) (ho : u.ok) :
    Calls Try.prog 11 #[enV u] w (GivesB (if mayE u then putE u else []) (mayE u) w) := by
  cases hm : mayE u with
  | false => exact (rput_no' u w hm).mono fun e w' ⟨he, hb⟩ => ⟨none, 0, 0, he, Bts.nil w', hb⟩
  | true => exact rput_yes' u w hm ho
end Go.Proofs.Ytfjiefhicjnnnaa
