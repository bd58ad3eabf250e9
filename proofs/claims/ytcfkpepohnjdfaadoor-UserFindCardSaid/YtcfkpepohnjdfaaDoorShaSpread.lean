/- The walk over package sha's spread: the 64 numbers of a block. -/
import Derived.Test.YtcfkpepohnjdfaaDoorShaRound
import Derived.Lib.Hide
import Derived.Laws.CopyOwn
namespace Go.Proofs.YtcfkpepohnjdfaaDoor
open Go.RowKit

theorem spreadA_length (l : List Int) (k : Nat) : (spreadA l k).length = 64 := by
  induction k with
  | zero => rfl
  | succ k ih => simp [spreadA, ih]
theorem spreadB_length (l : List Int) (k : Nat) : (spreadB l k).length = 64 := by
  induction k with
  | zero => exact spreadA_length l 16
  | succ k ih => simp [spreadB, ih]

set_option maxRecDepth 100000 in
set_option maxHeartbeats 1000000 in
theorem spread_any (l : List Int) (b off cap : Nat) (w : World) (hr : ∀ j, 0 ≤ l.getD j 0 ∧ l.getD j 0 < 256)
    (hc : ∀ j, j < 64 → w.cell? ⟨b, off + j, none⟩ = some (.int .u8 (l.getD j 0))) :
    Calls Tryd.prog 62 #[.slice (some ⟨b, off, none⟩) 64 cap] w fun e w' => e = .returned (.agg (regv (spreadAll l))) ∧ Below w.heap.size w w' := by
  have hbw : b < w.heap.size := block_lt_of_cell (hc 0 (by omega))
  go_enter Tryd.func62, Tryd.ntmps62
  go_wp2

  go_loopw [10] (fun i wr => ∃ k : Nat, k ≤ 16 ∧ i = .int .i64 k ∧ wr.heap[w.heap.size]? = some (.cells (regv (List.replicate 64 0)) 75 (0, 0)) ∧ wr.heap[w.heap.size + 1]? = some (.cells (regv (spreadA l k)) 75 (0, 0)) ∧ Below w.heap.size w wr)
    (fun i _ => 16 - (intOf i).toNat)
  case atStart => exact ⟨0, by omega, rfl, heap_alloc2_old w _ _, heap_alloc2_new w _ _, ((Below.refl _ _).alloc (Nat.le_refl _) _).alloc (by simp) _⟩
  case round =>
    obtain ⟨k, hk, rfl, hZ, hW, hb⟩ := hrel
    by_cases hlt : k < 16
    · have c0 := (hb.cell (p := ⟨b, off + 4 * k, none⟩) hbw).trans (hc (4 * k) (by omega))
      have c1 := (hb.cell (p := ⟨b, off + (4 * k + 1), none⟩) hbw).trans (hc (4 * k + 1) (by omega))
      have c2 := (hb.cell (p := ⟨b, off + (4 * k + 2), none⟩) hbw).trans (hc (4 * k + 2) (by omega))
      have c3 := (hb.cell (p := ⟨b, off + (4 * k + 3), none⟩) hbw).trans (hc (4 * k + 3) (by omega))
      obtain ⟨x0, hx0⟩ : ∃ x, x = l.getD (4 * k) 0 := ⟨_, rfl⟩
      obtain ⟨x1, hx1⟩ : ∃ x, x = l.getD (4 * k + 1) 0 := ⟨_, rfl⟩
      obtain ⟨x2, hx2⟩ : ∃ x, x = l.getD (4 * k + 2) 0 := ⟨_, rfl⟩
      obtain ⟨x3, hx3⟩ : ∃ x, x = l.getD (4 * k + 3) 0 := ⟨_, rfl⟩
      have e0 := hr (4 * k)
      have e1 := hr (4 * k + 1)
      have e2 := hr (4 * k + 2)
      have e3 := hr (4 * k + 3)
      rw [← hx0] at c0 e0
      rw [← hx1] at c1 e1
      rw [← hx2] at c2 e2
      rw [← hx3] at c3 e3
      have v0 : IntKind.u32.wrap x0 = x0 := by rw [IntKind.wrap_u32']; omega
      have v1 : IntKind.u32.wrap x1 = x1 := by rw [IntKind.wrap_u32']; omega
      have v2 : IntKind.u32.wrap x2 = x2 := by rw [IntKind.wrap_u32']; omega
      have v3 : IntKind.u32.wrap x3 = x3 := by rw [IntKind.wrap_u32']; omega
      have hword : word l k = bits .or .u32 (bits .or .u32 (bits .or .u32 (IntKind.u32.wrap (x0 * 16777216)) (IntKind.u32.wrap (x1 * 65536))) (IntKind.u32.wrap (x2 * 256))) x3 := by
        simp only [word, hx0, hx1, hx2, hx3, IntKind.wrap_u32']
      have HW := Lib.hid hword
      have H0 := Lib.hid hx0
      clear hx0 hx1 hx2 hx3 hword e0 e1 e2 e3 H0
      have hwc : wr.cell? ⟨w.heap.size + 1, k, none⟩ = some (.int .u32 ((spreadA l k).getD k 0)) := by
        rw [cell_of_row _ _ _ _ _ _ hW, regv_get _ _ (by rw [spreadA_length]; omega)]
      have hwf := frozen_of_row _ _ k _ _ hW
      have s0 : IntKind.i64.wrap (4 * (k : Int)) = 4 * (k : Int) := IntWalk.i64_in _ (by omega)
      have s1 : IntKind.i64.wrap (4 * (k : Int) + 1) = 4 * (k : Int) + 1 := IntWalk.i64_in _ (by omega)
      have s2 : IntKind.i64.wrap (4 * (k : Int) + 2) = 4 * (k : Int) + 2 := IntWalk.i64_in _ (by omega)
      have s3 : IntKind.i64.wrap (4 * (k : Int) + 3) = 4 * (k : Int) + 3 := IntWalk.i64_in _ (by omega)
      have p0 : 0 ≤ 4 * (k : Int) := by omega
      have p1 : 0 ≤ 4 * (k : Int) + 1 := by omega
      have p2 : 0 ≤ 4 * (k : Int) + 2 := by omega
      have p3 : 0 ≤ 4 * (k : Int) + 3 := by omega
      have q0 : 4 * (k : Int) < 64 := by omega
      have q1 : 4 * (k : Int) + 1 < 64 := by omega
      have q2 : 4 * (k : Int) + 2 < 64 := by omega
      have q3 : 4 * (k : Int) + 3 < 64 := by omega
      have q4 : (k : Int) < 64 := by omega
      have p4 : 0 ≤ (k : Int) := by omega
      have n0 : (4 * (k : Int)).toNat = 4 * k := by omega
      have n1 : (4 * (k : Int) + 1).toNat = 4 * k + 1 := by omega
      have n2 : (4 * (k : Int) + 2).toNat = 4 * k + 2 := by omega
      have n3 : (4 * (k : Int) + 3).toNat = 4 * k + 3 := by omega
      have HS := Lib.hid hW
      have HB := Lib.hid hb
      have HZ := Lib.hid hZ
      clear hZ hW hb hc hr
      go_wp2
      go_still_tail 35, (by kernel_rfl)
      clear s0 s1 s2 s3 n0 n1 n2 n3
      go_wp2
      have hb := HB.out
      go_roundw
      case rel =>
        refine ⟨k + 1, by omega, by go_num, (heap_setCell_other _ _ _ _ (by simp)).trans HZ.out, ?_, (hb.drew).setCell (Nat.le_succ _) _⟩
        refine (heap_setCell_same _ _ _ _ _ _ HS.out).trans ?_
        rw [regv_set, spreadA, HW.out]; simp only [IntKind.wrap_u32']
      case measure => simp [intOf]; omega
    · have hge : 16 ≤ k := by omega
      rw [show k = 16 by omega] at hW
      have HW := Lib.hid hW
      have HZ := Lib.hid hZ
      have HB := Lib.hid hb
      clear hc hlt hW hZ hb
      go_wp2
      go_loopw [5] (fun i wr => ∃ k : Nat, 16 ≤ k ∧ k ≤ 64 ∧ i = .int .i64 k ∧ wr.heap[w.heap.size]? = some (.cells (regv (List.replicate 64 0)) 75 (0, 0)) ∧ wr.heap[w.heap.size + 1]? = some (.cells (regv (spreadB l (k - 16))) 75 (0, 0)) ∧ Below w.heap.size w wr)
        (fun i _ => 64 - (intOf i).toNat)
      case atStart => exact ⟨16, by omega, by omega, rfl, HZ.out, HW.out, HB.out⟩
      case round =>
        clear HZ HW HB hge hk
        obtain ⟨k, hk1, hk2, rfl, hZ, hW, hb⟩ := hrel
        by_cases hlt : k < 64
        · have hL := spreadB_length l (k - 16)
          have cel : ∀ j, j < 64 → wr.cell? ⟨w.heap.size + 1, j, none⟩ = some (.int .u32 ((spreadB l (k - 16)).getD j 0)) := fun j hj => by
            rw [cell_of_row _ _ _ _ _ _ hW, regv_get _ _ (by omega)]
          obtain ⟨x2, hx2⟩ : ∃ x, x = (spreadB l (k - 16)).getD (k - 2) 0 := ⟨_, rfl⟩
          obtain ⟨x7, hx7⟩ : ∃ x, x = (spreadB l (k - 16)).getD (k - 7) 0 := ⟨_, rfl⟩
          obtain ⟨x15, hx15⟩ : ∃ x, x = (spreadB l (k - 16)).getD (k - 15) 0 := ⟨_, rfl⟩
          obtain ⟨x16, hx16⟩ : ∃ x, x = (spreadB l (k - 16)).getD (k - 16) 0 := ⟨_, rfl⟩
          have c2 := cel (k - 2) (by omega)
          have c7 := cel (k - 7) (by omega)
          have c15 := cel (k - 15) (by omega)
          have c16 := cel (k - 16) (by omega)
          have ck := cel k (by omega)
          rw [← hx2] at c2
          rw [← hx7] at c7
          rw [← hx15] at c15
          rw [← hx16] at c16
          have hnext : nextW (spreadB l (k - 16)) k = (x16 + lowS x15 + x7 + highS x2) % 4294967296 := by
            simp only [nextW, hx2, hx7, hx15, hx16]
          have HN := Lib.hid hnext
          have hwf := frozen_of_row _ _ k _ _ hW
          have s2 : IntKind.i64.wrap ((k : Int) - 2) = (k : Int) - 2 := IntWalk.i64_in _ (by omega)
          have s7 : IntKind.i64.wrap ((k : Int) - 7) = (k : Int) - 7 := IntWalk.i64_in _ (by omega)
          have s15 : IntKind.i64.wrap ((k : Int) - 15) = (k : Int) - 15 := IntWalk.i64_in _ (by omega)
          have s16 : IntKind.i64.wrap ((k : Int) - 16) = (k : Int) - 16 := IntWalk.i64_in _ (by omega)
          have r7 : (7 : Int) ≤ k := by omega
          have r16 : (16 : Int) ≤ k := by omega
          have t7 : (k : Int) < 71 := by omega
          have t16 : (k : Int) < 80 := by omega
          have p2 : 0 ≤ (k : Int) - 2 := by omega
          have p7 : 0 ≤ (k : Int) - 7 := by omega
          have p15 : 0 ≤ (k : Int) - 15 := by omega
          have p16 : 0 ≤ (k : Int) - 16 := by omega
          have q2 : (k : Int) - 2 < 64 := by omega
          have q7 : (k : Int) - 7 < 64 := by omega
          have q15 : (k : Int) - 15 < 64 := by omega
          have q16 : (k : Int) - 16 < 64 := by omega
          have q4 : (k : Int) < 64 := by omega
          have p4 : 0 ≤ (k : Int) := by omega
          have n2 : ((k : Int) - 2).toNat = k - 2 := by omega
          have n7 : ((k : Int) - 7).toNat = k - 7 := by omega
          have n15 : ((k : Int) - 15).toNat = k - 15 := by omega
          have n16 : ((k : Int) - 16).toNat = k - 16 := by omega
          have HS := Lib.hid hW
          have HB := Lib.hid hb
          have HZ := Lib.hid hZ
          clear hZ hL hx2 hx7 hx15 hx16 hW hb hr cel hnext
          go_wp2
          go_quiet (fail)
          go_wp2_with (go_at_call 64; refine (turned_any _ _ _ (by omega) (by omega)).mono ?_; rintro e w' ⟨rfl, kt, rfl⟩)
          generalize hw2 : wr.drewN _ = w2
          have d7 : w2.cell? ⟨w.heap.size + 1, k - 7, none⟩ = some (.int .u32 x7) := by rw [← hw2]; exact c7
          have d16 : w2.cell? ⟨w.heap.size + 1, k - 16, none⟩ = some (.int .u32 x16) := by rw [← hw2]; exact c16
          have dk : w2.cell? ⟨w.heap.size + 1, k, none⟩ = some (.int .u32 ((spreadB l (k - 16)).getD k 0)) := by rw [← hw2]; exact ck
          have dwf : w2.frozen? ⟨w.heap.size + 1, k, none⟩ = false := by rw [← hw2]; exact hwf
          have HW2 := Lib.hid hw2
          clear hw2 c2 c7 c15 c16 ck hwf
          go_still_tail 15, (by kernel_rfl)
          clear s2 s7 s15 s16 n2 n7 n15 n16
          go_wp2
          have hb := HB.out
          go_roundw
          case rel =>
            have hw2 := HW2.out
            subst hw2
            refine ⟨k + 1, by omega, by omega, by go_num, (heap_setCell_other _ _ _ _ (by simp)).trans HZ.out, ?_, ((below_drewN hb _).drew).setCell (Nat.le_succ _) _⟩
            refine (heap_setCell_same _ _ _ _ _ _ HS.out).trans ?_
            have e1 : k + 1 - 16 = (k - 16) + 1 := by omega
            have e2 : k - 16 + 16 = k := by omega
            rw [regv_set, e1, spreadB, e2, HN.out]
            simp only [lowS, highS, x32]
          case measure => simp [intOf]; omega
        · have hge : 64 ≤ k := by omega
          rw [show k - 16 = 48 by omega] at hW
          obtain ⟨C, hC⟩ : ∃ C, C = regv (spreadAll l) := ⟨_, rfl⟩
          obtain ⟨Z, hZe⟩ : ∃ Z, Z = regv (List.replicate 64 0) := ⟨_, rfl⟩
          have hi : (Tryd.prog.info? 75).map (·.size) = some C.size := by
            rw [hC, regv_size, spreadAll, spreadB_length]; kernel_rfl
          have hzs : Z.size = C.size := by
            rw [hC, hZe, regv_size, regv_size, spreadAll, spreadB_length]; rfl
          have h1 : C.all (·.oneCell') = true := by rw [hC]; exact regv_one (spreadAll l)
          rw [← hZe] at hZ
          have hW' : wr.heap[w.heap.size + 1]? = some (.cells C 75 (0, 0)) := by rw [hC]; exact hW
          have HS := Lib.hid hW'
          have HZ := Lib.hid hZ
          have HB := Lib.hid hb
          have HI := Lib.hid hi
          have HT := Lib.hid hzs
          have H1 := Lib.hid h1
          have HC := Lib.hid hC
          clear hW hW' hZ hb hlt hi hzs h1 hC hZe
          go_wp2_with (first
            | ((with_reducible refine wpList_load_row rfl 75 _ rfl (w.heap.size + 1) ?_ 75 _ (0, 0) _ HS.out Tryd.underlying75 ?_ HI.out ?_); all_goals (first | ((with_reducible show _ = _); rfl) | skip))
            | ((with_reducible refine wpList_store_row rfl 75 _ _ rfl w.heap.size C ?_ ?_ 75 _ HZ.out HI.out HT.out H1.out ?_); all_goals (first | ((with_reducible show _ = _); rfl) | skip)))
          refine bodyPost_ret (v := .agg C) ?_ ?_ ?_
          · exact results_cell_row Tryd.results62 _ _ w.heap.size 75 _ (0, 0) _ rfl (setRow_heap _ _ _ _ _ _ HZ.out) Tryd.underlying75 rfl HI.out
          · rfl
          · exact ⟨by rw [HC.out], below_setRow HB.out (Nat.le_refl _) _⟩
end Go.Proofs.YtcfkpepohnjdfaaDoor
