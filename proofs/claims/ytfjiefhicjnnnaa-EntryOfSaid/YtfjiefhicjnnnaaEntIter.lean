/- The library's iterators over a slice of entries: forward, backward. -/
import Derived.Test.YtfjiefhicjnnnaaEntEq
import Derived.Test.YtfjiefhicjnnnaaBasRfn
import Derived.Laws.EntriesVeiled
namespace Go.Proofs.Ytfjiefhicjnnnaa
set_option linter.unusedVariables false
set_option linter.unusedSimpArgs false
open Go.RowKit Go.Shelf
attribute [local go_sem] Oper.semAt_some

/-- an entry, with a number ahead -/
def pairV (ix : Nat → Int) (l : List En) (k : Nat) : Array Value := #[.int .i64 (ix k), enV (l.getD k En.zero)]
set_option maxRecDepth 100000 in
set_option maxHeartbeats 2000000 in
theorem all_hands (A : Option Addr) (m c : Nat) (l : List En) (Bs : Nat) (wb w0 : World) (hl : Ens wb A m c l) (hb0 : Below wb.heap.size wb w0) (hbox : w0.cell? ⟨Bs, 0, none⟩ = some (.slice A m c)) :
    HandsC Try.prog 40 #[.pointer (some ⟨Bs, 0, none⟩)] (pairV (fun k => k) l) m (fun _ => KeepB wb.heap.size []) w0 := by
  intro n L J Jx W hW hJ hJx hY h0
  have hBs := block_lt_of_cell hbox
  have hboxW := (hW.cell (p := ⟨Bs, 0, none⟩) hBs).trans hbox
  have hn := hl.small
  have HL := Lib.hid hl
  have HY := Lib.hid hY
  have HW := Lib.hid (hb0.trans (hW.mono hb0.size))
  have HJ := Lib.hid hJ
  clear hY hW hbox hl hJ hJx hb0
  refine callsIn_of_wp Try.func40 rfl trivial ?_ rfl
  simp only [Try.ntmps40, List.size_toArray, List.length_cons, List.length_nil, Nat.reduceAdd, Nat.reduceSub, Array.replicate_succ, Array.replicate_zero, List.push_toArray, List.append_toArray, List.nil_append, List.cons_append]
  gi_wp2
  gi_loopw [3, 4, 7] (fun x p i wr => ∃ k : Nat, k ≤ m ∧ i = .int .i64 k ∧ J k wr ∧ Below wb.heap.size wb wr) (fun _ _ i _ => m - (intOf i).toNat)
  case atStart => exact ⟨0, Nat.zero_le _, rfl, h0, HW.out⟩
  case round =>
    obtain ⟨k, hk, rfl, hJk, hB⟩ := hrel
    by_cases hlt : k < m
    · obtain ⟨b, off, u, rfl, hu, -, z0, z1, z2, z3, z4, z5, z6, z7, z8⟩ := (HL.out.below hB).at_ k hlt
      have hy0 := yield_any (n - 1) (HY.out k (wr.alloc (.cells (enA u) 25)) hlt (HJ.out.alloc _ hJk))
      have hgu : l.getD k En.zero = u := by rw [List.getD_eq_getElem?_getD, hu]; rfl
      have q0 : 0 ≤ (k : Int) := by omega
      have q1 : (k : Int) < m := by omega
      have HB2 := Lib.hid (hB.alloc hB.size (.cells (enA u) 25))
      unfold pairV at hy0
      rw [hgu] at hy0
      clear hgu hB hu hJk
      rcases u with ⟨a0, a1, a2, a3, a4, a5, a6, a7, a8⟩
      simp only at z0 z1 z2 z3 z4 z5 z6 z7 z8
      simp only [enV, enA, En.row] at hy0 HB2
      obtain ⟨fn, tmps, assign, body, hy, hR⟩ := hy0
      have HR := Lib.hid hR
      clear hR
      gi_wp2
      refine ⟨(fun h => by simp [Fence.wide] at h), HR.out.mono ?_⟩
      rintro e W3 (⟨rfl, hJ3, hk3, -⟩ | ⟨rfl, hJx3, -⟩)
      · have HJ3 := Lib.hid hJ3
        have HK3 := Lib.hid hk3
        clear hJ3 hk3 hy HR
        gi_wp2
        go_roundw
        case rel => exact ⟨k + 1, by omega, by go_num, HJ3.out, HB2.out.trans HK3.out.1⟩
        case measure => simp [intOf]; omega
      · have HJX := Lib.hid hJx3
        clear hJx3 hy HR
        gi_wp2
        refine bodyPost_ret (results_none rfl _ _ _) rfl ?_
        exact ⟨⟨_, rfl⟩, .inr HJX.out⟩
    · obtain rfl : k = m := by omega
      gi_wp2
      go_end0
      exact ⟨⟨_, rfl⟩, .inl hJk⟩
set_option maxRecDepth 100000 in
set_option maxHeartbeats 2000000 in
theorem back_hands (A : Option Addr) (m c : Nat) (l : List En) (Bs : Nat) (wb w0 : World) (hl : Ens wb A m c l) (hb0 : Below wb.heap.size wb w0) (hbox : Boxed w0 Bs 27 (.slice A m c)) :
    HandsC Try.prog 41 #[.pointer (some ⟨Bs, 0, none⟩)] (pairV (fun k => (m : Int) - 1 - k) l.reverse) m (fun _ => KeepB wb.heap.size [Bs]) w0 := by
  intro n L J Jx W hW hJ hJx hY h0
  have hBs := hbox.lt
  have hbW : Boxed W Bs 27 (.slice A m c) := (hW.block Bs hBs).trans hbox
  have HBW := Lib.hid hbW
  have hboxW := hbW.cell
  have hn := hl.small
  have HL := Lib.hid hl
  have HLL := Lib.hid hl.len
  have HY := Lib.hid hY
  have HW := Lib.hid (hb0.trans (hW.mono hb0.size))
  clear hY hW hbox hl hJ hJx hb0 hbW
  refine callsIn_of_wp Try.func41 rfl trivial ?_ rfl
  simp only [Try.ntmps41, List.size_toArray, List.length_cons, List.length_nil, Nat.reduceAdd, Nat.reduceSub, Array.replicate_succ, Array.replicate_zero, List.push_toArray, List.append_toArray, List.nil_append, List.cons_append]
  gi_wp2
  gi_loopw [3] (fun i wr => ∃ k : Nat, k ≤ m ∧ i = .int .i64 ((m : Int) - 1 - k) ∧ J k wr ∧ Below wb.heap.size wb wr ∧ Boxed wr Bs 27 (.slice A m c)) (fun i _ => (intOf i + 1).toNat)
  case atStart => exact ⟨0, Nat.zero_le _, by simp, h0, HW.out, HBW.out⟩
  case round =>
    obtain ⟨k, hk, rfl, hJk, hB, hbr⟩ := hrel
    by_cases hlt : k < m
    · obtain ⟨j, hj⟩ : ∃ j, j = m - 1 - k := ⟨_, rfl⟩
      have ej : (m : Int) - 1 - k = j := by omega
      obtain ⟨b, off, u, rfl, hu, -, z0, z1, z2, z3, z4, z5, z6, z7, z8⟩ := (HL.out.below hB).at_ j (by omega)
      have hbx := hbr.cell
      have HBR := Lib.hid hbr
      have hy0 := yield_any (n - 1) (HY.out k wr hlt hJk)
      have hgu : l.reverse.getD k En.zero = u := by
        rw [List.getD_eq_getElem?_getD, List.getElem?_reverse (by rw [HLL.out]; exact hlt), HLL.out, ← hj, hu]; rfl
      have q0 : 0 ≤ (j : Int) := by omega
      have q1 : (j : Int) < m := by omega
      have HB2 := Lib.hid hB
      unfold pairV at hy0
      dsimp only at hy0
      rw [hgu, ej] at hy0
      rw [ej]
      clear hgu hB hu hJk hbr
      rcases u with ⟨a0, a1, a2, a3, a4, a5, a6, a7, a8⟩
      simp only at z0 z1 z2 z3 z4 z5 z6 z7 z8
      simp only [enV, enA, En.row] at hy0
      obtain ⟨fn, tmps, assign, body, hy, hR⟩ := hy0
      have HR := Lib.hid hR
      have EJ := Lib.hid ej
      have HJJ := Lib.hid hj
      clear hR ej hj
      gi_wp2
      refine ⟨(fun h => by simp [Fence.wide] at h), HR.out.mono ?_⟩
      rintro e W3 (⟨rfl, hJ3, hk3, -⟩ | ⟨rfl, hJx3, -⟩)
      · have HJ3 := Lib.hid hJ3
        have HK3 := Lib.hid hk3
        clear hJ3 hk3 hy HR
        gi_wp2
        go_roundw
        case rel => exact ⟨k + 1, by omega, by have := EJ.out; congr 1; omega, HJ3.out, HB2.out.trans HK3.out.1, HK3.out.2 Bs (by simp) _ HBR.out⟩
        case measure => simp [intOf]
      · have HJX := Lib.hid hJx3
        clear hJx3 hy HR
        gi_wp2
        refine bodyPost_ret (results_none rfl _ _ _) rfl ?_
        exact ⟨⟨_, rfl⟩, .inr HJX.out⟩
    · obtain rfl : k = m := by omega
      have em : (k : Int) - 1 - k = -1 := by omega
      rw [em]
      gi_wp2
      go_end0
      exact ⟨⟨_, rfl⟩, .inl hJk⟩
theorem all_any (A : Option Addr) (m c : Nat) (w : World) :
    Calls Try.prog 30 #[.slice A m c] w fun e w' => e = .returned (.func (.func 40) #[] #[.pointer (some ⟨w.heap.size, 0, none⟩)]) ∧ w.alloc (.cells #[.slice A m c] 27) = w' := by
  go_enter Try.func30, Try.ntmps30
  go_wp2
  go_ret
  exact ⟨rfl, rfl⟩
theorem backward_any (A : Option Addr) (m c : Nat) (w : World) :
    Calls Try.prog 33 #[.slice A m c] w fun e w' => e = .returned (.func (.func 41) #[] #[.pointer (some ⟨w.heap.size, 0, none⟩)]) ∧ w.alloc (.cells #[.slice A m c] 27) = w' := by
  go_enter Try.func33, Try.ntmps33
  go_wp2
  go_ret
  exact ⟨rfl, rfl⟩
theorem ofKind_any (g : Nat) (lb : Array Value) (k : Int) (w : World) :
    Calls Try.prog 29 #[.func (.func g) #[] lb, .int .i64 k] w fun e w' => e = .returned (.func (.func 39) #[] #[.pointer (some ⟨w.heap.size, 0, none⟩), .pointer (some ⟨w.heap.size + 1, 0, none⟩)]) ∧ (w.alloc (.cells #[.func (.func g) #[] lb] 60)).alloc (.cells #[.int .i64 k] 3) = w' := by
  go_enter Try.func29, Try.ntmps29
  go_wp2
  go_ret
  exact ⟨rfl, rfl⟩
end Go.Proofs.Ytfjiefhicjnnnaa
