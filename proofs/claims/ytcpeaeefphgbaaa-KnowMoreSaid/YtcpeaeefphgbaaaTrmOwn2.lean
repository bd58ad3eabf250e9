/- The walk over package term's Own. -/
import Derived.Test.YtcpeaeefphgbaaaTrmOwn
import Derived.Test.YtcpeaeefphgbaaaTrmSameP
namespace Go.Proofs.Ytcpeaeefphgbaaa
set_option linter.unusedVariables false
set_option linter.unusedSimpArgs false
open Go.RowKit

theorem row_one (k n : Int) (A : Option Addr) (m c : Nat) : ∀ u ∈ [Value.int .i64 k, .int .i64 n, .slice A m c], u.oneCell' = true := by
  intro u hu
  simp only [List.mem_cons, List.not_mem_nil, or_false] at hu
  rcases hu with rfl | rfl | rfl <;> rfl
/-- the cells of two boxes, and that they may be written -/
theorem box_both {w wr : World} {v0 v1 v2 u0 u1 u2 : Value} {t : TypeId} (h : Below ((w.alloc (.cells #[v0, v1, v2] t)).alloc (.cells #[u0, u1, u2] t)).heap.size ((w.alloc (.cells #[v0, v1, v2] t)).alloc (.cells #[u0, u1, u2] t)) wr) :
    (wr.cell? ⟨w.heap.size, 0, none⟩ = some v0 ∧ wr.cell? ⟨w.heap.size, 1, none⟩ = some v1 ∧ wr.cell? ⟨w.heap.size, 2, none⟩ = some v2) ∧
    (wr.cell? ⟨w.heap.size + 1, 0, none⟩ = some u0 ∧ wr.cell? ⟨w.heap.size + 1, 1, none⟩ = some u1 ∧ wr.cell? ⟨w.heap.size + 1, 2, none⟩ = some u2) ∧
    (wr.frozen? ⟨w.heap.size + 1, 0, none⟩ = false ∧ wr.frozen? ⟨w.heap.size + 1, 1, none⟩ = false ∧ wr.frozen? ⟨w.heap.size + 1, 2, none⟩ = false) := by
  obtain ⟨_, _, h1, h2⟩ := after_two h
  exact ⟨⟨(cell_of_row _ _ _ _ _ _ h1).trans rfl, (cell_of_row _ _ _ _ _ _ h1).trans rfl, (cell_of_row _ _ _ _ _ _ h1).trans rfl⟩, ⟨(cell_of_row _ _ _ _ _ _ h2).trans rfl, (cell_of_row _ _ _ _ _ _ h2).trans rfl, (cell_of_row _ _ _ _ _ _ h2).trans rfl⟩, frozen_of_row _ _ _ _ _ h2, frozen_of_row _ _ _ _ _ h2, frozen_of_row _ _ _ _ _ h2⟩

set_option maxHeartbeats 2000000 in
theorem own_in (w0 : World) (f : Nat) : ∀ (t : Te) (k n : Int) (A : Option Addr) (m c : Nat), Is (· < w0.heap.size) w0 t k n A m c →
    ∀ (w : World), Below w0.heap.size w0 w → t.size ≤ 100000 → Boxed w f 41 (.func (.func 44) #[] #[.pointer (some ⟨f, 0, none⟩)]) →
    Calls Try.prog 44 #[.agg #[.int .i64 k, .int .i64 n, .slice A m c], .pointer (some ⟨f, 0, none⟩)] w (GivesT t w) := by
  refine Is.ind fun k n l A m c hI ih w hb hs hf => ?_
  have IH := Lib.hid ih
  obtain ⟨hl, -, -, hm⟩ := hI.len
  have HI := Lib.hid hI
  have HL := Lib.hid hl
  have HB := Lib.hid hb
  have HF := Lib.hid hf
  have hm2 : m ≤ 100000 := by
    have h1 : Te.sizes l + 1 ≤ 100000 := hs
    have h2 : ∀ l : List Te, l.length ≤ Te.sizes l := fun l => by
      induction l with
      | nil => simp
      | cons t l ih => simp only [Te.sizes, List.length_cons]; have := Te.size_pos t; omega
    have := h2 l
    omega
  clear ih hl hI hb hf
  simp only [Te.size] at hs
  go_enter Try.func44, Try.ntmps44
  go_wp2
  generalize hW1 : World.alloc _ _ = W1
  have HW := Lib.hid hW1
  have hz1 : W1.heap.size = w.heap.size + 1 + 1 := by rw [← hW1]; simp
  clear hW1
  go_loopw [4, 10] (fun v i wr => ∃ (j : Nat) (rows : List (List Value)), j ≤ m ∧ i = .int .i64 j ∧ Made wr W1.heap.size v rows (l.take j) ∧ Below W1.heap.size W1 wr) (fun _ v _ => m - (intOf v).toNat)
  case atStart => exact ⟨0, [], Nat.zero_le _, rfl, by rw [List.take_zero]; exact Made.nil _ _, Below.refl _ _⟩
  case round =>
    obtain ⟨j, rows, hj, rfl, hmd, hbw⟩ := hrel
    have hbb := hbw
    rw [← HW.out] at hbb
    have hb1 : Below w.heap.size w wr := (after_two hbb).1
    have hb2 : Below w0.heap.size w0 wr := HB.out.trans (hb1.mono HB.out.size)
    have HB1 := Lib.hid hb1
    have HBW := Lib.hid hbw
    by_cases hlt : j < m
    · have hjl : j < l.length := by rw [HL.out]; exact hlt
      obtain ⟨b, off, k', n', A', m', c', rfl, hPb, hbl, hI', h0, h1, h2⟩ := HI.out.arg j hlt hjl
      have c0 := (hb2.cell (p := ⟨b, off + j * 3, none⟩) hPb).trans h0
      have c1 := (hb2.cell (p := ⟨b, off + j * 3 + 1, none⟩) hPb).trans h1
      have c2 := (hb2.cell (p := ⟨b, off + j * 3 + 2, none⟩) hPb).trans h2
      have hfw : Boxed wr f _ _ := (hb1.block _ HF.out.lt).trans HF.out
      have hfw2 := hfw.alloc (.cells #[.int .i64 k', .int .i64 n', .slice A' m' c'] 24)
      have cf := hfw2.cell
      have hone := one_alloc wr (.cells #[.int .i64 k', .int .i64 n', .slice A' m' c'] 24)
      have hsm := Te.size_mem hjl
      have HC := Lib.hid (IH.out j hjl k' n' A' m' c' hI' _ (hb2.trans (hone.mono hb2.size)) (by omega) hfw2)
      have hmd2 := hmd.far hone
      have hrl : rows.length = j := by rw [hmd.len, List.length_take]; omega
      have HRL := Lib.hid hrl
      have HT := Lib.hid (List.take_succ_eq_append_getElem (l := l) hjl)
      have HMD := Lib.hid hmd2
      have HONE := Lib.hid hone
      clear h0 h1 h2 hb1 hb2 hbw hbb hfw hfw2 hI' hone hmd hmd2 hrl hsm
      go_wp2_with (first
        | (go_at_call 44; refine HC.out.mono ?_; rintro e w2 ⟨k2, n2, A2, m2, c2, rfl, hI2, hB2⟩; have HI2 := Lib.hid hI2; have HB2 := Lib.hid hB2; clear hI2 hB2)
        | (at_builtin
           refine wpList_append_r_at rfl 22 24 3 40 _ _ rfl Try.underlying22 info_term (by omega) W1.heap.size u4 rows rfl ((HMD.out.own.below HB2.out).more _) _ 1 1 [[.int .i64 k2, .int .i64 n2, .slice A2 m2 c2]] rfl (one_rws 3 24 _ [.int .i64 k2, .int .i64 n2, .slice A2 m2 c2] rfl (row_one k2 n2 A2 m2 c2)) (by have := HRL.out; omega) (by have := HRL.out; omega) (Nat.le_trans HBW.out.size (Nat.le_trans (size_le_alloc _ _) (Nat.le_trans HB2.out.size (size_le_alloc _ _)))) ?_
           intro v4 w4 hown4 hg4 hat4
           have hmd4 := HMD.out.step (Nat.le_trans HBW.out.size (size_le_alloc _ _)) HB2.out HI2.out.lies hown4 hg4 hat4
           have hB4 : Below W1.heap.size W1 w4 := (((HBW.out.trans (HONE.out.mono HBW.out.size)).trans (HB2.out.mono (Nat.le_trans HBW.out.size (size_le_alloc _ _)))).alloc (Nat.le_trans HBW.out.size (Nat.le_trans (size_le_alloc _ _) HB2.out.size)) _).grown hg4 (Nat.le_trans HBW.out.size (Nat.le_trans (size_le_alloc _ _) (Nat.le_trans HB2.out.size (size_le_alloc _ _)))) (fun g hg => (HMD.out.own.size g hg).1)
           rw [← HT.out] at hmd4
           have HMD4 := Lib.hid hmd4
           have HB4 := Lib.hid hB4
           clear hown4 hg4 hat4 hmd4 hB4))
      go_roundw
      case rel => exact ⟨j + 1, _, by omega, by go_num, HMD4.out, HB4.out⟩
      case measure => simp [intOf]; omega
    · obtain rfl : j = m := by omega
      have htl : l.take j = l := List.take_of_length_le (by rw [HL.out]; exact Nat.le_refl _)
      rw [htl] at hmd
      obtain ⟨A3, m3, c3, rfl, hI3⟩ := hmd.is k n
      obtain ⟨⟨x0, x1, x2⟩, ⟨y0, y1, y2⟩, f0, f1, f2⟩ := box_both hbb
      have HI3 := Lib.hid hI3
      have HZ := Lib.hid hz1
      clear hb1 hb2 hbw hbb hmd hI3 htl
      go_wp2
      refine bodyPost_ret (v := .agg #[.int .i64 k, .int .i64 n, .slice A3 m3 c3]) (by simp [results, Try.results44, go_sem, y0, y1, y2]) rfl ⟨k, n, A3, m3, c3, rfl, ?_, ?_⟩
      · refine (HI3.out.keep fun b hb => ?_).mono fun b hb => by have := HZ.out; omega
        have hne : b ≠ w.heap.size + 1 := by have := HZ.out; omega
        exact (Below.heap_setCell _ _ _ _ hne).trans ((Below.heap_setCell _ _ _ _ hne).trans (Below.heap_setCell _ _ _ _ hne))
      · exact ((HB1.out.setCell (p := ⟨w.heap.size + 1, 0, none⟩) (Nat.le_succ _) _).setCell (p := ⟨w.heap.size + 1, 1, none⟩) (Nat.le_succ _) _).setCell (p := ⟨w.heap.size + 1, 2, none⟩) (Nat.le_succ _) _

theorem own_any (P : Nat → Prop) (t : Te) (k n : Int) (A : Option Addr) (m c : Nat) (w : World) (hI : Is P w t k n A m c) (hs : t.size ≤ 100000) :
    Calls Try.prog 31 #[.agg #[.int .i64 k, .int .i64 n, .slice A m c]] w (GivesT t w) := by
  have hmf := hmf
  obtain ⟨hb, hf⟩ := two_boxes w (.cells #[.int .i64 k, .int .i64 n, .slice A m c] 24) (.cells #[.int .i64 0, .int .i64 0, .slice none 0 0] 24) 41 (.func (.func 44) #[] #[.pointer (some ⟨w.heap.size + 1 + 1, 0, none⟩)])
  have HC := Lib.hid (own_in w (w.heap.size + 1 + 1) t k n A m c hI.old _ hb hs hf)
  have HB := Lib.hid hb
  clear hb hf hI
  go_enter Try.func31, Try.ntmps31
  go_wp2_with (go_at_call 44; refine HC.out.mono ?_; rintro e w1 ⟨k2, n2, A2, m2, c2, rfl, hI2, hB2⟩
               obtain ⟨⟨x0, x1, x2⟩, ⟨y0, y1, y2⟩, f0, f1, f2⟩ := box_both ((one_alloc _ _).trans (hB2.mono (size_le_alloc _ _)))
               have HI2 := Lib.hid hI2; have HB2 := Lib.hid hB2; clear hI2 hB2)
  refine bodyPost_ret (v := .agg #[.int .i64 k2, .int .i64 n2, .slice A2 m2 c2]) (by simp [results, Try.results31, go_sem, y0, y1, y2]) rfl ⟨k2, n2, A2, m2, c2, rfl, ?_, ?_⟩
  · refine (HI2.out.keep fun b hb => ?_).mono fun b hb => by simp at hb; omega
    have hne : b ≠ w.heap.size + 1 := by simp at hb; omega
    exact (Below.heap_setCell _ _ _ _ hne).trans ((Below.heap_setCell _ _ _ _ hne).trans (Below.heap_setCell _ _ _ _ hne))
  · have hB := HB.out.trans (HB2.out.mono HB.out.size)
    exact ((hB.setCell (p := ⟨w.heap.size + 1, 0, none⟩) (Nat.le_succ _) _).setCell (p := ⟨w.heap.size + 1, 1, none⟩) (Nat.le_succ _) _).setCell (p := ⟨w.heap.size + 1, 2, none⟩) (Nat.le_succ _) _
end Go.Proofs.Ytcpeaeefphgbaaa
