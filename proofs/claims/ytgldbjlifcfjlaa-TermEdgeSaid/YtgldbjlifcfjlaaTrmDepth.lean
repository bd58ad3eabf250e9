/- The walk over package term's Depth: a closure that calls itself. -/
import Derived.Test.YtgldbjlifcfjlaaTrmSize
namespace Go.Proofs.Ytgldbjlifcfjlaa
set_option linter.unusedVariables false
set_option linter.unusedSimpArgs false
open Go.RowKit

set_option maxHeartbeats 1000000 in
theorem down_any (B g f : Nat) (hBg : B ≤ g) (hgf : f ≠ g) (w0 : World) : ∀ (t : Te) (k n : Int) (A : Option Addr) (m c : Nat), Is (· < B) w0 t k n A m c →
    ∀ (w : World) (i d : Int), Below B w0 w → 0 ≤ i → i ≤ 4611686018427387904 → 1 ≤ d → d + t.depth ≤ 4611686018427387904 → Boxed w g 3 (.int .i64 i) → Boxed w f 47 (.func (.func 33) #[] #[.pointer (some ⟨g, 0, none⟩), .pointer (some ⟨f, 0, none⟩)]) →
    Calls Try.prog 33 #[.agg #[.int .i64 k, .int .i64 n, .slice A m c], .int .i64 d, .pointer (some ⟨g, 0, none⟩), .pointer (some ⟨f, 0, none⟩)] w (Counts g (max i (d - 1 + t.depth)) w) := by
  refine Is.ind fun k n l A m c hI ih w i d hb hi0 hi1 hd0 hd1 hg hf => ?_
  have cg := hg.cell
  have fg := hg.frozen
  have lg := hg.lt
  have cf := hf.cell
  have IH := Lib.hid ih
  obtain ⟨hl, -, -, hm⟩ := hI.len
  have HI := Lib.hid hI
  have HL := Lib.hid hl
  clear ih hl hI
  simp only [Te.depth] at hd1 ⊢
  go_enter Try.func33, Try.ntmps33
  go_wp2
  all_goals
    obtain ⟨W1, hW1⟩ : ∃ W1, (w.setCell ⟨g, 0, none⟩ (.int .i64 (max i d))).alloc (.cells #[.int .i64 k, .int .i64 n, .slice A m c] 24) = W1 := ⟨_, rfl⟩
    have b1 : But g w W1 := by rw [← hW1]; exact ((But.refl g w).set _).alloc _
    have g1 : Boxed W1 g 3 (.int .i64 (max i d)) := by rw [← hW1]; exact (hg.set _).alloc _
    first
      | (rw [Int.max_eq_right (by omega)] at hW1; rw [hW1])
      | (rw [Int.max_eq_left (by omega)] at hW1; rw [hW1])
    have B1 := Lib.hid b1
    have G1 := Lib.hid g1
    have HF := Lib.hid hf
    have HB := Lib.hid hb
    clear hW1 b1 g1 cg fg cf hg hf hb
    go_loopw [14] (fun v wr => ∃ j : Nat, j ≤ m ∧ v = .int .i64 j ∧ But g w wr ∧ Boxed wr g 3 (.int .i64 (max i (d + Te.depths (l.take j))))) (fun v _ => m - (intOf v).toNat)
    case atStart => exact ⟨0, Nat.zero_le _, rfl, B1.out, by simpa [Te.depths] using G1.out⟩
    case round =>
      obtain ⟨j, hj, rfl, hbw, hgw⟩ := hrel
      by_cases hlt : j < m
      · have hjl : j < l.length := by rw [HL.out]; exact hlt
        have hb2 : Below B w0 wr := HB.out.trans (hbw.below hBg (by omega))
        obtain ⟨b, off, k', n', A', m', c', rfl, hPb, hbl, hI', h0, h1, h2⟩ := HI.out.arg j hlt hjl
        have c0 := (hb2.cell (p := ⟨b, off + j * 3, none⟩) hPb).trans h0
        have c1 := (hb2.cell (p := ⟨b, off + j * 3 + 1, none⟩) hPb).trans h1
        have c2 := (hb2.cell (p := ⟨b, off + j * 3 + 2, none⟩) hPb).trans h2
        have hfw := hbw.boxed HF.out hgf
        have hpw := (hgw.alloc (.cells #[.int .i64 k', .int .i64 n', .slice A' m' c'] 24))
        have hfw2 := (hfw.alloc (.cells #[.int .i64 k', .int .i64 n', .slice A' m' c'] 24))
        have cf := hfw2.cell
        have hb3 := hb2.alloc (by have := hgw.lt; omega) (.cells #[.int .i64 k', .int .i64 n', .slice A' m' c'] 24)
        have hdm := Te.depth_mem hjl
        have hdl := Te.depths_le l j
        have hcall := IH.out j hjl k' n' A' m' c' hI' _ _ (d + 1) hb3 (by omega) (by omega) (by omega) (by omega) hpw hfw2
        have HC := Lib.hid hcall
        have HBW := Lib.hid hbw
        have HST := Lib.hid (Te.depths_take l j hjl)
        have hd2 : d + 1 ≤ 4611686018427387904 := by omega
        clear h0 h1 h2 hb2 hbw hgw hfw hpw hfw2 hb3 hcall hI' hdm hdl
        go_wp2_with (go_at_call 33; refine HC.out.mono ?_; rintro e w1 ⟨rfl, hb4, hg4⟩)
        go_roundw
        case rel =>
          refine ⟨j + 1, by omega, by go_num, HBW.out.trans (((But.refl g _).alloc _).trans hb4), ?_⟩
          have e : max i (d + (Te.depths (l.take (j + 1)) : Int)) = max (max i (d + (Te.depths (l.take j) : Int))) (d + 1 - 1 + (l[j].depth : Int)) := by rw [HST.out]; omega
          rw [e]
          exact hg4
        case measure => simp [intOf]; omega
      · have hjm : j = m := by omega
        rw [hjm, ← HL.out, List.take_length] at hgw
        have HG := Lib.hid hgw
        have HBW := Lib.hid hbw
        clear hgw hbw
        go_wp2
        go_end0
        have e : d - 1 + ((Te.depths l : Int) + 1) = d + (Te.depths l : Int) := by omega
        exact ⟨rfl, HBW.out, by rw [e]; exact HG.out⟩

set_option maxHeartbeats 1000000 in
theorem depth_any (P : Nat → Prop) (t : Te) (k n : Int) (A : Option Addr) (m c : Nat) (w : World) (hI : Is P w t k n A m c) (hs : (t.depth : Int) ≤ 2305843009213693952) :
    Calls Try.prog 21 #[.agg #[.int .i64 k, .int .i64 n, .slice A m c]] w (GivesN t.depth w) := by
  have hmf := hmf
  obtain ⟨hb, hg, hf⟩ := three_boxes w (.cells #[.int .i64 k, .int .i64 n, .slice A m c] 24) 3 47 (.int .i64 0) (.func (.func 33) #[] #[.pointer (some ⟨w.heap.size + 1, 0, none⟩), .pointer (some ⟨w.heap.size + 1 + 1, 0, none⟩)])
  have hc := (down_any w.heap.size (w.heap.size + 1) (w.heap.size + 1 + 1) (by omega) (by omega) w t k n A m c hI.old _ 0 1 hb (by omega) (by omega) (by omega) (by omega) hg hf)
  have e : max 0 (1 - 1 + (t.depth : Int)) = t.depth := by omega
  rw [e] at hc
  have HC := Lib.hid hc
  have HB := Lib.hid hb
  clear hb hg hf hI hc e
  go_enter Try.func21, Try.ntmps21
  go_wp2_with (go_at_call 33; refine HC.out.mono ?_; rintro e w1 ⟨rfl, hb4, hg4⟩; have cg := hg4.cell; have HG := Lib.hid hg4; have HB4 := Lib.hid hb4; clear hg4 hb4)
  go_ret
  exact ⟨rfl, HB.out.trans (HB4.out.below (by omega) (by simp; omega))⟩
end Go.Proofs.Ytgldbjlifcfjlaa
