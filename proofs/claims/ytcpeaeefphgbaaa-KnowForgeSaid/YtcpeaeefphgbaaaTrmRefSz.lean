/- The walks over the document's Size and Depth of terms, and its May. -/
import Derived.Test.YtcpeaeefphgbaaaTrmGood
namespace Go.Proofs.Ytcpeaeefphgbaaa
set_option linter.unusedVariables false
set_option linter.unusedSimpArgs false
open Go.RowKit

set_option maxHeartbeats 1000000 in
theorem rsize_in (w0 : World) : ∀ (t : Te) (k n : Int) (A : Option Addr) (m c : Nat), Is (· < w0.heap.size) w0 t k n A m c →
    ∀ (w : World), Below w0.heap.size w0 w → (t.size : Int) ≤ 4611686018427387904 →
    Calls Try.prog 48 #[.agg #[.int .i64 k, .int .i64 n, .slice A m c]] w (GivesN t.size w) := by
  refine Is.ind fun k n l A m c hI ih w hb hs => ?_
  have IH := Lib.hid ih
  obtain ⟨hl, -, -, hm⟩ := hI.len
  have HI := Lib.hid hI
  have HL := Lib.hid hl
  have HB := Lib.hid hb
  clear ih hl hI hb
  simp only [Te.size] at hs ⊢
  go_enter Try.func48, Try.ntmps48
  go_wp2
  generalize hW1 : w.alloc _ = W1
  have HW := Lib.hid hW1
  clear hW1
  go_loopw [3, 4] (fun u v wr => ∃ j : Nat, j ≤ m ∧ v = .int .i64 j ∧ u = .int .i64 ((Te.sizes (l.take j) : Int) + 1) ∧ Below W1.heap.size W1 wr) (fun _ v _ => m - (intOf v).toNat)
  case atStart => exact ⟨0, Nat.zero_le _, rfl, by simp [Te.sizes], Below.refl _ _⟩
  case round =>
    obtain ⟨j, hj, rfl, rfl, hbw⟩ := hrel
    have hbb := hbw
    rw [← HW.out] at hbb
    obtain ⟨_, _, x2⟩ := box_cells hbb
    have hb1 : Below w.heap.size w wr := (after_one hbb).1
    have hb2 : Below w0.heap.size w0 wr := HB.out.trans (hb1.mono HB.out.size)
    have HB1 := Lib.hid hb1
    have HBW := Lib.hid hbw
    by_cases hlt : j < m
    · have hjl : j < l.length := by rw [HL.out]; exact hlt
      have hst := Te.sizes_take l j hjl
      have hsm := Te.size_mem hjl
      obtain ⟨b, off, k', n', A', m', c', rfl, hPb, hbl, hI', h0, h1, h2⟩ := HI.out.arg j hlt hjl
      have c0 := (hb2.cell (p := ⟨b, off + j * 3, none⟩) hPb).trans h0
      have c1 := (hb2.cell (p := ⟨b, off + j * 3 + 1, none⟩) hPb).trans h1
      have c2 := (hb2.cell (p := ⟨b, off + j * 3 + 2, none⟩) hPb).trans h2
      have HC := Lib.hid (IH.out j hjl k' n' A' m' c' hI' wr hb2 (by omega))
      have hle : (Te.sizes (l.take j) : Int) + 1 + l[j].size ≤ 4611686018427387904 := by omega
      obtain ⟨x, hx⟩ : ∃ x, l[j].size = x := ⟨_, rfl⟩
      rw [hx] at HC hle hst
      have HST := Lib.hid hst
      clear h0 h1 h2 hb1 hb2 hbw hbb hI' hst hx hsm
      go_wp2_with (go_at_call 48; refine HC.out.mono ?_; rintro e w1 ⟨rfl, hb4⟩)
      go_roundw
      case rel => exact ⟨j + 1, by omega, by go_num, congrArg (Value.int IntKind.i64) (by rw [HST.out]; omega), HBW.out.trans (hb4.mono HBW.out.size)⟩
      case measure => simp [intOf]; omega
    · obtain rfl : j = m := by omega
      have htl : l.take j = l := List.take_of_length_le (by rw [HL.out]; exact Nat.le_refl _)
      rw [htl]
      clear hb1 hb2 hbw hbb htl
      go_wp2
      go_ret
      exact ⟨rfl, HB1.out⟩
theorem rsize_any (P : Nat → Prop) (t : Te) (k n : Int) (A : Option Addr) (m c : Nat) (w : World) (hI : Is P w t k n A m c) (hs : (t.size : Int) ≤ 4611686018427387904) :
    Calls Try.prog 48 #[.agg #[.int .i64 k, .int .i64 n, .slice A m c]] w (GivesN t.size w) := rsize_in w t k n A m c hI.old w (Below.refl _ _) hs

set_option maxHeartbeats 1000000 in
theorem rdepth_in (w0 : World) : ∀ (t : Te) (k n : Int) (A : Option Addr) (m c : Nat), Is (· < w0.heap.size) w0 t k n A m c →
    ∀ (w : World), Below w0.heap.size w0 w → (t.depth : Int) ≤ 4611686018427387904 →
    Calls Try.prog 49 #[.agg #[.int .i64 k, .int .i64 n, .slice A m c]] w (GivesN t.depth w) := by
  refine Is.ind fun k n l A m c hI ih w hb hs => ?_
  have IH := Lib.hid ih
  obtain ⟨hl, -, -, hm⟩ := hI.len
  have HI := Lib.hid hI
  have HL := Lib.hid hl
  have HB := Lib.hid hb
  clear ih hl hI hb
  simp only [Te.depth] at hs ⊢
  go_enter Try.func49, Try.ntmps49
  go_wp2
  generalize hW1 : w.alloc _ = W1
  have HW := Lib.hid hW1
  clear hW1
  go_loopw [3, 4] (fun u v wr => ∃ j : Nat, j ≤ m ∧ v = .int .i64 j ∧ u = .int .i64 (Te.depths (l.take j) : Int) ∧ Below W1.heap.size W1 wr) (fun _ v _ => m - (intOf v).toNat)
  case atStart => exact ⟨0, Nat.zero_le _, rfl, by simp [Te.depths], Below.refl _ _⟩
  case round =>
    obtain ⟨j, hj, rfl, rfl, hbw⟩ := hrel
    have hbb := hbw
    rw [← HW.out] at hbb
    obtain ⟨_, _, x2⟩ := box_cells hbb
    have hb1 : Below w.heap.size w wr := (after_one hbb).1
    have hb2 : Below w0.heap.size w0 wr := HB.out.trans (hb1.mono HB.out.size)
    have HB1 := Lib.hid hb1
    have HBW := Lib.hid hbw
    by_cases hlt : j < m
    · have hjl : j < l.length := by rw [HL.out]; exact hlt
      have hst := Te.depths_take l j hjl
      have hsm := Te.depth_mem hjl
      have hdl := Te.depths_le l j
      obtain ⟨b, off, k', n', A', m', c', rfl, hPb, hbl, hI', h0, h1, h2⟩ := HI.out.arg j hlt hjl
      have c0 := (hb2.cell (p := ⟨b, off + j * 3, none⟩) hPb).trans h0
      have c1 := (hb2.cell (p := ⟨b, off + j * 3 + 1, none⟩) hPb).trans h1
      have c2 := (hb2.cell (p := ⟨b, off + j * 3 + 2, none⟩) hPb).trans h2
      have HC := Lib.hid (IH.out j hjl k' n' A' m' c' hI' wr hb2 (by omega))
      obtain ⟨x, hx⟩ : ∃ x, l[j].depth = x := ⟨_, rfl⟩
      obtain ⟨y, hy⟩ : ∃ y, Te.depths (l.take j) = y := ⟨_, rfl⟩
      rw [hx] at HC hst
      rw [hy] at hst ⊢
      by_cases hxy : y < x
      · have hxy2 : decide ((y : Int) < (x : Int)) = true := by rw [decide_eq_true_eq]; omega
        have hxy3 : decide (y < x) = true := by rw [decide_eq_true_eq]; omega
        have e : Te.depths (l.take (j + 1)) = x := by omega
        have HST := Lib.hid e
        clear h0 h1 h2 hb1 hb2 hbw hbb hI' hst hx hy hsm hdl e
        go_wp2_with (go_at_call 49; refine HC.out.mono ?_; rintro e w1 ⟨rfl, hb4⟩)
        go_roundw
        case rel => exact ⟨j + 1, by omega, by go_num, by rw [HST.out], HBW.out.trans (hb4.mono HBW.out.size)⟩
        case measure => simp [intOf]; omega
      · have hxy2 : decide ((y : Int) < (x : Int)) = false := by rw [decide_eq_false_iff_not]; omega
        have hxy3 : decide (y < x) = false := by rw [decide_eq_false_iff_not]; omega
        have e : Te.depths (l.take (j + 1)) = y := by omega
        have HST := Lib.hid e
        clear h0 h1 h2 hb1 hb2 hbw hbb hI' hst hx hy hsm hdl e
        go_wp2_with (go_at_call 49; refine HC.out.mono ?_; rintro e w1 ⟨rfl, hb4⟩)
        go_roundw
        case rel => exact ⟨j + 1, by omega, by go_num, by rw [HST.out], HBW.out.trans (hb4.mono HBW.out.size)⟩
        case measure => simp [intOf]; omega
    · obtain rfl : j = m := by omega
      have htl : l.take j = l := List.take_of_length_le (by rw [HL.out]; exact Nat.le_refl _)
      rw [htl]
      clear hb1 hb2 hbw hbb htl
      go_wp2
      go_ret
      exact ⟨rfl, HB1.out⟩
theorem rdepth_any (P : Nat → Prop) (t : Te) (k n : Int) (A : Option Addr) (m c : Nat) (w : World) (hI : Is P w t k n A m c) (hs : (t.depth : Int) ≤ 4611686018427387904) :
    Calls Try.prog 49 #[.agg #[.int .i64 k, .int .i64 n, .slice A m c]] w (GivesN t.depth w) := rdepth_in w t k n A m c hI.old w (Below.refl _ _) hs

set_option maxHeartbeats 1000000 in
theorem rmay_any (P : Nat → Prop) (t : Te) (k n : Int) (A : Option Addr) (m c : Nat) (w : World) (hI : Is P w t k n A m c) (hs : (t.size : Int) ≤ 4611686018427387904) :
    Calls Try.prog 35 #[.agg #[.int .i64 k, .int .i64 n, .slice A m c]] w (GivesB t.may w) := by
  have hds := Te.depth_le_size t
  have hb := one_alloc w (.cells #[.int .i64 k, .int .i64 n, .slice A m c] 24)
  have hc1 := good_any _ t k n A m c _ (hI.old.below hb)
  have HC1 := Lib.hid hc1
  obtain ⟨W1, hW1⟩ : ∃ W1, w.alloc (.cells #[.int .i64 k, .int .i64 n, .slice A m c] 24) = W1 := ⟨_, rfl⟩
  have HW := Lib.hid hW1
  rw [hW1] at HC1 hb
  have HI := Lib.hid (hI.old.below hb)
  have HB := Lib.hid hb
  have hms : t.may = (t.good && decide ((t.size : Int) ≤ 60) && decide ((t.depth : Int) ≤ 12)) := by
    unfold Te.may
    congr 1
    · congr 1
      rw [decide_eq_decide]; omega
    · rw [decide_eq_decide]; omega
  rw [hms]
  have HS := Lib.hid hs
  have hd2 : (t.depth : Int) ≤ 4611686018427387904 := by omega
  have HD := Lib.hid hd2
  clear hms hb hI hs hc1 hd2 hW1
  cases hg : t.good with
  | false =>
    rw [hg] at HC1
    go_enter Try.func35, Try.ntmps35
    go_wp2_with (go_at_call 47; rw [HW.out]; refine HC1.out.mono ?_; rintro e w1 ⟨rfl, hb4⟩)
    go_ret
    exact ⟨rfl, HB.out.trans (hb4.mono HB.out.size)⟩
  | true =>
    rw [hg] at HC1
    obtain ⟨x, hx⟩ : ∃ x : Int, (t.size : Int) = x := ⟨_, rfl⟩
    obtain ⟨y, hy⟩ : ∃ y : Int, (t.depth : Int) = y := ⟨_, rfl⟩
    have hsc := fun w1 (hb4 : Below W1.heap.size W1 w1) => rsize_any _ t k n A m c w1 (HI.out.below (hb4.mono HB.out.size)) HS.out
    have hdc := fun w1 (hb4 : Below W1.heap.size W1 w1) => rdepth_any _ t k n A m c w1 (HI.out.below (hb4.mono HB.out.size)) HD.out
    rw [hx] at hsc ⊢
    rw [hy] at hdc ⊢
    have HSC := Lib.hid hsc
    have HDC := Lib.hid hdc
    have hcl : ∀ w1, Below W1.heap.size W1 w1 → w1.cell? ⟨w.heap.size, 0, none⟩ = some (.int .i64 k) ∧ w1.cell? ⟨w.heap.size, 1, none⟩ = some (.int .i64 n) ∧ w1.cell? ⟨w.heap.size, 2, none⟩ = some (.slice A m c) := fun w1 h => by
      rw [← HW.out] at h
      exact box_cells h
    have HCL := Lib.hid hcl
    clear hsc hdc hcl hx hy hds
    by_cases hx60 : x ≤ 60
    · have hd60 : decide (x ≤ 60) = true := decide_eq_true hx60
      go_enter Try.func35, Try.ntmps35
      go_wp2_with (first
        | (go_at_call 47; rw [HW.out]; refine HC1.out.mono ?_; rintro e w1 ⟨rfl, hb4⟩; obtain ⟨q0, q1, q2⟩ := HCL.out w1 hb4; have HB4 := Lib.hid hb4; clear hb4)
        | (go_at_call 48; refine (HSC.out _ HB4.out).mono ?_; rintro e w2 ⟨rfl, hb5⟩; have hb5 := HB4.out.trans (hb5.mono HB4.out.size); obtain ⟨r0, r1, r2⟩ := HCL.out w2 hb5; have HB5 := Lib.hid hb5; clear hb5)
        | (go_at_call 49; refine (HDC.out _ HB5.out).mono ?_; rintro e w3 ⟨rfl, hb6⟩; have hb6 := HB5.out.trans (hb6.mono HB5.out.size)))
      go_ret
      rw [hd60, Bool.true_and, Bool.true_and]
      exact ⟨rfl, HB.out.trans (hb6.mono HB.out.size)⟩
    · have hd60 : decide (x ≤ 60) = false := decide_eq_false hx60
      go_enter Try.func35, Try.ntmps35
      go_wp2_with (first
        | (go_at_call 47; rw [HW.out]; refine HC1.out.mono ?_; rintro e w1 ⟨rfl, hb4⟩; obtain ⟨q0, q1, q2⟩ := HCL.out w1 hb4; have HB4 := Lib.hid hb4; clear hb4)
        | (go_at_call 48; refine (HSC.out _ HB4.out).mono ?_; rintro e w2 ⟨rfl, hb5⟩; have hb5 := HB4.out.trans (hb5.mono HB4.out.size)))
      go_ret
      rw [hd60, Bool.true_and, Bool.false_and]
      exact ⟨rfl, HB.out.trans (hb5.mono HB.out.size)⟩
end Go.Proofs.Ytcpeaeefphgbaaa
