/- The walk over the document's nodes: may all nodes be? -/
import Derived.Test.YtcpeaeefphgbaaaTrmNode
namespace Go.Proofs.Ytcpeaeefphgbaaa
set_option linter.unusedVariables false
set_option linter.unusedSimpArgs false
open Go.RowKit

theorem Te.goods_take (l : List Te) (k : Nat) (h : k < l.length) : Te.goods (l.take (k + 1)) = (Te.goods (l.take k) && l[k].good) := by
  induction l generalizing k with
  | nil => simp at h
  | cons t l ih =>
    cases k with
    | zero => simp [Te.goods]
    | succ k =>
      simp only [List.take_succ_cons, Te.goods, List.getElem_cons_succ]
      rw [ih k (by simpa using h), Bool.and_assoc]
theorem Te.goods_stop (l : List Te) (k : Nat) (h : k < l.length) (hb : l[k].good = false) : Te.goods l = false := by
  rw [← Bool.not_eq_true, Te.goods_get]
  intro hh
  rw [hh k h] at hb
  cases hb
theorem good_no {k n : Int} {l : List Te} {m : Nat} (hl : l.length = m) (h : nodeB k n m = false) : (Te.node k n l).good = false := by rw [Te.good, hl, h, Bool.false_and]
theorem good_yes {k n : Int} {l : List Te} {m : Nat} (hl : l.length = m) (h : nodeB k n m = true) : (Te.node k n l).good = Te.goods l := by rw [Te.good, hl, h, Bool.true_and]

set_option maxHeartbeats 2000000 in
theorem good_in (w0 : World) : ∀ (t : Te) (k n : Int) (A : Option Addr) (m c : Nat), Is (· < w0.heap.size) w0 t k n A m c →
    ∀ (w : World), Below w0.heap.size w0 w →
    Calls Try.prog 47 #[.agg #[.int .i64 k, .int .i64 n, .slice A m c]] w (GivesB t.good w) := by
  refine Is.ind fun k n l A m c hI ih w hb => ?_
  have IH := Lib.hid ih
  obtain ⟨hl, -, -, hm⟩ := hI.len
  have HI := Lib.hid hI
  have HL := Lib.hid hl
  have HB := Lib.hid hb
  clear ih hl hI hb
  by_cases hg : (k = 0 ∨ k = 1) ∧ 0 ≤ n ∧ m = 0 ∨ (k = 2 ∨ k = 3) ∧ n = 0 ∧ m = 2
  · rw [good_yes HL.out (nodeB_yes hg)]
    rcases hg with ⟨rfl | rfl, hn, rfl⟩ | ⟨rfl | rfl, rfl, rfl⟩
    · rw [List.eq_nil_of_length_eq_zero HL.out]
      go_enter Try.func47, Try.ntmps47
      go_wp2
      refine wp_loop_rounds 1 ?_
      rw [rounds_succ]
      go_wp2
      go_ret
      exact ⟨rfl, one_alloc _ _⟩
    · rw [List.eq_nil_of_length_eq_zero HL.out]
      go_enter Try.func47, Try.ntmps47
      go_wp2
      refine wp_loop_rounds 1 ?_
      rw [rounds_succ]
      go_wp2
      go_ret
      exact ⟨rfl, one_alloc _ _⟩
    all_goals
      go_enter Try.func47, Try.ntmps47
      go_wp2
      generalize hW1 : w.alloc _ = W1
      have HW := Lib.hid hW1
      clear hW1
      go_loopw [5] (fun v wr => ∃ j : Nat, j ≤ 2 ∧ v = .int .i64 j ∧ Te.goods (l.take j) = true ∧ Below W1.heap.size W1 wr) (fun v _ => 2 - (intOf v).toNat)
      case atStart => exact ⟨0, Nat.zero_le _, rfl, by simp [Te.goods], Below.refl _ _⟩
      case round =>
        obtain ⟨j, hj, rfl, hsm, hbw⟩ := hrel
        have hbb := hbw
        rw [← HW.out] at hbb
        obtain ⟨_, _, x2⟩ := box_cells hbb
        have hb1 : Below w.heap.size w wr := (after_one hbb).1
        have hb2 : Below w0.heap.size w0 wr := HB.out.trans (hb1.mono HB.out.size)
        have HB1 := Lib.hid hb1
        have HBW := Lib.hid hbw
        by_cases hlt : j < 2
        · have hjl : j < l.length := by rw [HL.out]; exact hlt
          have hst := Te.goods_take l j hjl
          have hsp := Te.goods_stop l j hjl
          rw [hsm, Bool.true_and] at hst
          obtain ⟨b, off, k', n', A', m', c', rfl, hPb, hbl, hI', h0, h1, h2⟩ := HI.out.arg j hlt hjl
          have c0 := (hb2.cell (p := ⟨b, off + j * 3, none⟩) hPb).trans h0
          have c1 := (hb2.cell (p := ⟨b, off + j * 3 + 1, none⟩) hPb).trans h1
          have c2 := (hb2.cell (p := ⟨b, off + j * 3 + 2, none⟩) hPb).trans h2
          have HC := Lib.hid (IH.out j hjl k' n' A' m' c' hI' wr hb2)
          cases hsj : l[j].good with
          | true =>
            rw [hsj] at HC hst
            have HST := Lib.hid hst
            clear h0 h1 h2 hb1 hb2 hbw hbb hI' hst hsp hsj hsm
            go_wp2_with (go_at_call 47; refine HC.out.mono ?_; rintro e w1 ⟨rfl, hb4⟩)
            go_roundw
            case rel => exact ⟨j + 1, by omega, by go_num, HST.out, HBW.out.trans (hb4.mono HBW.out.size)⟩
            case measure => simp [intOf]; omega
          | false =>
            rw [hsj] at HC
            have HST := Lib.hid (hsp hsj)
            clear h0 h1 h2 hb1 hb2 hbw hbb hI' hst hsp hsj hsm
            go_wp2_with (go_at_call 47; refine HC.out.mono ?_; rintro e w1 ⟨rfl, hb4⟩)
            go_ret
            exact ⟨by rw [HST.out]; rfl, HB1.out.trans (hb4.mono HB1.out.size)⟩
        · obtain rfl : j = 2 := by omega
          rw [List.take_of_length_le (by rw [HL.out]; exact Nat.le_refl _)] at hsm
          have HS := Lib.hid hsm
          clear hb1 hb2 hbw hbb hsm
          go_wp2
          go_ret
          exact ⟨by rw [HS.out]; rfl, HB1.out⟩
  · rw [good_no HL.out (nodeB_no hg)]
    have hout : ∀ x : Int, k = x → (x = 0 ∨ x = 1) ∧ (n < 0 ∨ m ≠ 0) ∨ (x = 2 ∨ x = 3) ∧ (n ≠ 0 ∨ m ≠ 2) ∨ (x ≠ 0 ∧ x ≠ 1 ∧ x ≠ 2 ∧ x ≠ 3) := by intro x hx; omega
    rcases hout k rfl with ⟨h1, h2⟩ | ⟨h1, h2⟩ | ⟨h1, h2, h3, h4⟩
    · clear hout hg
      by_cases hn : n < 0
      · rcases h1 with rfl | rfl
        all_goals
          clear h2
          go_enter Try.func47, Try.ntmps47
          go_wp2
          go_ret
          exact ⟨rfl, one_alloc _ _⟩
      · have hn0 : decide (n < 0) = false := by rw [decide_eq_false_iff_not]; exact hn
        have hm0 : ((m : Int) != 0) = true := by rw [bne_iff_ne]; omega
        rcases h1 with rfl | rfl
        all_goals
          clear h2
          go_enter Try.func47, Try.ntmps47
          go_wp2
          go_ret
          exact ⟨rfl, one_alloc _ _⟩
    · clear hout hg
      by_cases hn : n = 0
      · have hm0 : ((m : Int) != 2) = true := by rw [bne_iff_ne]; omega
        subst hn
        rcases h1 with rfl | rfl
        all_goals
          clear h2
          go_enter Try.func47, Try.ntmps47
          go_wp2
          go_ret
          exact ⟨rfl, one_alloc _ _⟩
      · have hn0 : (n != 0) = true := by rw [bne_iff_ne]; exact hn
        rcases h1 with rfl | rfl
        all_goals
          clear h2
          go_enter Try.func47, Try.ntmps47
          go_wp2
          go_ret
          exact ⟨rfl, one_alloc _ _⟩
    · clear hout hg
      have e0 : (k == 0) = false := by rw [beq_eq_false_iff_ne]; exact h1
      have e1 : (k == 1) = false := by rw [beq_eq_false_iff_ne]; exact h2
      have e2 : (k == 2) = false := by rw [beq_eq_false_iff_ne]; exact h3
      have e3 : (k == 3) = false := by rw [beq_eq_false_iff_ne]; exact h4
      go_enter Try.func47, Try.ntmps47
      go_wp2
      go_ret
      exact ⟨rfl, one_alloc _ _⟩
theorem good_any (P : Nat → Prop) (t : Te) (k n : Int) (A : Option Addr) (m c : Nat) (w : World) (hI : Is P w t k n A m c) :
    Calls Try.prog 47 #[.agg #[.int .i64 k, .int .i64 n, .slice A m c]] w (GivesB t.good w) := good_in w t k n A m c hI.old w (Below.refl _ _)
end Go.Proofs.Ytcpeaeefphgbaaa
