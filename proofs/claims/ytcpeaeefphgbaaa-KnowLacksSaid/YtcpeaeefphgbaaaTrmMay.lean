/- The walk over package term's May: a closure that calls itself, and ends at the first node too many. -/
import Derived.Test.YtcpeaeefphgbaaaTrmGood
namespace Go.Proofs.Ytcpeaeefphgbaaa
set_option linter.unusedVariables false
set_option linter.unusedSimpArgs false
open Go.RowKit

/-- may a term be, of as many nodes as are left, at that depth? -/
def okB (t : Te) (L d : Int) : Bool := t.good && decide ((t.size : Int) ≤ L) && decide (d - 1 + t.depth ≤ 12)
theorem okB_is (t : Te) (L d : Int) : okB t L d = true ↔ t.good = true ∧ (t.size : Int) ≤ L ∧ d - 1 + t.depth ≤ 12 := by
  unfold okB
  simp only [Bool.and_eq_true, decide_eq_true_eq, and_assoc]
theorem okB_may (t : Te) : okB t 60 1 = t.may := by
  unfold okB Te.may
  congr 1
  · congr 1
    rw [decide_eq_decide]; omega
  · rw [decide_eq_decide]; omega
theorem ok_stop {k n : Int} {l : List Te} {L d : Int} {j : Nat} (hj : j < l.length) (h : okB l[j] (L - 1 - Te.sizes (l.take j)) (d + 1) = false) : okB (.node k n l) L d = false := by
  rw [← Bool.not_eq_true, okB_is] at h ⊢
  rintro ⟨h1, h2, h3⟩
  apply h
  have e1 := Te.size_mem hj
  have e2 := Te.depth_mem hj
  simp only [Te.good, Bool.and_eq_true, Te.size, Te.depth] at h1 h2 h3
  exact ⟨(Te.goods_get l).1 h1.2 j hj, by omega, by omega⟩
theorem ok_done {k n : Int} {l : List Te} {m : Nat} {L d : Int} (hl : l.length = m) (h1 : nodeB k n m = true) (h2 : Te.goods l = true) (h3 : (Te.sizes l : Int) + 1 ≤ L) (h4 : d + Te.depths l ≤ 12) : okB (.node k n l) L d = true := by
  rw [okB_is]
  simp only [Te.good, Bool.and_eq_true, Te.size, Te.depth]
  exact ⟨⟨by rw [hl]; exact h1, h2⟩, by omega, by omega⟩
theorem ok_no {k n : Int} {l : List Te} {m : Nat} {L d : Int} (hl : l.length = m) (h : L = 0 ∨ 12 < d ∨ nodeB k n m = false) : okB (.node k n l) L d = false := by
  rw [← Bool.not_eq_true, okB_is]
  rintro ⟨h1, h2, h3⟩
  simp only [Te.good, Bool.and_eq_true, Te.size, Te.depth] at h1 h2 h3
  rcases h with h | h | h
  · omega
  · omega
  · rw [hl, h] at h1
    exact absurd h1.1 (by simp)
/-- behind a call that asks, and counts down -/
def Asks (g : Nat) (t : Te) (L d : Int) (w : World) (e : Ending) (w' : World) : Prop :=
  e = .returned (.bool (okB t L d)) ∧ But g w w' ∧ ∃ L', 0 ≤ L' ∧ L' ≤ L ∧ Boxed w' g 3 (.int .i64 L') ∧ (okB t L d = true → L' = L - t.size)

theorem Asks.no {g : Nat} {t : Te} {L d : Int} {w w' : World} (h : okB t L d = false) (hb : But g w w') (L' : Int) (h0 : 0 ≤ L') (h1 : L' ≤ L) (hB : Boxed w' g 3 (.int .i64 L')) : Asks g t L d w (.returned (.bool false)) w' :=
  ⟨by rw [h], hb, L', h0, h1, hB, fun e => by rw [h] at e; cases e⟩
theorem Asks.yes {g : Nat} {t : Te} {L d : Int} {w w' : World} (h : okB t L d = true) (hb : But g w w') (hB : Boxed w' g 3 (.int .i64 (L - t.size))) : Asks g t L d w (.returned (.bool true)) w' :=
  ⟨by rw [h], hb, L - t.size, by have := (okB_is t L d).1 h; omega, by omega, hB, fun _ => rfl⟩

set_option maxHeartbeats 2000000 in
theorem may_in (B g f : Nat) (hBg : B ≤ g) (hgf : f ≠ g) (w0 : World) : ∀ (t : Te) (k n : Int) (A : Option Addr) (m c : Nat), Is (· < B) w0 t k n A m c →
    ∀ (w : World) (L d : Int), Below B w0 w → 0 ≤ L → L ≤ 60 → 1 ≤ d → d ≤ 13 → Boxed w g 3 (.int .i64 L) → Boxed w f 45 (.func (.func 41) #[] #[.pointer (some ⟨g, 0, none⟩), .pointer (some ⟨f, 0, none⟩)]) →
    Calls Try.prog 41 #[.agg #[.int .i64 k, .int .i64 n, .slice A m c], .int .i64 d, .pointer (some ⟨g, 0, none⟩), .pointer (some ⟨f, 0, none⟩)] w (Asks g t L d w) := by
  refine Is.ind fun k n l A m c hI ih w L d hb hL0 hL1 hd0 hd1 hg hf => ?_
  have IH := Lib.hid ih
  obtain ⟨hl, -, -, hm⟩ := hI.len
  have HI := Lib.hid hI
  have HL := Lib.hid hl
  have HB := Lib.hid hb
  have HF := Lib.hid hf
  have HG := Lib.hid hg
  have lg := hg.lt
  have cg := hg.cell
  have one := one_alloc w (.cells #[.int .i64 k, .int .i64 n, .slice A m c] 24)
  have ONE := Lib.hid one
  clear ih hl hI hb hf one
  by_cases h0 : L = 0
  · subst h0
    have HN := Lib.hid (ok_no (k := k) (n := n) (d := d) (L := 0) HL.out (.inl rfl))
    go_enter Try.func41, Try.ntmps41
    go_wp2
    go_ret
    exact Asks.no HN.out (But.of_below ONE.out) 0 (by omega) (by omega) (HG.out.alloc _)
  · have hL2 : (L == 0) = false := by rw [beq_eq_false_iff_ne]; exact h0
    by_cases hd : 12 < d
    · have HN := Lib.hid (ok_no (k := k) (n := n) (d := d) (L := L) HL.out (.inr (.inl hd)))
      go_enter Try.func41, Try.ntmps41
      go_wp2
      go_ret
      exact Asks.no HN.out (But.of_below ONE.out) L (by omega) (by omega) (HG.out.alloc _)
    · have hd12 : d ≤ 12 := by omega
      have hd2 : decide (12 < d) = false := decide_eq_false hd
      cases hnb : nodeB k n m with
      | false =>
        have HN := Lib.hid (ok_no (k := k) (n := n) (d := d) (L := L) HL.out (.inr (.inr hnb)))
        go_enter Try.func41, Try.ntmps41
        go_wp2_with (go_at_call 42; refine (isNode_any k n A m c _ hm).mono ?_; rw [hnb]; rintro e w1 ⟨rfl, hb4⟩)
        go_ret
        exact Asks.no HN.out (But.of_below (after_one hb4).1) L (by omega) (by omega) (((HG.out.alloc _).kept (row := none) ⟨hb4.os, hb4.tape, hb4.output, hb4.size, fun b hb _ => hb4.block b hb⟩ (by simp)))
      | true =>
        go_enter Try.func41, Try.ntmps41
        go_wp2_with (go_at_call 42; refine (isNode_any k n A m c _ hm).mono ?_; rw [hnb]; rintro e w1 ⟨rfl, hb4⟩
                     obtain ⟨x0, x1, x2⟩ := box_cells hb4
                     have hb5 := (after_one hb4).1
                     have hg5 : Boxed w1 g 3 (.int .i64 L) := (hb5.block g HG.out.lt).trans HG.out
                     have HG5 := Lib.hid hg5
                     have HB5 := Lib.hid hb5
                     have cg5 := hg5.cell
                     have fg5 := hg5.frozen
                     have lg5 := hg5.lt
                     clear hb4 hb5 hg5 cg)
        obtain ⟨W1, hW1⟩ : ∃ W1, w1.setCell ⟨g, 0, none⟩ (.int .i64 (L - 1)) = W1 := ⟨_, rfl⟩
        have b1 : But g w W1 := by rw [← hW1]; exact (But.of_below HB5.out).set _
        have g1 : Boxed W1 g 3 (.int .i64 (L - 1)) := by rw [← hW1]; exact HG5.out.set _
        rw [hW1]
        have B1 := Lib.hid b1
        have G1 := Lib.hid g1
        have HNB := Lib.hid hnb
        clear hW1 b1 g1 cg5 fg5 x0 x1 x2 hnb lg5
        go_loopw [25] (fun v wr => ∃ j : Nat, j ≤ m ∧ v = .int .i64 j ∧ But g w wr ∧ Boxed wr g 3 (.int .i64 (L - 1 - Te.sizes (l.take j))) ∧ Te.goods (l.take j) = true ∧ (Te.sizes (l.take j) : Int) + 1 ≤ L ∧ d + Te.depths (l.take j) ≤ 12) (fun v _ => m - (intOf v).toNat)
        case atStart => exact ⟨0, Nat.zero_le _, rfl, B1.out, by simpa [Te.sizes] using G1.out, by simp [Te.goods], by simp [Te.sizes]; omega, by simp [Te.depths]; omega⟩
        case round =>
          obtain ⟨j, hj, rfl, hbw, hgw, hgd, hsz, hdp⟩ := hrel
          by_cases hlt : j < m
          · have hjl : j < l.length := by rw [HL.out]; exact hlt
            have hb2 : Below B w0 wr := HB.out.trans (hbw.below hBg (by omega))
            obtain ⟨b, off, k', n', A', m', c', rfl, hPb, hbl, hI', h0, h1, h2⟩ := HI.out.arg j hlt hjl
            have c0 := (hb2.cell (p := ⟨b, off + j * 3, none⟩) hPb).trans h0
            have c1 := (hb2.cell (p := ⟨b, off + j * 3 + 1, none⟩) hPb).trans h1
            have c2 := (hb2.cell (p := ⟨b, off + j * 3 + 2, none⟩) hPb).trans h2
            have hfw := hbw.boxed HF.out hgf
            have hpw := (hgw.alloc (.cells #[.int .i64 k', .int .i64 n', .slice A' m' c'] 24))
            have hfw2 := (hfw.alloc (.cells #[.int .i64 k', .int .i64 n', .slice A' m' c'] 24))
            have cf := hfw2.cell
            have hb3 := hb2.alloc (by have := hgw.lt; omega) (.cells #[.int .i64 k', .int .i64 n', .slice A' m' c'] 24)
            have hst := Te.sizes_take l j hjl
            have hsd := Te.depths_take l j hjl
            have hsg := Te.goods_take l j hjl
            have hcall := IH.out j hjl k' n' A' m' c' hI' _ (L - 1 - Te.sizes (l.take j)) (d + 1) hb3 (by omega) (by omega) (by omega) (by omega) hpw hfw2
            have hps := ok_stop (k := k) (n := n) (L := L) (d := d) hjl
            have hok := okB_is l[j] (L - 1 - Te.sizes (l.take j)) (d + 1)
            have HBW := Lib.hid hbw
            unfold Asks at hcall
            cases hx : okB l[j] (L - 1 - Te.sizes (l.take j)) (d + 1) with
            | true =>
              rw [hx] at hcall
              obtain ⟨hq1, hq2, hq3⟩ := hok.1 hx
              have HC := Lib.hid hcall
              have n1 : Te.goods (l.take (j + 1)) = true := by rw [hsg, hgd, hq1]; rfl
              have n2 : (Te.sizes (l.take (j + 1)) : Int) + 1 ≤ L := by omega
              have n3 : d + (Te.depths (l.take (j + 1)) : Int) ≤ 12 := by omega
              have n4 : L - 1 - (Te.sizes (l.take (j + 1)) : Int) = L - 1 - Te.sizes (l.take j) - l[j].size := by omega
              have N1 := Lib.hid n1
              have N2 := Lib.hid n2
              have N3 := Lib.hid n3
              have N4 := Lib.hid n4
              clear h0 h1 h2 hb2 hbw hgw hfw hpw hfw2 hb3 hcall hI' hst hsd hsg hps hok hx hq1 hq2 hq3 hgd hsz hdp n1 n2 n3 n4
              go_wp2_with (go_at_call 41; refine HC.out.mono ?_; rintro e w3 ⟨rfl, hb4, L', hl0, hl1, hB4, hE⟩; have HE := Lib.hid (hE rfl); clear hE)
              go_roundw
              case rel => exact ⟨j + 1, by omega, by go_num, HBW.out.trans (((But.refl g _).alloc _).trans hb4), by rw [N4.out, ← HE.out]; exact hB4, N1.out, N2.out, N3.out⟩
              case measure => simp [intOf]; omega
            | false =>
              rw [hx] at hcall
              have HC := Lib.hid hcall
              have HN := Lib.hid (hps hx)
              have hs0 : 0 ≤ (Te.sizes (l.take j) : Int) := by omega
              clear h0 h1 h2 hb2 hbw hgw hfw hpw hfw2 hb3 hcall hI' hst hsd hsg hps hok hx hgd hdp
              go_wp2_with (go_at_call 41; refine HC.out.mono ?_; rintro e w3 ⟨rfl, hb4, L', hl0, hl1, hB4, hE⟩; clear hE)
              go_ret
              exact Asks.no HN.out (HBW.out.trans (((But.refl g _).alloc _).trans hb4)) L' hl0 (by omega) hB4
          · obtain rfl : j = m := by omega
            have htl : l.take j = l := List.take_of_length_le (by rw [HL.out]; exact Nat.le_refl _)
            rw [htl] at hgw hgd hsz hdp
            have HY := Lib.hid (ok_done HL.out HNB.out hgd hsz hdp)
            have HG := Lib.hid hgw
            have HBW := Lib.hid hbw
            clear hgw hbw hgd htl
            go_wp2
            go_ret
            have e : L - ((Te.node k n l).size : Int) = L - 1 - Te.sizes l := by simp only [Te.size]; omega
            exact Asks.yes HY.out HBW.out (by rw [e]; exact HG.out)

set_option maxHeartbeats 1000000 in
theorem may_any (P : Nat → Prop) (t : Te) (k n : Int) (A : Option Addr) (m c : Nat) (w : World) (hI : Is P w t k n A m c) :
    Calls Try.prog 23 #[.agg #[.int .i64 k, .int .i64 n, .slice A m c]] w (GivesB t.may w) := by
  have hmf := hmf
  obtain ⟨hb, hg, hf⟩ := three_boxes w (.cells #[.int .i64 k, .int .i64 n, .slice A m c] 24) 3 45 (.int .i64 60) (.func (.func 41) #[] #[.pointer (some ⟨w.heap.size + 1, 0, none⟩), .pointer (some ⟨w.heap.size + 1 + 1, 0, none⟩)])
  have hc := may_in w.heap.size (w.heap.size + 1) (w.heap.size + 1 + 1) (by omega) (by omega) w t k n A m c hI.old _ 60 1 hb (by omega) (by omega) (by omega) (by omega) hg hf
  unfold Asks at hc
  rw [okB_may] at hc
  have HC := Lib.hid hc
  have HB := Lib.hid hb
  clear hb hg hf hI hc
  go_enter Try.func23, Try.ntmps23
  go_wp2_with (go_at_call 41; refine HC.out.mono ?_; rintro e w1 ⟨rfl, hb4, _⟩; have HB4 := Lib.hid hb4; clear hb4)
  go_ret
  exact ⟨rfl, HB.out.trans (HB4.out.below (by omega) (by simp; omega))⟩
end Go.Proofs.Ytcpeaeefphgbaaa
