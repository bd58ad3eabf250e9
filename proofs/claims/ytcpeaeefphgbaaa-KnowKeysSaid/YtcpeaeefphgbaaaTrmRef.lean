/- The walks over the document's answers for terms: how many nodes, as far as told; Light. -/
import Derived.Test.YtcpeaeefphgbaaaTrmSize
namespace Go.Proofs.Ytcpeaeefphgbaaa
set_option linter.unusedVariables false
set_option linter.unusedSimpArgs false
open Go.RowKit

/-- how many nodes, as far as they are no more than most, and none stands below so deep -/
def lightF (s d most deep : Int) : Int := if d ≤ deep ∧ s ≤ most then s else most + 1
theorem lightF_is (s d most deep : Int) : (d ≤ deep ∧ s ≤ most ∧ lightF s d most deep = s) ∨ (¬ (d ≤ deep ∧ s ≤ most) ∧ lightF s d most deep = most + 1) := by
  unfold lightF
  split
  · exact .inl ⟨by omega, by omega, rfl⟩
  · exact .inr ⟨by assumption, rfl⟩
def lightN (t : Te) (most deep : Int) : Int := lightF t.size t.depth most deep
theorem light_zero (k n : Int) (l : List Te) (most deep : Int) (hm : 0 ≤ most) (hd : 0 < deep) : lightN (.node k n (l.take 0)) most deep = 1 := by
  have h := lightF_is ((Te.node k n (l.take 0)).size) ((Te.node k n (l.take 0)).depth) most deep
  unfold lightN
  simp only [List.take_zero, Te.depth, Te.size, Te.depths, Te.sizes] at h ⊢
  omega
theorem light_le (t : Te) (most deep : Int) : lightN t most deep ≤ most + 1 := by
  have h := lightF_is t.size t.depth most deep
  unfold lightN
  omega
theorem light_pos (t : Te) (most deep : Int) (hm : 0 ≤ most) : 1 ≤ lightN t most deep := by
  have h := lightF_is t.size t.depth most deep
  have := Te.size_pos t
  unfold lightN
  omega
theorem light_step (k n : Int) (l : List Te) (j : Nat) (hj : j < l.length) (most deep : Int) (hm : 0 ≤ most) (h : lightN (.node k n (l.take j)) most deep ≤ most) :
    lightN (.node k n (l.take j)) most deep + lightN l[j] (most - lightN (.node k n (l.take j)) most deep) (deep - 1) = lightN (.node k n (l.take (j + 1))) most deep := by
  have h1 := Te.depths_take l j hj
  have h2 := Te.sizes_take l j hj
  have e1 := lightF_is ((Te.node k n (l.take j)).size) ((Te.node k n (l.take j)).depth) most deep
  have e2 := lightF_is ((Te.node k n (l.take (j + 1))).size) ((Te.node k n (l.take (j + 1))).depth) most deep
  have e3 := lightF_is l[j].size l[j].depth (most - lightN (.node k n (l.take j)) most deep) (deep - 1)
  unfold lightN at *
  simp only [Te.depth, Te.size] at *
  rw [h1, h2] at e2 ⊢
  omega
theorem light_stop (k n : Int) (l : List Te) (j : Nat) (most deep : Int) (hm : 0 ≤ most) (h : most < lightN (.node k n (l.take j)) most deep) : lightN (.node k n (l.take j)) most deep = lightN (.node k n l) most deep := by
  have h1 := Te.depths_le l j
  have h2 := Te.sizes_le l j
  have e1 := lightF_is ((Te.node k n (l.take j)).size) ((Te.node k n (l.take j)).depth) most deep
  have e2 := lightF_is ((Te.node k n l).size) ((Te.node k n l).depth) most deep
  unfold lightN at *
  simp only [Te.depth, Te.size] at *
  omega
/-- the cells of what came in, in a box of its own -/
theorem box_cells {w wr : World} {v0 v1 v2 : Value} {t : TypeId} (h : Below (w.alloc (.cells #[v0, v1, v2] t)).heap.size (w.alloc (.cells #[v0, v1, v2] t)) wr) :
    wr.cell? ⟨w.heap.size, 0, none⟩ = some v0 ∧ wr.cell? ⟨w.heap.size, 1, none⟩ = some v1 ∧ wr.cell? ⟨w.heap.size, 2, none⟩ = some v2 := by
  have h1 := after_alloc h
  exact ⟨(cell_of_row _ _ _ _ _ _ h1).trans rfl, (cell_of_row _ _ _ _ _ _ h1).trans rfl, (cell_of_row _ _ _ _ _ _ h1).trans rfl⟩

set_option maxHeartbeats 1000000 in
theorem nodes_in (w0 : World) : ∀ (t : Te) (k n : Int) (A : Option Addr) (m c : Nat), Is (· < w0.heap.size) w0 t k n A m c →
    ∀ (w : World) (most deep : Int), Below w0.heap.size w0 w → 0 ≤ most → most ≤ 1000 → deep ≤ 1000 → -1000 ≤ deep →
    Calls Try.prog 28 #[.agg #[.int .i64 k, .int .i64 n, .slice A m c], .int .i64 most, .int .i64 deep] w (GivesN (lightN t most deep) w) := by
  refine Is.ind fun k n l A m c hI ih w most deep hb hm0 hm1 hd1 hd0 => ?_
  have IH := Lib.hid ih
  obtain ⟨hl, -, -, hm⟩ := hI.len
  have HI := Lib.hid hI
  have HL := Lib.hid hl
  have HB := Lib.hid hb
  clear ih hl hI hb
  by_cases hd : deep ≤ 0
  · go_enter Try.func28, Try.ntmps28
    go_wp2
    go_ret
    refine ⟨?_, one_alloc _ _⟩
    have e : lightN (.node k n l) most deep = most + 1 := by
      have h := lightF_is ((Te.node k n l).size) ((Te.node k n l).depth) most deep
      have := Te.depth_pos (.node k n l)
      unfold lightN
      omega
    rw [e]
    rfl
  · have h0 := light_zero k n l most deep hm0 (by omega)
    have H0 := Lib.hid h0
    clear h0
    go_enter Try.func28, Try.ntmps28
    go_wp2
    obtain ⟨W1, hW1⟩ : ∃ W1, w.alloc (.cells #[.int .i64 k, .int .i64 n, .slice A m c] 24) = W1 := ⟨_, rfl⟩
    have HW := Lib.hid hW1
    rw [hW1]
    clear hW1
    go_loopw [7, 8] (fun u v wr => ∃ j : Nat, j ≤ m ∧ v = .int .i64 j ∧ u = .int .i64 (lightN (.node k n (l.take j)) most deep) ∧ Below W1.heap.size W1 wr) (fun _ v _ => m - (intOf v).toNat)
    case atStart => exact ⟨0, Nat.zero_le _, rfl, by rw [H0.out], Below.refl _ _⟩
    case round =>
      obtain ⟨j, hj, rfl, rfl, hbw⟩ := hrel
      have hbb := hbw
      rw [← HW.out] at hbb
      obtain ⟨x0, x1, x2⟩ := box_cells hbb
      have hb1 : Below w.heap.size w wr := (after_one hbb).1
      have hb2 : Below w0.heap.size w0 wr := HB.out.trans (hb1.mono HB.out.size)
      have HB1 := Lib.hid hb1
      have HBW := Lib.hid hbw
      have hle := light_le (.node k n (l.take j)) most deep
      have hge := light_pos (.node k n (l.take j)) most deep hm0
      by_cases hlt : j < m
      · have hjl : j < l.length := by rw [HL.out]; exact hlt
        have hst := light_step k n l j hjl most deep hm0
        have hsp := light_stop k n l j most deep hm0
        obtain ⟨a, ha⟩ : ∃ a, lightN (.node k n (l.take j)) most deep = a := ⟨_, rfl⟩
        rw [ha] at hst hsp hle hge ⊢
        by_cases hmo : a ≤ most
        · obtain ⟨b, off, k', n', A', m', c', rfl, hPb, hbl, hI', h0, h1, h2⟩ := HI.out.arg j hlt hjl
          have c0 := (hb2.cell (p := ⟨b, off + j * 3, none⟩) hPb).trans h0
          have c1 := (hb2.cell (p := ⟨b, off + j * 3 + 1, none⟩) hPb).trans h1
          have c2 := (hb2.cell (p := ⟨b, off + j * 3 + 2, none⟩) hPb).trans h2
          have HC := Lib.hid (IH.out j hjl k' n' A' m' c' hI' wr (most - a) (deep - 1) hb2 (by omega) (by omega) (by omega) (by omega))
          have hbo := light_le l[j] (most - a) (deep - 1)
          have hbp := light_pos l[j] (most - a) (deep - 1) (by omega)
          have HST := Lib.hid (hst hmo)
          obtain ⟨x, hx⟩ : ∃ x, lightN l[j] (most - a) (deep - 1) = x := ⟨_, rfl⟩
          rw [hx] at HC HST hbo hbp
          clear h0 h1 h2 hb1 hb2 hbw hbb hI' hst hsp ha hx
          go_wp2_with (go_at_call 28; refine HC.out.mono ?_; rintro e w1 ⟨rfl, hb4⟩)
          go_roundw
          case rel => exact ⟨j + 1, by omega, by go_num, by rw [← HST.out], HBW.out.trans (hb4.mono HBW.out.size)⟩
          case measure => simp [intOf]; omega
        · have HSP := Lib.hid (hsp (by omega))
          have hmo2 : decide (a ≤ most) = false := by rw [decide_eq_false_iff_not]; exact hmo
          clear hb1 hb2 hbw hbb hst hsp ha
          go_wp2
          go_ret
          exact ⟨by rw [HSP.out]; rfl, HB1.out⟩
      · obtain rfl : j = m := by omega
        have htl : l.take j = l := List.take_of_length_le (by rw [HL.out]; exact Nat.le_refl _)
        rw [htl] at hle hge ⊢
        obtain ⟨a, ha⟩ : ∃ a, lightN (.node k n l) most deep = a := ⟨_, rfl⟩
        rw [ha] at hle hge ⊢
        have HA := Lib.hid ha
        clear hb1 hb2 hbw hbb ha htl
        go_wp2
        go_ret
        exact ⟨by rw [HA.out]; rfl, HB1.out⟩
theorem nodes_any (P : Nat → Prop) (t : Te) (k n : Int) (A : Option Addr) (m c : Nat) (w : World) (hI : Is P w t k n A m c) (most deep : Int) (hm0 : 0 ≤ most) (hm1 : most ≤ 1000) (hd1 : deep ≤ 1000) (hd0 : -1000 ≤ deep) :
    Calls Try.prog 28 #[.agg #[.int .i64 k, .int .i64 n, .slice A m c], .int .i64 most, .int .i64 deep] w (GivesN (lightN t most deep) w) :=
  nodes_in w t k n A m c hI.old w most deep (Below.refl _ _) hm0 hm1 hd1 hd0
/-- has a term at most so many nodes, and so many below one another? -/
def lightB (t : Te) (most deep : Nat) : Bool := decide (t.depth ≤ deep ∧ t.size ≤ most)
theorem lightB_is (t : Te) (most deep : Nat) : decide (lightN t most deep ≤ (most : Int)) = lightB t most deep := by
  have h := lightF_is t.size t.depth most deep
  unfold lightN lightB
  rw [decide_eq_decide]
  omega
/-- behind a call that gives a bool, and leaves all that was there -/
def GivesB (b : Bool) (w : World) (e : Ending) (w' : World) : Prop := e = .returned (.bool b) ∧ Below w.heap.size w w'
theorem light_any (P : Nat → Prop) (t : Te) (k n : Int) (A : Option Addr) (m c : Nat) (w : World) (hI : Is P w t k n A m c) :
    Calls Try.prog 12 #[.agg #[.int .i64 k, .int .i64 n, .slice A m c]] w (GivesB (lightB t 150 20) w) := by
  have hb := one_alloc w (.cells #[.int .i64 k, .int .i64 n, .slice A m c] 24)
  have HC := Lib.hid (nodes_any (· < w.heap.size) t k n A m c (w.alloc (.cells #[.int .i64 k, .int .i64 n, .slice A m c] 24)) (hI.old.below hb) 150 20 (by omega) (by omega) (by omega) (by omega))
  have HL := Lib.hid (lightB_is t 150 20)
  have h1 := light_le t 150 20
  have h2 := light_pos t 150 20 (by omega)
  obtain ⟨a, ha⟩ : ∃ a, lightN t ((150 : Nat) : Int) ((20 : Nat) : Int) = a := ⟨_, rfl⟩
  rw [ha] at HL
  have ha2 : lightN t 150 20 = a := ha
  rw [ha2] at HC h1 h2
  clear hb hI ha ha2
  go_enter Try.func12, Try.ntmps12
  go_wp2_with (go_at_call 28; refine HC.out.mono ?_; rintro e w1 ⟨rfl, hb4⟩; have HB := Lib.hid (after_one hb4).1; clear hb4)
  go_ret
  exact ⟨by rw [← HL.out]; rfl, HB.out⟩
end Go.Proofs.Ytcpeaeefphgbaaa
