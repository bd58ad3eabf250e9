/- The walk over the document's answer Parts. -/
import Derived.Test.YtcpeaeefphgbaaaKnwRTaken
namespace Go.Proofs.Ytcpeaeefphgbaaa
set_option linter.unusedVariables false
set_option linter.unusedSimpArgs false
open Go.RowKit

theorem Had.gives {w w' : World} {B : Nat} {v : Value} {rows : List (List Value)} {l : List Te} (h : Had w' B v rows l) (hb : Below w.heap.size w w') : GivesL l w (.returned v) w' := by
  obtain ⟨A, m, c, rfl, hI⟩ := h.is
  exact ⟨A, m, c, rfl, hI, hb⟩
/-- what was there ahead of the call does not lie in what it made -/
theorem Had.clear {w w' : World} {v : Value} {rows : List (List Value)} {l : List Te} (h : Had w' w.heap.size v rows l) {P : Nat → Prop} {t : Te} {k n : Int} {A : Option Addr} {m c : Nat} (hI : Is P w t k n A m c) (hb : Below w.heap.size w w') : Is (fun b => v.ownBlock ≠ some b) w' t k n A m c :=
  (hI.old.below hb).mono fun b hlt e => by have := (h.own.size b e).1; omega
set_option maxHeartbeats 2000000 in
theorem rparts_any (P : Nat → Prop) (l : List Te) (A : Option Addr) (m c : Nat) (w : World) (hI : Is P w (.node 0 0 l) 0 0 A m c) (hs : ∀ t ∈ l, (t.size : Int) ≤ 4611686018427387904) (hz : Te.sizes l ≤ 1000000) :
    Calls Try.prog 15 #[.slice A m c] w (GivesL (partsOf l) w) := by
  obtain ⟨hl, -, -, hm⟩ := hI.len
  have hc := rmayL_any P l A m c w hI hs
  have HM := Lib.hid hc
  have HI := Lib.hid hI.old
  have HL := Lib.hid hl
  clear hl hI hc hs
  cases hmay : mayL l
  all_goals
    rw [hmay] at HM
    have HMAY := Lib.hid hmay
    clear hmay
    go_enter Try.func15, Try.ntmps15
    go_wp2_with (go_at_call 18; refine HM.out.mono ?_; rintro e w1 ⟨rfl, hb1⟩; have HB1 := Lib.hid hb1; clear hb1)
  · go_loopw [4, 5] (fun v i wr => i = .int .i64 0 ∧ v = .slice none 0 0 ∧ wr = w1) (fun _ _ _ => 0)
    case atStart => exact ⟨rfl, rfl, rfl⟩
    case round =>
      obtain ⟨rfl, rfl, rfl⟩ := hrel
      have hfin : GivesL (partsOf l) w (.returned (.slice none 0 0)) wr := by
        rw [partsOf, HMAY.out]
        exact (Had.nil wr 0).gives HB1.out
      have HFIN := Lib.hid hfin
      clear hfin
      by_cases hm0 : 0 < m
      · have q1 : (0 : Int) < m := by omega
        go_wp2
        go_ret
        exact HFIN.out
      · obtain rfl : m = 0 := by omega
        go_wp2
        go_ret
        exact HFIN.out
  · go_loopw [4, 5] (fun v i wr => ∃ (j : Nat) (rows : List (List Value)), j ≤ m ∧ i = .int .i64 j ∧ Had wr w.heap.size v rows (adds [] (Te.partsL (l.take j))) ∧ Below w.heap.size w wr) (fun _ i _ => m - (intOf i).toNat)
    case atStart => exact ⟨0, [], Nat.zero_le _, rfl, by rw [List.take_zero]; exact Had.nil _ _, HB1.out⟩
    case round =>
      obtain ⟨j, rows, hj, rfl, hHr, hbw⟩ := hrel
      by_cases hlt : j < m
      · have hjl : j < l.length := by rw [HL.out]; exact hlt
        obtain ⟨b, off, k', n', A', m', c', rfl, hI', z0, z1, z2⟩ := HI.out.at_ hbw j hlt hjl
        obtain ⟨_, _, k2, n2, A2, m2, c2, hA, _, hbl, hI2, h0, h1, h2⟩ := HI.out.arg j hlt hjl
        have e0 := (hbw.cell (block_lt_of_cell h0)).trans h0
        have e1 := (hbw.cell (block_lt_of_cell h1)).trans h1
        have e2 := (hbw.cell (block_lt_of_cell h2)).trans h2
        injection hA with hA
        injection hA with hA1 hA2 _
        subst hA1 hA2
        rw [z0] at e0
        rw [z1] at e1
        rw [z2] at e2
        injection e0 with e0
        injection e0 with _ e0
        injection e1 with e1
        injection e1 with _ e1
        injection e2 with e2
        injection e2 with e2 e3 e4
        subst e0 e1 e2 e3 e4
        have hln : (adds [] (Te.partsL (l.take j))).length + l[j].size ≤ 1000000 := by
          have e1 := adds_len [] (Te.partsL (l.take j))
          have e2 := Te.partsL_len (l.take j)
          have e3 := Te.size_mem hjl
          rw [List.length_nil] at e1
          omega
        have HCA := Lib.hid (rtaken_in w.heap.size l[j] k' n' A' m' c' wr u4 rows _ (hHr.clear hI2 hbw) hHr hbw.size hln)
        have HST := Lib.hid (Te.partsL_take j hjl)
        have HBW := Lib.hid hbw
        have HSZ := Lib.hid (fun g hg => (hHr.own.size g hg).1)
        have q1 : (j : Int) < m := by omega
        clear hI' hHr hbw hln h0 h1 h2 hI2
        go_wp2_with (go_at_call 32; refine HCA.out.mono ?_; rintro e w5 ⟨v5, rows5, rfl, hH5, hT5⟩)
        go_roundw
        case rel => exact ⟨j + 1, rows5, by omega, by go_num, by rw [HST.out, adds_append]; exact hH5, HBW.out.trans (hT5.to_below HBW.out.size HSZ.out)⟩
        case measure => simp [intOf]; omega
      · obtain rfl : j = m := by omega
        rw [List.take_of_length_le (by rw [HL.out]; exact Nat.le_refl _)] at hHr
        have hfin : GivesL (partsOf l) w (.returned u4) wr := by
          rw [partsOf, if_pos HMAY.out]
          exact hHr.gives hbw
        have HFIN := Lib.hid hfin
        clear hHr hbw hfin
        go_wp2
        go_ret
        exact HFIN.out
end Go.Proofs.Ytcpeaeefphgbaaa
