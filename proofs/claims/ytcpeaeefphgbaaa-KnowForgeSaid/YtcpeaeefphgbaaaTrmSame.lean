/- The walk over the document's answer Same: are two terms the same? -/
import Derived.Test.YtcpeaeefphgbaaaTrmRef
namespace Go.Proofs.Ytcpeaeefphgbaaa
set_option linter.unusedVariables false
set_option linter.unusedSimpArgs false
open Go.RowKit

theorem same_no {k k' n n' : Int} {l l' : List Te} (h : k = k' → n = n' → l.length = l'.length → False) : (Te.node k n l).same (.node k' n' l') = false := by
  rw [Te.same, Bool.and_eq_false_iff, Bool.and_eq_false_iff]
  by_cases h1 : k = k'
  · by_cases h2 : n = n'
    · right
      rw [← Bool.not_eq_true]
      exact fun h3 => h h1 h2 (Te.sames_len h3)
    · exact .inl (.inr (decide_eq_false h2))
  · exact .inl (.inl (decide_eq_false h1))
theorem same_yes {k n : Int} {l l' : List Te} : (Te.node k n l).same (.node k n l') = Te.sames l l' := by simp [Te.same]
/-- the cells of what came in, in two boxes -/
theorem box_cells2 {w wr : World} {v0 v1 v2 u0 u1 u2 : Value} {t : TypeId} (h : Below ((w.alloc (.cells #[v0, v1, v2] t)).alloc (.cells #[u0, u1, u2] t)).heap.size ((w.alloc (.cells #[v0, v1, v2] t)).alloc (.cells #[u0, u1, u2] t)) wr) :
    wr.cell? ⟨w.heap.size, 2, none⟩ = some v2 ∧ wr.cell? ⟨w.heap.size + 1, 2, none⟩ = some u2 := by
  obtain ⟨_, _, h1, h2⟩ := after_two h
  exact ⟨(cell_of_row _ _ _ _ _ _ h1).trans rfl, (cell_of_row _ _ _ _ _ _ h2).trans rfl⟩

set_option maxHeartbeats 1000000 in
theorem rsame_in (w0 : World) : ∀ (t : Te) (k n : Int) (A : Option Addr) (m c : Nat), Is (· < w0.heap.size) w0 t k n A m c →
    ∀ (u : Te) (k2 n2 : Int) (A2 : Option Addr) (m2 c2 : Nat), Is (· < w0.heap.size) w0 u k2 n2 A2 m2 c2 → ∀ (w : World), Below w0.heap.size w0 w →
    Calls Try.prog 29 #[.agg #[.int .i64 k, .int .i64 n, .slice A m c], .agg #[.int .i64 k2, .int .i64 n2, .slice A2 m2 c2]] w (GivesB (t.same u) w) := by
  refine Is.ind fun k n l A m c hI ih u k2 n2 A2 m2 c2 hJ w hb => ?_
  obtain ⟨l2, _, rfl, _⟩ := hJ.inv
  have IH := Lib.hid ih
  obtain ⟨hl, -, -, hm⟩ := hI.len
  obtain ⟨hl2, -, -, hm2⟩ := hJ.len
  have HI := Lib.hid hI
  have HJ := Lib.hid hJ
  have HL := Lib.hid hl
  have HL2 := Lib.hid hl2
  have HB := Lib.hid hb
  clear ih hl hl2 hI hJ hb
  by_cases hk : k = k2
  · by_cases hn : n = n2
    · by_cases hmm : m = m2
      · subst hk hn hmm
        have HE := Lib.hid (HL.out.trans HL2.out.symm)
        rw [same_yes]
        go_enter Try.func29, Try.ntmps29
        go_wp2
        obtain ⟨W1, hW1⟩ : ∃ W1, (w.alloc (.cells #[.int .i64 k, .int .i64 n, .slice A m c] 24)).alloc (.cells #[.int .i64 k, .int .i64 n, .slice A2 m c2] 24) = W1 := ⟨_, rfl⟩
        have HW := Lib.hid hW1
        rw [hW1]
        clear hW1
        go_loopw [5] (fun v wr => ∃ j : Nat, j ≤ m ∧ v = .int .i64 j ∧ Te.sames (l.take j) (l2.take j) = true ∧ Below W1.heap.size W1 wr) (fun v _ => m - (intOf v).toNat)
        case atStart => exact ⟨0, Nat.zero_le _, rfl, by simp [Te.sames], Below.refl _ _⟩
        case round =>
          obtain ⟨j, hj, rfl, hsm, hbw⟩ := hrel
          have hbb := hbw
          rw [← HW.out] at hbb
          obtain ⟨x2, y2⟩ := box_cells2 hbb
          have hb1 : Below w.heap.size w wr := (after_two hbb).1
          have hb2 : Below w0.heap.size w0 wr := HB.out.trans (hb1.mono HB.out.size)
          have HB1 := Lib.hid hb1
          have HBW := Lib.hid hbw
          by_cases hlt : j < m
          · have hjl : j < l.length := by rw [HL.out]; exact hlt
            have hjl2 : j < l2.length := by rw [HL2.out]; exact hlt
            have hst := Te.sames_take l l2 HE.out j hjl hjl2
            have hsp := Te.sames_stop l l2 HE.out j hjl hjl2
            rw [hsm, Bool.true_and] at hst
            obtain ⟨b, off, k', n', A', m', c', rfl, hPb, hbl, hI', h0, h1, h2⟩ := HI.out.arg j hlt hjl
            obtain ⟨b2, off2, k2', n2', A2', m2', c2', rfl, hPb2, hbl2, hJ', g0, g1, g2⟩ := HJ.out.arg j hlt hjl2
            have c0 := (hb2.cell (p := ⟨b, off + j * 3, none⟩) hPb).trans h0
            have c1 := (hb2.cell (p := ⟨b, off + j * 3 + 1, none⟩) hPb).trans h1
            have c2 := (hb2.cell (p := ⟨b, off + j * 3 + 2, none⟩) hPb).trans h2
            have d0 := (hb2.cell (p := ⟨b2, off2 + j * 3, none⟩) hPb2).trans g0
            have d1 := (hb2.cell (p := ⟨b2, off2 + j * 3 + 1, none⟩) hPb2).trans g1
            have d2 := (hb2.cell (p := ⟨b2, off2 + j * 3 + 2, none⟩) hPb2).trans g2
            have HC := Lib.hid (IH.out j hjl k' n' A' m' c' hI' l2[j] k2' n2' A2' m2' c2' hJ' wr.drew hb2.drew)
            have q0 : 0 ≤ (j : Int) := by omega
            have q1 : (j : Int) < m := by omega
            cases hsj : l[j].same l2[j] with
            | true =>
              rw [hsj] at HC hst
              have HST := Lib.hid hst
              clear h0 h1 h2 g0 g1 g2 hb1 hb2 hbw hbb hI' hJ' hst hsp hsj hsm
              go_wp2
              go_still_tail 10, (by kernel_rfl)
              go_wp2_with (go_at_call 29; refine HC.out.mono ?_; rintro e w1 ⟨rfl, hb4⟩; have hb4 := below_draw hb4)
              go_roundw
              case rel => exact ⟨j + 1, by omega, by go_num, HST.out, HBW.out.trans (hb4.mono HBW.out.size)⟩
              case measure => simp [intOf]; omega
            | false =>
              rw [hsj] at HC
              have HST := Lib.hid (hsp hsj)
              clear h0 h1 h2 g0 g1 g2 hb1 hb2 hbw hbb hI' hJ' hst hsp hsj hsm
              go_wp2
              go_still_tail 10, (by kernel_rfl)
              go_wp2_with (go_at_call 29; refine HC.out.mono ?_; rintro e w1 ⟨rfl, hb4⟩; have hb4 := below_draw hb4)
              go_ret
              exact ⟨by rw [HST.out]; rfl, HB1.out.trans (hb4.mono HB1.out.size)⟩
          · obtain rfl : j = m := by omega
            rw [List.take_of_length_le (by rw [HL.out]; exact Nat.le_refl _), List.take_of_length_le (by rw [HL2.out]; exact Nat.le_refl _)] at hsm
            have HS := Lib.hid hsm
            clear hb1 hb2 hbw hbb hsm
            go_wp2
            go_ret
            exact ⟨by rw [HS.out]; rfl, HB1.out⟩
      · subst hk hn
        have hne : ((m : Int) != (m2 : Int)) = true := by rw [bne_iff_ne]; omega
        rw [same_no (fun _ _ h => hmm (HL.out.symm.trans (h.trans HL2.out)))]
        go_enter Try.func29, Try.ntmps29
        go_wp2
        go_ret
        exact ⟨rfl, two_below _ _ _⟩
    · subst hk
      have hne : (n != n2) = true := by rw [bne_iff_ne]; exact hn
      rw [same_no (fun _ h _ => hn h)]
      go_enter Try.func29, Try.ntmps29
      go_wp2
      go_ret
      exact ⟨rfl, two_below _ _ _⟩
  · have hne : (k != k2) = true := by rw [bne_iff_ne]; exact hk
    rw [same_no (fun h _ _ => hk h)]
    go_enter Try.func29, Try.ntmps29
    go_wp2
    go_ret
    exact ⟨rfl, two_below _ _ _⟩
theorem rsame_any (P Q : Nat → Prop) (t u : Te) (k n k2 n2 : Int) (A A2 : Option Addr) (m c m2 c2 : Nat) (w : World) (hI : Is P w t k n A m c) (hJ : Is Q w u k2 n2 A2 m2 c2) :
    Calls Try.prog 29 #[.agg #[.int .i64 k, .int .i64 n, .slice A m c], .agg #[.int .i64 k2, .int .i64 n2, .slice A2 m2 c2]] w (GivesB (t.same u) w) :=
  rsame_in w t k n A m c hI.old u k2 n2 A2 m2 c2 hJ.old w (Below.refl _ _)
end Go.Proofs.Ytcpeaeefphgbaaa
