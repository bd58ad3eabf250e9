/- Joined texts: Package plan's calls All, Same, Next, Least, Cycle; with Fit they are all that the laws stand on. A strings.Builder of the call's own: one letter more is written, what it holds is read. The walks over lamp's May, letter, spell and Text. The walk over slices.Repeat of one nought: a row of noughts. The walks over lamp's served and going; the groups that are not red, as a set. The walk over lamp's Clash. The walk over lamp's Show: a row of noughts, in which the stage's groups are marked. Signal machines as the landed code has them: plans beside a machine. -/
import Derived.Test.YtgnhmdfajnnkhaaSaJL
import Derived.Test.YtgnhmdfajnnkhaaSaJE
import Derived.Lib.Builder
import Derived.Lib.UnsafeStr
import Derived.Laws.Externs
import Derived.Laws.CopyOwn
import Derived.Test.YtgnhmdfajnnkhaaSaJF
import Derived.Test.YtgnhmdfajnnkhaaSaJD
/- Package plan's calls All, Same, Next, Least, Cycle; with Fit they are all that the laws stand on. -/
namespace Go.Proofs.Ytgnhmdfajnnkhaa
set_option maxRecDepth 100000
set_option linter.unusedVariables false
set_option linter.unusedSimpArgs false
open Go.RowKit

set_option maxHeartbeats 8000000 in
theorem pall_own (A : Option Addr) (n c : Nat) (l : List Pl) (w : World) (hl : Pls w A n c l) : Calls Try.prog 42 #[.slice A n c] w fun e w' => e = .returned (.bool (allP l)) ∧ Below w.heap.size w w' := by
  have hsm := hl.small
  have HLL := Lib.hid hl.len
  by_cases hn : n < 1 ∨ 3 < n
  · have HR := Lib.hid (show allP l = false by rw [← Bool.not_eq_true, all_iff]; rintro ⟨h, -⟩; have := HLL.out; omega)
    rcases hn with hn | hn
    all_goals
      clear hl
      go_enter Try.func42, Try.ntmps42
      go_wp2
      go_ret
      exact ⟨by rw [HR.out]; rfl, Below.refl _ _⟩
  · have hn1 : ¬ ((n : Int) < 1) := by omega
    have hn3 : ¬ (3 < (n : Int)) := by omega
    obtain ⟨b, off, p0, rfl, hp0, -, -, hpi0, -⟩ := hl.at_ 0 (by omega)
    have HP0 := Lib.hid hp0
    have HPI0 := Lib.hid hpi0
    have HL := Lib.hid hl
    have hq3 : (0 : Int) < n := by omega
    clear hp0 hpi0 hl
    go_enter Try.func42, Try.ntmps42
    go_wp2
    go_loopw [4, 15] (fun y v wr => ∃ j : Nat, j ≤ n ∧ v = .int .i64 j ∧ (∀ i, i < j → fitP (l.getD i Pl.zero) = true ∧ (l.getD i Pl.zero).m.length = (l.getD 0 Pl.zero).m.length) ∧ Below w.heap.size w wr) (fun _ v _ => n - (intOf v).toNat)
    case atStart => exact ⟨0, by omega, rfl, fun i hi => by omega, Below.refl _ _⟩
    case round =>
      obtain ⟨j, hj, rfl, hall, hbw⟩ := hrel
      have HBW := Lib.hid hbw
      have HAL := Lib.hid hall
      clear hall
      by_cases hlt : j < n
      · have hlt2 : (j : Int) < n := by omega
        have q0 : 0 ≤ (j : Int) := by omega
        obtain ⟨b', off', q, hA, hq, -, -, hqi, z0, z1, z2, z3, z4⟩ := (HL.out.below hbw).at_ j hlt
        cases hA
        obtain ⟨Wa, hWa⟩ : ∃ Wa, wr.alloc (.cells #[.slice q.A q.n q.c, .slice q.B q.k q.d, .int .i64 q.am, .int .i64 q.rd, .int .i64 q.hd] 47) = Wa := ⟨_, rfl⟩
        have hBa : Below wr.heap.size wr Wa := by rw [← hWa]; exact one_alloc wr _
        have hBX : BoxP Wa wr.heap.size q := by rw [← hWa]; exact BoxP.new wr q
        have HB3 := Lib.hid (hbw.trans (hBa.mono hbw.size))
        have HFT := Lib.hid (fun X (hX : Below Wa.heap.size Wa X) => fit_any q X ((hqi.below hBa).below hX))
        simp only [plV] at HFT
        have HF := Lib.hid (show ∀ X, Below Wa.heap.size Wa X → X.cell? ⟨wr.heap.size, 0, none⟩ = some (.slice q.A q.n q.c) ∧ X.cell? ⟨wr.heap.size, 1, none⟩ = some (.slice q.B q.k q.d) ∧ X.cell? ⟨wr.heap.size, 2, none⟩ = some (.int .i64 q.am) ∧ X.cell? ⟨wr.heap.size, 3, none⟩ = some (.int .i64 q.rd) ∧ X.cell? ⟨wr.heap.size, 4, none⟩ = some (.int .i64 q.hd) ∧ X.cell? ⟨b, off, none⟩ = some (.slice p0.A p0.n p0.c) from fun X hX => by
          obtain ⟨y0, y1, y2, y3, y4⟩ := (hBX.below hX).cells
          have hX0 := HB3.out.trans (hX.mono HB3.out.size)
          obtain ⟨b3, off3, q3, hA3, hq3, -, -, -, y5, -, -, -, -⟩ := (HL.out.below hX0).at_ 0 (by omega)
          cases hA3
          obtain rfl := HP0.out.symm.trans hq3
          exact ⟨y0, y1, y2, y3, y4, by simpa using y5⟩)
        have HWA := Lib.hid hWa
        have HQL := Lib.hid hqi.m.len
        have HQ := Lib.hid hq
        have hqs := hqi.m.small
        clear hbw hqi hq hBa hBX hWa
        cases hf : fitP q with
        | false =>
          rw [hf] at HFT
          have HR := Lib.hid (all_no (l := l) (j := j) (by rw [HLL.out]; exact hlt) (.inl (by rw [HQ.out]; exact hf)))
          clear hf
          go_wp2
          rw [HWA.out]
          clear z0 z1 z2 z3 z4
          have hSd : Below Wa.heap.size Wa Wa.drew := (Below.refl _ Wa).drew
          refine wp_region_held_drew (S := fun X => Below Wa.heap.size Wa X) (by kernel_rfl) hSd (fun hHeld => ?_)
          refine tkS 0 (.agg #[.slice q.A q.n q.c, .slice q.B q.k q.d, .int .i64 q.am, .int .i64 q.rd, .int .i64 q.hd]) hHeld (fun w hq => ?_) ?_
          · obtain ⟨z0, z1, z2, z3, z4, z5⟩ := HF.out w hq
            go_simp
          simp only [PT]
          refine one_step 1 (by kernel_rfl) rfl (fun Kq hKq => ?_)
          go_simp
          go_at_call 59
          (with_reducible refine (HFT.out _ hSd).mono ?_)
          rintro e y1 ⟨rfl, hbx⟩
          have hS1 : Below Wa.heap.size Wa y1 := hSd.trans (hbx.mono hSd.size)
          clear hbx
          refine hKq.out _ _ hS1 (fun hHeld0 => ?_)
          clear hKq Kq hHeld
          have hHeld := hHeld0
          clear hHeld0
          try simp only [PT]
          refine tk 2 (.bool true) hHeld (fun w => ?_) ?_
          · go_simp
          simp only [PT]
          refine tk 3 (.bool true) hHeld (fun w => ?_) ?_
          · go_simp
          simp only [PT]
          refine tkO 4 hHeld ?_
          simp only [PT]
          refine tkO 5 hHeld ?_
          simp only [PT]
          refine tkO 6 hHeld ?_
          simp only [PT]
          refine tkO 7 hHeld ?_
          simp only [PT]
          refine tkO 8 hHeld ?_
          simp only [PT]
          refine tkO 9 hHeld ?_
          simp only [PT]
          refine tkO 10 hHeld ?_
          simp only [PT]
          refine tkO 11 hHeld ?_
          simp only [PT]
          refine tkO 12 hHeld ?_
          simp only [PT]
          refine tk 13 (.bool true) hHeld (fun w => ?_) ?_
          · go_simp
          simp only [PT]
          refine wpAnyH_done (by kernel_rfl) ?_ _
          clear hHeld
          go_wp2
          go_ret
          exact ⟨by rw [HR.out]; rfl, HB3.out.trans (hS1.mono HB3.out.size)⟩
        | true =>
          rw [hf] at HFT
          obtain ⟨D, hD⟩ : ∃ D, ((q.n : Int) != (p0.n : Int)) = D := ⟨_, rfl⟩
          have hqm := HQL.out
          have hpm := HPI0.out.m.len
          cases D
          · have HN := Lib.hid (show ∀ i, i < j + 1 → fitP (l.getD i Pl.zero) = true ∧ (l.getD i Pl.zero).m.length = (l.getD 0 Pl.zero).m.length from fun i hi => by
              by_cases e : i = j
              · subst e
                rw [HQ.out, HP0.out]
                exact ⟨hf, by simp at hD; omega⟩
              · exact HAL.out i (by omega))
            clear hf hqm hpm
            go_wp2
            rw [HWA.out]
            clear z0 z1 z2 z3 z4
            have hSd : Below Wa.heap.size Wa Wa.drew := (Below.refl _ Wa).drew
            refine wp_region_held_drew (S := fun X => Below Wa.heap.size Wa X) (by kernel_rfl) hSd (fun hHeld => ?_)
            refine tkS 0 (.agg #[.slice q.A q.n q.c, .slice q.B q.k q.d, .int .i64 q.am, .int .i64 q.rd, .int .i64 q.hd]) hHeld (fun w hq => ?_) ?_
            · obtain ⟨z0, z1, z2, z3, z4, z5⟩ := HF.out w hq
              go_simp
            simp only [PT]
            refine one_step 1 (by kernel_rfl) rfl (fun Kq hKq => ?_)
            go_simp
            go_at_call 59
            (with_reducible refine (HFT.out _ hSd).mono ?_)
            rintro e y1 ⟨rfl, hbx⟩
            have hS1 : Below Wa.heap.size Wa y1 := hSd.trans (hbx.mono hSd.size)
            clear hbx
            refine hKq.out _ _ hS1 (fun hHeld0 => ?_)
            clear hKq Kq hHeld
            have hHeld := hHeld0
            clear hHeld0
            try simp only [PT]
            refine tk 2 (.bool false) hHeld (fun w => ?_) ?_
            · go_simp
            simp only [PT]
            refine tk 3 (.bool false) hHeld (fun w => ?_) ?_
            · go_simp
            simp only [PT]
            refine tk 4 (.pointer (some ⟨wr.heap.size, 0, none⟩)) hHeld (fun w => ?_) ?_
            · go_simp
            simp only [PT]
            refine tkS 5 (.slice q.A q.n q.c) hHeld (fun w hq => ?_) ?_
            · obtain ⟨z0, z1, z2, z3, z4, z5⟩ := HF.out w hq
              go_simp
            simp only [PT]
            refine tk 6 (.int .i64 (q.n : Int)) hHeld (fun w => ?_) ?_
            · go_simp
            simp only [PT]
            refine tk 7 (.slice (some ⟨b, off, none⟩) n c) hHeld (fun w => ?_) ?_
            · go_simp
            simp only [PT]
            refine tk 8 (.pointer (some ⟨b, off, none⟩)) hHeld (fun w => ?_) ?_
            · (go_simp; intro hz; omega)
            simp only [PT]
            refine tk 9 (.pointer (some ⟨b, off, none⟩)) hHeld (fun w => ?_) ?_
            · go_simp
            simp only [PT]
            refine tkS 10 (.slice p0.A p0.n p0.c) hHeld (fun w hq => ?_) ?_
            · obtain ⟨z0, z1, z2, z3, z4, z5⟩ := HF.out w hq
              go_simp
            simp only [PT]
            refine tk 11 (.int .i64 (p0.n : Int)) hHeld (fun w => ?_) ?_
            · go_simp
            simp only [PT]
            refine tk 12 (.bool false) hHeld (fun w => ?_) ?_
            · go_simp
            simp only [PT]
            refine tk 13 (.bool false) hHeld (fun w => ?_) ?_
            · go_simp
            simp only [PT]
            refine wpAnyH_done (by kernel_rfl) ?_ _
            clear hHeld
            go_wp2
            go_roundw
            case rel => exact ⟨j + 1, by omega, by go_num, HN.out, HB3.out.trans (hS1.mono HB3.out.size)⟩
            case measure => simp [intOf]; omega
          · have HR := Lib.hid (all_no (l := l) (j := j) (by rw [HLL.out]; exact hlt) (.inr (by rw [HQ.out, HP0.out]; simp at hD; omega)))
            clear hf hqm hpm
            go_wp2
            rw [HWA.out]
            clear z0 z1 z2 z3 z4
            have hSd : Below Wa.heap.size Wa Wa.drew := (Below.refl _ Wa).drew
            refine wp_region_held_drew (S := fun X => Below Wa.heap.size Wa X) (by kernel_rfl) hSd (fun hHeld => ?_)
            refine tkS 0 (.agg #[.slice q.A q.n q.c, .slice q.B q.k q.d, .int .i64 q.am, .int .i64 q.rd, .int .i64 q.hd]) hHeld (fun w hq => ?_) ?_
            · obtain ⟨z0, z1, z2, z3, z4, z5⟩ := HF.out w hq
              go_simp
            simp only [PT]
            refine one_step 1 (by kernel_rfl) rfl (fun Kq hKq => ?_)
            go_simp
            go_at_call 59
            (with_reducible refine (HFT.out _ hSd).mono ?_)
            rintro e y1 ⟨rfl, hbx⟩
            have hS1 : Below Wa.heap.size Wa y1 := hSd.trans (hbx.mono hSd.size)
            clear hbx
            refine hKq.out _ _ hS1 (fun hHeld0 => ?_)
            clear hKq Kq hHeld
            have hHeld := hHeld0
            clear hHeld0
            try simp only [PT]
            refine tk 2 (.bool false) hHeld (fun w => ?_) ?_
            · go_simp
            simp only [PT]
            refine tk 3 (.bool false) hHeld (fun w => ?_) ?_
            · go_simp
            simp only [PT]
            refine tk 4 (.pointer (some ⟨wr.heap.size, 0, none⟩)) hHeld (fun w => ?_) ?_
            · go_simp
            simp only [PT]
            refine tkS 5 (.slice q.A q.n q.c) hHeld (fun w hq => ?_) ?_
            · obtain ⟨z0, z1, z2, z3, z4, z5⟩ := HF.out w hq
              go_simp
            simp only [PT]
            refine tk 6 (.int .i64 (q.n : Int)) hHeld (fun w => ?_) ?_
            · go_simp
            simp only [PT]
            refine tk 7 (.slice (some ⟨b, off, none⟩) n c) hHeld (fun w => ?_) ?_
            · go_simp
            simp only [PT]
            refine tk 8 (.pointer (some ⟨b, off, none⟩)) hHeld (fun w => ?_) ?_
            · (go_simp; intro hz; omega)
            simp only [PT]
            refine tk 9 (.pointer (some ⟨b, off, none⟩)) hHeld (fun w => ?_) ?_
            · go_simp
            simp only [PT]
            refine tkS 10 (.slice p0.A p0.n p0.c) hHeld (fun w hq => ?_) ?_
            · obtain ⟨z0, z1, z2, z3, z4, z5⟩ := HF.out w hq
              go_simp
            simp only [PT]
            refine tk 11 (.int .i64 (p0.n : Int)) hHeld (fun w => ?_) ?_
            · go_simp
            simp only [PT]
            refine tk 12 (.bool true) hHeld (fun w => ?_) ?_
            · go_simp
            simp only [PT]
            refine tk 13 (.bool true) hHeld (fun w => ?_) ?_
            · go_simp
            simp only [PT]
            refine wpAnyH_done (by kernel_rfl) ?_ _
            clear hHeld
            go_wp2
            go_ret
            exact ⟨by rw [HR.out]; rfl, HB3.out.trans (hS1.mono HB3.out.size)⟩
      · obtain rfl : j = n := by omega
        have hge : ¬ ((j : Int) < j) := by omega
        have HR := Lib.hid (all_yes (l := l) (by have := HLL.out; omega) (fun i hi => HAL.out i (by rw [HLL.out] at hi; exact hi)))
        go_wp2
        go_ret
        exact ⟨by rw [HR.out]; rfl, HBW.out⟩
set_option maxHeartbeats 8000000 in
theorem pnext_own (p : Pl) (x : Int) (w : World) (hp : PlIn w p) : Calls Try.prog 91 #[plV p, .int .i64 x] w fun e w' => e = .returned (.int .i64 (nextP p x)) ∧ Below w.heap.size w w' := by
  have hsk := hp.s.small
  have hsm := hp.m.small
  have hSL := hp.s.len
  have hML := hp.m.len
  obtain ⟨W0, hW0⟩ : ∃ W0, w.alloc (.cells #[.slice p.A p.n p.c, .slice p.B p.k p.d, .int .i64 p.am, .int .i64 p.rd, .int .i64 p.hd] 47) = W0 := ⟨_, rfl⟩
  have hB0 : Below w.heap.size w W0 := by rw [← hW0]; exact one_alloc w _
  have hp0 : PlIn W0 p := hp.below hB0
  have hbp : BoxP W0 w.heap.size p := by rw [← hW0]; exact BoxP.new w p
  have HFT := Lib.hid (fit_any p W0 hp0)
  simp only [plV] at HFT ⊢
  have HW := Lib.hid hW0
  have HB0 := Lib.hid hB0
  have HAC := Lib.hid (show ∀ X, Below W0.heap.size W0 X → X.cell? ⟨w.heap.size, 0, none⟩ = some (.slice p.A p.n p.c) ∧ X.cell? ⟨w.heap.size, 1, none⟩ = some (.slice p.B p.k p.d) ∧ X.cell? ⟨w.heap.size, 2, none⟩ = some (.int .i64 p.am) ∧ X.cell? ⟨w.heap.size, 3, none⟩ = some (.int .i64 p.rd) ∧ X.cell? ⟨w.heap.size, 4, none⟩ = some (.int .i64 p.hd) from fun X hX => (hbp.below hX).cells)
  have HSL := Lib.hid hSL
  have HML := Lib.hid hML
  have HP := Lib.hid hp0
  obtain ⟨a0, a1, a2, a3, a4⟩ := HAC.out W0 (Below.refl _ _)
  clear hW0 hB0 hbp hp hp0
  cases hf : fitP p with
  | false =>
    rw [hf] at HFT
    have HR := Lib.hid (show nextP p x = -1 from if_neg fun h => by rw [hf] at h; cases h.1)
    clear hf
    clear a0 a1 a2 a3 a4 hSL hML
    obtain ⟨A, n, c, m, B, k, d, s, am, rd, hd⟩ := p
    simp only at *
    go_enter Try.func91, Try.ntmps91
    go_wp2_with (go_at_call 59; rw [HW.out]; (with_reducible refine (HFT.out).mono ?_); rintro e w1 ⟨rfl, hb1⟩; obtain ⟨c0, c1, c2, c3, c4⟩ := HAC.out _ hb1; have HB1 := Lib.hid hb1; clear hb1)
    go_ret
    exact ⟨by rw [HR.out]; rfl, HB0.out.trans (HB1.out.mono HB0.out.size)⟩
  | true =>
    rw [hf] at HFT
    by_cases hac : x < 0
    · have HR := Lib.hid (show nextP p x = -1 from if_neg fun h => by omega)
      clear hf
      clear a0 a1 a2 a3 a4 hSL hML
      obtain ⟨A, n, c, m, B, k, d, s, am, rd, hd⟩ := p
      simp only at *
      go_enter Try.func91, Try.ntmps91
      go_wp2_with (go_at_call 59; rw [HW.out]; (with_reducible refine (HFT.out).mono ?_); rintro e w1 ⟨rfl, hb1⟩; obtain ⟨c0, c1, c2, c3, c4⟩ := HAC.out _ hb1; have HB1 := Lib.hid hb1; clear hb1)
      go_ret
      exact ⟨by rw [HR.out]; rfl, HB0.out.trans (HB1.out.mono HB0.out.size)⟩
    by_cases hbc : (p.k : Int) ≤ x
    · have HR := Lib.hid (show nextP p x = -1 from if_neg fun h => by have := HSL.out; omega)
      clear hf
      clear a0 a1 a2 a3 a4 hSL hML
      obtain ⟨A, n, c, m, B, k, d, s, am, rd, hd⟩ := p
      simp only at *
      go_enter Try.func91, Try.ntmps91
      go_wp2_with (go_at_call 59; rw [HW.out]; (with_reducible refine (HFT.out).mono ?_); rintro e w1 ⟨rfl, hb1⟩; obtain ⟨c0, c1, c2, c3, c4⟩ := HAC.out _ hb1; have HB1 := Lib.hid hb1; clear hb1)
      go_ret
      exact ⟨by rw [HR.out]; rfl, HB0.out.trans (HB1.out.mono HB0.out.size)⟩
    have hfx : fitP p = true ∧ 0 ≤ x ∧ x < p.s.length := ⟨hf, by omega, by omega⟩
    have hf2 := (fit_iff.1 hf).two
    have hwx : wrap64 (x + 1) = x + 1 := by unfold wrap64; omega
    have hk0 : ¬ ((p.k : Int) = 0) := by omega
    have HR := Lib.hid (show nextP p x = (x + 1) % (p.k : Int) by
      rw [nextP, if_pos hfx]
      by_cases hl : x = (p.s.length : Int) - 1
      · rw [if_pos hl, show x + 1 = (p.k : Int) by omega, Int.emod_self]
      · rw [if_neg hl, Int.emod_eq_of_lt (by omega) (by omega)])
    clear hfx hf hf2
    clear a0 a1 a2 a3 a4 hSL hML
    obtain ⟨A, n, c, m, B, k, d, s, am, rd, hd⟩ := p
    simp only at *
    go_enter Try.func91, Try.ntmps91
    go_wp2_with (go_at_call 59; rw [HW.out]; (with_reducible refine (HFT.out).mono ?_); rintro e w1 ⟨rfl, hb1⟩; obtain ⟨c0, c1, c2, c3, c4⟩ := HAC.out _ hb1; have HB1 := Lib.hid hb1; clear hb1)
    go_ret
    exact ⟨by rw [HR.out]; rfl, HB0.out.trans (HB1.out.mono HB0.out.size)⟩
end Go.Proofs.Ytgnhmdfajnnkhaa


/- A strings.Builder of the call's own: one letter more is written, what it holds is read. -/
namespace Go.Proofs.Ytgnhmdfajnnkhaa
set_option maxRecDepth 100000
set_option linter.unusedVariables false
set_option linter.unusedSimpArgs false
open Go.RowKit

theorem info_sb : ((Try.prog.info? 85).map (·.size)) = some 2 := by kernel_rfl
theorem lies_sb : liesAt Try.prog Try.prog.depth 85 (2 / Try.prog.cellsOf 85) 0 85 1 = true := by kernel_rfl
theorem info_u8 : (Try.prog.info? 5).map (fun i => (i.zero, i.size, i.bytes)) = some (some (.int .u8 0), 1, 1) := by kernel_rfl
theorem cells_u8 : Try.prog.cellsOf 5 = 1 := by kernel_rfl
set_option maxHeartbeats 1000000 in
theorem check_used (b : Nat) (w : World) (h0 : w.cell? ⟨b, 0, none⟩ = some (.pointer (some ⟨b, 0, none⟩))) : Calls Try.prog 78 #[.pointer (some ⟨b, 0, none⟩)] w fun e w' => e = .returned (.tuple #[]) ∧ w' = w := by
  obtain ⟨j, hj, -⟩ := Option.map_eq_some_iff.1 info_sb
  go_enter Try.func78, Try.ntmps78
  go_wp2
  rw [Lib.run_neq_ptr_same w _ Try.underlying82 hj]
  go_wp2
  go_end0
  exact ⟨rfl, rfl⟩
set_option maxHeartbeats 1000000 in
theorem check_fresh (b : Nat) (w : World) (h0 : w.cell? ⟨b, 0, none⟩ = some (.pointer none)) (hsh : w.shape? b = some (85, 2)) (hfz : w.frozen? ⟨b, 0, none⟩ = false) : Calls Try.prog 78 #[.pointer (some ⟨b, 0, none⟩)] w fun e w' => e = .returned (.tuple #[]) ∧ w' = w.setCell ⟨b, 0, none⟩ (.pointer (some ⟨b, 0, none⟩)) := by
  obtain ⟨j, hj, hjs⟩ := Option.map_eq_some_iff.1 info_sb
  go_enter Try.func78, Try.ntmps78
  go_wp2
  rw [Lib.run_to_unsafe w ⟨b, 0, none⟩ Try.underlying82 Try.underlying110 hj (by rw [hjs]; decide) hsh (Nat.zero_lt_succ 1)]
  simp only [Result.andThen]
  rw [Oper.upon_value]
  go_wp2
  rw [run_callFunc_extern Try.func92 (by kernel_rfl) (by kernel_rfl) (by kernel_rfl) (e := Extern.AbiNoEscape.same) (by kernel_rfl)]
  rw [Lib.run_noEscape]
  simp only [Result.andThen]
  rw [Oper.upon_value]
  go_wp2
  rw [Lib.run_from_unsafe w ⟨b, 0, none⟩ Try.underlying110 Try.underlying82 hj hsh lies_sb]
  simp only [Result.andThen]
  rw [Oper.upon_value]
  go_wp2
  go_end0
  exact ⟨rfl, rfl⟩
theorem check_any (B b : Nat) (bs : List Value) (w : World) (h : Lib.IsBuilder 85 5 B b bs w) : Calls Try.prog 78 #[.pointer (some ⟨b, 0, none⟩)] w fun e w' => e = .returned (.tuple #[]) ∧ (Lib.BuilderAt 85 5 B b (.pointer (some ⟨b, 0, none⟩)) bs w' ∧ Below B w w') := by
  rcases h with h | h
  · refine (check_fresh b w h.cell0 h.shape h.frozen0).mono ?_
    rintro e w' ⟨rfl, rfl⟩
    exact ⟨rfl, h.used _, (Below.refl B w).setCell (p := ⟨b, 0, none⟩) h.1 _⟩
  · refine (check_used b w h.cell0).mono ?_
    rintro e w' ⟨rfl, rfl⟩
    exact ⟨rfl, h, Below.refl B _⟩
set_option maxHeartbeats 2000000 in
/-- AppendRune of a rune of one byte, onto a row of the call's own -/
theorem rune_any (B : Nat) (v : Value) (bs : List Value) (r : Int) (hr0 : 0 ≤ r) (hr1 : r < 128) (w : World) (hown : w.ownsRow B 5 1 v bs.length bs) (hlen : bs.length ≤ 1000) (hBw : B ≤ w.heap.size) : Calls Try.prog 79 #[v, .int .i32 r] w fun e w' => ∃ g cap, e = .returned (.slice (some ⟨g, 0, none⟩) (bs.length + 1) cap) ∧ w'.ownsRow B 5 1 (.slice (some ⟨g, 0, none⟩) (bs.length + 1) cap) (bs.length + 1) (bs ++ [.int .u8 r]) ∧ (w.alloc (.cells #[.int .u8 r] 5)).grownBy w' v.ownBlock := by
  obtain ⟨i0, hi, hz0, hz1, hz2⟩ := info_parts info_u8
  have hcv : IntKind.wrap .u8 r = r := by rw [IntKind.wrap_u8']; omega
  have hcu : IntKind.wrap .u32 r = r := by rw [IntKind.wrap_u32']; omega
  have hle : r ≤ 127 := by omega
  go_enter Try.func79, Try.ntmps79
  go_wp2_with (at_builtin; refine wpList_append_own _ rfl _ _ 83 rfl B 5 i0 (.int .u8 0) 1 1 Try.underlying83 hi hz0 hz1 hz2 rfl (by decide) _ _ _ rfl (hown.alloc _) ⟨w.heap.size, 0, none⟩ 1 1 [.int .u8 r] rfl rfl ?c1 ?c2 ?c3 ?c4 ?c5 ?_)
  case c1 =>
    intro j u hj
    match j, hj with
    | 0, hj => simp at hj; subst hj; simp [Addr.add]
  case c2 => intro u hu; simp at hu; subst hu; rfl
  case c3 => unfold maxLen; omega
  case c4 => omega
  case c5 => simp; omega
  intro v' w2 hown' hgrow _
  obtain ⟨g, cap2, rfl⟩ : ∃ g cap, v' = .slice (some ⟨g, 0, none⟩) (bs.length + 1) cap := by
    rcases hown'.2 with ⟨_, h0⟩ | ⟨g, cap, cur, hv, _⟩
    · omega
    · exact ⟨g, cap, hv⟩
  go_wp2
  go_ret
  exact ⟨g, cap2, rfl, hown', hgrow⟩
set_option maxHeartbeats 2000000 in
/-- WriteRune at a rune of one byte -/
theorem write_any (B b : Nat) (bs : List Value) (r : Int) (hr0 : 0 ≤ r) (hr1 : r < 128) (w : World) (h : Lib.IsBuilder 85 5 B b bs w) (hlen : bs.length ≤ 1000) (hBw : B ≤ w.heap.size) : Calls Try.prog 67 #[.pointer (some ⟨b, 0, none⟩), .int .i32 r] w fun e w' => (∃ z, e = .returned z) ∧ (Lib.BuilderAt 85 5 B b (.pointer (some ⟨b, 0, none⟩)) (bs ++ [.int .u8 r]) w' ∧ Below B w w') := by
  go_enter Try.func67, Try.ntmps67
  go_wp2_with (go_at_call 78; refine (check_any B b bs _ h).mono ?_)
  rintro e w1 ⟨rfl, h1, hb1⟩
  obtain ⟨hB, v, hbk, hown, hne⟩ := h1
  have c0 : w1.cell? ⟨b, 0, none⟩ = some (.pointer (some ⟨b, 0, none⟩)) := by rw [Lib.cell_of_heap hbk]; rfl
  have c1 : w1.cell? ⟨b, 1, none⟩ = some v := by rw [Lib.cell_of_heap hbk]; rfl
  have hlt : b < w1.heap.size := by
    rcases Nat.lt_or_ge b w1.heap.size with h' | h'
    · exact h'
    · simp [Array.getElem?_eq_none h'] at hbk
  obtain ⟨ao, cap, hv⟩ : ∃ ao cap, v = .slice ao bs.length cap := by
    rcases hown.2 with ⟨hv, h0⟩ | ⟨g, cap, cur, hv, _⟩
    · exact ⟨none, 0, by rw [hv, h0]⟩
    · exact ⟨_, _, hv⟩
  have HRU := Lib.hid (rune_any B v bs r hr0 hr1 w1 hown hlen (by have := hb1.size; omega))
  have HK := Lib.hid (show ∀ w2, (w1.alloc (.cells #[.int .u8 r] 5)).grownBy w2 v.ownBlock → w2.heap[b]? = some (.cells #[.pointer (some ⟨b, 0, none⟩), v] 85 (0, 0)) ∧ Below B w w2 from fun w2 hg => ⟨by rw [hg.block b (by simp; omega) (fun e => hne e.symm), Lib.alloc_old w1 _ b hlt]; exact hbk, (hb1.alloc (by have := hb1.size; omega) _).grown hg (by have := hb1.size; simp; omega) (fun k hk => (hown.lt k hk).1)⟩)
  rw [hv] at HRU HK c1
  clear hown hne hbk
  go_wp2_with (first
    | (go_at_call 79
       (with_reducible refine (HRU.out).mono ?_)
       rintro e w2 ⟨g, cap2, rfl, hown', hgrow⟩
       obtain ⟨hb2, hbel⟩ := HK.out w2 hgrow
       have d0 : w2.cell? ⟨b, 0, none⟩ = some (.pointer (some ⟨b, 0, none⟩)) := by rw [Lib.cell_of_heap hb2]; rfl
       have d1 : w2.cell? ⟨b, 1, none⟩ = some (.slice ao bs.length cap) := by rw [Lib.cell_of_heap hb2]; rfl
       have f1 : w2.frozen? ⟨b, 1, none⟩ = false := Lib.frozen_of_heap hb2 1
       have HP := Lib.hid (Lib.BuilderAt.put (T := 85) (e := 5) hB hb2 (bs' := bs ++ [.int .u8 r]) (by simpa using hown') (by decide))
       have HBB := Lib.hid (hbel.setCell (p := ⟨b, 1, none⟩) hB (.slice (some ⟨g, 0, none⟩) (bs.length + 1) cap2))
       clear hown' hgrow hb2 hbel))
  go_ret2
  exact ⟨⟨_, rfl⟩, HP.out, HBB.out⟩
set_option maxHeartbeats 2000000 in
/-- String of a builder that holds at least one byte -/
theorem string_any (B b : Nat) (l : List UInt8) (w : World) (h : Lib.IsBuilder 85 5 B b (Lib.byteCells l) w) (h0 : l ≠ []) : Calls Try.prog 68 #[.pointer (some ⟨b, 0, none⟩)] w fun e w' => e = .returned (.string ⟨l.toArray⟩) ∧ Below B w w' := by
  obtain ⟨p, hB, v, hbk, hown, hne⟩ : ∃ p, Lib.BuilderAt 85 5 B b p (Lib.byteCells l) w := by
    rcases h with h | h
    · exact ⟨_, h⟩
    · exact ⟨_, h⟩
  have hl0 : l.length ≠ 0 := by simpa using h0
  rw [Lib.byteCells_length] at hown
  obtain ⟨g, cap, cur, rfl, hbg, hg, hnc, hcm, hcs, htake⟩ : ∃ g cap cur, v = .slice (some ⟨g, 0, none⟩) l.length cap ∧ B ≤ g ∧ w.heap[g]? = some (.cells cur 5 (0, 0)) ∧ l.length ≤ cap ∧ cap ≤ maxLen ∧ cur.size = cap * 1 ∧ cur.toList.take (l.length * 1) = Lib.byteCells l := by
    rcases hown.2 with ⟨_, hz⟩ | ⟨g, cap, cur, hv, r⟩
    · exact absurd hz hl0
    · exact ⟨g, cap, cur, hv, r⟩
  have c1 : w.drew.cell? ⟨b, 1, none⟩ = some (.slice (some ⟨g, 0, none⟩) l.length cap) := by
    have : w.drew.heap[b]? = some (.cells #[p, .slice (some ⟨g, 0, none⟩) l.length cap] 85 (0, 0)) := hbk
    rw [Lib.cell_of_heap this]; rfl
  have hSD : (Builtin.unsafeSliceData_ #[83] 100 #[.slice (some ⟨g, 0, none⟩) l.length cap]).run Try.prog w.drew = .ok (.pointer (some ⟨g, 0, none⟩)) w.drew :=
    Lib.run_unsafeSliceData_row _ _ _ _ _ _ (by omega)
  have hUS : (Builtin.unsafeString_ #[100, 3] 9 #[.pointer (some ⟨g, 0, none⟩), .int .i64 l.length]).run Try.prog w.drew = .ok (.string ⟨l.toArray⟩) (w.drew.freeze ⟨g, 0, none⟩ l.length) := by
    refine Lib.run_unsafeString_row w.drew 100 3 9 5 Try.underlying100 cells_u8 g cur.size (by have hg' : w.drew.heap[g]? = some (.cells cur 5 (0, 0)) := hg; simp [World.shape?, hg']) l h0 (by omega) (by unfold maxLen at hcm; omega) ?_
    intro j x hx
    have := hown.cells (g := g) rfl j (.int .u8 x.toNat) (by simp [Lib.byteCells, hx])
    exact this
  go_enter Try.func68, Try.ntmps68
  go_wp2
  go_region
  all_goals (go_wp2; go_ret; exact ⟨rfl, Lib.below_freeze (Below.drew (Below.refl B w)) (p := ⟨g, 0, none⟩) hbg _⟩)
end Go.Proofs.Ytgnhmdfajnnkhaa


/- The walks over lamp's May, letter, spell and Text. -/
namespace Go.Proofs.Ytgnhmdfajnnkhaa
set_option maxRecDepth 100000
set_option linter.unusedVariables false
set_option linter.unusedSimpArgs false
open Go.RowKit

set_option maxHeartbeats 2000000 in
theorem lmay_any (A : Option Addr) (n c : Nat) (l : List Int) (w : World) (hb : Its .i64 w A n c l) : Calls Try.prog 46 #[.slice A n c] w fun e w' => e = .returned (.bool (mayR l)) ∧ w = w' := by
  have hsm := hb.small
  have HL := Lib.hid hb.len
  by_cases hn : n < 1 ∨ 8 < n
  · have HR := Lib.hid (show mayR l = false by rw [← Bool.not_eq_true, may_iff]; rintro ⟨h, -⟩; have := HL.out; omega)
    rcases hn with hn | hn
    · obtain rfl : n = 0 := by omega
      clear hb
      go_enter Try.func46, Try.ntmps46
      go_wp2
      go_ret
      exact ⟨by rw [HR.out]; rfl, rfl⟩
    · have hn1 : ¬ ((n : Int) < 1) := by omega
      have hn8 : (8 < (n : Int)) := by omega
      clear hb
      go_enter Try.func46, Try.ntmps46
      go_wp2
      go_ret
      exact ⟨by rw [HR.out]; rfl, rfl⟩
  · have hn1 : ¬ ((n : Int) < 1) := by omega
    have hn8 : ¬ (8 < (n : Int)) := by omega
    obtain ⟨b, off, rfl, hc⟩ := hb.at_ (by omega)
    have HC := Lib.hid hc
    clear hb hc
    go_enter Try.func46, Try.ntmps46
    go_wp2
    go_loop [15] (fun i => ∃ j : Nat, j ≤ n ∧ i = .int .i64 j ∧ ∀ k, k < j → 0 ≤ l.getD k 0 ∧ l.getD k 0 < 3) (fun i => n - (intOf i).toNat)
    case atStart => exact ⟨0, by omega, rfl, fun k hk => by omega⟩
    case round =>
      obtain ⟨j, hj, rfl, hall⟩ := hrel
      have HA := Lib.hid hall
      clear hall
      by_cases hlt : j < n
      · have hlt2 : (j : Int) < n := by omega
        have q0 : 0 ≤ (j : Int) := by omega
        have z := HC.out j hlt
        obtain ⟨x, hx⟩ : ∃ x, l.getD j 0 = x := ⟨_, rfl⟩
        rw [hx] at z
        by_cases h1 : x < 0
        · have HR := Lib.hid (row_bad (by rw [HL.out]; exact hlt) (.inl (by rw [hx]; exact h1)))
          clear hx
          go_wp2
          go_ret
          exact ⟨by rw [HR.out]; rfl, rfl⟩
        · by_cases h2 : 3 ≤ x
          · have HR := Lib.hid (row_bad (by rw [HL.out]; exact hlt) (.inr (by rw [hx]; exact h2)))
            clear hx
            go_wp2
            go_ret
            exact ⟨by rw [HR.out]; rfl, rfl⟩
          · have HN := Lib.hid (show ∀ k, k < j + 1 → 0 ≤ l.getD k 0 ∧ l.getD k 0 < 3 from fun k hk => by
              by_cases e : k = j
              · subst e; rw [hx]; omega
              · exact HA.out k (by omega))
            clear hx
            go_wp2
            go_round
            case rel => exact ⟨j + 1, by omega, by go_num, HN.out⟩
            case measure => simp [intOf]; omega
      · obtain rfl : j = n := by omega
        have hge : ¬ ((j : Int) < j) := by omega
        have HR := Lib.hid (show mayR l = true by
          rw [may_iff]
          refine ⟨by have := HL.out; omega, fun x hx => ?_⟩
          obtain ⟨k, hk, rfl⟩ := mem_getD hx
          exact HA.out k (by rw [HL.out] at hk; exact hk))
        go_wp2
        go_ret
        exact ⟨by rw [HR.out]; rfl, rfl⟩
theorem let_lt (x : Int) : ((letU x).toNat : Int) < 128 := by
  unfold letU
  split
  · decide
  · split <;> decide
/-- the letters -/
theorem rag0 : wrap32 (((⟨#[114, 97, 103]⟩ : ByteArray)[0]'(by decide)).toNat : Int) = ((letU 0).toNat : Int) := by decide +kernel
theorem rag1 : wrap32 (((⟨#[114, 97, 103]⟩ : ByteArray)[1]'(by decide)).toNat : Int) = ((letU 1).toNat : Int) := by decide +kernel
theorem rag2 : wrap32 (((⟨#[114, 97, 103]⟩ : ByteArray)[2]'(by decide)).toNat : Int) = ((letU 2).toNat : Int) := by decide +kernel
set_option maxHeartbeats 1000000 in
theorem letter_any (x : Int) (hx : 0 ≤ x ∧ x < 3) (w : World) : Calls Try.prog 48 #[.string ⟨#[114, 97, 103]⟩, .int .i64 x] w fun e w' => e = .returned (.int .i32 ((letU x).toNat : Int)) ∧ w = w' := by
  have : x = 0 ∨ x = 1 ∨ x = 2 := by omega
  rcases this with rfl | rfl | rfl
  all_goals
    go_enter Try.func48, Try.ntmps48
    go_wp2
    go_ret
    first | exact ⟨congrArg (fun z => Ending.returned (Value.int .i32 z)) rag0, rfl⟩ | exact ⟨congrArg (fun z => Ending.returned (Value.int .i32 z)) rag1, rfl⟩ | exact ⟨congrArg (fun z => Ending.returned (Value.int .i32 z)) rag2, rfl⟩
theorem cells_next {l : List Int} {j : Nat} (h : j < l.length) : Lib.byteCells ((l.take (j + 1)).map letU) = Lib.byteCells ((l.take j).map letU) ++ [.int .u8 ((letU (l.getD j 0)).toNat : Int)] := by
  rw [List.take_succ_eq_append_getElem h, List.map_append, Lib.byteCells_append]
  simp [Lib.byteCells, List.getD_eq_getElem?_getD, h]
set_option maxHeartbeats 4000000 in
theorem spell_any (A : Option Addr) (n c : Nat) (l : List Int) (w : World) (hb : Its .i64 w A n c l) (hm : mayR l = true) : Calls Try.prog 47 #[.slice A n c, .func (Fn.func 48) #[.string ⟨#[114, 97, 103]⟩] #[]] w fun e w' => e = .returned (.string (txt l)) ∧ Below w.heap.size w w' := by
  have hsm := hb.small
  have HL := Lib.hid hb.len
  obtain ⟨⟨m1, m8⟩, hall⟩ := may_iff.1 hm
  have HA := Lib.hid hall
  rw [hb.len] at m1 m8
  obtain ⟨b, off, rfl, -⟩ := hb.at_ (by omega)
  have HI := Lib.hid (show ∀ X, Below w.heap.size w X → ∀ j, j < n → X.cell? ⟨b, off + j, none⟩ = some (.int .i64 (l.getD j 0)) from fun X hX j hj => by
    obtain ⟨b', off', e, hc⟩ := (hb.below hX).at_ (by omega)
    cases e
    exact hc j hj)
  clear hb hall hm
  go_enter Try.func47, Try.ntmps47
  go_wp2
  go_loopw [10] (fun i wr => ∃ j : Nat, j ≤ n ∧ i = .int .i64 j ∧ Lib.IsBuilder 85 5 w.heap.size w.heap.size (Lib.byteCells ((l.take j).map letU)) wr ∧ Below w.heap.size w wr) (fun i _ => n - (intOf i).toNat)
  case atStart => exact ⟨0, by omega, rfl, Lib.fresh_isBuilder _ _ w, one_alloc w _⟩
  case round =>
    obtain ⟨j, hj, rfl, hbu, hbw⟩ := hrel
    have HBU := Lib.hid hbu
    have HBW := Lib.hid hbw
    clear hbu
    by_cases hlt : j < n
    · have hlt2 : (j : Int) < n := by omega
      have q0 : 0 ≤ (j : Int) := by omega
      have hjl : j < l.length := by rw [HL.out]; exact hlt
      have z := HI.out wr hbw j hlt
      have ho := HA.out _ (getD_mem hjl)
      have hnx := cells_next hjl
      have hll : (Lib.byteCells ((l.take j).map letU)).length ≤ 1000 := by rw [Lib.byteCells_length, List.length_map, List.length_take]; omega
      obtain ⟨x, hx⟩ : ∃ x, l.getD j 0 = x := ⟨_, rfl⟩
      rw [hx] at z ho hnx
      obtain ⟨S, hS⟩ : ∃ S, Lib.byteCells ((l.take j).map letU) = S := ⟨_, rfl⟩
      rw [hS] at hll HBU hnx
      obtain ⟨N, hN⟩ : ∃ N : Int, ((letU x).toNat : Int) = N := ⟨_, rfl⟩
      have hn0 : 0 ≤ N := by rw [← hN]; omega
      have hn1 : N < 128 := by rw [← hN]; exact let_lt x
      have HLE := Lib.hid (fun X => letter_any x ho X)
      rw [hN] at HLE hnx
      have HWR := Lib.hid (write_any w.heap.size w.heap.size S N hn0 hn1 wr HBU.out hll hbw.size)
      have HNX := Lib.hid hnx
      clear hx ho hnx hS hN hn0 hn1 hjl hbw
      go_wp2_with (first
        | (go_at_call 48
           (with_reducible refine (HLE.out _).mono ?_)
           rintro e w1 ⟨rfl, rfl⟩)
        | (go_at_call 67
           (with_reducible refine (HWR.out).mono ?_)
           rintro e w2 ⟨⟨z, rfl⟩, hbu2, hbw2⟩
           have HBU2 := Lib.hid hbu2
           have HBW2 := Lib.hid (HBW.out.trans hbw2)
           clear hbu2 hbw2))
      go_roundw
      case rel => exact ⟨j + 1, by omega, by go_num, .inr (by rw [HNX.out]; exact HBU2.out), HBW2.out⟩
      case measure => simp [intOf]; omega
    · obtain rfl : j = n := by omega
      have hge : ¬ ((j : Int) < j) := by omega
      have HT := Lib.hid (show l.take j = l from List.take_of_length_le (by rw [HL.out]; exact Nat.le_refl _))
      have hbu := HBU.out
      rw [HT.out] at hbu
      have HST := Lib.hid (string_any w.heap.size w.heap.size (l.map letU) wr hbu (by intro h; have := congrArg List.length h; rw [List.length_map, HL.out] at this; simp at this; omega))
      clear hbu hbw
      go_wp2_with (go_at_call 68; (with_reducible refine (HST.out).mono ?_); rintro e w2 ⟨rfl, hbw2⟩; have HBW2 := Lib.hid (HBW.out.trans hbw2); clear hbw2)
      go_ret
      exact ⟨rfl, HBW2.out⟩
set_option maxHeartbeats 4000000 in
theorem ltext_any (A : Option Addr) (n c : Nat) (l : List Int) (w : World) (hb : Its .i64 w A n c l) : Calls Try.prog 27 #[.slice A n c] w fun e w' => e = .returned (.string (textR l)) ∧ Below w.heap.size w w' := by
  have hsm := hb.small
  have HL := Lib.hid hb.len
  have HM := Lib.hid (lmay_any A n c l w hb)
  cases hm : mayR l with
  | false =>
    rw [hm] at HM
    have HR := Lib.hid (show textR l = ⟨#[]⟩ by rw [textR, hm]; rfl)
    clear hm hb
    go_enter Try.func27, Try.ntmps27
    go_wp2_with (go_at_call 46; (with_reducible refine (HM.out).mono ?_); rintro e w1 ⟨rfl, rfl⟩)
    go_ret
    exact ⟨by rw [HR.out]; rfl, Below.refl _ _⟩
  | true =>
    rw [hm] at HM
    obtain ⟨⟨m1, m8⟩, hall⟩ := may_iff.1 hm
    have HR := Lib.hid (show textR l = txt l by rw [textR, if_pos hm])
    have HSP := Lib.hid (spell_any A n c l w hb hm)
    clear hm hb hall
    go_enter Try.func27, Try.ntmps27
    go_wp2_with (first
      | (go_at_call 46; (with_reducible refine (HM.out).mono ?_); rintro e w1 ⟨rfl, rfl⟩)
      | (go_at_call 47; (with_reducible refine (HSP.out).mono ?_); rintro e w2 ⟨rfl, hb2⟩; have HB2 := Lib.hid hb2; clear hb2))
    go_ret
    exact ⟨by rw [HR.out]; rfl, HB2.out⟩
end Go.Proofs.Ytgnhmdfajnnkhaa


/- The walk over slices.Repeat of one nought: a row of noughts. -/
namespace Go.Proofs.Ytgnhmdfajnnkhaa
set_option maxRecDepth 100000
set_option linter.unusedVariables false
set_option linter.unusedSimpArgs false
open Go.RowKit

theorem eight {n : Nat} (h1 : 1 ≤ n) (h8 : n ≤ 8) : n = 1 ∨ n = 2 ∨ n = 3 ∨ n = 4 ∨ n = 5 ∨ n = 6 ∨ n = 7 ∨ n = 8 := by omega
set_option maxHeartbeats 4000000 in
theorem mul64_any (n : Nat) (h1 : 1 ≤ n) (h8 : n ≤ 8) (w : World) : Calls Try.prog 97 #[.int .u64 1, .int .u64 n] w fun e w' => e = .returned (.tuple #[.int .u64 0, .int .u64 n]) ∧ w = w' := by
  rcases eight h1 h8 with rfl | rfl | rfl | rfl | rfl | rfl | rfl | rfl
  all_goals
    go_enter Try.func97, Try.ntmps97
    go_wp2
    go_ret2
    exact ⟨rfl, rfl⟩
theorem mul_any (n : Nat) (h1 : 1 ≤ n) (h8 : n ≤ 8) (w : World) : Calls Try.prog 83 #[.int .u64 1, .int .u64 n] w fun e w' => e = .returned (.tuple #[.int .u64 0, .int .u64 n]) ∧ w = w' := by
  have HM := Lib.hid (mul64_any n h1 h8 w)
  go_enter Try.func83, Try.ntmps83
  go_wp2_with (go_at_call 97; (with_reducible refine (HM.out).mono ?_); rintro e w1 ⟨rfl, rfl⟩)
  go_ret2
  exact ⟨rfl, rfl⟩
/-- a block that holds just these numbers -/
def RowL (w : World) (g : Nat) (l : List Int) : Prop := w.heap[g]? = some (.cells (inv .i64 l).toArray 3 (0, 0))
theorem RowL.lt {w : World} {g : Nat} {l : List Int} (h : RowL w g l) : g < w.heap.size := (Array.getElem?_eq_some_iff.1 h).1
theorem RowL.below {w w' : World} {g : Nat} {l : List Int} (h : RowL w g l) (hb : Below w.heap.size w w') : RowL w' g l := (hb.block _ h.lt).trans h
theorem RowL.cell {w : World} {g : Nat} {l : List Int} (h : RowL w g l) (j : Nat) (hj : j < l.length) : w.cell? ⟨g, j, none⟩ = some (.int .i64 (l.getD j 0)) := by
  rw [Lib.cell_of_heap h]
  rw [List.getElem?_toArray, inv_get _ _ _ hj]
theorem RowL.frozen {w : World} {g : Nat} {l : List Int} (h : RowL w g l) (j : Nat) : w.frozen? ⟨g, j, none⟩ = false := Lib.frozen_of_heap h j
theorem RowL.set {w : World} {g : Nat} {l : List Int} (h : RowL w g l) (i : Nat) (x : Int) : RowL (w.setCell ⟨g, i, none⟩ (.int .i64 x)) g (l.set i x) := by
  unfold RowL at h ⊢
  have e : inv .i64 (l.set i x) = (inv .i64 l).set i (.int .i64 x) := by simp [inv, List.map_set]
  rw [e]
  simp [World.setCell, Array.getElem?_modify, h]
theorem RowL.own {w : World} {g base : Nat} {l : List Int} (h : RowL w g l) (hb : base ≤ g) (hl : l.length ≤ 1000) : OwnI .i64 3 w base (.slice (some ⟨g, 0, none⟩) l.length l.length) l := by
  refine ⟨by rw [inv_length, Nat.mul_one], .inr ⟨g, l.length, _, rfl, hb, h, Nat.le_refl _, by unfold maxLen; omega, by rw [Nat.mul_one, List.size_toArray, inv_length], ?_⟩⟩
  rw [Nat.mul_one, List.toList_toArray]
  exact List.take_of_length_le (by rw [inv_length]; exact Nat.le_refl _)
theorem wpList_make_l {P : Program} {w : World} {ops : Array Oper} {rest : List Oper} {o : Oper} {a : Act} {Q : Exit → Act → World → Prop} (hgd : o.guard = none) (t : TypeId) (l c : Operand) (ho : o.op = Op.makeSlice t l c)
    (hu : P.underlying t = some (.slice 3)) (hinfo : (P.info? 3).map (fun i => (i.zero, i.size, i.bytes)) = some (some (.int .i64 0), 1, 8))
    (n : Nat) (hl : a.eval l = .int .i64 n) (hc : a.eval c = .int .i64 n) (hn : n ≤ 17592186044416)
    (h : ∀ w', RowL w' w.heap.size (List.replicate n 0) → w.grownBy w' none → wpList P ops Q rest (a.put o.dst (.slice (some ⟨w.heap.size, 0, none⟩) n n)) w') : wpList P ops Q (o :: rest) a w := by
  obtain ⟨i, hi, hz, h1, h2⟩ := info_parts hinfo
  refine wpList_make_full w hgd l c t ho w.heap.size 3 i (.int .i64 0) 1 hu hi hz h1 .i64 .i64 n n n hl hc rfl rfl (by rw [h2]; omega) (by unfold maxLen; omega) (Nat.le_refl _) (fun w' r1 r2 => h w' ?_ r2)
  rcases r1.2 with ⟨hv, -⟩ | ⟨g, cap, cur, hv, -, hh, -, -, hsz, htake⟩
  · cases hv
  · injection hv with e1 e2 e3
    injection e1 with e1
    injection e1 with e1
    subst e1 e3
    unfold RowL
    rw [hh]
    congr 2
    apply Array.ext'
    rw [List.toList_toArray]
    rw [Nat.mul_one] at htake hsz
    rw [List.take_of_length_le (by rw [Array.length_toList, hsz]; exact Nat.le_refl _)] at htake
    rw [htake]
    apply List.ext_getElem?
    intro j
    by_cases hj : j < n
    · simp [inv, madeCells, hj, Value.cells, Nat.mod_one]
    · simp [inv, madeCells, hj]
theorem zeros_over (n lo m : Nat) (h : lo + m ≤ n) : (inv .i64 (List.replicate n 0)).take lo ++ List.replicate m (Value.int .i64 0) ++ (inv .i64 (List.replicate n 0)).drop (lo + m) = inv .i64 (List.replicate n 0) := by
  simp only [inv, List.map_replicate, List.take_replicate, List.drop_replicate, List.replicate_append_replicate]
  congr 1
  omega
/-- copying noughts over noughts leaves the world as it is -/
theorem run_copy_z (w : World) (g n lo d dc s sc m : Nat) (a : Addr) (ty : TypeId) (h : RowL w g (List.replicate n 0)) (hm : m = Nat.min s d) (hlo : lo + m ≤ n) (hs : ∀ j, j < m → w.cell? (a.add j) = some (.int .i64 0)) :
    (Builtin.copy_ #[40, 40] ty #[.slice (some ⟨g, lo, none⟩) d dc, .slice (some a) s sc]).run Try.prog w = .ok (.int .i64 m) w := by
  have hr := run_copy_row (P := Try.prog) w 40 40 ty 3 g lo d dc a s sc _ 3 (List.replicate m (.int .i64 0)) Try.underlying40 (by kernel_rfl) h (by rw [List.length_replicate, hm]) (by
      intro j v hv
      have hj : j < m := by have := (List.getElem?_eq_some_iff.1 hv).1; rwa [List.length_replicate] at this
      rw [List.getElem?_replicate, if_pos hj] at hv
      cases hv
      exact hs j hj) (by rw [List.length_replicate, List.size_toArray, inv_length, List.length_replicate]; exact hlo) (by intro v hv; rw [List.eq_of_mem_replicate hv]; rfl)
  rw [hr, List.toList_toArray, List.length_replicate, zeros_over n lo m hlo, setRow_self w g _ _ _ h]
  rfl
theorem size_int (w : World) : (sizeOf (Try.prog.elem 40)).run Try.prog w = .ok 1 w := by
  rw [show Try.prog.elem 40 = 3 from by kernel_rfl]
  rfl
theorem run_cut_z (g n k : Nat) (hk : k < n) (hn : n ≤ 8) (w : World) : (Instr.slice 40 (.slice (some ⟨g, 0, none⟩) n n) (some (.int .i64 k)) none none).run Try.prog w = .ok (.slice (some ⟨g, k, none⟩) (n - k) (n - k)) w := by
  rw [run_slice_l (P := Try.prog) w 40 (some ⟨g, 0, none⟩) n n (by kernel_rfl) .i64 k (by omega) (by omega), size_int]
  simp only [Result.andThen_ok, sliced, Int.toNat_natCast, Nat.mul_one]
  rw [if_neg (by omega)]
  simp only [Option.map_some]
  congr 3
  unfold Addr.add
  split
  · rename_i h0; subst h0; rfl
  · simp
theorem run_to_z (g n k : Nat) (hk : k < n) (hn : n ≤ 8) (w : World) : (Instr.slice 40 (.slice (some ⟨g, 0, none⟩) n n) none (some (.int .i64 k)) none).run Try.prog w = .ok (.slice (some ⟨g, 0, none⟩) k n) w := by
  rw [run_slice_h (P := Try.prog) w 40 (some ⟨g, 0, none⟩) n n (by kernel_rfl) .i64 k (by omega) (by omega), size_int]
  simp only [Result.andThen_ok, sliced, Int.toNat_natCast, Nat.zero_mul, Nat.sub_zero]
  simp [Addr.add]
set_option maxHeartbeats 4000000 in
theorem repeat_any (A : Option Addr) (c n : Nat) (h1 : 1 ≤ n) (h8 : n ≤ 8) (w : World) (hb : Its .i64 w A 1 c [0]) : Calls Try.prog 73 #[.slice A 1 c, .int .i64 n] w fun e w' => e = .returned (.slice (some ⟨w.heap.size, 0, none⟩) n n) ∧ RowL w' w.heap.size (List.replicate n 0) ∧ Below w.heap.size w w' := by
  have HM := Lib.hid (mul_any n h1 h8 w)
  have hn0 : ¬ ((n : Int) < 0) := by omega
  have hnw : IntKind.u64.wrap (n : Int) = n := by rw [IntKind.wrap_u64]; omega
  have hni : IntKind.i64.wrap (n : Int) = n := by rw [IntKind.wrap_i64]; omega
  have hng : ¬ (9223372036854775807 < (n : Int)) := by omega
  obtain ⟨b, off, rfl, hc⟩ := hb.at_ (by omega)
  have HC := Lib.hid (show w.cell? ⟨b, off, none⟩ = some (.int .i64 0) from hc 0 (by omega))
  clear hb hc
  go_enter Try.func73, Try.ntmps73
  go_wp2_with (first
    | (go_at_call 83; (with_reducible refine (HM.out).mono ?_); rintro e w1 ⟨rfl, rfl⟩)
    | (refine wpList_make_l rfl 40 _ _ rfl Try.underlying40 (by kernel_rfl) n rfl rfl (by omega) ?_
       intro W hrow hg
       have HW := Lib.hid (show Below w.heap.size w W from (Below.refl _ w).grown hg (Nat.le_refl _) (fun k hk => by cases hk))
       have HR := Lib.hid hrow
       have hcp := fun ty => run_copy_z W w.heap.size n 0 n n 1 c 1 ⟨b, off, none⟩ ty hrow (by show 1 = min 1 n; omega) (by omega) (fun j hj => by
         obtain rfl : j = 0 := by omega
         have := HW.out.cell (p := ⟨b, off, none⟩) (block_lt_of_cell HC.out)
         rw [show (⟨b, off, none⟩ : Addr).add 0 = ⟨b, off, none⟩ from rfl, this]
         exact HC.out)
       clear hrow hg))
  clear hcp
  go_loopw [8] (fun i wr => ∃ k : Nat, 1 ≤ k ∧ k ≤ n ∧ i = .int .i64 k ∧ RowL wr w.heap.size (List.replicate n 0) ∧ Below w.heap.size w wr) (fun i _ => n - (intOf i).toNat)
  case atStart => exact ⟨1, by omega, h1, rfl, HR.out, HW.out⟩
  case round =>
    obtain ⟨k, hk1, hkn, rfl, hrow, hbw⟩ := hrel
    by_cases hlt : k < n
    · have hlt2 : (k : Int) < n := by omega
      have q0 : 0 ≤ (k : Int) := by omega
      obtain ⟨m, hm⟩ : ∃ m, Nat.min k (n - k) = m := ⟨_, rfl⟩
      have hm1 : 1 ≤ m := by rw [← hm]; show 1 ≤ min k (n - k); omega
      have hmk : k + m ≤ n := by rw [← hm]; show k + min k (n - k) ≤ n; omega
      have hmz : m ≤ k := by rw [← hm]; show min k (n - k) ≤ k; omega
      have hs1 := fun X => run_cut_z w.heap.size n k hlt h8 X
      have hs2 := fun X => run_to_z w.heap.size n k hlt h8 X
      have hdr : RowL wr.drew w.heap.size (List.replicate n 0) := hrow
      have hcp : ∀ ty, (Builtin.copy_ #[40, 40] ty #[.slice (some ⟨w.heap.size, k, none⟩) (n - k) (n - k), .slice (some ⟨w.heap.size, 0, none⟩) k n]).run Try.prog wr.drew = .ok (.int .i64 m) wr.drew := fun ty => run_copy_z wr.drew w.heap.size n k (n - k) (n - k) k n m ⟨w.heap.size, 0, none⟩ ty hdr hm.symm hmk (fun j hj => by
        have e : (⟨w.heap.size, 0, none⟩ : Addr).add j = ⟨w.heap.size, j, none⟩ := by
          unfold Addr.add
          split
          · rename_i h0; subst h0; rfl
          · simp
        rw [e, hdr.cell j (by rw [List.length_replicate]; omega)]
        simp [List.getD_eq_getElem?_getD, show j < n by omega])
      have HRW := Lib.hid hdr
      have HBW := Lib.hid (show Below w.heap.size w wr.drew from hbw.drew)
      have HMN := Lib.hid (And.intro hm1 hmk)
      clear hm hrow hbw hdr
      go_wp2
      go_region
      all_goals
        go_wp2
        go_roundw
        · exact ⟨k + m, by omega, HMN.out.2, by go_num, HRW.out, HBW.out⟩
        · simp [intOf]; omega
    · obtain rfl : k = n := by omega
      have hge : ¬ ((k : Int) < k) := by omega
      have HRW := Lib.hid hrow
      have HBW := Lib.hid hbw
      clear hrow hbw
      go_wp2
      go_ret
      exact ⟨rfl, HRW.out, HBW.out⟩
end Go.Proofs.Ytgnhmdfajnnkhaa


/- The walks over lamp's served and going; the groups that are not red, as a set. -/
namespace Go.Proofs.Ytgnhmdfajnnkhaa
set_option maxRecDepth 100000
set_option linter.unusedVariables false
set_option linter.unusedSimpArgs false
open Go.RowKit

/-- what the groups of a stage show -/
def servI (y : Int) : Int := if y = 0 then 2 else if y = 1 then 1 else if y = 2 then 0 else -1
theorem serv_neg (y : Int) : servI y < 0 ↔ ¬ (0 ≤ y ∧ y < 3) := by
  unfold servI
  split
  · omega
  · split
    · omega
    · split <;> omega
set_option maxHeartbeats 1000000 in
theorem lserved_any (y : Int) (w : World) : Calls Try.prog 72 #[.int .i64 y] w fun e w' => e = .returned (.int .i64 (servI y)) ∧ w = w' := by
  by_cases h0 : y = 0
  · subst h0
    go_enter Try.func72, Try.ntmps72
    go_wp2
    go_ret
    exact ⟨rfl, rfl⟩
  · by_cases h1 : y = 1
    · subst h1
      go_enter Try.func72, Try.ntmps72
      go_wp2
      go_ret
      exact ⟨rfl, rfl⟩
    · by_cases h2 : y = 2
      · subst h2
        go_enter Try.func72, Try.ntmps72
        go_wp2
        go_ret
        exact ⟨rfl, rfl⟩
      · have e0 : (y == 0) = false := by rw [beq_eq_false_iff_ne]; exact h0
        have e1 : (y == 1) = false := by rw [beq_eq_false_iff_ne]; exact h1
        have e2 : (y == 2) = false := by rw [beq_eq_false_iff_ne]; exact h2
        have HR := Lib.hid (show servI y = -1 by rw [servI, if_neg h0, if_neg h1, if_neg h2])
        clear h0 h1 h2
        go_enter Try.func72, Try.ntmps72
        go_wp2
        go_ret
        exact ⟨by rw [HR.out]; rfl, rfl⟩
end Go.Proofs.Ytgnhmdfajnnkhaa


/- The walk over lamp's Clash. -/
namespace Go.Proofs.Ytgnhmdfajnnkhaa
set_option maxRecDepth 100000
set_option linter.unusedVariables false
set_option linter.unusedSimpArgs false
open Go.RowKit

end Go.Proofs.Ytgnhmdfajnnkhaa


/- The walk over lamp's Show: a row of noughts, in which the stage's groups are marked. -/
namespace Go.Proofs.Ytgnhmdfajnnkhaa
set_option maxRecDepth 100000
set_option linter.unusedVariables false
set_option linter.unusedSimpArgs false
open Go.RowKit

theorem Its.setCell {K : IntKind} {w : World} {A : Option Addr} {n c : Nat} {l : List Int} (h : Its K w A n c l) (q : Addr) (v : Value) (hne : ∀ b off, A = some ⟨b, off, none⟩ → b ≠ q.block) : Its K (w.setCell q v) A n c l := by
  refine ⟨h.len, h.le, h.max, h.bare, fun hn => ?_⟩
  obtain ⟨b, off, hA, hc⟩ := h.at_ hn
  refine ⟨b, off, hA, fun j hj => ?_⟩
  have hb := hne b off hA
  have e := Below.heap_setCell w q v b hb
  have := hc j hj
  simp only [World.cell?] at this ⊢
  rw [e]
  exact this
def marks (M : List Int) (n : Nat) (v : Int) : List Int := (List.range n).map fun g : Nat => if (g : Int) ∈ M then v else 0
theorem marks_nil (n : Nat) (v : Int) : marks [] n v = List.replicate n 0 := by
  apply List.ext_getElem?
  intro j
  simp only [marks, List.getElem?_map, List.getElem?_range, List.getElem?_replicate, List.not_mem_nil, if_false]
  by_cases hj : j < n
  · simp [hj]
  · simp [hj]
theorem marks_len (M : List Int) (n : Nat) (v : Int) : (marks M n v).length = n := by simp [marks]
theorem marks_next (M : List Int) (n i : Nat) (v : Int) (hi : i < n) : (marks M n v).set i v = marks (M ++ [(i : Int)]) n v := by
  apply List.ext_getElem?
  intro j
  by_cases hj : j < n
  · by_cases e : i = j
    · subst e
      simp [marks, hj, List.getElem?_set]
    · have e2 : ¬ ((j : Int) = (i : Int)) := by omega
      have e3 : ¬ (j = i) := fun h => e h.symm
      simp [marks, hj, List.getElem?_set, e, e2, e3]
  · rw [List.getElem?_eq_none (by rw [List.length_set, marks_len]; omega), List.getElem?_eq_none (by rw [marks_len]; omega)]
theorem marks_all (t n : Nat) (y : Int) (ht : t < 256) (hn : n ≤ 8) (hy : 0 ≤ y ∧ y < 3) : marks (listM (t : Int)) n (servI y) = showTo (t : Int) y n := by
  unfold marks showTo
  refine List.map_congr_left fun g hg => ?_
  rw [List.mem_range] at hg
  have hm : ((g : Int) ∈ listM (t : Int)) ↔ bitI (t : Int) g = true := by
    have := mem8 ⟨t, ht⟩ (g : Int)
    rw [this]
    constructor
    · rintro ⟨j, e, hb⟩
      have : g = j.val := by omega
      rw [this]; exact hb
    · intro hb
      exact ⟨⟨g, by omega⟩, rfl, hb⟩
  unfold lampP servI
  have hy3 : y = 0 ∨ y = 1 ∨ y = 2 := by omega
  by_cases hb : bitI (t : Int) g = true
  · rw [if_pos (hm.2 hb)]
    rcases hy3 with rfl | rfl | rfl <;> simp [hb]
  · rw [if_neg (fun h => hb (hm.1 h))]
    simp [hb]
theorem mark_at {t n j : Nat} (ht : t < 2 ^ n) (hn : n ≤ 8) (hj : j < (listM (t : Int)).length) : ∃ g : Nat, (listM (t : Int)).getD j 0 = (g : Int) ∧ g < n := by
  have h256 := pow_le hn
  have hm := getD_mem hj
  obtain ⟨g, e, hb⟩ := (mem8 ⟨t, by omega⟩ _).1 hm
  refine ⟨g.val, e, ?_⟩
  rw [bit_nat] at hb
  exact Nat.lt_of_not_le fun hle => by
    have h2 : t < 2 ^ g.val := Nat.lt_of_lt_of_le ht (Nat.pow_le_pow_right (by omega) hle)
    rw [Nat.testBit_lt_two_pow h2] at hb
    cases hb
set_option maxHeartbeats 8000000 in
theorem lshowp_own (p : Pl) (x y : Int) (w : World) (hp : PlIn w p) : Calls Try.prog 57 #[plV p, .int .i64 x, .int .i64 y] w (GivesO (showR p x y) w) := by
  have hsk := hp.s.small
  have hsm := hp.m.small
  have hSL := hp.s.len
  have hML := hp.m.len
  obtain ⟨W0, hW0⟩ : ∃ W0, w.alloc (.cells #[.slice p.A p.n p.c, .slice p.B p.k p.d, .int .i64 p.am, .int .i64 p.rd, .int .i64 p.hd] 47) = W0 := ⟨_, rfl⟩
  have hB0 : Below w.heap.size w W0 := by rw [← hW0]; exact one_alloc w _
  have hp0 : PlIn W0 p := hp.below hB0
  have hbp : BoxP W0 w.heap.size p := by rw [← hW0]; exact BoxP.new w p
  have HFT := Lib.hid (fit_any p W0 hp0)
  have HSV := Lib.hid (lserved_any y W0)
  simp only [plV] at HFT ⊢
  have HW := Lib.hid hW0
  have HB0 := Lib.hid hB0
  have HAC := Lib.hid (show ∀ X, Below W0.heap.size W0 X → X.cell? ⟨w.heap.size, 0, none⟩ = some (.slice p.A p.n p.c) ∧ X.cell? ⟨w.heap.size, 1, none⟩ = some (.slice p.B p.k p.d) ∧ X.cell? ⟨w.heap.size, 2, none⟩ = some (.int .i64 p.am) ∧ X.cell? ⟨w.heap.size, 3, none⟩ = some (.int .i64 p.rd) ∧ X.cell? ⟨w.heap.size, 4, none⟩ = some (.int .i64 p.hd) from fun X hX => (hbp.below hX).cells)
  have HSL := Lib.hid hSL
  have HML := Lib.hid hML
  have HP := Lib.hid (show ∀ X, Below W0.heap.size W0 X → PlIn X p from fun X hX => hp0.below hX)
  obtain ⟨a0, a1, a2, a3, a4⟩ := HAC.out W0 (Below.refl _ _)
  clear hW0 hB0 hbp hp hp0
  obtain ⟨V, hV⟩ : ∃ V, servI y = V := ⟨_, rfl⟩
  have hVn0 := serv_neg y
  have HVV := Lib.hid hV
  rw [hV] at HSV hVn0
  have HVN := Lib.hid hVn0
  clear hV hVn0
  cases hf : fitP p with
  | false =>
    rw [hf] at HFT
    have HR := Lib.hid (show showR p x y = [] from if_neg fun h => by rw [hf] at h; cases h.1)
    clear hf a0 a1 a2 a3 a4 hSL hML
    go_enter Try.func57, Try.ntmps57
    go_wp2_with (first
      | (go_at_call 72; rw [HW.out]; (with_reducible refine (HSV.out).mono ?_); rintro e w0 ⟨rfl, rfl⟩; obtain ⟨a0, a1, a2, a3, a4⟩ := HAC.out W0 (Below.refl _ _))
      | (go_at_call 59; (with_reducible refine (HFT.out).mono ?_); rintro e w1 ⟨rfl, hb1⟩; obtain ⟨c0, c1, c2, c3, c4⟩ := HAC.out _ hb1; have HB1 := Lib.hid hb1; clear hb1))
    go_ret
    exact ⟨none, 0, 0, rfl, by rw [HR.out]; exact OwnI.nil _ _ _ _, HB0.out.trans (HB1.out.mono HB0.out.size)⟩
  | true =>
    rw [hf] at HFT
    by_cases h1 : x < 0
    · have HR := Lib.hid (show showR p x y = [] from if_neg fun h => by omega)
      clear hf a0 a1 a2 a3 a4 hSL hML
      go_enter Try.func57, Try.ntmps57
      go_wp2_with (first
        | (go_at_call 72; rw [HW.out]; (with_reducible refine (HSV.out).mono ?_); rintro e w0 ⟨rfl, rfl⟩; obtain ⟨a0, a1, a2, a3, a4⟩ := HAC.out W0 (Below.refl _ _))
        | (go_at_call 59; (with_reducible refine (HFT.out).mono ?_); rintro e w1 ⟨rfl, hb1⟩; obtain ⟨c0, c1, c2, c3, c4⟩ := HAC.out _ hb1; have HB1 := Lib.hid hb1; clear hb1))
      go_ret
      exact ⟨none, 0, 0, rfl, by rw [HR.out]; exact OwnI.nil _ _ _ _, HB0.out.trans (HB1.out.mono HB0.out.size)⟩
    by_cases h2 : (p.k : Int) ≤ x
    · have HR := Lib.hid (show showR p x y = [] from if_neg fun h => by have := HSL.out; omega)
      clear hf a0 a1 a2 a3 a4 hSL hML
      go_enter Try.func57, Try.ntmps57
      go_wp2_with (first
        | (go_at_call 72; rw [HW.out]; (with_reducible refine (HSV.out).mono ?_); rintro e w0 ⟨rfl, rfl⟩; obtain ⟨a0, a1, a2, a3, a4⟩ := HAC.out W0 (Below.refl _ _))
        | (go_at_call 59; (with_reducible refine (HFT.out).mono ?_); rintro e w1 ⟨rfl, hb1⟩; obtain ⟨c0, c1, c2, c3, c4⟩ := HAC.out _ hb1; have HB1 := Lib.hid hb1; clear hb1))
      go_ret
      exact ⟨none, 0, 0, rfl, by rw [HR.out]; exact OwnI.nil _ _ _ _, HB0.out.trans (HB1.out.mono HB0.out.size)⟩
    by_cases h3 : V < 0
    · have HR := Lib.hid (show showR p x y = [] from if_neg fun h => HVN.out.1 h3 h.2.2)
      clear hf a0 a1 a2 a3 a4 hSL hML
      go_enter Try.func57, Try.ntmps57
      go_wp2_with (first
        | (go_at_call 72; rw [HW.out]; (with_reducible refine (HSV.out).mono ?_); rintro e w0 ⟨rfl, rfl⟩; obtain ⟨a0, a1, a2, a3, a4⟩ := HAC.out W0 (Below.refl _ _))
        | (go_at_call 59; (with_reducible refine (HFT.out).mono ?_); rintro e w1 ⟨rfl, hb1⟩; obtain ⟨c0, c1, c2, c3, c4⟩ := HAC.out _ hb1; have HB1 := Lib.hid hb1; clear hb1))
      go_ret
      exact ⟨none, 0, 0, rfl, by rw [HR.out]; exact OwnI.nil _ _ _ _, HB0.out.trans (HB1.out.mono HB0.out.size)⟩
    have hy : 0 ≤ y ∧ y < 3 := Classical.not_not.1 fun h => h3 (HVN.out.2 h)
    obtain ⟨st, rfl⟩ := Int.eq_ofNat_of_zero_le (show 0 ≤ x by omega)
    have hff := fit_iff.1 hf
    have lst : st < p.s.length := by have := HSL.out; omega
    have hR : showTo (p.s.getD st Stg.zero).g y p.m.length = showR p (st : Int) y := by rw [showR, if_pos ⟨hf, ⟨by omega, by omega⟩, hy⟩, Int.toNat_natCast, showTo]
    obtain ⟨R, hRR⟩ : ∃ R, showR p (st : Int) y = R := ⟨_, rfl⟩
    rw [hRR] at hR ⊢
    have hmem : p.s.getD st Stg.zero ∈ p.s := by rw [List.getD_eq_getElem?_getD, List.getElem?_eq_getElem lst]; exact List.getElem_mem lst
    obtain ⟨hfr, -⟩ := hff.stage _ hmem
    obtain ⟨t, ht, ht2⟩ := set_nat (free_iff.1 hfr).2.1
    obtain ⟨hn8, -⟩ := may_rows HML.out hff.may
    have hn1 := (may_all hff.may).1.1
    rw [HML.out] at hn1 ht2
    have h8 := pow_le hn8
    have ht3 : t < 256 := by omega
    rw [ht, HML.out] at hR
    have HR := Lib.hid (show marks (listM (t : Int)) p.n V = R by rw [← HVV.out, marks_all t p.n y ht3 hn8 hy, hR])
    have HLA := Lib.hid (fun j (hj : j < (listM (t : Int)).length) => mark_at (j := j) ht2 hn8 hj)
    have HG := Lib.hid (show ∀ X, Below W0.heap.size W0 X → ∃ b off, p.B = some ⟨b, off, none⟩ ∧ X.cell? ⟨b, off + st * 3, none⟩ = some (.int .i64 (t : Int)) from fun X hX => by
      obtain ⟨b, off, u, hA, hu, -, -, z0, -, -⟩ := (HP.out X hX).s.at_ st (by have := HSL.out; omega)
      rw [hu] at ht
      rw [ht] at z0
      exact ⟨b, off, hA, z0⟩)
    obtain ⟨sb, so, hsB, -⟩ := HG.out W0 (Below.refl _ _)
    have HG2 := Lib.hid (show ∀ X, Below W0.heap.size W0 X → X.cell? ⟨sb, so + st * 3, none⟩ = some (.int .i64 (t : Int)) from fun X hX => by
      obtain ⟨b, off, hA, z⟩ := HG.out X hX
      rw [hsB] at hA
      cases hA
      exact z)
    have est : ¬ ((p.k : Int) ≤ (st : Int)) := h2
    have st0 : 0 ≤ (st : Int) := by omega
    have stk : (st : Int) < p.k := by omega
    have stn : st < p.k := by omega
    have hl8 : (listM (t : Int)).length ≤ 8 := by rw [listM, if_pos ⟨by omega, by omega⟩, List.length_map]; exact Nat.le_trans (List.length_filter_le _ _) (by simp)
    obtain ⟨M, hM⟩ : ∃ M, listM (t : Int) = M := ⟨_, rfl⟩
    have HLI := Lib.hid (fun X => glist_own (t : Int) X)
    rw [hM] at HR HLA HLI hl8
    rw [hsB] at HAC
    clear hf hff hRR hR hmem hfr ht ht2 a0 a1 a2 a3 a4 hSL hML h1 h2 HG hM HVN HVV
    rw [hsB]
    rw [hsB] at HFT HW
    go_enter Try.func57, Try.ntmps57
    go_wp2_with (first
      | (go_at_call 72; rw [HW.out]; (with_reducible refine (HSV.out).mono ?_); rintro e w0 ⟨rfl, rfl⟩; obtain ⟨a0, a1, a2, a3, a4⟩ := HAC.out W0 (Below.refl _ _))
      | (go_at_call 59
         (with_reducible refine (HFT.out).mono ?_)
         rintro e w1 ⟨rfl, hb1⟩
         obtain ⟨c0, c1, c2, c3, c4⟩ := HAC.out _ hb1
         have HB1 := Lib.hid hb1
         obtain ⟨Y, hY⟩ : ∃ Y, w1.alloc (.cells #[.int .i64 0] 3) = Y := ⟨_, rfl⟩
         have hbY : Below W0.heap.size W0 Y := by rw [← hY]; exact hb1.alloc hb1.size _
         obtain ⟨d0, d1, d2, d3, d4⟩ := HAC.out _ (hb1.alloc hb1.size (.cells #[.int .i64 0] 3))
         have HBY := Lib.hid hbY
         have HRP := Lib.hid (repeat_any (some ⟨w1.heap.size, 0, none⟩) 1 p.n hn1 hn8 Y (by rw [← hY]; exact one_its .i64 3 w1 0))
         have HY := Lib.hid hY
         clear hb1 hY hbY)
      | (go_at_call 73
         rw [HY.out]
         (with_reducible refine (HRP.out).mono ?_)
         rintro e w3 ⟨rfl, hrow, hb3⟩
         have HB3 := Lib.hid (HBY.out.trans (hb3.mono HBY.out.size))
         obtain ⟨e0, e1, e2, e3, e4⟩ := HAC.out _ HB3.out
         have g0 := HG2.out _ HB3.out
         have HRW := Lib.hid hrow
         have HS3 := Lib.hid (show Y.heap.size < w3.heap.size from hrow.lt)
         clear hrow hb3)
      | (go_at_call 74
         (with_reducible refine (HLI.out _).mono ?_)
         rintro e w4 ⟨A4, n4, cp4, rfl, hown, hb4⟩
         have HB4 := Lib.hid (HB3.out.trans (hb4.mono HB3.out.size))
         have HRW4 := Lib.hid (HRW.out.below hb4)
         have HNE := Lib.hid (show ∀ b off, A4 = some ⟨b, off, none⟩ → b ≠ Y.heap.size from fun b off hA hE => by
           have := (hown.size b (by rw [hA]; rfl)).1
           have := HS3.out
           omega)
         obtain ⟨B5, k5, d5, hE5, hits⟩ := hown.its
         cases hE5
         have HIT := Lib.hid hits
         have hn4 : n4 ≤ 8 := by rw [← hits.len]; exact hl8
         have HN4 := Lib.hid hits.len
         clear hown hb4 hits))
    clear c0 c1 c2 c3 c4 d0 d1 d2 d3 d4 e0 e1 e2 e3 e4 g0
    have HML4 := Lib.hid (fun (k : Nat) => marks_len (M.take k) p.n V)
    go_loopw [44] (fun i wr => ∃ (j : Nat) (L : List Int), j ≤ n4 ∧ i = .int .i64 j ∧ marks (M.take j) p.n V = L ∧ RowL wr Y.heap.size L ∧ Its .i64 wr A4 n4 cp4 M ∧ Below W0.heap.size W0 wr) (fun i _ => n4 - (intOf i).toNat)
    case atStart => exact ⟨0, List.replicate p.n 0, by omega, rfl, by rw [List.take_zero, marks_nil], HRW4.out, HIT.out, HB4.out⟩
    case round =>
      obtain ⟨j, L, hj, rfl, hL, hrow, hit, hbw⟩ := hrel
      by_cases hlt : j < n4
      · have hlt2 : (j : Int) < n4 := by omega
        have q0 : 0 ≤ (j : Int) := by omega
        have hjl : j < M.length := by rw [HN4.out]; exact hlt
        obtain ⟨g, hg, hgn⟩ := HLA.out j hjl
        obtain ⟨b4, o4, hA4, hc⟩ := hit.at_ (by omega)
        have z := hc j hlt
        rw [hg] at z
        have hll : L.length = p.n := by rw [← hL]; exact HML4.out j
        have z1 := hrow.cell g (by omega)
        have z2 := hrow.frozen g
        have gi0 : 0 ≤ (g : Int) := by omega
        have gin : (g : Int) < p.n := by omega
        have hnx := marks_next (M.take j) p.n g V hgn
        have htk : M.take (j + 1) = M.take j ++ [(g : Int)] := by
          rw [List.take_succ_eq_append_getElem hjl]
          rw [← hg]
          simp [List.getD_eq_getElem?_getD, hjl]
        rw [← htk, hL] at hnx
        have HNX := Lib.hid hnx.symm
        have HRS := Lib.hid (hrow.set g V)
        have HIS := Lib.hid (hit.setCell ⟨Y.heap.size, g, none⟩ (.int .i64 V) (fun b off e => HNE.out b off e))
        have HBS := Lib.hid (hbw.setCell (p := ⟨Y.heap.size, g, none⟩) HBY.out.size (.int .i64 V))
        have HA4 := Lib.hid hA4
        obtain ⟨u, hu⟩ : ∃ u, L.getD g 0 = u := ⟨_, rfl⟩
        rw [hu] at z1
        rw [hA4]
        clear hL hrow hit hbw hc hg hnx htk hu hA4
        go_wp2
        go_roundw
        case rel => exact ⟨j + 1, L.set g V, by omega, by go_num, HNX.out.symm ▸ rfl, HRS.out, (by rw [← HA4.out]; exact HIS.out), HBS.out⟩
        case measure => simp [intOf]; omega
      · obtain rfl : j = n4 := by omega
        have hge : ¬ ((j : Int) < j) := by omega
        have hLR : L = R := by rw [← hL, List.take_of_length_le (by rw [HN4.out]; exact Nat.le_refl _)]; exact HR.out
        have hll : L.length = p.n := by rw [← hL]; exact HML4.out j
        have hown := hrow.own HBY.out.size (by omega)
        rw [hll, hLR] at hown
        have HO := Lib.hid hown
        have HBW := Lib.hid hbw
        clear hL hrow hit hbw hLR hll hown
        go_wp2
        go_ret
        exact ⟨_, _, _, rfl, HO.out.mono HB0.out.size, HB0.out.trans (HBW.out.mono HB0.out.size)⟩
end Go.Proofs.Ytgnhmdfajnnkhaa


/- Signal machines as the landed code has them: plans beside a machine. -/
namespace Go.Proofs.Ytgnhmdfajnnkhaa
set_option maxRecDepth 100000
set_option linter.unusedVariables false
set_option linter.unusedSimpArgs false
open Go.RowKit

def mcV (A : Option Addr) (n c : Nat) (s : Sg) : Value := .agg #[.slice A n c, .int .i64 s.pl, .int .i64 s.st, .int .i64 s.nx, .int .i64 s.ph, .int .i64 s.t, .int .i64 s.hd, .int .i64 s.hl, .int .i64 s.ak, .int .i64 s.wt, .bool s.sp]
/-- a block that holds one -/
def BoxM (w : World) (b : Nat) (A : Option Addr) (n c : Nat) (s : Sg) : Prop := w.heap[b]? = some (.cells #[.slice A n c, .int .i64 s.pl, .int .i64 s.st, .int .i64 s.nx, .int .i64 s.ph, .int .i64 s.t, .int .i64 s.hd, .int .i64 s.hl, .int .i64 s.ak, .int .i64 s.wt, .bool s.sp] 66 (0, 0))
structure CellsM (w : World) (b : Nat) (A : Option Addr) (n c : Nat) (s : Sg) : Prop where
  m : w.cell? ⟨b, 0, none⟩ = some (.slice A n c)
  c0 : w.cell? ⟨b, 1, none⟩ = some (.int .i64 s.pl)
  c1 : w.cell? ⟨b, 2, none⟩ = some (.int .i64 s.st)
  c2 : w.cell? ⟨b, 3, none⟩ = some (.int .i64 s.nx)
  c3 : w.cell? ⟨b, 4, none⟩ = some (.int .i64 s.ph)
  c4 : w.cell? ⟨b, 5, none⟩ = some (.int .i64 s.t)
  c5 : w.cell? ⟨b, 6, none⟩ = some (.int .i64 s.hd)
  c6 : w.cell? ⟨b, 7, none⟩ = some (.int .i64 s.hl)
  c7 : w.cell? ⟨b, 8, none⟩ = some (.int .i64 s.ak)
  c8 : w.cell? ⟨b, 9, none⟩ = some (.int .i64 s.wt)
  c9 : w.cell? ⟨b, 10, none⟩ = some (.bool s.sp)
section
variable {w w' : World} {b n c : Nat} {A : Option Addr} {s : Sg}
theorem BoxM.new (w : World) (A : Option Addr) (n c : Nat) (s : Sg) : BoxM (w.alloc (.cells #[.slice A n c, .int .i64 s.pl, .int .i64 s.st, .int .i64 s.nx, .int .i64 s.ph, .int .i64 s.t, .int .i64 s.hd, .int .i64 s.hl, .int .i64 s.ak, .int .i64 s.wt, .bool s.sp] 66)) w.heap.size A n c s := heap_alloc_new w _
theorem BoxM.lt (h : BoxM w b A n c s) : b < w.heap.size := (Array.getElem?_eq_some_iff.1 h).1
theorem BoxM.below (h : BoxM w b A n c s) (hb : Below w.heap.size w w') : BoxM w' b A n c s := (hb.block b h.lt).trans h
theorem BoxM.low {B : Nat} (h : BoxM w b A n c s) (hb : Below B w w') (hg : b < B) : BoxM w' b A n c s := (hb.block b hg).trans h
theorem BoxM.cells (h : BoxM w b A n c s) : CellsM w b A n c s :=
  ⟨(cell_of_row _ _ _ _ _ _ h).trans rfl, (cell_of_row _ _ _ _ _ _ h).trans rfl, (cell_of_row _ _ _ _ _ _ h).trans rfl, (cell_of_row _ _ _ _ _ _ h).trans rfl, (cell_of_row _ _ _ _ _ _ h).trans rfl, (cell_of_row _ _ _ _ _ _ h).trans rfl, (cell_of_row _ _ _ _ _ _ h).trans rfl, (cell_of_row _ _ _ _ _ _ h).trans rfl, (cell_of_row _ _ _ _ _ _ h).trans rfl, (cell_of_row _ _ _ _ _ _ h).trans rfl, (cell_of_row _ _ _ _ _ _ h).trans rfl⟩
end
theorem info_mac : (Try.prog.info? 66).map (·.size) = some 11 := by kernel_rfl
theorem info_plan : (Try.prog.info? 47).map (·.size) = some 5 := by kernel_rfl
theorem info_stage : (Try.prog.info? 71).map (·.size) = some 3 := by kernel_rfl
theorem one_mac (A : Option Addr) (n k : Nat) (a b c d e f g h i : Int) (j : Bool) : (#[.slice A n k, .int .i64 a, .int .i64 b, .int .i64 c, .int .i64 d, .int .i64 e, .int .i64 f, .int .i64 g, .int .i64 h, .int .i64 i, .bool j] : Array Value).all (·.oneCell') = true := all_row (l := [.slice A n k, .int .i64 a, .int .i64 b, .int .i64 c, .int .i64 d, .int .i64 e, .int .i64 f, .int .i64 g, .int .i64 h, .int .i64 i, .bool j]) fun v hv => by
  simp only [List.mem_cons, List.not_mem_nil, or_false] at hv
  rcases hv with rfl | rfl | rfl | rfl | rfl | rfl | rfl | rfl | rfl | rfl | rfl <;> rfl
def GivesM (A : Option Addr) (n c : Nat) (s : Sg) (X : World) : Ending → World → Prop := fun e w' => e = .returned (mcV A n c s) ∧ Below X.heap.size X w'
/-- a place of so many -/
def placeB (x y : Int) : Bool := decide (0 ≤ x) && decide (x < y)
theorem place_any (x y : Int) (w : World) : Calls Try.prog 43 #[.int .i64 x, .int .i64 y] w fun e w' => e = .returned (.bool (placeB x y)) ∧ w = w' := by
  have HR := Lib.hid (show placeB x y = (decide (0 ≤ x) && decide (x < y)) from rfl)
  by_cases h0 : 0 ≤ x
  · rw [decide_eq_true h0, Bool.true_and] at HR
    go_enter Try.func43, Try.ntmps43
    go_wp2
    go_ret
    exact ⟨by rw [HR.out]; rfl, rfl⟩
  · rw [decide_eq_false h0, Bool.false_and] at HR
    go_enter Try.func43, Try.ntmps43
    go_wp2
    go_ret
    exact ⟨by rw [HR.out]; rfl, rfl⟩
theorem plan_lies {w : World} {A : Option Addr} {n c : Nat} {l : List Pl} {k : Int} (h : Pls w A n c l) (h0 : 0 ≤ k) (h1 : k < n) : PlIn w (planAt l k) := by
  obtain ⟨j, rfl⟩ := Int.eq_ofNat_of_zero_le h0
  exact (plan_of h (by omega)).1
set_option maxHeartbeats 4000000 in
theorem own_plan (A : Option Addr) (n c : Nat) (l : List Pl) (s : Sg) (w : World) (hl : Pls w A n c l) (h0 : 0 ≤ s.pl) (h1 : s.pl < n) : Calls Try.prog 58 #[mcV A n c s] w fun e w' => e = .returned (plV (planAt l s.pl)) ∧ Below w.heap.size w w' := by
  obtain ⟨j, hj⟩ := Int.eq_ofNat_of_zero_le h0
  have hjn : j < n := by omega
  obtain ⟨b, off, q, rfl, hq, hmem, -, -, -⟩ := hl.at_ j hjn
  have hqa : planAt l s.pl = q := by rw [hj, planAt, Int.toNat_natCast, hq]
  have HPC := Lib.hid (show ∀ X, Below w.heap.size w X → X.cell? ⟨b, off + j * 5, none⟩ = some (.slice q.A q.n q.c) ∧ X.cell? ⟨b, off + j * 5 + 1, none⟩ = some (.slice q.B q.k q.d) ∧ X.cell? ⟨b, off + j * 5 + 2, none⟩ = some (.int .i64 q.am) ∧ X.cell? ⟨b, off + j * 5 + 3, none⟩ = some (.int .i64 q.rd) ∧ X.cell? ⟨b, off + j * 5 + 4, none⟩ = some (.int .i64 q.hd) from fun X hX => by
    obtain ⟨b2, off2, p2, hA2, hp2, -, -, -, z0, z1, z2, z3, z4⟩ := (hl.below hX).at_ j hjn
    cases hA2
    obtain rfl := hq.symm.trans hp2
    exact ⟨z0, z1, z2, z3, z4⟩)
  have hj0 : 0 ≤ (j : Int) := by omega
  have hjn' : (j : Int) < n := by omega
  rw [hqa]
  unfold mcV plV
  clear hl hq hmem hqa h0 h1
  obtain ⟨pl, st, nx, ph, t, hd, hh, ak, wt, sp⟩ := s
  simp only at *
  subst hj
  obtain ⟨z0, z1, z2, z3, z4⟩ := HPC.out _ (below_alloc2 w (.cells #[.slice (some ⟨b, off, none⟩) n c, .int .i64 (j : Int), .int .i64 st, .int .i64 nx, .int .i64 ph, .int .i64 t, .int .i64 hd, .int .i64 hh, .int .i64 ak, .int .i64 wt, .bool sp] 66) (.cells #[.slice none 0 0, .slice none 0 0, .int .i64 0, .int .i64 0, .int .i64 0] 47))
  go_enter Try.func58, Try.ntmps58
  go_wp2
  refine bodyPost_ret (v := .agg #[.slice q.A q.n q.c, .slice q.B q.k q.d, .int .i64 q.am, .int .i64 q.rd, .int .i64 q.hd]) ?_ rfl ⟨rfl, below_alloc2 _ _ _⟩
  exact results_cell_row Try.results58 _ _ (w.heap.size + 1) 47 #[.slice q.A q.n q.c, .slice q.B q.k q.d, .int .i64 q.am, .int .i64 q.rd, .int .i64 q.hd] (0, 0) _ rfl (alloc2_new _ _ _) Try.underlying47 rfl info_plan
end Go.Proofs.Ytgnhmdfajnnkhaa

