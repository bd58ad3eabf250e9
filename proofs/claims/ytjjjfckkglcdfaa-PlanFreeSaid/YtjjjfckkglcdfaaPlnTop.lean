/- Package plan's calls All, Same, Next, Least, Cycle; with Fit they are all that the laws stand on. -/
import Derived.Test.YtjjjfckkglcdfaaPlnFit
import Derived.Test.YtjjjfckkglcdfaaPlnPure
namespace Go.Proofs.Ytjjjfckkglcdfaa
set_option maxRecDepth 100000
set_option linter.unusedVariables false
set_option linter.unusedSimpArgs false
open Go.RowKit

theorem grpTwo : GrpTwo where
  free := fun A n c m s X h _ => gfree_any A n c m s X h
  against := fun A n c m s X h _ => gagainst_any A n c m s X h
set_option maxHeartbeats 8000000 in
theorem pall_own (A : Option Addr) (n c : Nat) (l : List Pl) (w : World) (hl : Pls w A n c l) : Calls Try.prog 16 #[.slice A n c] w fun e w' => e = .returned (.bool (allP l)) ∧ Below w.heap.size w w' := by
  have hsm := hl.small
  have HLL := Lib.hid hl.len
  by_cases hn : n < 1 ∨ 3 < n
  · have HR := Lib.hid (show allP l = false by rw [← Bool.not_eq_true, all_iff]; rintro ⟨h, -⟩; have := HLL.out; omega)
    rcases hn with hn | hn
    all_goals
      clear hl
      go_enter Try.func16, Try.ntmps16
      go_wp2
      go_ret
      exact ⟨by rw [HR.out]; rfl, Below.refl _ _⟩
  · have hn1 : ¬ ((n : Int) < 1) := by omega
    have hn3 : ¬ (3 < (n : Int)) := by omega
    obtain ⟨b, off, p0, rfl, hp0, -, -, hpi0, -⟩ := hl.at_ 0 (by omega)
    have HP0 := Lib.hid hp0
    have HPI0 := Lib.hid hpi0
    have HL := Lib.hid hl
    have hq3 : (0 : Int) < n := by omega
    clear hp0 hpi0 hl
    go_enter Try.func16, Try.ntmps16
    go_wp2
    go_loopw [4, 15] (fun y v wr => ∃ j : Nat, j ≤ n ∧ v = .int .i64 j ∧ (∀ i, i < j → fitP (l.getD i Pl.zero) = true ∧ (l.getD i Pl.zero).m.length = (l.getD 0 Pl.zero).m.length) ∧ Below w.heap.size w wr) (fun _ v _ => n - (intOf v).toNat)
    case atStart => exact ⟨0, by omega, rfl, fun i hi => by omega, Below.refl _ _⟩
    case round =>
      obtain ⟨j, hj, rfl, hall, hbw⟩ := hrel
      have HBW := Lib.hid hbw
      have HAL := Lib.hid hall
      clear hall
      by_cases hlt : j < n
      · have hlt2 : (j : Int) < n := by omega
        have q0 : 0 ≤ (j : Int) := by omega
        obtain ⟨b', off', q, hA, hq, -, -, hqi, z0, z1, z2, z3, z4⟩ := (HL.out.below hbw).at_ j hlt
        cases hA
        obtain ⟨Wa, hWa⟩ : ∃ Wa, wr.alloc (.cells #[.slice q.A q.n q.c, .slice q.B q.k q.d, .int .i64 q.am, .int .i64 q.rd, .int .i64 q.hd] 25) = Wa := ⟨_, rfl⟩
        have hBa : Below wr.heap.size wr Wa := by rw [← hWa]; exact one_alloc wr _
        have hBX : BoxP Wa wr.heap.size q := by rw [← hWa]; exact BoxP.new wr q
        have HB3 := Lib.hid (hbw.trans (hBa.mono hbw.size))
        have HFT := Lib.hid (fun X (hX : Below Wa.heap.size Wa X) => fit_any q X ((hqi.below hBa).below hX))
        simp only [plV] at HFT
        have HF := Lib.hid (show ∀ X, Below Wa.heap.size Wa X → X.cell? ⟨wr.heap.size, 0, none⟩ = some (.slice q.A q.n q.c) ∧ X.cell? ⟨wr.heap.size, 1, none⟩ = some (.slice q.B q.k q.d) ∧ X.cell? ⟨wr.heap.size, 2, none⟩ = some (.int .i64 q.am) ∧ X.cell? ⟨wr.heap.size, 3, none⟩ = some (.int .i64 q.rd) ∧ X.cell? ⟨wr.heap.size, 4, none⟩ = some (.int .i64 q.hd) ∧ X.cell? ⟨b, off, none⟩ = some (.slice p0.A p0.n p0.c) from fun X hX => by
          obtain ⟨y0, y1, y2, y3, y4⟩ := (hBX.below hX).cells
          have hX0 := HB3.out.trans (hX.mono HB3.out.size)
          obtain ⟨b3, off3, q3, hA3, hq3, -, -, -, y5, -, -, -, -⟩ := (HL.out.below hX0).at_ 0 (by omega)
          cases hA3
          obtain rfl := HP0.out.symm.trans hq3
          exact ⟨y0, y1, y2, y3, y4, by simpa using y5⟩)
        have HWA := Lib.hid hWa
        have HQL := Lib.hid hqi.m.len
        have HQ := Lib.hid hq
        have hqs := hqi.m.small
        clear hbw hqi hq hBa hBX hWa
        cases hf : fitP q with
        | false =>
          rw [hf] at HFT
          have HR := Lib.hid (all_no (l := l) (j := j) (by rw [HLL.out]; exact hlt) (.inl (by rw [HQ.out]; exact hf)))
          clear hf
          go_wp2
          rw [HWA.out]
          clear z0 z1 z2 z3 z4
          have hSd : Below Wa.heap.size Wa Wa.drew := (Below.refl _ Wa).drew
          refine wp_region_held_drew (S := fun X => Below Wa.heap.size Wa X) (by kernel_rfl) hSd (fun hHeld => ?_)
          refine tkS 0 (.agg #[.slice q.A q.n q.c, .slice q.B q.k q.d, .int .i64 q.am, .int .i64 q.rd, .int .i64 q.hd]) hHeld (fun w hq => ?_) ?_
          · obtain ⟨z0, z1, z2, z3, z4, z5⟩ := HF.out w hq
            go_simp
          simp only [PT]
          refine one_step 1 (by kernel_rfl) rfl (fun Kq hKq => ?_)
          go_simp
          go_at_call 15
          (with_reducible refine (HFT.out _ hSd).mono ?_)
          rintro e y1 ⟨rfl, hbx⟩
          have hS1 : Below Wa.heap.size Wa y1 := hSd.trans (hbx.mono hSd.size)
          clear hbx
          refine hKq.out _ _ hS1 (fun hHeld0 => ?_)
          clear hKq Kq hHeld
          have hHeld := hHeld0
          clear hHeld0
          try simp only [PT]
          refine tk 2 (.bool true) hHeld (fun w => ?_) ?_
          · go_simp
          simp only [PT]
          refine tk 3 (.bool true) hHeld (fun w => ?_) ?_
          · go_simp
          simp only [PT]
          refine tkO 4 hHeld ?_
          simp only [PT]
          refine tkO 5 hHeld ?_
          simp only [PT]
          refine tkO 6 hHeld ?_
          simp only [PT]
          refine tkO 7 hHeld ?_
          simp only [PT]
          refine tkO 8 hHeld ?_
          simp only [PT]
          refine tkO 9 hHeld ?_
          simp only [PT]
          refine tkO 10 hHeld ?_
          simp only [PT]
          refine tkO 11 hHeld ?_
          simp only [PT]
          refine tkO 12 hHeld ?_
          simp only [PT]
          refine tk 13 (.bool true) hHeld (fun w => ?_) ?_
          · go_simp
          simp only [PT]
          refine wpAnyH_done (by kernel_rfl) ?_ _
          clear hHeld
          go_wp2
          go_ret
          exact ⟨by rw [HR.out]; rfl, HB3.out.trans (hS1.mono HB3.out.size)⟩
        | true =>
          rw [hf] at HFT
          obtain ⟨D, hD⟩ : ∃ D, ((q.n : Int) != (p0.n : Int)) = D := ⟨_, rfl⟩
          have hqm := HQL.out
          have hpm := HPI0.out.m.len
          cases D
          · have HN := Lib.hid (show ∀ i, i < j + 1 → fitP (l.getD i Pl.zero) = true ∧ (l.getD i Pl.zero).m.length = (l.getD 0 Pl.zero).m.length from fun i hi => by
              by_cases e : i = j
              · subst e
                rw [HQ.out, HP0.out]
                exact ⟨hf, by simp at hD; omega⟩
              · exact HAL.out i (by omega))
            clear hf hqm hpm
            go_wp2
            rw [HWA.out]
            clear z0 z1 z2 z3 z4
            have hSd : Below Wa.heap.size Wa Wa.drew := (Below.refl _ Wa).drew
            refine wp_region_held_drew (S := fun X => Below Wa.heap.size Wa X) (by kernel_rfl) hSd (fun hHeld => ?_)
            refine tkS 0 (.agg #[.slice q.A q.n q.c, .slice q.B q.k q.d, .int .i64 q.am, .int .i64 q.rd, .int .i64 q.hd]) hHeld (fun w hq => ?_) ?_
            · obtain ⟨z0, z1, z2, z3, z4, z5⟩ := HF.out w hq
              go_simp
            simp only [PT]
            refine one_step 1 (by kernel_rfl) rfl (fun Kq hKq => ?_)
            go_simp
            go_at_call 15
            (with_reducible refine (HFT.out _ hSd).mono ?_)
            rintro e y1 ⟨rfl, hbx⟩
            have hS1 : Below Wa.heap.size Wa y1 := hSd.trans (hbx.mono hSd.size)
            clear hbx
            refine hKq.out _ _ hS1 (fun hHeld0 => ?_)
            clear hKq Kq hHeld
            have hHeld := hHeld0
            clear hHeld0
            try simp only [PT]
            refine tk 2 (.bool false) hHeld (fun w => ?_) ?_
            · go_simp
            simp only [PT]
            refine tk 3 (.bool false) hHeld (fun w => ?_) ?_
            · go_simp
            simp only [PT]
            refine tk 4 (.pointer (some ⟨wr.heap.size, 0, none⟩)) hHeld (fun w => ?_) ?_
            · go_simp
            simp only [PT]
            refine tkS 5 (.slice q.A q.n q.c) hHeld (fun w hq => ?_) ?_
            · obtain ⟨z0, z1, z2, z3, z4, z5⟩ := HF.out w hq
              go_simp
            simp only [PT]
            refine tk 6 (.int .i64 (q.n : Int)) hHeld (fun w => ?_) ?_
            · go_simp
            simp only [PT]
            refine tk 7 (.slice (some ⟨b, off, none⟩) n c) hHeld (fun w => ?_) ?_
            · go_simp
            simp only [PT]
            refine tk 8 (.pointer (some ⟨b, off, none⟩)) hHeld (fun w => ?_) ?_
            · (go_simp; intro hz; omega)
            simp only [PT]
            refine tk 9 (.pointer (some ⟨b, off, none⟩)) hHeld (fun w => ?_) ?_
            · go_simp
            simp only [PT]
            refine tkS 10 (.slice p0.A p0.n p0.c) hHeld (fun w hq => ?_) ?_
            · obtain ⟨z0, z1, z2, z3, z4, z5⟩ := HF.out w hq
              go_simp
            simp only [PT]
            refine tk 11 (.int .i64 (p0.n : Int)) hHeld (fun w => ?_) ?_
            · go_simp
            simp only [PT]
            refine tk 12 (.bool false) hHeld (fun w => ?_) ?_
            · go_simp
            simp only [PT]
            refine tk 13 (.bool false) hHeld (fun w => ?_) ?_
            · go_simp
            simp only [PT]
            refine wpAnyH_done (by kernel_rfl) ?_ _
            clear hHeld
            go_wp2
            go_roundw
            case rel => exact ⟨j + 1, by omega, by go_num, HN.out, HB3.out.trans (hS1.mono HB3.out.size)⟩
            case measure => simp [intOf]; omega
          · have HR := Lib.hid (all_no (l := l) (j := j) (by rw [HLL.out]; exact hlt) (.inr (by rw [HQ.out, HP0.out]; simp at hD; omega)))
            clear hf hqm hpm
            go_wp2
            rw [HWA.out]
            clear z0 z1 z2 z3 z4
            have hSd : Below Wa.heap.size Wa Wa.drew := (Below.refl _ Wa).drew
            refine wp_region_held_drew (S := fun X => Below Wa.heap.size Wa X) (by kernel_rfl) hSd (fun hHeld => ?_)
            refine tkS 0 (.agg #[.slice q.A q.n q.c, .slice q.B q.k q.d, .int .i64 q.am, .int .i64 q.rd, .int .i64 q.hd]) hHeld (fun w hq => ?_) ?_
            · obtain ⟨z0, z1, z2, z3, z4, z5⟩ := HF.out w hq
              go_simp
            simp only [PT]
            refine one_step 1 (by kernel_rfl) rfl (fun Kq hKq => ?_)
            go_simp
            go_at_call 15
            (with_reducible refine (HFT.out _ hSd).mono ?_)
            rintro e y1 ⟨rfl, hbx⟩
            have hS1 : Below Wa.heap.size Wa y1 := hSd.trans (hbx.mono hSd.size)
            clear hbx
            refine hKq.out _ _ hS1 (fun hHeld0 => ?_)
            clear hKq Kq hHeld
            have hHeld := hHeld0
            clear hHeld0
            try simp only [PT]
            refine tk 2 (.bool false) hHeld (fun w => ?_) ?_
            · go_simp
            simp only [PT]
            refine tk 3 (.bool false) hHeld (fun w => ?_) ?_
            · go_simp
            simp only [PT]
            refine tk 4 (.pointer (some ⟨wr.heap.size, 0, none⟩)) hHeld (fun w => ?_) ?_
            · go_simp
            simp only [PT]
            refine tkS 5 (.slice q.A q.n q.c) hHeld (fun w hq => ?_) ?_
            · obtain ⟨z0, z1, z2, z3, z4, z5⟩ := HF.out w hq
              go_simp
            simp only [PT]
            refine tk 6 (.int .i64 (q.n : Int)) hHeld (fun w => ?_) ?_
            · go_simp
            simp only [PT]
            refine tk 7 (.slice (some ⟨b, off, none⟩) n c) hHeld (fun w => ?_) ?_
            · go_simp
            simp only [PT]
            refine tk 8 (.pointer (some ⟨b, off, none⟩)) hHeld (fun w => ?_) ?_
            · (go_simp; intro hz; omega)
            simp only [PT]
            refine tk 9 (.pointer (some ⟨b, off, none⟩)) hHeld (fun w => ?_) ?_
            · go_simp
            simp only [PT]
            refine tkS 10 (.slice p0.A p0.n p0.c) hHeld (fun w hq => ?_) ?_
            · obtain ⟨z0, z1, z2, z3, z4, z5⟩ := HF.out w hq
              go_simp
            simp only [PT]
            refine tk 11 (.int .i64 (p0.n : Int)) hHeld (fun w => ?_) ?_
            · go_simp
            simp only [PT]
            refine tk 12 (.bool true) hHeld (fun w => ?_) ?_
            · go_simp
            simp only [PT]
            refine tk 13 (.bool true) hHeld (fun w => ?_) ?_
            · go_simp
            simp only [PT]
            refine wpAnyH_done (by kernel_rfl) ?_ _
            clear hHeld
            go_wp2
            go_ret
            exact ⟨by rw [HR.out]; rfl, HB3.out.trans (hS1.mono HB3.out.size)⟩
      · obtain rfl : j = n := by omega
        have hge : ¬ ((j : Int) < j) := by omega
        have HR := Lib.hid (all_yes (l := l) (by have := HLL.out; omega) (fun i hi => HAL.out i (by rw [HLL.out] at hi; exact hi)))
        go_wp2
        go_ret
        exact ⟨by rw [HR.out]; rfl, HBW.out⟩
theorem same_parts (p q : Pl) : samePl p q = ((p.m == q.m) && (decide (p.s = q.s) && ((p.am == q.am) && ((p.rd == q.rd) && (p.hd == q.hd))))) := by
  rw [Bool.eq_iff_iff, same_iff]
  simp only [Bool.and_eq_true, beq_iff_eq, decide_eq_true_eq]
set_option maxHeartbeats 8000000 in
theorem psame_own (p q : Pl) (w : World) (hp : PlIn w p) (hq : PlIn w q) : Calls Try.prog 17 #[plV p, plV q] w fun e w' => e = .returned (.bool (samePl p q)) ∧ Below w.heap.size w w' := by
  rw [same_parts]
  simp only [plV]
  obtain ⟨W0, hW0⟩ : ∃ W0, (w.alloc (.cells #[.slice p.A p.n p.c, .slice p.B p.k p.d, .int .i64 p.am, .int .i64 p.rd, .int .i64 p.hd] 25)).alloc (.cells #[.slice q.A q.n q.c, .slice q.B q.k q.d, .int .i64 q.am, .int .i64 q.rd, .int .i64 q.hd] 25) = W0 := ⟨_, rfl⟩
  have hB0 : Below w.heap.size w W0 := by rw [← hW0]; exact (one_alloc w _).alloc (by simp) _
  have hp0 : PlIn W0 p := hp.below hB0
  have hq0 : PlIn W0 q := hq.below hB0
  have hbp : BoxP W0 w.heap.size p := by rw [← hW0]; exact heap_alloc2_old w _ _
  have hbq : BoxP W0 (w.heap.size + 1) q := by rw [← hW0]; exact heap_alloc2_new w _ _
  have HW := Lib.hid hW0
  have HB0 := Lib.hid hB0
  have HE1 := Lib.hid (show Calls Try.prog 32 #[.slice p.A p.n p.c, .slice q.A q.n q.c] W0 fun e w' => e = .returned (.bool (p.m == q.m)) ∧ Below W0.heap.size W0 w' from (iequal_any p.A q.A p.n p.c q.n q.c p.m q.m W0 hp0.m hq0.m).mono fun e w' ⟨h1, j, h2⟩ => ⟨h1, by rw [h2]; exact ⟨rfl, rfl, rfl, Nat.le_refl _, fun _ _ => rfl⟩⟩)
  have HE2 := Lib.hid (fun X (hX : Below W0.heap.size W0 X) => sequal_any p.B q.B p.k p.d q.k q.d p.s q.s X (hp0.below hX).s (hq0.below hX).s)
  have HAC := Lib.hid (show ∀ X, Below W0.heap.size W0 X → X.cell? ⟨w.heap.size, 0, none⟩ = some (.slice p.A p.n p.c) ∧ X.cell? ⟨w.heap.size, 1, none⟩ = some (.slice p.B p.k p.d) ∧ X.cell? ⟨w.heap.size, 2, none⟩ = some (.int .i64 p.am) ∧ X.cell? ⟨w.heap.size, 3, none⟩ = some (.int .i64 p.rd) ∧ X.cell? ⟨w.heap.size, 4, none⟩ = some (.int .i64 p.hd) from fun X hX => (hbp.below hX).cells)
  have HBC := Lib.hid (show ∀ X, Below W0.heap.size W0 X → X.cell? ⟨w.heap.size + 1, 0, none⟩ = some (.slice q.A q.n q.c) ∧ X.cell? ⟨w.heap.size + 1, 1, none⟩ = some (.slice q.B q.k q.d) ∧ X.cell? ⟨w.heap.size + 1, 2, none⟩ = some (.int .i64 q.am) ∧ X.cell? ⟨w.heap.size + 1, 3, none⟩ = some (.int .i64 q.rd) ∧ X.cell? ⟨w.heap.size + 1, 4, none⟩ = some (.int .i64 q.hd) from fun X hX => (hbq.below hX).cells)
  obtain ⟨a0, a1, a2, a3, a4⟩ := HAC.out W0 (Below.refl _ _)
  obtain ⟨c0, c1, c2, c3, c4⟩ := HBC.out W0 (Below.refl _ _)
  clear hW0 hB0 hbp hbq hp hq hp0 hq0
  obtain ⟨b1, h1⟩ : ∃ b, (p.m == q.m) = b := ⟨_, rfl⟩
  obtain ⟨b2, h2⟩ : ∃ b, decide (p.s = q.s) = b := ⟨_, rfl⟩
  obtain ⟨b3, h3⟩ : ∃ b, (p.am == q.am) = b := ⟨_, rfl⟩
  obtain ⟨b4, h4⟩ : ∃ b, (p.rd == q.rd) = b := ⟨_, rfl⟩
  obtain ⟨b5, h5⟩ : ∃ b, (p.hd == q.hd) = b := ⟨_, rfl⟩
  rw [h1] at HE1 ⊢
  rw [h2] at HE2 ⊢
  rw [h3, h4, h5]
  clear h1 h2
  obtain ⟨A, n, c, m, B, k, d, s, am, rd, hd⟩ := p
  obtain ⟨A', n', c', m', B', k', d', s', am', rd', hd'⟩ := q
  simp only at *
  cases b1
  · clear h3 h4 h5
    go_enter Try.func17, Try.ntmps17
    go_wp2_with (first
        | (go_at_call 32; rw [HW.out]; (with_reducible refine (HE1.out).mono ?_); rintro e w1 ⟨rfl, hb1⟩; have HB1 := Lib.hid hb1; clear hb1; obtain ⟨a0, a1, a2, a3, a4⟩ := HAC.out _ HB1.out; obtain ⟨c0, c1, c2, c3, c4⟩ := HBC.out _ HB1.out)
        | (go_at_call 33; (with_reducible refine (HE2.out _ HB1.out).mono ?_); rintro e w2 ⟨rfl, hb2⟩; have HB2 := Lib.hid (HB1.out.trans (hb2.mono HB1.out.size)); clear hb2; obtain ⟨d0, d1, d2, d3, d4⟩ := HAC.out _ HB2.out; obtain ⟨e0, e1, e2, e3, e4⟩ := HBC.out _ HB2.out))
    go_ret
    exact ⟨rfl, HB0.out.trans (HB1.out.mono HB0.out.size)⟩
  · cases b2
    · clear h3 h4 h5
      go_enter Try.func17, Try.ntmps17
      go_wp2_with (first
          | (go_at_call 32; rw [HW.out]; (with_reducible refine (HE1.out).mono ?_); rintro e w1 ⟨rfl, hb1⟩; have HB1 := Lib.hid hb1; clear hb1; obtain ⟨a0, a1, a2, a3, a4⟩ := HAC.out _ HB1.out; obtain ⟨c0, c1, c2, c3, c4⟩ := HBC.out _ HB1.out)
          | (go_at_call 33; (with_reducible refine (HE2.out _ HB1.out).mono ?_); rintro e w2 ⟨rfl, hb2⟩; have HB2 := Lib.hid (HB1.out.trans (hb2.mono HB1.out.size)); clear hb2; obtain ⟨d0, d1, d2, d3, d4⟩ := HAC.out _ HB2.out; obtain ⟨e0, e1, e2, e3, e4⟩ := HBC.out _ HB2.out))
      go_ret
      exact ⟨rfl, HB0.out.trans (HB2.out.mono HB0.out.size)⟩
    · cases b3
      · clear h4 h5
        go_enter Try.func17, Try.ntmps17
        go_wp2_with (first
            | (go_at_call 32; rw [HW.out]; (with_reducible refine (HE1.out).mono ?_); rintro e w1 ⟨rfl, hb1⟩; have HB1 := Lib.hid hb1; clear hb1; obtain ⟨a0, a1, a2, a3, a4⟩ := HAC.out _ HB1.out; obtain ⟨c0, c1, c2, c3, c4⟩ := HBC.out _ HB1.out)
            | (go_at_call 33; (with_reducible refine (HE2.out _ HB1.out).mono ?_); rintro e w2 ⟨rfl, hb2⟩; have HB2 := Lib.hid (HB1.out.trans (hb2.mono HB1.out.size)); clear hb2; obtain ⟨d0, d1, d2, d3, d4⟩ := HAC.out _ HB2.out; obtain ⟨e0, e1, e2, e3, e4⟩ := HBC.out _ HB2.out))
        go_ret
        exact ⟨rfl, HB0.out.trans (HB2.out.mono HB0.out.size)⟩
      · cases b4
        · clear h5
          go_enter Try.func17, Try.ntmps17
          go_wp2_with (first
              | (go_at_call 32; rw [HW.out]; (with_reducible refine (HE1.out).mono ?_); rintro e w1 ⟨rfl, hb1⟩; have HB1 := Lib.hid hb1; clear hb1; obtain ⟨a0, a1, a2, a3, a4⟩ := HAC.out _ HB1.out; obtain ⟨c0, c1, c2, c3, c4⟩ := HBC.out _ HB1.out)
              | (go_at_call 33; (with_reducible refine (HE2.out _ HB1.out).mono ?_); rintro e w2 ⟨rfl, hb2⟩; have HB2 := Lib.hid (HB1.out.trans (hb2.mono HB1.out.size)); clear hb2; obtain ⟨d0, d1, d2, d3, d4⟩ := HAC.out _ HB2.out; obtain ⟨e0, e1, e2, e3, e4⟩ := HBC.out _ HB2.out))
          go_ret
          exact ⟨rfl, HB0.out.trans (HB2.out.mono HB0.out.size)⟩
        · cases b5
          all_goals
            go_enter Try.func17, Try.ntmps17
            go_wp2_with (first
                | (go_at_call 32; rw [HW.out]; (with_reducible refine (HE1.out).mono ?_); rintro e w1 ⟨rfl, hb1⟩; have HB1 := Lib.hid hb1; clear hb1; obtain ⟨a0, a1, a2, a3, a4⟩ := HAC.out _ HB1.out; obtain ⟨c0, c1, c2, c3, c4⟩ := HBC.out _ HB1.out)
                | (go_at_call 33; (with_reducible refine (HE2.out _ HB1.out).mono ?_); rintro e w2 ⟨rfl, hb2⟩; have HB2 := Lib.hid (HB1.out.trans (hb2.mono HB1.out.size)); clear hb2; obtain ⟨d0, d1, d2, d3, d4⟩ := HAC.out _ HB2.out; obtain ⟨e0, e1, e2, e3, e4⟩ := HBC.out _ HB2.out))
            go_ret
            exact ⟨rfl, HB0.out.trans (HB2.out.mono HB0.out.size)⟩
set_option maxHeartbeats 8000000 in
theorem pnext_own (p : Pl) (x : Int) (w : World) (hp : PlIn w p) : Calls Try.prog 18 #[plV p, .int .i64 x] w fun e w' => e = .returned (.int .i64 (nextP p x)) ∧ Below w.heap.size w w' := by
  have hsk := hp.s.small
  have hsm := hp.m.small
  have hSL := hp.s.len
  have hML := hp.m.len
  obtain ⟨W0, hW0⟩ : ∃ W0, w.alloc (.cells #[.slice p.A p.n p.c, .slice p.B p.k p.d, .int .i64 p.am, .int .i64 p.rd, .int .i64 p.hd] 25) = W0 := ⟨_, rfl⟩
  have hB0 : Below w.heap.size w W0 := by rw [← hW0]; exact one_alloc w _
  have hp0 : PlIn W0 p := hp.below hB0
  have hbp : BoxP W0 w.heap.size p := by rw [← hW0]; exact BoxP.new w p
  have HFT := Lib.hid (fit_any p W0 hp0)
  simp only [plV] at HFT ⊢
  have HW := Lib.hid hW0
  have HB0 := Lib.hid hB0
  have HAC := Lib.hid (show ∀ X, Below W0.heap.size W0 X → X.cell? ⟨w.heap.size, 0, none⟩ = some (.slice p.A p.n p.c) ∧ X.cell? ⟨w.heap.size, 1, none⟩ = some (.slice p.B p.k p.d) ∧ X.cell? ⟨w.heap.size, 2, none⟩ = some (.int .i64 p.am) ∧ X.cell? ⟨w.heap.size, 3, none⟩ = some (.int .i64 p.rd) ∧ X.cell? ⟨w.heap.size, 4, none⟩ = some (.int .i64 p.hd) from fun X hX => (hbp.below hX).cells)
  have HSL := Lib.hid hSL
  have HML := Lib.hid hML
  have HP := Lib.hid hp0
  obtain ⟨a0, a1, a2, a3, a4⟩ := HAC.out W0 (Below.refl _ _)
  clear hW0 hB0 hbp hp hp0
  cases hf : fitP p with
  | false =>
    rw [hf] at HFT
    have HR := Lib.hid (show nextP p x = -1 from if_neg fun h => by rw [hf] at h; cases h.1)
    clear hf
    clear a0 a1 a2 a3 a4 hSL hML
    obtain ⟨A, n, c, m, B, k, d, s, am, rd, hd⟩ := p
    simp only at *
    go_enter Try.func18, Try.ntmps18
    go_wp2_with (go_at_call 15; rw [HW.out]; (with_reducible refine (HFT.out).mono ?_); rintro e w1 ⟨rfl, hb1⟩; obtain ⟨c0, c1, c2, c3, c4⟩ := HAC.out _ hb1; have HB1 := Lib.hid hb1; clear hb1)
    go_ret
    exact ⟨by rw [HR.out]; rfl, HB0.out.trans (HB1.out.mono HB0.out.size)⟩
  | true =>
    rw [hf] at HFT
    by_cases hac : x < 0
    · have HR := Lib.hid (show nextP p x = -1 from if_neg fun h => by omega)
      clear hf
      clear a0 a1 a2 a3 a4 hSL hML
      obtain ⟨A, n, c, m, B, k, d, s, am, rd, hd⟩ := p
      simp only at *
      go_enter Try.func18, Try.ntmps18
      go_wp2_with (go_at_call 15; rw [HW.out]; (with_reducible refine (HFT.out).mono ?_); rintro e w1 ⟨rfl, hb1⟩; obtain ⟨c0, c1, c2, c3, c4⟩ := HAC.out _ hb1; have HB1 := Lib.hid hb1; clear hb1)
      go_ret
      exact ⟨by rw [HR.out]; rfl, HB0.out.trans (HB1.out.mono HB0.out.size)⟩
    by_cases hbc : (p.k : Int) ≤ x
    · have HR := Lib.hid (show nextP p x = -1 from if_neg fun h => by have := HSL.out; omega)
      clear hf
      clear a0 a1 a2 a3 a4 hSL hML
      obtain ⟨A, n, c, m, B, k, d, s, am, rd, hd⟩ := p
      simp only at *
      go_enter Try.func18, Try.ntmps18
      go_wp2_with (go_at_call 15; rw [HW.out]; (with_reducible refine (HFT.out).mono ?_); rintro e w1 ⟨rfl, hb1⟩; obtain ⟨c0, c1, c2, c3, c4⟩ := HAC.out _ hb1; have HB1 := Lib.hid hb1; clear hb1)
      go_ret
      exact ⟨by rw [HR.out]; rfl, HB0.out.trans (HB1.out.mono HB0.out.size)⟩
    have hfx : fitP p = true ∧ 0 ≤ x ∧ x < p.s.length := ⟨hf, by omega, by omega⟩
    have hf2 := (fit_iff.1 hf).two
    have hwx : wrap64 (x + 1) = x + 1 := by unfold wrap64; omega
    have hk0 : ¬ ((p.k : Int) = 0) := by omega
    have HR := Lib.hid (show nextP p x = (x + 1) % (p.k : Int) by
      rw [nextP, if_pos hfx]
      by_cases hl : x = (p.s.length : Int) - 1
      · rw [if_pos hl, show x + 1 = (p.k : Int) by omega, Int.emod_self]
      · rw [if_neg hl, Int.emod_eq_of_lt (by omega) (by omega)])
    clear hfx hf hf2
    clear a0 a1 a2 a3 a4 hSL hML
    obtain ⟨A, n, c, m, B, k, d, s, am, rd, hd⟩ := p
    simp only at *
    go_enter Try.func18, Try.ntmps18
    go_wp2_with (go_at_call 15; rw [HW.out]; (with_reducible refine (HFT.out).mono ?_); rintro e w1 ⟨rfl, hb1⟩; obtain ⟨c0, c1, c2, c3, c4⟩ := HAC.out _ hb1; have HB1 := Lib.hid hb1; clear hb1)
    go_ret
    exact ⟨by rw [HR.out]; rfl, HB0.out.trans (HB1.out.mono HB0.out.size)⟩
set_option maxHeartbeats 8000000 in
theorem pleast_own (p : Pl) (x : Int) (w : World) (hp : PlIn w p) : Calls Try.prog 20 #[plV p, .int .i64 x] w fun e w' => e = .returned (.int .i64 (leastP p x)) ∧ Below w.heap.size w w' := by
  have hsk := hp.s.small
  have hsm := hp.m.small
  have hSL := hp.s.len
  have hML := hp.m.len
  obtain ⟨W0, hW0⟩ : ∃ W0, w.alloc (.cells #[.slice p.A p.n p.c, .slice p.B p.k p.d, .int .i64 p.am, .int .i64 p.rd, .int .i64 p.hd] 25) = W0 := ⟨_, rfl⟩
  have hB0 : Below w.heap.size w W0 := by rw [← hW0]; exact one_alloc w _
  have hp0 : PlIn W0 p := hp.below hB0
  have hbp : BoxP W0 w.heap.size p := by rw [← hW0]; exact BoxP.new w p
  have HFT := Lib.hid (fit_any p W0 hp0)
  simp only [plV] at HFT ⊢
  have HW := Lib.hid hW0
  have HB0 := Lib.hid hB0
  have HAC := Lib.hid (show ∀ X, Below W0.heap.size W0 X → X.cell? ⟨w.heap.size, 0, none⟩ = some (.slice p.A p.n p.c) ∧ X.cell? ⟨w.heap.size, 1, none⟩ = some (.slice p.B p.k p.d) ∧ X.cell? ⟨w.heap.size, 2, none⟩ = some (.int .i64 p.am) ∧ X.cell? ⟨w.heap.size, 3, none⟩ = some (.int .i64 p.rd) ∧ X.cell? ⟨w.heap.size, 4, none⟩ = some (.int .i64 p.hd) from fun X hX => (hbp.below hX).cells)
  have HSL := Lib.hid hSL
  have HML := Lib.hid hML
  have HP := Lib.hid hp0
  obtain ⟨a0, a1, a2, a3, a4⟩ := HAC.out W0 (Below.refl _ _)
  clear hW0 hB0 hbp hp hp0
  cases hf : fitP p with
  | false =>
    rw [hf] at HFT
    have HR := Lib.hid (show leastP p x = 0 from if_neg fun h => by rw [hf] at h; cases h.1)
    clear hf
    clear a0 a1 a2 a3 a4 hSL hML
    obtain ⟨A, n, c, m, B, k, d, s, am, rd, hd⟩ := p
    simp only at *
    go_enter Try.func20, Try.ntmps20
    go_wp2_with (go_at_call 15; rw [HW.out]; (with_reducible refine (HFT.out).mono ?_); rintro e w1 ⟨rfl, hb1⟩; obtain ⟨c0, c1, c2, c3, c4⟩ := HAC.out _ hb1; have HB1 := Lib.hid hb1; clear hb1)
    go_ret
    exact ⟨by rw [HR.out]; rfl, HB0.out.trans (HB1.out.mono HB0.out.size)⟩
  | true =>
    rw [hf] at HFT
    by_cases hac : x < 0
    · have HR := Lib.hid (show leastP p x = 0 from if_neg fun h => by omega)
      clear hf
      clear a0 a1 a2 a3 a4 hSL hML
      obtain ⟨A, n, c, m, B, k, d, s, am, rd, hd⟩ := p
      simp only at *
      go_enter Try.func20, Try.ntmps20
      go_wp2_with (go_at_call 15; rw [HW.out]; (with_reducible refine (HFT.out).mono ?_); rintro e w1 ⟨rfl, hb1⟩; obtain ⟨c0, c1, c2, c3, c4⟩ := HAC.out _ hb1; have HB1 := Lib.hid hb1; clear hb1)
      go_ret
      exact ⟨by rw [HR.out]; rfl, HB0.out.trans (HB1.out.mono HB0.out.size)⟩
    by_cases hbc : (p.n : Int) ≤ x
    · have HR := Lib.hid (show leastP p x = 0 from if_neg fun h => by have := HML.out; omega)
      clear hf
      clear a0 a1 a2 a3 a4 hSL hML
      obtain ⟨A, n, c, m, B, k, d, s, am, rd, hd⟩ := p
      simp only at *
      go_enter Try.func20, Try.ntmps20
      go_wp2_with (go_at_call 15; rw [HW.out]; (with_reducible refine (HFT.out).mono ?_); rintro e w1 ⟨rfl, hb1⟩; obtain ⟨c0, c1, c2, c3, c4⟩ := HAC.out _ hb1; have HB1 := Lib.hid hb1; clear hb1)
      go_ret
      exact ⟨by rw [HR.out]; rfl, HB0.out.trans (HB1.out.mono HB0.out.size)⟩
    obtain ⟨i, rfl⟩ := Int.eq_ofNat_of_zero_le (show 0 ≤ x by omega)
    have hff := fit_iff.1 hf
    have HR := Lib.hid (show leastF i p.s 0 = leastP p (i : Int) by rw [leastP, if_pos ⟨hf, by omega, by have := HML.out; omega⟩, Int.toNat_natCast])
    have HR1 := Lib.hid (least_fit (g := i) hf (by have := HML.out; omega)).1
    obtain ⟨R, hR⟩ : ∃ R, leastP p (i : Int) = R := ⟨_, rfl⟩
    rw [hR] at HR HR1 ⊢
    have HST := Lib.hid hff.stage
    obtain ⟨hn8, -⟩ := may_rows HML.out hff.may
    have hi8 : i < 8 := by omega
    clear hf hff hR
    have dac : ¬ ((i : Int) < 0) := by omega
    have ebc : ¬ (p.n ≤ i) := by omega
    have dbc : decide (p.n ≤ i) = false := decide_eq_false ebc
    clear hac hbc
    clear a0 a1 a2 a3 a4 hSL hML
    obtain ⟨A, n, c, m, B, k, d, s, am, rd, hd⟩ := p
    simp only at *
    go_enter Try.func20, Try.ntmps20
    go_wp2_with (go_at_call 15; rw [HW.out]; (with_reducible refine (HFT.out).mono ?_); rintro e w1 ⟨rfl, hb1⟩; obtain ⟨c0, c1, c2, c3, c4⟩ := HAC.out _ hb1; have HB1 := Lib.hid hb1; clear hb1)
    clear c0 c1 c2 c3 c4
    go_loopw [5, 7, 25] (fun ov y v wr => ∃ (j : Nat) (o : Int), j ≤ k ∧ v = .int .i64 j ∧ ov = .int .i64 (if o = 0 then 200 else o) ∧ 0 ≤ o ∧ leastF i (s.drop j) o = R ∧ Below W0.heap.size W0 wr) (fun _ _ v _ => k - (intOf v).toNat)
    case atStart => exact ⟨0, 0, by omega, rfl, rfl, by omega, by rw [List.drop_zero]; exact HR.out, HB1.out⟩
    case round =>
      obtain ⟨j, o, hj, rfl, rfl, ho, hle, hbw⟩ := hrel
      have HBW := Lib.hid hbw
      have HLE := Lib.hid hle
      have HO := Lib.hid ho
      obtain ⟨a0, a1, a2, a3, a4⟩ := HAC.out wr hbw
      obtain ⟨v, hv⟩ : ∃ v : Int, (if o = 0 then 200 else o) = v := ⟨_, rfl⟩
      rw [hv]
      have HV := Lib.hid hv
      clear hle ho hv
      by_cases hlt : j < k
      · have hlt2 : (j : Int) < k := by omega
        have q0 : 0 ≤ (j : Int) := by omega
        have hnx := least_next (g := i) o (show j < s.length by rw [HSL.out]; exact hlt)
        obtain ⟨b, off, x, hA, hx, hmem, -, z0, z1, z2⟩ := (HP.out.s.below hbw).at_ j hlt
        simp only at hA hx hmem z0 z1 z2
        subst hA
        obtain ⟨-, -, m1, m2, -, -⟩ := HST.out x hmem
        rw [hx, HLE.out] at hnx
        obtain ⟨g, mn, mx⟩ := x
        simp only at z0 z1 z2 hnx m1 m2
        have HB1 := Lib.hid (hbw.trans ((one_alloc wr (.cells #[.int .i64 g, .int .i64 mn, .int .i64 mx] 36)).mono hbw.size))
        obtain ⟨T, hT⟩ : ∃ T, bitI g i = T := ⟨_, rfl⟩
        rw [hT] at hnx
        have hbt : (bits .and .i64 (g / (2 : Int) ^ i) 1 == 1) = T := by rw [and_one, ← hT, bitI, pow_int]; rfl
        have hbt2 : (bits .and .i64 (g / (2 : Int) ^ (min i 64)) 1 == 1) = T := by rw [show min i 64 = i by omega]; exact hbt
        clear hx hmem hT hbw
        cases T
        · have HN := Lib.hid (show R = leastF i (s.drop (j + 1)) o by rw [hnx, if_neg (by simp)])
          clear hnx m1 m2
          go_wp2
          go_roundw
          case rel => exact ⟨j + 1, o, by omega, by go_num, by rw [HV.out], HO.out, HN.out.symm, HB1.out⟩
          case measure => simp [intOf]; omega
        · obtain ⟨v2, hv2⟩ : ∃ v2 : Int, (if true = true ∧ (o = 0 ∨ mn < o) then mn else o) = v2 := ⟨_, rfl⟩
          rw [hv2] at hnx
          have HN := Lib.hid hnx
          have hmin : (if mn < v then mn else v) = (if v2 = 0 then 200 else v2) ∧ 0 ≤ v2 := by
            have h1 := HV.out
            have h0 := HO.out
            by_cases e : o = 0
            · rw [if_pos e] at h1
              rw [if_pos ⟨rfl, .inl e⟩] at hv2
              rw [if_neg (show ¬ v2 = 0 by omega)]
              refine ⟨?_, by omega⟩
              by_cases e2 : mn < v
              · rw [if_pos e2]; omega
              · rw [if_neg e2]; omega
            · rw [if_neg e] at h1
              by_cases e2 : mn < o
              · rw [if_pos ⟨rfl, .inr e2⟩] at hv2
                rw [if_neg (show ¬ v2 = 0 by omega), if_pos (by omega)]
                exact ⟨hv2, by omega⟩
              · rw [if_neg (by rintro ⟨-, h | h⟩ <;> omega)] at hv2
                rw [if_neg (show ¬ v2 = 0 by omega), if_neg (by omega)]
                exact ⟨by omega, by omega⟩
          have HM := Lib.hid hmin
          clear hnx m1 m2 hv2 hmin
          by_cases hmv : mn < v
          · have HM2 := Lib.hid (HM.out.1.symm.trans (if_pos hmv))
            go_wp2
            go_roundw
            case rel => exact ⟨j + 1, v2, by omega, by go_num, by rw [HM2.out], HM.out.2, HN.out.symm, HB1.out⟩
            case measure => simp [intOf]; omega
          · have HM2 := Lib.hid (HM.out.1.symm.trans (if_neg hmv))
            go_wp2
            go_roundw
            case rel => exact ⟨j + 1, v2, by omega, by go_num, by rw [HM2.out], HM.out.2, HN.out.symm, HB1.out⟩
            case measure => simp [intOf]; omega
      · obtain rfl : j = k := by omega
        have hge : ¬ ((j : Int) < j) := by omega
        have HRR := Lib.hid (show v = R by
          have h := HLE.out
          have h1 := HR1.out
          rw [List.drop_of_length_le (by rw [HSL.out]; exact Nat.le_refl _)] at h
          have h2 : o = R := h
          rw [← HV.out, if_neg (by omega), h2])
        go_wp2
        go_ret
        exact ⟨by rw [HRR.out]; rfl, HB0.out.trans (HBW.out.mono HB0.out.size)⟩
set_option maxHeartbeats 8000000 in
theorem pcycle_own (p : Pl) (w : World) (hp : PlIn w p) : Calls Try.prog 22 #[plV p] w fun e w' => e = .returned (.int .i64 (cycP p)) ∧ Below w.heap.size w w' := by
  have hsk := hp.s.small
  have hsm := hp.m.small
  have hSL := hp.s.len
  have hML := hp.m.len
  obtain ⟨W0, hW0⟩ : ∃ W0, w.alloc (.cells #[.slice p.A p.n p.c, .slice p.B p.k p.d, .int .i64 p.am, .int .i64 p.rd, .int .i64 p.hd] 25) = W0 := ⟨_, rfl⟩
  have hB0 : Below w.heap.size w W0 := by rw [← hW0]; exact one_alloc w _
  have hp0 : PlIn W0 p := hp.below hB0
  have hbp : BoxP W0 w.heap.size p := by rw [← hW0]; exact BoxP.new w p
  have HFT := Lib.hid (fit_any p W0 hp0)
  simp only [plV] at HFT ⊢
  have HW := Lib.hid hW0
  have HB0 := Lib.hid hB0
  have HAC := Lib.hid (show ∀ X, Below W0.heap.size W0 X → X.cell? ⟨w.heap.size, 0, none⟩ = some (.slice p.A p.n p.c) ∧ X.cell? ⟨w.heap.size, 1, none⟩ = some (.slice p.B p.k p.d) ∧ X.cell? ⟨w.heap.size, 2, none⟩ = some (.int .i64 p.am) ∧ X.cell? ⟨w.heap.size, 3, none⟩ = some (.int .i64 p.rd) ∧ X.cell? ⟨w.heap.size, 4, none⟩ = some (.int .i64 p.hd) from fun X hX => (hbp.below hX).cells)
  have HSL := Lib.hid hSL
  have HML := Lib.hid hML
  have HP := Lib.hid hp0
  obtain ⟨a0, a1, a2, a3, a4⟩ := HAC.out W0 (Below.refl _ _)
  clear hW0 hB0 hbp hp hp0
  cases hf : fitP p with
  | false =>
    rw [hf] at HFT
    have HR := Lib.hid (show cycP p = 0 from if_neg fun h => by rw [hf] at h; cases h)
    clear hf
    clear a0 a1 a2 a3 a4 hSL hML
    obtain ⟨A, n, c, m, B, k, d, s, am, rd, hd⟩ := p
    simp only at *
    go_enter Try.func22, Try.ntmps22
    go_wp2_with (go_at_call 15; rw [HW.out]; (with_reducible refine (HFT.out).mono ?_); rintro e w1 ⟨rfl, hb1⟩; obtain ⟨c0, c1, c2, c3, c4⟩ := HAC.out _ hb1; have HB1 := Lib.hid hb1; clear hb1)
    go_ret
    exact ⟨by rw [HR.out]; rfl, HB0.out.trans (HB1.out.mono HB0.out.size)⟩
  | true =>
    rw [hf] at HFT
    have hff := fit_iff.1 hf
    have HR := Lib.hid (show cycF p.am p.rd p.s 0 = cycP p by rw [cycP, if_pos hf])
    obtain ⟨R, hR⟩ : ∃ R, cycP p = R := ⟨_, rfl⟩
    rw [hR] at HR ⊢
    have HST := Lib.hid hff.stage
    have b1 := hff.am1
    have b2 := hff.am2
    have b3 := hff.rd1
    have b4 := hff.rd2
    have b6 := hff.six
    clear hf hff hR
    clear a0 a1 a2 a3 a4 hSL hML
    obtain ⟨A, n, c, m, B, k, d, s, am, rd, hd⟩ := p
    simp only at *
    go_enter Try.func22, Try.ntmps22
    go_wp2_with (go_at_call 15; rw [HW.out]; (with_reducible refine (HFT.out).mono ?_); rintro e w1 ⟨rfl, hb1⟩; obtain ⟨c0, c1, c2, c3, c4⟩ := HAC.out _ hb1; have HB1 := Lib.hid hb1; clear hb1)
    clear c0 c1 c2 c3 c4
    go_loopw [3, 5, 12] (fun ov y v wr => ∃ (j : Nat) (o : Int), j ≤ k ∧ v = .int .i64 j ∧ ov = .int .i64 o ∧ 0 ≤ o ∧ o ≤ 600 * j ∧ cycF am rd (s.drop j) o = R ∧ Below W0.heap.size W0 wr) (fun _ _ v _ => k - (intOf v).toNat)
    case atStart => exact ⟨0, 0, by omega, rfl, rfl, by omega, by omega, by rw [List.drop_zero]; exact HR.out, HB1.out⟩
    case round =>
      obtain ⟨j, o, hj, rfl, rfl, ho0, ho1, hcy, hbw⟩ := hrel
      have HBW := Lib.hid hbw
      have HCY := Lib.hid hcy
      have hk6 : k ≤ 6 := by have := HSL.out; omega
      by_cases hlt : j < k
      · have hlt2 : (j : Int) < k := by omega
        have q0 : 0 ≤ (j : Int) := by omega
        have hnx := cyc_next (am := am) (rd := rd) o (show j < s.length by rw [HSL.out]; exact hlt)
        obtain ⟨b, off, x, hA, hx, hmem, -, z0, z1, z2⟩ := (HP.out.s.below hbw).at_ j hlt
        simp only at hA hx hmem z0 z1 z2
        subst hA
        obtain ⟨-, -, m1, m2, -, -⟩ := HST.out x hmem
        rw [hx, HCY.out] at hnx
        obtain ⟨g, mn, mx⟩ := x
        simp only at z0 z1 z2 hnx m1 m2
        have hb1 := hbw.trans ((one_alloc wr (.cells #[.int .i64 g, .int .i64 mn, .int .i64 mx] 36)).mono hbw.size)
        obtain ⟨a0, a1, a2, a3, a4⟩ := HAC.out _ hb1
        obtain ⟨e0, e1, e2, e3, e4⟩ := HAC.out _ hbw
        have HB1 := Lib.hid hb1
        have v1 : wrap64 (mn + am) = mn + am := by unfold wrap64; omega
        have v2 : wrap64 (mn + am + rd) = mn + am + rd := by unfold wrap64; omega
        have v3 : wrap64 (o + (mn + am + rd)) = o + mn + am + rd := by unfold wrap64; omega
        have HN := Lib.hid hnx
        clear hx hmem hnx hbw hb1 hcy
        go_wp2
        go_roundw
        case rel => exact ⟨j + 1, o + mn + am + rd, by omega, by go_num, by first | rfl | go_num | simp [v1, v2, v3], by omega, by omega, HN.out.symm, HB1.out⟩
        case measure => simp [intOf]; omega
      · obtain rfl : j = k := by omega
        have hge : ¬ ((j : Int) < j) := by omega
        have HRR := Lib.hid (show o = R by have h := HCY.out; rw [List.drop_of_length_le (by rw [HSL.out]; exact Nat.le_refl _)] at h; exact h)
        obtain ⟨a0, a1, a2, a3, a4⟩ := HAC.out _ hbw
        clear hcy hbw
        go_wp2
        go_ret
        exact ⟨by rw [HRR.out]; rfl, HB0.out.trans (HBW.out.mono HB0.out.size)⟩
theorem plnOk : PlnOk where
  fit := fun p X h _ _ => fit_any p X h
  all := fun A n c l X h _ _ => pall_own A n c l X h
  same := fun p q X h h2 _ _ _ _ => psame_own p q X h h2
  next := fun p x X h _ _ => pnext_own p x X h
  least := fun p x X h _ _ => pleast_own p x X h
  cycle := fun p X h _ _ => pcycle_own p X h
end Go.Proofs.Ytjjjfckkglcdfaa
