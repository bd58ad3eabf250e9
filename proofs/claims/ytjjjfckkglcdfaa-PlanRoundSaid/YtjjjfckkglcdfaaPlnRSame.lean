/- The walk over the document's Same of plans. -/
import Derived.Test.YtjjjfckkglcdfaaPlnREq
import Derived.Test.YtjjjfckkglcdfaaGrpInts
namespace Go.Proofs.Ytjjjfckkglcdfaa
set_option maxRecDepth 100000
set_option linter.unusedVariables false
set_option linter.unusedSimpArgs false
open Go.RowKit

theorem same_no {p q : Pl} (h : p.m ≠ q.m ∨ p.s ≠ q.s ∨ p.am ≠ q.am ∨ p.rd ≠ q.rd ∨ p.hd ≠ q.hd) : samePl p q = false := by
  rw [← Bool.not_eq_true, same_iff]
  rintro ⟨h1, h2, h3, h4, h5⟩
  rcases h with h | h | h | h | h
  · exact h h1
  · exact h h2
  · exact h h3
  · exact h h4
  · exact h h5
theorem take_same {a b : List Stg} {j : Nat} (hj : j < a.length) (hk : j < b.length) (h : a.take j = b.take j) (he : a.getD j Stg.zero = b.getD j Stg.zero) : a.take (j + 1) = b.take (j + 1) := by
  rw [List.take_succ_eq_append_getElem hj, List.take_succ_eq_append_getElem hk, h]
  rw [List.getD_eq_getElem?_getD, List.getD_eq_getElem?_getD, List.getElem?_eq_getElem hj, List.getElem?_eq_getElem hk] at he
  simp only [Option.getD_some] at he
  rw [he]
set_option maxHeartbeats 8000000 in
theorem rsame_any (p q : Pl) (w : World) (hp : PlIn w p) (hq : PlIn w q) : Calls Try.prog 14 #[plV p, plV q] w fun e w' => e = .returned (.bool (samePl p q)) ∧ Below w.heap.size w w' := by
  have hsk := hp.s.small
  have hsq := hq.s.small
  have hSL := hp.s.len
  have hQL := hq.s.len
  simp only [plV]
  obtain ⟨W0, hW0⟩ : ∃ W0, (w.alloc (.cells #[.slice p.A p.n p.c, .slice p.B p.k p.d, .int .i64 p.am, .int .i64 p.rd, .int .i64 p.hd] 25)).alloc (.cells #[.slice q.A q.n q.c, .slice q.B q.k q.d, .int .i64 q.am, .int .i64 q.rd, .int .i64 q.hd] 25) = W0 := ⟨_, rfl⟩
  have hB0 : Below w.heap.size w W0 := by rw [← hW0]; exact (one_alloc w _).alloc (by simp) _
  have hp0 : PlIn W0 p := hp.below hB0
  have hq0 : PlIn W0 q := hq.below hB0
  have hbp : BoxP W0 w.heap.size p := by rw [← hW0]; exact heap_alloc2_old w _ _
  have hbq : BoxP W0 (w.heap.size + 1) q := by rw [← hW0]; exact heap_alloc2_new w _ _
  have HW := Lib.hid hW0
  have HB0 := Lib.hid hB0
  have HIN := Lib.hid (ints_below p.A q.A p.n p.c q.n q.c p.m q.m W0 hp0.m hq0.m)
  have HAC := Lib.hid (show ∀ X, Below W0.heap.size W0 X → X.cell? ⟨w.heap.size, 0, none⟩ = some (.slice p.A p.n p.c) ∧ X.cell? ⟨w.heap.size, 1, none⟩ = some (.slice p.B p.k p.d) ∧ X.cell? ⟨w.heap.size, 2, none⟩ = some (.int .i64 p.am) ∧ X.cell? ⟨w.heap.size, 3, none⟩ = some (.int .i64 p.rd) ∧ X.cell? ⟨w.heap.size, 4, none⟩ = some (.int .i64 p.hd) from fun X hX => (hbp.below hX).cells)
  have HBC := Lib.hid (show ∀ X, Below W0.heap.size W0 X → X.cell? ⟨w.heap.size + 1, 0, none⟩ = some (.slice q.A q.n q.c) ∧ X.cell? ⟨w.heap.size + 1, 1, none⟩ = some (.slice q.B q.k q.d) ∧ X.cell? ⟨w.heap.size + 1, 2, none⟩ = some (.int .i64 q.am) ∧ X.cell? ⟨w.heap.size + 1, 3, none⟩ = some (.int .i64 q.rd) ∧ X.cell? ⟨w.heap.size + 1, 4, none⟩ = some (.int .i64 q.hd) from fun X hX => (hbq.below hX).cells)
  have HSL := Lib.hid hSL
  have HQL := Lib.hid hQL
  clear hW0 hB0 hbp hbq hp hq
  obtain ⟨E, hE⟩ : ∃ E, (p.m == q.m) = E := ⟨_, rfl⟩
  obtain ⟨b1, h1⟩ : ∃ b, ((p.k : Int) != (q.k : Int)) = b := ⟨_, rfl⟩
  obtain ⟨b2, h2⟩ : ∃ b, (p.am != q.am) = b := ⟨_, rfl⟩
  obtain ⟨b3, h3⟩ : ∃ b, (p.rd != q.rd) = b := ⟨_, rfl⟩
  obtain ⟨b4, h4⟩ : ∃ b, (p.hd != q.hd) = b := ⟨_, rfl⟩
  rw [hE] at HIN
  cases E
  · have HR := Lib.hid (same_no (p := p) (q := q) (by left; intro e; rw [e] at hE; simp at hE))
    clear hE hp0 hq0
    obtain ⟨A, n, c, m, B, k, d, s, am, rd, hd⟩ := p
    obtain ⟨A', n', c', m', B', k', d', s', am', rd', hd'⟩ := q
    simp only at *
    go_enter Try.func14, Try.ntmps14
    go_wp2_with (go_at_call 30; rw [HW.out]; (with_reducible refine (HIN.out).mono ?_); rintro e w1 ⟨rfl, hb1⟩; have HB1 := Lib.hid hb1; clear hb1; obtain ⟨a0, a1, a2, a3, a4⟩ := HAC.out _ HB1.out; obtain ⟨c0, c1, c2, c3, c4⟩ := HBC.out _ HB1.out)
    go_ret
    exact ⟨by rw [HR.out]; rfl, HB0.out.trans (HB1.out.mono HB0.out.size)⟩
  · cases b1
    rotate_left
    · have HR := Lib.hid (same_no (p := p) (q := q) (by right; left; intro e; rw [e] at hSL; rw [bne_iff_ne] at h1; omega))
      clear hE hp0 hq0
      obtain ⟨A, n, c, m, B, k, d, s, am, rd, hd⟩ := p
      obtain ⟨A', n', c', m', B', k', d', s', am', rd', hd'⟩ := q
      simp only at *
      go_enter Try.func14, Try.ntmps14
      go_wp2_with (go_at_call 30; rw [HW.out]; (with_reducible refine (HIN.out).mono ?_); rintro e w1 ⟨rfl, hb1⟩; have HB1 := Lib.hid hb1; clear hb1; obtain ⟨a0, a1, a2, a3, a4⟩ := HAC.out _ HB1.out; obtain ⟨c0, c1, c2, c3, c4⟩ := HBC.out _ HB1.out)
      go_ret
      exact ⟨by rw [HR.out]; rfl, HB0.out.trans (HB1.out.mono HB0.out.size)⟩
    · cases b2
      rotate_left
      · have HR := Lib.hid (same_no (p := p) (q := q) (by right; right; left; rw [bne_iff_ne] at h2; exact h2))
        clear hE hp0 hq0
        obtain ⟨A, n, c, m, B, k, d, s, am, rd, hd⟩ := p
        obtain ⟨A', n', c', m', B', k', d', s', am', rd', hd'⟩ := q
        simp only at *
        go_enter Try.func14, Try.ntmps14
        go_wp2_with (go_at_call 30; rw [HW.out]; (with_reducible refine (HIN.out).mono ?_); rintro e w1 ⟨rfl, hb1⟩; have HB1 := Lib.hid hb1; clear hb1; obtain ⟨a0, a1, a2, a3, a4⟩ := HAC.out _ HB1.out; obtain ⟨c0, c1, c2, c3, c4⟩ := HBC.out _ HB1.out)
        go_ret
        exact ⟨by rw [HR.out]; rfl, HB0.out.trans (HB1.out.mono HB0.out.size)⟩
      · cases b3
        rotate_left
        · have HR := Lib.hid (same_no (p := p) (q := q) (by right; right; right; left; rw [bne_iff_ne] at h3; exact h3))
          clear hE hp0 hq0
          obtain ⟨A, n, c, m, B, k, d, s, am, rd, hd⟩ := p
          obtain ⟨A', n', c', m', B', k', d', s', am', rd', hd'⟩ := q
          simp only at *
          go_enter Try.func14, Try.ntmps14
          go_wp2_with (go_at_call 30; rw [HW.out]; (with_reducible refine (HIN.out).mono ?_); rintro e w1 ⟨rfl, hb1⟩; have HB1 := Lib.hid hb1; clear hb1; obtain ⟨a0, a1, a2, a3, a4⟩ := HAC.out _ HB1.out; obtain ⟨c0, c1, c2, c3, c4⟩ := HBC.out _ HB1.out)
          go_ret
          exact ⟨by rw [HR.out]; rfl, HB0.out.trans (HB1.out.mono HB0.out.size)⟩
        · cases b4
          rotate_left
          · have HR := Lib.hid (same_no (p := p) (q := q) (by right; right; right; right; rw [bne_iff_ne] at h4; exact h4))
            clear hE hp0 hq0
            obtain ⟨A, n, c, m, B, k, d, s, am, rd, hd⟩ := p
            obtain ⟨A', n', c', m', B', k', d', s', am', rd', hd'⟩ := q
            simp only at *
            go_enter Try.func14, Try.ntmps14
            go_wp2_with (go_at_call 30; rw [HW.out]; (with_reducible refine (HIN.out).mono ?_); rintro e w1 ⟨rfl, hb1⟩; have HB1 := Lib.hid hb1; clear hb1; obtain ⟨a0, a1, a2, a3, a4⟩ := HAC.out _ HB1.out; obtain ⟨c0, c1, c2, c3, c4⟩ := HBC.out _ HB1.out)
            go_ret
            exact ⟨by rw [HR.out]; rfl, HB0.out.trans (HB1.out.mono HB0.out.size)⟩
          · have he : p.m = q.m := by simpa using hE
            have hkk : p.k = q.k := by have := h1; simp at this; omega
            have e2 : p.am = q.am := by simpa using h2
            have e3 : p.rd = q.rd := by simpa using h3
            have e4 : p.hd = q.hd := by simpa using h4
            have HYES := Lib.hid (show p.s = q.s → samePl p q = true from fun e => same_iff.2 ⟨he, e, e2, e3, e4⟩)
            have HNO := Lib.hid (show p.s ≠ q.s → samePl p q = false from fun e => same_no (.inr (.inl e)))
            obtain ⟨R, hR⟩ : ∃ R, samePl p q = R := ⟨_, rfl⟩
            rw [hR] at HYES HNO ⊢
            clear hR hE he e2 e3 e4
            obtain ⟨A, n, c, m, B, k, d, s, am, rd, hd⟩ := p
            obtain ⟨A', n', c', m', B', k', d', s', am', rd', hd'⟩ := q
            simp only at *
            subst hkk
            have HP := Lib.hid hp0
            have HQ := Lib.hid hq0
            clear hp0 hq0 hSL hQL
            go_enter Try.func14, Try.ntmps14
            go_wp2_with (go_at_call 30; rw [HW.out]; (with_reducible refine (HIN.out).mono ?_); rintro e w1 ⟨rfl, hb1⟩; have HB1 := Lib.hid hb1; clear hb1; obtain ⟨a0, a1, a2, a3, a4⟩ := HAC.out _ HB1.out; obtain ⟨c0, c1, c2, c3, c4⟩ := HBC.out _ HB1.out)
            clear a0 a1 a2 a3 a4 c0 c1 c2 c3 c4
            go_loopw [6] (fun v wr => ∃ j : Nat, j ≤ k ∧ v = .int .i64 j ∧ s.take j = s'.take j ∧ Below W0.heap.size W0 wr) (fun v _ => k - (intOf v).toNat)
            case atStart => exact ⟨0, by omega, rfl, rfl, HB1.out⟩
            case round =>
              obtain ⟨j, hj, rfl, htk, hbw⟩ := hrel
              have HBW := Lib.hid hbw
              have HTK := Lib.hid htk
              obtain ⟨-, a1, -, -, -⟩ := HAC.out wr hbw
              clear htk hbw
              by_cases hlt : j < k
              · have hlt2 : (j : Int) < k := by omega
                have q0 : 0 ≤ (j : Int) := by omega
                obtain ⟨b, off, x, hA, hx, -, -, -, -, -⟩ := HP.out.s.at_ j hlt
                obtain ⟨b', off', y, hA', hy, -, -, -, -, -⟩ := HQ.out.s.at_ j hlt
                simp only at hA hA' hx hy
                subst hA
                subst hA'
                have HF := Lib.hid (show ∀ X, Below wr.heap.size wr X → X.cell? ⟨w.heap.size, 1, none⟩ = some (.slice (some ⟨b, off, none⟩) k d) ∧ X.cell? ⟨w.heap.size + 1, 1, none⟩ = some (.slice (some ⟨b', off', none⟩) k d') ∧ X.cell? ⟨b, off + j * 3, none⟩ = some (.int .i64 x.g) ∧ X.cell? ⟨b, off + j * 3 + 1, none⟩ = some (.int .i64 x.mn) ∧ X.cell? ⟨b, off + j * 3 + 2, none⟩ = some (.int .i64 x.mx) ∧ X.cell? ⟨b', off' + j * 3, none⟩ = some (.int .i64 y.g) ∧ X.cell? ⟨b', off' + j * 3 + 1, none⟩ = some (.int .i64 y.mn) ∧ X.cell? ⟨b', off' + j * 3 + 2, none⟩ = some (.int .i64 y.mx) from fun X hX => by
                  have hX0 := HBW.out.trans (hX.mono HBW.out.size)
                  obtain ⟨-, a1, -, -, -⟩ := HAC.out X hX0
                  obtain ⟨-, c1, -, -, -⟩ := HBC.out X hX0
                  obtain ⟨b2, off2, x2, hA2, hx2, -, -, z0, z1, z2⟩ := (HP.out.s.below hX0).at_ j hlt
                  obtain ⟨b3, off3, y2, hA3, hy3, -, -, v0, v1, v2⟩ := (HQ.out.s.below hX0).at_ j hlt
                  cases hA2
                  cases hA3
                  simp only at hx2 hy3
                  obtain rfl := hx.symm.trans hx2
                  obtain rfl := hy.symm.trans hy3
                  exact ⟨a1, c1, z0, z1, z2, v0, v1, v2⟩)
                by_cases hxy : x = y
                · have HN := Lib.hid (take_same (by rw [HSL.out]; exact hlt) (by rw [HQL.out]; exact hlt) HTK.out (by rw [hx, hy]; exact hxy))
                  have hd : (!decide (x = y)) = false := by simp [hxy]
                  have HD := Lib.hid hd
                  clear hx hy hxy hd
                  go_wp2
                  clear a1
                  have hSd : Below wr.heap.size wr wr.drew := (Below.refl _ wr).drew
                  refine wp_region_held_drew (S := fun X => Below wr.heap.size wr X) (by kernel_rfl) hSd (fun hHeld => ?_)
                  refine tk 0 (.pointer (some ⟨w.heap.size, 1, none⟩)) hHeld (fun w => ?_) ?_
                  · go_simp
                  simp only [PT]
                  refine tkS 1 (.slice (some ⟨b, off, none⟩) k d) hHeld (fun w hq => ?_) ?_
                  · obtain ⟨a1, c1, z0, z1, z2, y0, y1, y2⟩ := HF.out w hq
                    go_simp
                  simp only [PT]
                  refine tk 2 (.int .i64 j) hHeld (fun w => ?_) ?_
                  · go_simp
                  simp only [PT]
                  refine tk 3 (.pointer (some ⟨b, off + j * 3, none⟩)) hHeld (fun w => ?_) ?_
                  · go_simp
                  simp only [PT]
                  refine tkS 4 (.agg #[.int .i64 x.g, .int .i64 x.mn, .int .i64 x.mx]) hHeld (fun w hq => ?_) ?_
                  · obtain ⟨a1, c1, z0, z1, z2, y0, y1, y2⟩ := HF.out w hq
                    go_simp
                  simp only [PT]
                  refine tk 5 (.pointer (some ⟨w.heap.size + 1, 1, none⟩)) hHeld (fun w => ?_) ?_
                  · go_simp
                  simp only [PT]
                  refine tkS 6 (.slice (some ⟨b', off', none⟩) k d') hHeld (fun w hq => ?_) ?_
                  · obtain ⟨a1, c1, z0, z1, z2, y0, y1, y2⟩ := HF.out w hq
                    go_simp
                  simp only [PT]
                  refine tk 7 (.int .i64 j) hHeld (fun w => ?_) ?_
                  · go_simp
                  simp only [PT]
                  refine tk 8 (.pointer (some ⟨b', off' + j * 3, none⟩)) hHeld (fun w => ?_) ?_
                  · go_simp
                  simp only [PT]
                  refine tkS 9 (.agg #[.int .i64 y.g, .int .i64 y.mn, .int .i64 y.mx]) hHeld (fun w hq => ?_) ?_
                  · obtain ⟨a1, c1, z0, z1, z2, y0, y1, y2⟩ := HF.out w hq
                    go_simp
                  simp only [PT]
                  refine tk 10 (.bool (!decide (x = y))) hHeld (fun w => ?_) ?_
                  · exact run_ne_stg rfl rfl rfl
                  simp only [PT]
                  refine wpAnyH_done (by kernel_rfl) ?_ _
                  clear hHeld
                  rw [HD.out]
                  go_wp2
                  go_roundw
                  case rel => exact ⟨j + 1, by omega, by go_num, HN.out, HBW.out.drew⟩
                  case measure => simp [intOf]; omega
                · have HRR := Lib.hid (HNO.out (fun e => hxy (by rw [← hx, ← hy, e])))
                  have hd : (!decide (x = y)) = true := by simp [hxy]
                  have HD := Lib.hid hd
                  clear hx hy hxy hd
                  go_wp2
                  clear a1
                  have hSd : Below wr.heap.size wr wr.drew := (Below.refl _ wr).drew
                  refine wp_region_held_drew (S := fun X => Below wr.heap.size wr X) (by kernel_rfl) hSd (fun hHeld => ?_)
                  refine tk 0 (.pointer (some ⟨w.heap.size, 1, none⟩)) hHeld (fun w => ?_) ?_
                  · go_simp
                  simp only [PT]
                  refine tkS 1 (.slice (some ⟨b, off, none⟩) k d) hHeld (fun w hq => ?_) ?_
                  · obtain ⟨a1, c1, z0, z1, z2, y0, y1, y2⟩ := HF.out w hq
                    go_simp
                  simp only [PT]
                  refine tk 2 (.int .i64 j) hHeld (fun w => ?_) ?_
                  · go_simp
                  simp only [PT]
                  refine tk 3 (.pointer (some ⟨b, off + j * 3, none⟩)) hHeld (fun w => ?_) ?_
                  · go_simp
                  simp only [PT]
                  refine tkS 4 (.agg #[.int .i64 x.g, .int .i64 x.mn, .int .i64 x.mx]) hHeld (fun w hq => ?_) ?_
                  · obtain ⟨a1, c1, z0, z1, z2, y0, y1, y2⟩ := HF.out w hq
                    go_simp
                  simp only [PT]
                  refine tk 5 (.pointer (some ⟨w.heap.size + 1, 1, none⟩)) hHeld (fun w => ?_) ?_
                  · go_simp
                  simp only [PT]
                  refine tkS 6 (.slice (some ⟨b', off', none⟩) k d') hHeld (fun w hq => ?_) ?_
                  · obtain ⟨a1, c1, z0, z1, z2, y0, y1, y2⟩ := HF.out w hq
                    go_simp
                  simp only [PT]
                  refine tk 7 (.int .i64 j) hHeld (fun w => ?_) ?_
                  · go_simp
                  simp only [PT]
                  refine tk 8 (.pointer (some ⟨b', off' + j * 3, none⟩)) hHeld (fun w => ?_) ?_
                  · go_simp
                  simp only [PT]
                  refine tkS 9 (.agg #[.int .i64 y.g, .int .i64 y.mn, .int .i64 y.mx]) hHeld (fun w hq => ?_) ?_
                  · obtain ⟨a1, c1, z0, z1, z2, y0, y1, y2⟩ := HF.out w hq
                    go_simp
                  simp only [PT]
                  refine tk 10 (.bool (!decide (x = y))) hHeld (fun w => ?_) ?_
                  · exact run_ne_stg rfl rfl rfl
                  simp only [PT]
                  refine wpAnyH_done (by kernel_rfl) ?_ _
                  clear hHeld
                  rw [HD.out]
                  go_wp2
                  go_ret
                  exact ⟨by rw [HRR.out]; rfl, HB0.out.trans (HBW.out.drew.mono HB0.out.size)⟩
              · obtain rfl : j = k := by omega
                have hge : ¬ ((j : Int) < j) := by omega
                have HRR := Lib.hid (HYES.out (by have h := HTK.out; rw [List.take_of_length_le (by rw [HSL.out]; exact Nat.le_refl _), List.take_of_length_le (by rw [HQL.out]; exact Nat.le_refl _)] at h; exact h))
                go_wp2
                go_ret
                exact ⟨by rw [HRR.out]; rfl, HB0.out.trans (HBW.out.mono HB0.out.size)⟩
end Go.Proofs.Ytjjjfckkglcdfaa
