/- The walk over the document's All of plans. -/
import Derived.Test.YtjjjfckkglcdfaaPlnRLeast
namespace Go.Proofs.Ytjjjfckkglcdfaa
set_option maxRecDepth 100000
set_option linter.unusedVariables false
set_option linter.unusedSimpArgs false
open Go.RowKit

theorem all_no {l : List Pl} {j : Nat} (hj : j < l.length) (h : fitP (l.getD j Pl.zero) = false ∨ (l.getD j Pl.zero).m.length ≠ (l.getD 0 Pl.zero).m.length) : allP l = false := by
  rw [← Bool.not_eq_true, all_iff]
  rintro ⟨-, hal⟩
  have h0 : l.headD Pl.zero = l.getD 0 Pl.zero := by cases l <;> rfl
  have := hal (l.getD j Pl.zero) (by rw [List.getD_eq_getElem?_getD, List.getElem?_eq_getElem hj]; exact List.getElem_mem hj)
  rw [h0] at this
  rcases h with h | h
  · rw [this.1] at h; cases h
  · exact h this.2
theorem all_yes {l : List Pl} (h : 1 ≤ l.length ∧ l.length ≤ 3) (ha : ∀ j, j < l.length → fitP (l.getD j Pl.zero) = true ∧ (l.getD j Pl.zero).m.length = (l.getD 0 Pl.zero).m.length) : allP l = true := by
  rw [all_iff]
  have h0 : l.headD Pl.zero = l.getD 0 Pl.zero := by cases l <;> rfl
  refine ⟨h, fun p hp => ?_⟩
  obtain ⟨j, hj, rfl⟩ := List.getElem_of_mem hp
  have := ha j hj
  rw [h0]
  rwa [show l[j] = l.getD j Pl.zero by rw [List.getD_eq_getElem?_getD, List.getElem?_eq_getElem hj]; rfl]
set_option maxHeartbeats 8000000 in
theorem rall_any (A : Option Addr) (n c : Nat) (l : List Pl) (w : World) (hl : Pls w A n c l) : Calls Try.prog 13 #[.slice A n c] w fun e w' => e = .returned (.bool (allP l)) ∧ Below w.heap.size w w' := by
  have hsm := hl.small
  have HLL := Lib.hid hl.len
  by_cases hn : n < 1 ∨ 3 < n
  · have HR := Lib.hid (show allP l = false by rw [← Bool.not_eq_true, all_iff]; rintro ⟨h, -⟩; have := HLL.out; omega)
    rcases hn with hn | hn
    all_goals
      clear hl
      go_enter Try.func13, Try.ntmps13
      go_wp2
      go_ret
      exact ⟨by rw [HR.out]; rfl, Below.refl _ _⟩
  · have hn1 : ¬ ((n : Int) < 1) := by omega
    have hn3 : ¬ (3 < (n : Int)) := by omega
    obtain ⟨b, off, p0, rfl, hp0, -, -, hpi0, -⟩ := hl.at_ 0 (by omega)
    have HP0 := Lib.hid hp0
    have HPI0 := Lib.hid hpi0
    have HL := Lib.hid hl
    have hq3 : (0 : Int) < n := by omega
    clear hp0 hpi0 hl
    go_enter Try.func13, Try.ntmps13
    go_wp2
    go_loopw [3] (fun v wr => ∃ j : Nat, j ≤ n ∧ v = .int .i64 j ∧ (∀ i, i < j → fitP (l.getD i Pl.zero) = true ∧ (l.getD i Pl.zero).m.length = (l.getD 0 Pl.zero).m.length) ∧ Below w.heap.size w wr) (fun v _ => n - (intOf v).toNat)
    case atStart => exact ⟨0, by omega, rfl, fun i hi => by omega, Below.refl _ _⟩
    case round =>
      obtain ⟨j, hj, rfl, hall, hbw⟩ := hrel
      have HBW := Lib.hid hbw
      have HAL := Lib.hid hall
      clear hall
      by_cases hlt : j < n
      · have hlt2 : (j : Int) < n := by omega
        have q0 : 0 ≤ (j : Int) := by omega
        obtain ⟨b', off', q, hA, hq, -, -, hqi, z0, z1, z2, z3, z4⟩ := (HL.out.below hbw).at_ j hlt
        cases hA
        have HFT := Lib.hid (rfit_any q wr hqi)
        simp only [plV] at HFT
        have HF := Lib.hid (show ∀ X, Below wr.heap.size wr X → X.cell? ⟨b, off + j * 5, none⟩ = some (.slice q.A q.n q.c) ∧ X.cell? ⟨b, off, none⟩ = some (.slice p0.A p0.n p0.c) from fun X hX => by
          have hX0 := HBW.out.trans (hX.mono HBW.out.size)
          obtain ⟨b2, off2, q2, hA2, hq2, -, -, -, y0, -, -, -, -⟩ := (HL.out.below hX0).at_ j hlt
          cases hA2
          obtain rfl := hq.symm.trans hq2
          obtain ⟨b3, off3, q3, hA3, hq3, -, -, -, y1, -, -, -, -⟩ := (HL.out.below hX0).at_ 0 (by omega)
          cases hA3
          obtain rfl := HP0.out.symm.trans hq3
          exact ⟨y0, by simpa using y1⟩)
        have HQL := Lib.hid hqi.m.len
        have HQ := Lib.hid hq
        have hqs := hqi.m.small
        clear hbw hqi hq
        cases hf : fitP q with
        | false =>
          rw [hf] at HFT
          have HR := Lib.hid (all_no (l := l) (j := j) (by rw [HLL.out]; exact hlt) (.inl (by rw [HQ.out]; exact hf)))
          clear hf
          go_wp2_with (first
            | (go_at_call 12
               (with_reducible refine (HFT.out).mono ?_)
               rintro e w3 ⟨rfl, hb3⟩
               have HB3 := Lib.hid hb3
               clear hb3 z0 z1 z2 z3 z4))
          have HF2 := Lib.hid (show ∀ X, Below w3.heap.size w3 X → X.cell? ⟨b, off + j * 5, none⟩ = some (.slice q.A q.n q.c) ∧ X.cell? ⟨b, off, none⟩ = some (.slice p0.A p0.n p0.c) from fun X hX => HF.out X (HB3.out.trans (hX.mono HB3.out.size)))
          have hSd : Below w3.heap.size w3 w3.drew := (Below.refl _ w3).drew
          refine wp_region_held_drew (S := fun X => Below w3.heap.size w3 X) (by kernel_rfl) hSd (fun hHeld => ?_)
          refine tk 0 (.bool false) hHeld (fun w => ?_) ?_
          · go_simp
          simp only [PT]
          refine tk 1 (.bool true) hHeld (fun w => ?_) ?_
          · go_simp
          simp only [PT]
          refine tk 2 (.bool true) hHeld (fun w => ?_) ?_
          · go_simp
          simp only [PT]
          refine tkO 3 hHeld ?_
          simp only [PT]
          refine tkO 4 hHeld ?_
          simp only [PT]
          refine tkO 5 hHeld ?_
          simp only [PT]
          refine tkO 6 hHeld ?_
          simp only [PT]
          refine tkO 7 hHeld ?_
          simp only [PT]
          refine tkO 8 hHeld ?_
          simp only [PT]
          refine tkO 9 hHeld ?_
          simp only [PT]
          refine tkO 10 hHeld ?_
          simp only [PT]
          refine tkO 11 hHeld ?_
          simp only [PT]
          refine tkO 12 hHeld ?_
          simp only [PT]
          refine tkO 13 hHeld ?_
          simp only [PT]
          refine tkO 14 hHeld ?_
          simp only [PT]
          refine tk 15 (.bool true) hHeld (fun w => ?_) ?_
          · go_simp
          simp only [PT]
          refine wpAnyH_done (by kernel_rfl) ?_ _
          clear hHeld
          go_wp2
          go_ret
          exact ⟨by rw [HR.out]; rfl, HBW.out.trans ((HB3.out.drew).mono HBW.out.size)⟩
        | true =>
          rw [hf] at HFT
          obtain ⟨D, hD⟩ : ∃ D, ((q.n : Int) != (p0.n : Int)) = D := ⟨_, rfl⟩
          have hqm := HQL.out
          have hpm := HPI0.out.m.len
          cases D
          · have HN := Lib.hid (show ∀ i, i < j + 1 → fitP (l.getD i Pl.zero) = true ∧ (l.getD i Pl.zero).m.length = (l.getD 0 Pl.zero).m.length from fun i hi => by
              by_cases e : i = j
              · subst e
                rw [HQ.out, HP0.out]
                exact ⟨hf, by simp at hD; omega⟩
              · exact HAL.out i (by omega))
            clear hf hqm hpm
            go_wp2_with (first
              | (go_at_call 12
                 (with_reducible refine (HFT.out).mono ?_)
                 rintro e w3 ⟨rfl, hb3⟩
                 have HB3 := Lib.hid hb3
                 clear hb3 z0 z1 z2 z3 z4))
            have HF2 := Lib.hid (show ∀ X, Below w3.heap.size w3 X → X.cell? ⟨b, off + j * 5, none⟩ = some (.slice q.A q.n q.c) ∧ X.cell? ⟨b, off, none⟩ = some (.slice p0.A p0.n p0.c) from fun X hX => HF.out X (HB3.out.trans (hX.mono HB3.out.size)))
            have hSd : Below w3.heap.size w3 w3.drew := (Below.refl _ w3).drew
            refine wp_region_held_drew (S := fun X => Below w3.heap.size w3 X) (by kernel_rfl) hSd (fun hHeld => ?_)
            refine tk 0 (.bool true) hHeld (fun w => ?_) ?_
            · go_simp
            simp only [PT]
            refine tk 1 (.bool false) hHeld (fun w => ?_) ?_
            · go_simp
            simp only [PT]
            refine tk 2 (.bool false) hHeld (fun w => ?_) ?_
            · go_simp
            simp only [PT]
            refine tk 3 (.slice (some ⟨b, off, none⟩) n c) hHeld (fun w => ?_) ?_
            · go_simp
            simp only [PT]
            refine tk 4 (.int .i64 j) hHeld (fun w => ?_) ?_
            · go_simp
            simp only [PT]
            refine tk 5 (.pointer (some ⟨b, off + j * 5, none⟩)) hHeld (fun w => ?_) ?_
            · go_simp
            simp only [PT]
            refine tk 6 (.pointer (some ⟨b, off + j * 5, none⟩)) hHeld (fun w => ?_) ?_
            · go_simp
            simp only [PT]
            refine tkS 7 (.slice q.A q.n q.c) hHeld (fun w hq => ?_) ?_
            · obtain ⟨z0, z1⟩ := HF2.out w hq
              go_simp
            simp only [PT]
            refine tk 8 (.int .i64 (q.n : Int)) hHeld (fun w => ?_) ?_
            · go_simp
            simp only [PT]
            refine tk 9 (.slice (some ⟨b, off, none⟩) n c) hHeld (fun w => ?_) ?_
            · go_simp
            simp only [PT]
            refine tk 10 (.pointer (some ⟨b, off, none⟩)) hHeld (fun w => ?_) ?_
            · (go_simp; intro hz; omega)
            simp only [PT]
            refine tk 11 (.pointer (some ⟨b, off, none⟩)) hHeld (fun w => ?_) ?_
            · go_simp
            simp only [PT]
            refine tkS 12 (.slice p0.A p0.n p0.c) hHeld (fun w hq => ?_) ?_
            · obtain ⟨z0, z1⟩ := HF2.out w hq
              go_simp
            simp only [PT]
            refine tk 13 (.int .i64 (p0.n : Int)) hHeld (fun w => ?_) ?_
            · go_simp
            simp only [PT]
            refine tk 14 (.bool false) hHeld (fun w => ?_) ?_
            · go_simp
            simp only [PT]
            refine tk 15 (.bool false) hHeld (fun w => ?_) ?_
            · go_simp
            simp only [PT]
            refine wpAnyH_done (by kernel_rfl) ?_ _
            clear hHeld
            go_wp2
            go_roundw
            case rel => exact ⟨j + 1, by omega, by go_num, HN.out, HBW.out.trans ((HB3.out.drew).mono HBW.out.size)⟩
            case measure => simp [intOf]; omega
          · have HR := Lib.hid (all_no (l := l) (j := j) (by rw [HLL.out]; exact hlt) (.inr (by rw [HQ.out, HP0.out]; simp at hD; omega)))
            clear hf hqm hpm
            go_wp2_with (first
              | (go_at_call 12
                 (with_reducible refine (HFT.out).mono ?_)
                 rintro e w3 ⟨rfl, hb3⟩
                 have HB3 := Lib.hid hb3
                 clear hb3 z0 z1 z2 z3 z4))
            have HF2 := Lib.hid (show ∀ X, Below w3.heap.size w3 X → X.cell? ⟨b, off + j * 5, none⟩ = some (.slice q.A q.n q.c) ∧ X.cell? ⟨b, off, none⟩ = some (.slice p0.A p0.n p0.c) from fun X hX => HF.out X (HB3.out.trans (hX.mono HB3.out.size)))
            have hSd : Below w3.heap.size w3 w3.drew := (Below.refl _ w3).drew
            refine wp_region_held_drew (S := fun X => Below w3.heap.size w3 X) (by kernel_rfl) hSd (fun hHeld => ?_)
            refine tk 0 (.bool true) hHeld (fun w => ?_) ?_
            · go_simp
            simp only [PT]
            refine tk 1 (.bool false) hHeld (fun w => ?_) ?_
            · go_simp
            simp only [PT]
            refine tk 2 (.bool false) hHeld (fun w => ?_) ?_
            · go_simp
            simp only [PT]
            refine tk 3 (.slice (some ⟨b, off, none⟩) n c) hHeld (fun w => ?_) ?_
            · go_simp
            simp only [PT]
            refine tk 4 (.int .i64 j) hHeld (fun w => ?_) ?_
            · go_simp
            simp only [PT]
            refine tk 5 (.pointer (some ⟨b, off + j * 5, none⟩)) hHeld (fun w => ?_) ?_
            · go_simp
            simp only [PT]
            refine tk 6 (.pointer (some ⟨b, off + j * 5, none⟩)) hHeld (fun w => ?_) ?_
            · go_simp
            simp only [PT]
            refine tkS 7 (.slice q.A q.n q.c) hHeld (fun w hq => ?_) ?_
            · obtain ⟨z0, z1⟩ := HF2.out w hq
              go_simp
            simp only [PT]
            refine tk 8 (.int .i64 (q.n : Int)) hHeld (fun w => ?_) ?_
            · go_simp
            simp only [PT]
            refine tk 9 (.slice (some ⟨b, off, none⟩) n c) hHeld (fun w => ?_) ?_
            · go_simp
            simp only [PT]
            refine tk 10 (.pointer (some ⟨b, off, none⟩)) hHeld (fun w => ?_) ?_
            · (go_simp; intro hz; omega)
            simp only [PT]
            refine tk 11 (.pointer (some ⟨b, off, none⟩)) hHeld (fun w => ?_) ?_
            · go_simp
            simp only [PT]
            refine tkS 12 (.slice p0.A p0.n p0.c) hHeld (fun w hq => ?_) ?_
            · obtain ⟨z0, z1⟩ := HF2.out w hq
              go_simp
            simp only [PT]
            refine tk 13 (.int .i64 (p0.n : Int)) hHeld (fun w => ?_) ?_
            · go_simp
            simp only [PT]
            refine tk 14 (.bool true) hHeld (fun w => ?_) ?_
            · go_simp
            simp only [PT]
            refine tk 15 (.bool true) hHeld (fun w => ?_) ?_
            · go_simp
            simp only [PT]
            refine wpAnyH_done (by kernel_rfl) ?_ _
            clear hHeld
            go_wp2
            go_ret
            exact ⟨by rw [HR.out]; rfl, HBW.out.trans ((HB3.out.drew).mono HBW.out.size)⟩
      · obtain rfl : j = n := by omega
        have hge : ¬ ((j : Int) < j) := by omega
        have HR := Lib.hid (all_yes (l := l) (by have := HLL.out; omega) (fun i hi => HAL.out i (by rw [HLL.out] at hi; exact hi)))
        go_wp2
        go_ret
        exact ⟨by rw [HR.out]; rfl, HBW.out⟩
end Go.Proofs.Ytjjjfckkglcdfaa
