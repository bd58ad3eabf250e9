/- The walk over package know's Makes: a closure that calls itself. -/
import Derived.Test.YtcpeaeefphgbaaaKnwParts
import Derived.Test.YtcpeaeefphgbaaaKnwRMakes
import Derived.Test.YtcpeaeefphgbaaaBasTake
namespace Go.Proofs.Ytcpeaeefphgbaaa
set_option linter.unusedVariables false
set_option linter.unusedSimpArgs false
open Go.RowKit

/-- eight cells, held -/
theorem eight_held {W w' : World} {p0 p1 p2 p3 p4 p5 p6 p7 : Addr} {v0 v1 v2 v3 v4 v5 v6 v7 : Value} (hb : Below W.heap.size W w') (h : W.cell? p0 = some v0 ∧ W.cell? p1 = some v1 ∧ W.cell? p2 = some v2 ∧ W.cell? p3 = some v3 ∧ W.cell? p4 = some v4 ∧ W.cell? p5 = some v5 ∧ W.cell? p6 = some v6 ∧ W.cell? p7 = some v7) :
    w'.cell? p0 = some v0 ∧ w'.cell? p1 = some v1 ∧ w'.cell? p2 = some v2 ∧ w'.cell? p3 = some v3 ∧ w'.cell? p4 = some v4 ∧ w'.cell? p5 = some v5 ∧ w'.cell? p6 = some v6 ∧ w'.cell? p7 = some v7 := by
  obtain ⟨h0, h1, h2, h3, h4, h5, h6, h7⟩ := h
  exact ⟨(hb.cell (block_lt_of_cell h0)).trans h0, (hb.cell (block_lt_of_cell h1)).trans h1, (hb.cell (block_lt_of_cell h2)).trans h2, (hb.cell (block_lt_of_cell h3)).trans h3, (hb.cell (block_lt_of_cell h4)).trans h4, (hb.cell (block_lt_of_cell h5)).trans h5, (hb.cell (block_lt_of_cell h6)).trans h6, (hb.cell (block_lt_of_cell h7)).trans h7⟩
theorem boxed_later {w w' : World} {g : Nat} {t : TypeId} {v : Value} (h : Boxed w g t v) (hb : Below w.heap.size w w') : Boxed w' g t v := (hb.block _ h.lt).trans h

set_option maxHeartbeats 4000000 in
theorem kmade_in (w0 : World) (p f : Nat) (K : List Te) (Ap : Option Addr) (mp cp : Nat) (hP : Is (· < w0.heap.size) w0 (.node 0 0 K) 0 0 Ap mp cp) : ∀ (t : Te) (k n : Int) (A : Option Addr) (m c : Nat), Is (· < w0.heap.size) w0 t k n A m c →
    ∀ (w : World), Below w0.heap.size w0 w → t.good = true → Boxed w p 22 (.slice Ap mp cp) → Boxed w f 27 (.func (.func 38) #[] #[.pointer (some ⟨p, 0, none⟩), .pointer (some ⟨f, 0, none⟩)]) →
    Calls Try.prog 38 #[.agg #[.int .i64 k, .int .i64 n, .slice A m c], .pointer (some ⟨p, 0, none⟩), .pointer (some ⟨f, 0, none⟩)] w (GivesB (t.made K) w) := by
  refine Is.ind fun k n l A m c hI ih w hb hgood hp hf => ?_
  have IH := Lib.hid ih
  have hone := one_alloc w (.cells #[.int .i64 k, .int .i64 n, .slice A m c] 24)
  have hcup := Cup.new w k n A m c
  obtain ⟨W1, hW1⟩ : ∃ W1, w.alloc (.cells #[.int .i64 k, .int .i64 n, .slice A m c] 24) = W1 := ⟨_, rfl⟩
  rw [hW1] at hone hcup
  have hb1 : Below w0.heap.size w0 W1 := hb.trans (hone.mono hb.size)
  have hp1 := boxed_later hp hone
  have hf1 := boxed_later hf hone
  have HIN := Lib.hid (has_any _ _ K (.node k n l) Ap mp cp k n A m c _ (hP.below hb1) (hI.below hb1))
  have HI := Lib.hid hI
  have HC := Lib.hid hcup
  have HB1 := Lib.hid hb1
  have HONE := Lib.hid hone
  have HG := Lib.hid (Te.good_two hgood)
  have HW := Lib.hid hW1
  have HP := Lib.hid hp1
  have HF := Lib.hid hf1
  obtain ⟨x0, x1, x2⟩ := hcup.cells
  have cp1 : (w.alloc (.cells #[.int .i64 k, .int .i64 n, .slice A m c] 24)).cell? ⟨p, 0, none⟩ = some (.slice Ap mp cp) := by rw [hW1]; exact hp1.cell
  clear ih hI hone hcup hb hb1 hgood hW1 hp hf hp1 hf1
  rcases HG.out with ⟨h01 | h01, rfl, hn⟩ | ⟨hk, rfl, a, b, rfl, hga, hgb⟩
  · subst h01
    go_enter Try.func38, Try.ntmps38
    go_wp2
    go_ret
    exact ⟨by rw [made_word]; rfl, by rw [HW.out]; exact HONE.out⟩
  · subst h01
    cases hi : isIn K (.node 1 n [])
    all_goals
      rw [hi] at HIN
      have HM := Lib.hid (made_key (P := K) (n := n) (l := []))
      rw [hi] at HM
      clear hi
      go_enter Try.func38, Try.ntmps38
      go_wp2_with (go_at_call 34
                   rw [HW.out]
                   (with_reducible refine HIN.out.mono ?_)
                   rintro e w2 ⟨rfl, hb2⟩
                   obtain ⟨y0, y1, y2⟩ := (HC.out.below hb2).cells
                   have HB2 := Lib.hid (HONE.out.trans (hb2.mono HONE.out.size))
                   clear hb2)
      go_ret
      exact ⟨by rw [HM.out]; rfl, HB2.out⟩
  · have hk0 : (k == 0) = false := by rw [beq_eq_false_iff_ne]; omega
    have hk1 : (k == 1) = false := by rw [beq_eq_false_iff_ne]; omega
    cases hi : isIn K (.node k 0 [a, b]) with
    | true =>
      rw [hi] at HIN
      have HM := Lib.hid (made_in' hi)
      clear hi
      go_enter Try.func38, Try.ntmps38
      go_wp2_with (go_at_call 34
                   rw [HW.out]
                   (with_reducible refine HIN.out.mono ?_)
                   rintro e w2 ⟨rfl, hb2⟩
                   obtain ⟨y0, y1, y2⟩ := (HC.out.below hb2).cells
                   have HB2 := Lib.hid (HONE.out.trans (hb2.mono HONE.out.size))
                   clear hb2)
      go_ret
      exact ⟨by rw [HM.out]; rfl, HB2.out⟩
    | false =>
      rw [hi] at HIN
      have HMT := Lib.hid (made_two (by omega) (by omega) hi)
      clear hi
      have HGA := Lib.hid hga
      have HGB := Lib.hid hgb
      have hm2 : m = 2 := by have := HI.out.len.1; simpa using this.symm
      subst hm2
      clear hga hgb
      obtain ⟨xa, hxa⟩ : ∃ x, a.made K = x := ⟨_, rfl⟩
      obtain ⟨xb, hxb⟩ : ∃ x, b.made K = x := ⟨_, rfl⟩
      rw [hxa, hxb] at HMT
      have HXA := Lib.hid hxa
      have HXB := Lib.hid hxb
      clear hxa hxb
      obtain ⟨bl, off, k1, n1, A1, m1, c1, k2, n2, A2, m2, c2, rfl, hbl, hI1, hI2, hcl⟩ := HI.out.two (Below.refl _ w0)
      have HI1 := Lib.hid hI1
      have HI2 := Lib.hid hI2
      have HCL := Lib.hid hcl
      have HBL := Lib.hid hbl
      clear hI1 hI2 hcl hbl
      have hS1 : W1.cell? ⟨f, 0, none⟩ = some (.func (.func 38) #[] #[.pointer (some ⟨p, 0, none⟩), .pointer (some ⟨f, 0, none⟩)]) ∧ W1.cell? ⟨w.heap.size, 2, none⟩ = some (.slice (some ⟨bl, off, none⟩) 2 c) ∧
          W1.cell? ⟨bl, off, none⟩ = some (.int .i64 k1) ∧ W1.cell? ⟨bl, off + 1, none⟩ = some (.int .i64 n1) ∧ W1.cell? ⟨bl, off + 2, none⟩ = some (.slice A1 m1 c1) ∧
          W1.cell? ⟨bl, off + 3, none⟩ = some (.int .i64 k2) ∧ W1.cell? ⟨bl, off + 3 + 1, none⟩ = some (.int .i64 n2) ∧ W1.cell? ⟨bl, off + 3 + 2, none⟩ = some (.slice A2 m2 c2) := by
        obtain ⟨d0, d1, d2, d3, d4, d5⟩ := HCL.out
        have hb := HB1.out
        exact ⟨HF.out.cell, x2, (hb.cell (p := ⟨bl, off, none⟩) HBL.out).trans d0, (hb.cell (p := ⟨bl, off + 1, none⟩) HBL.out).trans d1, (hb.cell (p := ⟨bl, off + 2, none⟩) HBL.out).trans d2, (hb.cell (p := ⟨bl, off + 3, none⟩) HBL.out).trans d3, (hb.cell (p := ⟨bl, off + 3 + 1, none⟩) HBL.out).trans d4, (hb.cell (p := ⟨bl, off + 3 + 2, none⟩) HBL.out).trans d5⟩
      have HS1 := Lib.hid hS1
      clear hS1
      cases xa with
      | false =>
        go_enter Try.func38, Try.ntmps38
        go_wp2_with (go_at_call 34
                     rw [HW.out]
                     (with_reducible refine HIN.out.mono ?_)
                     rintro e w2 ⟨rfl, hb2⟩
                     obtain ⟨y0, y1, y2⟩ := (HC.out.below hb2).cells
                     have HB2 := Lib.hid hb2
                     clear hb2)
        clear x0 x1 x2 y0 y1 y2 cp1
        have hB2d : Below W1.heap.size W1 w2.drew := HB2.out.drew
        have S2 := eight_held hB2d HS1.out
        refine wp_region_held_drew (S := (fun w' => w'.cell? ⟨f, 0, none⟩ = some (.func (.func 38) #[] #[.pointer (some ⟨p, 0, none⟩), .pointer (some ⟨f, 0, none⟩)]) ∧ w'.cell? ⟨w.heap.size, 2, none⟩ = some (.slice (some ⟨bl, off, none⟩) 2 c) ∧ w'.cell? ⟨bl, off, none⟩ = some (.int .i64 k1) ∧ w'.cell? ⟨bl, off + 1, none⟩ = some (.int .i64 n1) ∧ w'.cell? ⟨bl, off + 2, none⟩ = some (.slice A1 m1 c1) ∧ w'.cell? ⟨bl, off + 3, none⟩ = some (.int .i64 k2) ∧ w'.cell? ⟨bl, off + 3 + 1, none⟩ = some (.int .i64 n2) ∧ w'.cell? ⟨bl, off + 3 + 2, none⟩ = some (.slice A2 m2 c2))) (by kernel_rfl) S2 (fun hHeld => ?_)
        refine take_if 0 (.func (.func 38) #[] #[.pointer (some ⟨p, 0, none⟩), .pointer (some ⟨f, 0, none⟩)]) rfl (by kernel_rfl) (by kernel_rfl) (by kernel_rfl) (fun _ _ _ h => h) rfl hHeld (fun w' hw' => ?_) ?_
        · obtain ⟨q0, q1, q2, q3, q4, q5, q6, q7⟩ := hw'
          go_simp
        simp only [Act.put, List.setIfInBounds_toArray, List.set_cons_zero, List.set_cons_succ]
        refine take_run 1 (.pointer (some ⟨w.heap.size, 2, none⟩)) rfl (by kernel_rfl) (by kernel_rfl) (by kernel_rfl) (fun _ _ _ h => h) rfl hHeld (fun w => ?_) ?_
        · go_simp
        simp only [Act.put, List.setIfInBounds_toArray, List.set_cons_zero, List.set_cons_succ]
        refine take_if 2 (.slice (some ⟨bl, off, none⟩) 2 c) rfl (by kernel_rfl) (by kernel_rfl) (by kernel_rfl) (fun _ _ _ h => h) rfl hHeld (fun w' hw' => ?_) ?_
        · obtain ⟨q0, q1, q2, q3, q4, q5, q6, q7⟩ := hw'
          go_simp
        simp only [Act.put, List.setIfInBounds_toArray, List.set_cons_zero, List.set_cons_succ]
        refine take_run 3 (.pointer (some ⟨bl, off, none⟩)) rfl (by kernel_rfl) (by kernel_rfl) (by kernel_rfl) (fun _ _ _ h => h) rfl hHeld (fun w => ?_) ?_
        · go_simp
        simp only [Act.put, List.setIfInBounds_toArray, List.set_cons_zero, List.set_cons_succ]
        refine take_if 4 (.agg #[.int .i64 k1, .int .i64 n1, .slice A1 m1 c1]) rfl (by kernel_rfl) (by kernel_rfl) (by kernel_rfl) (fun _ _ _ h => h) rfl hHeld (fun w' hw' => ?_) ?_
        · obtain ⟨q0, q1, q2, q3, q4, q5, q6, q7⟩ := hw'
          go_simp
        simp only [Act.put, List.setIfInBounds_toArray, List.set_cons_zero, List.set_cons_succ]
        refine one_step 5 (by kernel_rfl) rfl (fun Kq hKq => ?_)
        go_simp
        go_at_call 38
        have hbb : Below w0.heap.size w0 w2.drew := HB1.out.trans (hB2d.mono HB1.out.size)
        have hcc : Calls Try.prog 38 #[.agg #[.int .i64 k1, .int .i64 n1, .slice A1 m1 c1], .pointer (some ⟨p, 0, none⟩), .pointer (some ⟨f, 0, none⟩)] w2.drew (GivesB (a.made K) w2.drew) := IH.out 0 (by simp) k1 n1 A1 m1 c1 HI1.out w2.drew hbb HGA.out (boxed_later HP.out hB2d) (boxed_later HF.out hB2d)
        rw [HXA.out] at hcc
        (with_reducible refine hcc.mono ?_)
        rintro e w3 ⟨rfl, hb3⟩
        have hB3 : Below W1.heap.size W1 w3 := hB2d.trans (hb3.mono hB2d.size)
        have S3 := eight_held hB3 HS1.out
        refine hKq.out _ _ S3 (fun hHeld0 => ?_)
        clear hKq Kq hHeld hcc hbb hb3
        have hHeld := hHeld0
        clear hHeld0
        try simp only [Act.put, List.setIfInBounds_toArray, List.set_cons_zero, List.set_cons_succ]
        refine take_move 6 (.tmp 10) (.bool false) rfl rfl rfl (by kernel_rfl) (by kernel_rfl) (by kernel_rfl) (fun _ _ _ h => h) rfl hHeld ?_
        simp only [Act.put, List.setIfInBounds_toArray, List.set_cons_zero, List.set_cons_succ]
        refine take_off 7 rfl (by kernel_rfl) (by kernel_rfl) (by kernel_rfl) (fun _ _ _ h => h) rfl hHeld ?_
        simp only [Act.put, List.setIfInBounds_toArray, List.set_cons_zero, List.set_cons_succ]
        refine take_off 8 rfl (by kernel_rfl) (by kernel_rfl) (by kernel_rfl) (fun _ _ _ h => h) rfl hHeld ?_
        simp only [Act.put, List.setIfInBounds_toArray, List.set_cons_zero, List.set_cons_succ]
        refine take_off 9 rfl (by kernel_rfl) (by kernel_rfl) (by kernel_rfl) (fun _ _ _ h => h) rfl hHeld ?_
        simp only [Act.put, List.setIfInBounds_toArray, List.set_cons_zero, List.set_cons_succ]
        refine take_off 10 rfl (by kernel_rfl) (by kernel_rfl) (by kernel_rfl) (fun _ _ _ h => h) rfl hHeld ?_
        simp only [Act.put, List.setIfInBounds_toArray, List.set_cons_zero, List.set_cons_succ]
        refine take_off 11 rfl (by kernel_rfl) (by kernel_rfl) (by kernel_rfl) (fun _ _ _ h => h) rfl hHeld ?_
        simp only [Act.put, List.setIfInBounds_toArray, List.set_cons_zero, List.set_cons_succ]
        refine take_off 12 rfl (by kernel_rfl) (by kernel_rfl) (by kernel_rfl) (fun _ _ _ h => h) rfl hHeld ?_
        simp only [Act.put, List.setIfInBounds_toArray, List.set_cons_zero, List.set_cons_succ]
        refine take_run 13 (.bool false) rfl (by kernel_rfl) (by kernel_rfl) (by kernel_rfl) (fun _ _ _ h => h) rfl hHeld (fun w => ?_) ?_
        · go_simp
        simp only [Act.put, List.setIfInBounds_toArray, List.set_cons_zero, List.set_cons_succ]
        refine take_run 14 (.bool false) rfl (by kernel_rfl) (by kernel_rfl) (by kernel_rfl) (fun _ _ _ h => h) rfl hHeld (fun w => ?_) ?_
        · go_simp
        simp only [Act.put, List.setIfInBounds_toArray, List.set_cons_zero, List.set_cons_succ]
        refine wpAnyH_done (by kernel_rfl) ?_ _
        go_wp2
        go_ret
        exact ⟨by rw [HMT.out]; rfl, HONE.out.trans (hB3.mono HONE.out.size)⟩
      | true =>
        cases xb with
        | false =>
          go_enter Try.func38, Try.ntmps38
          go_wp2_with (go_at_call 34
                       rw [HW.out]
                       (with_reducible refine HIN.out.mono ?_)
                       rintro e w2 ⟨rfl, hb2⟩
                       obtain ⟨y0, y1, y2⟩ := (HC.out.below hb2).cells
                       have HB2 := Lib.hid hb2
                       clear hb2)
          clear x0 x1 x2 y0 y1 y2 cp1
          have hB2d : Below W1.heap.size W1 w2.drew := HB2.out.drew
          have S2 := eight_held hB2d HS1.out
          refine wp_region_held_drew (S := (fun w' => w'.cell? ⟨f, 0, none⟩ = some (.func (.func 38) #[] #[.pointer (some ⟨p, 0, none⟩), .pointer (some ⟨f, 0, none⟩)]) ∧ w'.cell? ⟨w.heap.size, 2, none⟩ = some (.slice (some ⟨bl, off, none⟩) 2 c) ∧ w'.cell? ⟨bl, off, none⟩ = some (.int .i64 k1) ∧ w'.cell? ⟨bl, off + 1, none⟩ = some (.int .i64 n1) ∧ w'.cell? ⟨bl, off + 2, none⟩ = some (.slice A1 m1 c1) ∧ w'.cell? ⟨bl, off + 3, none⟩ = some (.int .i64 k2) ∧ w'.cell? ⟨bl, off + 3 + 1, none⟩ = some (.int .i64 n2) ∧ w'.cell? ⟨bl, off + 3 + 2, none⟩ = some (.slice A2 m2 c2))) (by kernel_rfl) S2 (fun hHeld => ?_)
          refine take_if 0 (.func (.func 38) #[] #[.pointer (some ⟨p, 0, none⟩), .pointer (some ⟨f, 0, none⟩)]) rfl (by kernel_rfl) (by kernel_rfl) (by kernel_rfl) (fun _ _ _ h => h) rfl hHeld (fun w' hw' => ?_) ?_
          · obtain ⟨q0, q1, q2, q3, q4, q5, q6, q7⟩ := hw'
            go_simp
          simp only [Act.put, List.setIfInBounds_toArray, List.set_cons_zero, List.set_cons_succ]
          refine take_run 1 (.pointer (some ⟨w.heap.size, 2, none⟩)) rfl (by kernel_rfl) (by kernel_rfl) (by kernel_rfl) (fun _ _ _ h => h) rfl hHeld (fun w => ?_) ?_
          · go_simp
          simp only [Act.put, List.setIfInBounds_toArray, List.set_cons_zero, List.set_cons_succ]
          refine take_if 2 (.slice (some ⟨bl, off, none⟩) 2 c) rfl (by kernel_rfl) (by kernel_rfl) (by kernel_rfl) (fun _ _ _ h => h) rfl hHeld (fun w' hw' => ?_) ?_
          · obtain ⟨q0, q1, q2, q3, q4, q5, q6, q7⟩ := hw'
            go_simp
          simp only [Act.put, List.setIfInBounds_toArray, List.set_cons_zero, List.set_cons_succ]
          refine take_run 3 (.pointer (some ⟨bl, off, none⟩)) rfl (by kernel_rfl) (by kernel_rfl) (by kernel_rfl) (fun _ _ _ h => h) rfl hHeld (fun w => ?_) ?_
          · go_simp
          simp only [Act.put, List.setIfInBounds_toArray, List.set_cons_zero, List.set_cons_succ]
          refine take_if 4 (.agg #[.int .i64 k1, .int .i64 n1, .slice A1 m1 c1]) rfl (by kernel_rfl) (by kernel_rfl) (by kernel_rfl) (fun _ _ _ h => h) rfl hHeld (fun w' hw' => ?_) ?_
          · obtain ⟨q0, q1, q2, q3, q4, q5, q6, q7⟩ := hw'
            go_simp
          simp only [Act.put, List.setIfInBounds_toArray, List.set_cons_zero, List.set_cons_succ]
          refine one_step 5 (by kernel_rfl) rfl (fun Kq hKq => ?_)
          go_simp
          go_at_call 38
          have hbb : Below w0.heap.size w0 w2.drew := HB1.out.trans (hB2d.mono HB1.out.size)
          have hcc : Calls Try.prog 38 #[.agg #[.int .i64 k1, .int .i64 n1, .slice A1 m1 c1], .pointer (some ⟨p, 0, none⟩), .pointer (some ⟨f, 0, none⟩)] w2.drew (GivesB (a.made K) w2.drew) := IH.out 0 (by simp) k1 n1 A1 m1 c1 HI1.out w2.drew hbb HGA.out (boxed_later HP.out hB2d) (boxed_later HF.out hB2d)
          rw [HXA.out] at hcc
          (with_reducible refine hcc.mono ?_)
          rintro e w3 ⟨rfl, hb3⟩
          have hB3 : Below W1.heap.size W1 w3 := hB2d.trans (hb3.mono hB2d.size)
          have S3 := eight_held hB3 HS1.out
          refine hKq.out _ _ S3 (fun hHeld0 => ?_)
          clear hKq Kq hHeld hcc hbb hb3
          have hHeld := hHeld0
          clear hHeld0
          try simp only [Act.put, List.setIfInBounds_toArray, List.set_cons_zero, List.set_cons_succ]
          refine take_move 6 (.tmp 10) (.bool true) rfl rfl rfl (by kernel_rfl) (by kernel_rfl) (by kernel_rfl) (fun _ _ _ h => h) rfl hHeld ?_
          simp only [Act.put, List.setIfInBounds_toArray, List.set_cons_zero, List.set_cons_succ]
          refine take_if 7 (.func (.func 38) #[] #[.pointer (some ⟨p, 0, none⟩), .pointer (some ⟨f, 0, none⟩)]) rfl (by kernel_rfl) (by kernel_rfl) (by kernel_rfl) (fun _ _ _ h => h) rfl hHeld (fun w' hw' => ?_) ?_
          · obtain ⟨q0, q1, q2, q3, q4, q5, q6, q7⟩ := hw'
            go_simp
          simp only [Act.put, List.setIfInBounds_toArray, List.set_cons_zero, List.set_cons_succ]
          refine take_run 8 (.pointer (some ⟨w.heap.size, 2, none⟩)) rfl (by kernel_rfl) (by kernel_rfl) (by kernel_rfl) (fun _ _ _ h => h) rfl hHeld (fun w => ?_) ?_
          · go_simp
          simp only [Act.put, List.setIfInBounds_toArray, List.set_cons_zero, List.set_cons_succ]
          refine take_if 9 (.slice (some ⟨bl, off, none⟩) 2 c) rfl (by kernel_rfl) (by kernel_rfl) (by kernel_rfl) (fun _ _ _ h => h) rfl hHeld (fun w' hw' => ?_) ?_
          · obtain ⟨q0, q1, q2, q3, q4, q5, q6, q7⟩ := hw'
            go_simp
          simp only [Act.put, List.setIfInBounds_toArray, List.set_cons_zero, List.set_cons_succ]
          refine take_run 10 (.pointer (some ⟨bl, off + 3, none⟩)) rfl (by kernel_rfl) (by kernel_rfl) (by kernel_rfl) (fun _ _ _ h => h) rfl hHeld (fun w => ?_) ?_
          · go_simp
          simp only [Act.put, List.setIfInBounds_toArray, List.set_cons_zero, List.set_cons_succ]
          refine take_if 11 (.agg #[.int .i64 k2, .int .i64 n2, .slice A2 m2 c2]) rfl (by kernel_rfl) (by kernel_rfl) (by kernel_rfl) (fun _ _ _ h => h) rfl hHeld (fun w' hw' => ?_) ?_
          · obtain ⟨q0, q1, q2, q3, q4, q5, q6, q7⟩ := hw'
            go_simp
          simp only [Act.put, List.setIfInBounds_toArray, List.set_cons_zero, List.set_cons_succ]
          refine one_step 12 (by kernel_rfl) rfl (fun Kq hKq => ?_)
          go_simp
          go_at_call 38
          have hbb : Below w0.heap.size w0 w3 := HB1.out.trans (hB3.mono HB1.out.size)
          have hcc : Calls Try.prog 38 #[.agg #[.int .i64 k2, .int .i64 n2, .slice A2 m2 c2], .pointer (some ⟨p, 0, none⟩), .pointer (some ⟨f, 0, none⟩)] w3 (GivesB (b.made K) w3) := IH.out 1 (by simp) k2 n2 A2 m2 c2 HI2.out w3 hbb HGB.out (boxed_later HP.out hB3) (boxed_later HF.out hB3)
          rw [HXB.out] at hcc
          (with_reducible refine hcc.mono ?_)
          rintro e w4 ⟨rfl, hb4⟩
          have hB4 : Below W1.heap.size W1 w4 := hB3.trans (hb4.mono hB3.size)
          have S4 := eight_held hB4 HS1.out
          refine hKq.out _ _ S4 (fun hHeld0 => ?_)
          clear hKq Kq hHeld hcc hbb hb4
          have hHeld := hHeld0
          clear hHeld0
          try simp only [Act.put, List.setIfInBounds_toArray, List.set_cons_zero, List.set_cons_succ]
          refine take_run 13 (.bool false) rfl (by kernel_rfl) (by kernel_rfl) (by kernel_rfl) (fun _ _ _ h => h) rfl hHeld (fun w => ?_) ?_
          · go_simp
          simp only [Act.put, List.setIfInBounds_toArray, List.set_cons_zero, List.set_cons_succ]
          refine take_run 14 (.bool false) rfl (by kernel_rfl) (by kernel_rfl) (by kernel_rfl) (fun _ _ _ h => h) rfl hHeld (fun w => ?_) ?_
          · go_simp
          simp only [Act.put, List.setIfInBounds_toArray, List.set_cons_zero, List.set_cons_succ]
          refine wpAnyH_done (by kernel_rfl) ?_ _
          go_wp2
          go_ret
          exact ⟨by rw [HMT.out]; rfl, HONE.out.trans (hB4.mono HONE.out.size)⟩
        | true =>
          go_enter Try.func38, Try.ntmps38
          go_wp2_with (go_at_call 34
                       rw [HW.out]
                       (with_reducible refine HIN.out.mono ?_)
                       rintro e w2 ⟨rfl, hb2⟩
                       obtain ⟨y0, y1, y2⟩ := (HC.out.below hb2).cells
                       have HB2 := Lib.hid hb2
                       clear hb2)
          clear x0 x1 x2 y0 y1 y2 cp1
          have hB2d : Below W1.heap.size W1 w2.drew := HB2.out.drew
          have S2 := eight_held hB2d HS1.out
          refine wp_region_held_drew (S := (fun w' => w'.cell? ⟨f, 0, none⟩ = some (.func (.func 38) #[] #[.pointer (some ⟨p, 0, none⟩), .pointer (some ⟨f, 0, none⟩)]) ∧ w'.cell? ⟨w.heap.size, 2, none⟩ = some (.slice (some ⟨bl, off, none⟩) 2 c) ∧ w'.cell? ⟨bl, off, none⟩ = some (.int .i64 k1) ∧ w'.cell? ⟨bl, off + 1, none⟩ = some (.int .i64 n1) ∧ w'.cell? ⟨bl, off + 2, none⟩ = some (.slice A1 m1 c1) ∧ w'.cell? ⟨bl, off + 3, none⟩ = some (.int .i64 k2) ∧ w'.cell? ⟨bl, off + 3 + 1, none⟩ = some (.int .i64 n2) ∧ w'.cell? ⟨bl, off + 3 + 2, none⟩ = some (.slice A2 m2 c2))) (by kernel_rfl) S2 (fun hHeld => ?_)
          refine take_if 0 (.func (.func 38) #[] #[.pointer (some ⟨p, 0, none⟩), .pointer (some ⟨f, 0, none⟩)]) rfl (by kernel_rfl) (by kernel_rfl) (by kernel_rfl) (fun _ _ _ h => h) rfl hHeld (fun w' hw' => ?_) ?_
          · obtain ⟨q0, q1, q2, q3, q4, q5, q6, q7⟩ := hw'
            go_simp
          simp only [Act.put, List.setIfInBounds_toArray, List.set_cons_zero, List.set_cons_succ]
          refine take_run 1 (.pointer (some ⟨w.heap.size, 2, none⟩)) rfl (by kernel_rfl) (by kernel_rfl) (by kernel_rfl) (fun _ _ _ h => h) rfl hHeld (fun w => ?_) ?_
          · go_simp
          simp only [Act.put, List.setIfInBounds_toArray, List.set_cons_zero, List.set_cons_succ]
          refine take_if 2 (.slice (some ⟨bl, off, none⟩) 2 c) rfl (by kernel_rfl) (by kernel_rfl) (by kernel_rfl) (fun _ _ _ h => h) rfl hHeld (fun w' hw' => ?_) ?_
          · obtain ⟨q0, q1, q2, q3, q4, q5, q6, q7⟩ := hw'
            go_simp
          simp only [Act.put, List.setIfInBounds_toArray, List.set_cons_zero, List.set_cons_succ]
          refine take_run 3 (.pointer (some ⟨bl, off, none⟩)) rfl (by kernel_rfl) (by kernel_rfl) (by kernel_rfl) (fun _ _ _ h => h) rfl hHeld (fun w => ?_) ?_
          · go_simp
          simp only [Act.put, List.setIfInBounds_toArray, List.set_cons_zero, List.set_cons_succ]
          refine take_if 4 (.agg #[.int .i64 k1, .int .i64 n1, .slice A1 m1 c1]) rfl (by kernel_rfl) (by kernel_rfl) (by kernel_rfl) (fun _ _ _ h => h) rfl hHeld (fun w' hw' => ?_) ?_
          · obtain ⟨q0, q1, q2, q3, q4, q5, q6, q7⟩ := hw'
            go_simp
          simp only [Act.put, List.setIfInBounds_toArray, List.set_cons_zero, List.set_cons_succ]
          refine one_step 5 (by kernel_rfl) rfl (fun Kq hKq => ?_)
          go_simp
          go_at_call 38
          have hbb : Below w0.heap.size w0 w2.drew := HB1.out.trans (hB2d.mono HB1.out.size)
          have hcc : Calls Try.prog 38 #[.agg #[.int .i64 k1, .int .i64 n1, .slice A1 m1 c1], .pointer (some ⟨p, 0, none⟩), .pointer (some ⟨f, 0, none⟩)] w2.drew (GivesB (a.made K) w2.drew) := IH.out 0 (by simp) k1 n1 A1 m1 c1 HI1.out w2.drew hbb HGA.out (boxed_later HP.out hB2d) (boxed_later HF.out hB2d)
          rw [HXA.out] at hcc
          (with_reducible refine hcc.mono ?_)
          rintro e w3 ⟨rfl, hb3⟩
          have hB3 : Below W1.heap.size W1 w3 := hB2d.trans (hb3.mono hB2d.size)
          have S3 := eight_held hB3 HS1.out
          refine hKq.out _ _ S3 (fun hHeld0 => ?_)
          clear hKq Kq hHeld hcc hbb hb3
          have hHeld := hHeld0
          clear hHeld0
          try simp only [Act.put, List.setIfInBounds_toArray, List.set_cons_zero, List.set_cons_succ]
          refine take_move 6 (.tmp 10) (.bool true) rfl rfl rfl (by kernel_rfl) (by kernel_rfl) (by kernel_rfl) (fun _ _ _ h => h) rfl hHeld ?_
          simp only [Act.put, List.setIfInBounds_toArray, List.set_cons_zero, List.set_cons_succ]
          refine take_if 7 (.func (.func 38) #[] #[.pointer (some ⟨p, 0, none⟩), .pointer (some ⟨f, 0, none⟩)]) rfl (by kernel_rfl) (by kernel_rfl) (by kernel_rfl) (fun _ _ _ h => h) rfl hHeld (fun w' hw' => ?_) ?_
          · obtain ⟨q0, q1, q2, q3, q4, q5, q6, q7⟩ := hw'
            go_simp
          simp only [Act.put, List.setIfInBounds_toArray, List.set_cons_zero, List.set_cons_succ]
          refine take_run 8 (.pointer (some ⟨w.heap.size, 2, none⟩)) rfl (by kernel_rfl) (by kernel_rfl) (by kernel_rfl) (fun _ _ _ h => h) rfl hHeld (fun w => ?_) ?_
          · go_simp
          simp only [Act.put, List.setIfInBounds_toArray, List.set_cons_zero, List.set_cons_succ]
          refine take_if 9 (.slice (some ⟨bl, off, none⟩) 2 c) rfl (by kernel_rfl) (by kernel_rfl) (by kernel_rfl) (fun _ _ _ h => h) rfl hHeld (fun w' hw' => ?_) ?_
          · obtain ⟨q0, q1, q2, q3, q4, q5, q6, q7⟩ := hw'
            go_simp
          simp only [Act.put, List.setIfInBounds_toArray, List.set_cons_zero, List.set_cons_succ]
          refine take_run 10 (.pointer (some ⟨bl, off + 3, none⟩)) rfl (by kernel_rfl) (by kernel_rfl) (by kernel_rfl) (fun _ _ _ h => h) rfl hHeld (fun w => ?_) ?_
          · go_simp
          simp only [Act.put, List.setIfInBounds_toArray, List.set_cons_zero, List.set_cons_succ]
          refine take_if 11 (.agg #[.int .i64 k2, .int .i64 n2, .slice A2 m2 c2]) rfl (by kernel_rfl) (by kernel_rfl) (by kernel_rfl) (fun _ _ _ h => h) rfl hHeld (fun w' hw' => ?_) ?_
          · obtain ⟨q0, q1, q2, q3, q4, q5, q6, q7⟩ := hw'
            go_simp
          simp only [Act.put, List.setIfInBounds_toArray, List.set_cons_zero, List.set_cons_succ]
          refine one_step 12 (by kernel_rfl) rfl (fun Kq hKq => ?_)
          go_simp
          go_at_call 38
          have hbb : Below w0.heap.size w0 w3 := HB1.out.trans (hB3.mono HB1.out.size)
          have hcc : Calls Try.prog 38 #[.agg #[.int .i64 k2, .int .i64 n2, .slice A2 m2 c2], .pointer (some ⟨p, 0, none⟩), .pointer (some ⟨f, 0, none⟩)] w3 (GivesB (b.made K) w3) := IH.out 1 (by simp) k2 n2 A2 m2 c2 HI2.out w3 hbb HGB.out (boxed_later HP.out hB3) (boxed_later HF.out hB3)
          rw [HXB.out] at hcc
          (with_reducible refine hcc.mono ?_)
          rintro e w4 ⟨rfl, hb4⟩
          have hB4 : Below W1.heap.size W1 w4 := hB3.trans (hb4.mono hB3.size)
          have S4 := eight_held hB4 HS1.out
          refine hKq.out _ _ S4 (fun hHeld0 => ?_)
          clear hKq Kq hHeld hcc hbb hb4
          have hHeld := hHeld0
          clear hHeld0
          try simp only [Act.put, List.setIfInBounds_toArray, List.set_cons_zero, List.set_cons_succ]
          refine take_run 13 (.bool true) rfl (by kernel_rfl) (by kernel_rfl) (by kernel_rfl) (fun _ _ _ h => h) rfl hHeld (fun w => ?_) ?_
          · go_simp
          simp only [Act.put, List.setIfInBounds_toArray, List.set_cons_zero, List.set_cons_succ]
          refine take_run 14 (.bool true) rfl (by kernel_rfl) (by kernel_rfl) (by kernel_rfl) (fun _ _ _ h => h) rfl hHeld (fun w => ?_) ?_
          · go_simp
          simp only [Act.put, List.setIfInBounds_toArray, List.set_cons_zero, List.set_cons_succ]
          refine wpAnyH_done (by kernel_rfl) ?_ _
          go_wp2
          go_ret
          exact ⟨by rw [HMT.out]; rfl, HONE.out.trans (hB4.mono HONE.out.size)⟩
end Go.Proofs.Ytcpeaeefphgbaaa
