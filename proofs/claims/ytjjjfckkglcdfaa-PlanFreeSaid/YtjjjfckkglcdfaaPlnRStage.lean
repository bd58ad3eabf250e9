/- The walks over the document's stage of a plan, and Has. -/
import Derived.Test.YtjjjfckkglcdfaaPlnSpec
import Derived.Test.YtjjjfckkglcdfaaGrpRAgn
namespace Go.Proofs.Ytjjjfckkglcdfaa
set_option maxRecDepth 100000
set_option linter.unusedVariables false
set_option linter.unusedSimpArgs false
open Go.RowKit

set_option maxHeartbeats 4000000 in
theorem rstage_any (p : Pl) (x : Stg) (w : World) (hp : PlIn w p) : Calls Try.prog 28 #[plV p, .agg #[.int .i64 x.g, .int .i64 x.mn, .int .i64 x.mx]] w fun e w' => e = .returned (.bool (stageB p.m x)) ∧ Below w.heap.size w w' := by
  obtain ⟨g, mn, mx⟩ := x
  simp only [plV]
  have hr : stageB p.m ⟨g, mn, mx⟩ = (freeM p.m g && (decide (g ≠ 0) && (decide (1 ≤ mn) && (decide (mn ≤ 200) && (decide (mn ≤ mx) && decide (mx ≤ 200)))))) := rfl
  obtain ⟨W, hW⟩ : ∃ W, (w.alloc (.cells #[.slice p.A p.n p.c, .slice p.B p.k p.d, .int .i64 p.am, .int .i64 p.rd, .int .i64 p.hd] 25)).alloc (.cells #[.int .i64 g, .int .i64 mn, .int .i64 mx] 36) = W := ⟨_, rfl⟩
  have hB : Below w.heap.size w W := by rw [← hW]; exact (one_alloc w _).alloc (by simp) _
  have HFR := Lib.hid (rgfree_any p.A p.n p.c p.m g W (hp.below hB).m)
  have hx : W.heap[w.heap.size + 1]? = some (.cells #[.int .i64 g, .int .i64 mn, .int .i64 mx] 36 (0, 0)) := by rw [← hW]; exact heap_alloc2_new w _ _
  have hlt : w.heap.size + 1 < W.heap.size := (Array.getElem?_eq_some_iff.1 hx).1
  have HXC := Lib.hid (show ∀ X, Below W.heap.size W X → X.cell? ⟨w.heap.size + 1, 0, none⟩ = some (.int .i64 g) ∧ X.cell? ⟨w.heap.size + 1, 1, none⟩ = some (.int .i64 mn) ∧ X.cell? ⟨w.heap.size + 1, 2, none⟩ = some (.int .i64 mx) from fun X hX => by
    have h := (hX.block _ hlt).trans hx
    exact ⟨(cell_of_row _ _ _ _ _ _ h).trans rfl, (cell_of_row _ _ _ _ _ _ h).trans rfl, (cell_of_row _ _ _ _ _ _ h).trans rfl⟩)
  obtain ⟨F, hF⟩ : ∃ F, freeM p.m g = F := ⟨_, rfl⟩
  obtain ⟨M, hM⟩ : ∃ M, stageB p.m ⟨g, mn, mx⟩ = M := ⟨_, rfl⟩
  rw [hF] at HFR hr
  rw [hM] at hr ⊢
  have HB := Lib.hid hB
  have HW := Lib.hid hW
  obtain ⟨A, n, c, m, B, k, d, s, am, rd, hd⟩ := p
  simp only at *
  clear hM hF hp hx hlt hB hW
  obtain ⟨p0, hp0⟩ : ∃ b, decide (g ≠ 0) = b := ⟨_, rfl⟩
  obtain ⟨p1, hp1⟩ : ∃ b, decide (1 ≤ mn) = b := ⟨_, rfl⟩
  obtain ⟨p2, hp2⟩ : ∃ b, decide (mn ≤ 200) = b := ⟨_, rfl⟩
  obtain ⟨p3, hp3⟩ : ∃ b, decide (mn ≤ mx) = b := ⟨_, rfl⟩
  obtain ⟨p4, hp4⟩ : ∃ b, decide (mx ≤ 200) = b := ⟨_, rfl⟩
  have ep0 : (g != 0) = p0 := by rw [← hp0, Bool.eq_iff_iff]; simp
  rw [hp0, hp1, hp2, hp3, hp4] at hr
  clear hp0
  cases F
  case' true =>
    cases p0
    case' true =>
      cases p1
      case' true =>
        cases p2
        case' true =>
          cases p3
  all_goals
    simp only [Bool.true_and, Bool.false_and, Bool.and_true, Bool.and_false] at hr
    subst hr
    go_enter Try.func28, Try.ntmps28
    go_wp2_with (first
      | (go_at_call 39
         rw [HW.out]
         (with_reducible refine (HFR.out).mono ?_)
         rintro e w1 ⟨rfl, hb1⟩
         obtain ⟨z0, z1, z2⟩ := HXC.out w1 hb1
         have HB1 := Lib.hid (HB.out.trans (hb1.mono HB.out.size))
         clear hb1))
    go_ret
    exact ⟨rfl, HB1.out⟩
/-- has stage k group i? -/
theorem rhas_any (p : Pl) (k i t : Nat) (w : World) (hp : PlIn w p) (hk : k < p.k) (hg : (p.s.getD k Stg.zero).g = (t : Int)) (ht : t < 4611686018427387904) (hi : i ≤ 40) : Calls Try.prog 29 #[plV p, .int .i64 (k : Int), .int .i64 (i : Int)] w fun e w' => e = .returned (.bool (t.testBit i)) ∧ Below w.heap.size w w' := by
  have hsm := hp.s.small
  simp only [plV]
  have hB := one_alloc w (.cells #[.slice p.A p.n p.c, .slice p.B p.k p.d, .int .i64 p.am, .int .i64 p.rd, .int .i64 p.hd] 25)
  have hsa := hp.s.below hB
  obtain ⟨b, off, x, hA, hx, -, -, z0, -, -⟩ := hsa.at_ k hk
  rw [hx] at hg
  rw [hg] at z0
  have q0 : 0 ≤ (k : Int) := by omega
  have q1 : (k : Int) < p.k := by omega
  have HI := Lib.hid (fun X => rin_any t i ht hi X)
  have HB := Lib.hid hB
  obtain ⟨A, n, c, m, B, kk, d, s, am, rd, hd⟩ := p
  simp only at *
  subst hA
  clear hp hsa hx hg hB
  go_enter Try.func29, Try.ntmps29
  go_wp2_with (go_at_call 38; (with_reducible refine (HI.out _).mono ?_); rintro e w1 ⟨rfl, rfl⟩)
  go_ret
  exact ⟨rfl, HB.out⟩
end Go.Proofs.Ytjjjfckkglcdfaa
