/- Joined texts: The walk over the document's Free of a set. The walk over the document's Against of a set. The walks over the document's stage of a plan, and Has. The walk over the document's Fit of a plan. A slice of numbers without its first ones. The walk over the document's Ints: are two lists of numbers the same? '==' between two stages. The walk over the document's Same of plans. The walks over the document's Next and Cycle of a plan. The walk over the document's Least of a plan. The walk over the document's All of plans. Lamps, plainly: rows, their texts, what a plan shows, what clashes. The signal machine, plainly: which machines may be, what a tick makes of one, what it shows, what several ticks make. The walk over the document's May of a machine. -/
import Derived.Test.YtgnhmdfajnnkhaaSaJA
import Derived.BigQuiet
import Derived.Laws.Concat
/- The walk over the document's Free of a set. -/
namespace Go.Proofs.Ytgnhmdfajnnkhaa
set_option maxRecDepth 100000
set_option linter.unusedVariables false
set_option linter.unusedSimpArgs false
open Go.RowKit

theorem free_bad {m : List Int} {s : Int} (h : mayM m = false ∨ s < 0 ∨ ((2 ^ m.length : Nat) : Int) ≤ s) : freeM m s = false := decide_eq_false fun hh => by
  obtain ⟨h1, ⟨h2, h3⟩, -⟩ := hh
  rw [pow_int] at h3
  rcases h with h | h | h
  · rw [h] at h1; cases h1
  · omega
  · omega
theorem free_no {m : List Int} {t i k : Nat} (hi : i < m.length) (hk : k < m.length) (h : t.testBit i = true ∧ t.testBit k = true ∧ meetM m i k = true) : freeM m (t : Int) = false := decide_eq_false fun hh => (none_nat.1 hh.2.2) i hi k hk h
theorem may_rows {m : List Int} {n : Nat} (hl : m.length = n) (h : mayM m = true) : n ≤ 8 ∧ ∀ k, k < n → 0 ≤ m.getD k 0 ∧ m.getD k 0 < ((2 ^ n : Nat) : Int) := by
  subst hl
  obtain ⟨⟨-, h8⟩, h1, -⟩ := may_all h
  refine ⟨h8, fun k hk => ?_⟩
  have := h1 k hk
  rw [pow_int] at this
  exact this
set_option maxHeartbeats 4000000 in
theorem rgfree_any (A : Option Addr) (n c : Nat) (m : List Int) (s : Int) (w : World) (hb : Its .i64 w A n c m) : Calls Try.prog 95 #[.slice A n c, .int .i64 s] w fun e w' => e = .returned (.bool (freeM m s)) ∧ Below w.heap.size w w' := by
  have hsm := hb.small
  have HL := Lib.hid hb.len
  have HMY := Lib.hid (fun (X : World) (hX : Its .i64 X A n c m) => rgmay_any A n c m X hX)
  have HMZ := Lib.hid (show Calls Try.prog 80 #[.slice A n c] w fun e w' => e = .returned (.bool (mayM m)) ∧ Below w.heap.size w w' from rgmay_any A n c m w hb)
  cases hm : mayM m with
  | false =>
    rw [hm] at HMZ
    have HR := Lib.hid (free_bad (s := s) (.inl hm))
    clear hb HMY hm
    go_enter Try.func95, Try.ntmps95
    go_wp2_with (go_at_call 80; (with_reducible refine (HMZ.out).mono ?_); rintro e w1 ⟨rfl, hb1⟩; have HB1 := Lib.hid hb1; clear hb1)
    go_ret
    exact ⟨by rw [HR.out]; rfl, HB1.out⟩
  | true =>
    rw [hm] at HMZ
    obtain ⟨hn8, hrw⟩ := may_rows hb.len hm
    have HRW := Lib.hid hrw
    have HPW := Lib.hid (fun X => rpow_any n (by omega) X)
    obtain ⟨PW, hPW⟩ : ∃ x : Int, ((2 ^ n : Nat) : Int) = x := ⟨_, rfl⟩
    have hp0 : 0 ≤ PW := by rw [← hPW]; exact Int.natCast_nonneg _
    have HPE := Lib.hid hPW
    rw [hPW] at HPW
    clear hPW hrw
    by_cases h1 : s < 0
    · have HR := Lib.hid (free_bad (m := m) (.inr (.inl h1)))
      clear hb HMY hm
      go_enter Try.func95, Try.ntmps95
      go_wp2_with (go_at_call 80; (with_reducible refine (HMZ.out).mono ?_); rintro e w1 ⟨rfl, hb1⟩; have HB1 := Lib.hid hb1; clear hb1)
      go_ret
      exact ⟨by rw [HR.out]; rfl, HB1.out⟩
    · by_cases h2 : PW ≤ s
      · have HR := Lib.hid (free_bad (m := m) (.inr (.inr (by rw [HL.out, HPE.out]; exact h2))))
        clear hb HMY hm
        go_enter Try.func95, Try.ntmps95
        go_wp2_with (first
          | (go_at_call 80; (with_reducible refine (HMZ.out).mono ?_); rintro e w1 ⟨rfl, hb1⟩; have HB1 := Lib.hid hb1; clear hb1)
          | (go_at_call 94; (with_reducible refine (HPW.out _).mono ?_); rintro e wp ⟨rfl, rfl⟩))
        go_ret
        exact ⟨by rw [HR.out]; rfl, HB1.out⟩
      · have hM := Lib.hid hm
        obtain ⟨t, rfl⟩ := Int.eq_ofNat_of_zero_le (show 0 ≤ s by omega)
        have hn1 : 1 ≤ n := by have := (may_all hm).1.1; rw [hb.len] at this; exact this
        obtain ⟨b, off, rfl, hc⟩ := hb.at_ (by omega)
        have ht8 : (t : Int) < 256 := by
          have e := pow_le hn8
          have e2 := HPE.out
          omega
        have htn : t < 2 ^ n := by have e2 := HPE.out; omega
        have HC := Lib.hid hc
        have HTN := Lib.hid htn
        clear hb HMY hm hc htn
        go_enter Try.func95, Try.ntmps95
        go_wp2_with (first
          | (go_at_call 80; (with_reducible refine (HMZ.out).mono ?_); rintro e w1 ⟨rfl, hb1⟩; have HB1 := Lib.hid hb1; clear hb1)
          | (go_at_call 94; (with_reducible refine (HPW.out _).mono ?_); rintro e wp ⟨rfl, rfl⟩))
        go_loopw [6] (fun v wr => ∃ i : Nat, i ≤ n ∧ v = .int .i64 i ∧ (∀ i', i' < i → ∀ k, k < n → ¬ (t.testBit i' = true ∧ t.testBit k = true ∧ meetM m i' k = true)) ∧ Below w.heap.size w wr) (fun v _ => n - (intOf v).toNat)
        case atStart => exact ⟨0, by omega, rfl, fun k hk => by omega, HB1.out⟩
        case round =>
          obtain ⟨i, hi, rfl, hout, hbw2⟩ := hrel
          have HO := Lib.hid hout
          have HB2 := Lib.hid hbw2
          clear hout hbw2
          by_cases hil : i < n
          · have q0 : 0 ≤ (i : Int) := by omega
            have q1 : (i : Int) < n := by omega
            go_wp2
            go_loopw [7] (fun v wr => ∃ k : Nat, k ≤ n ∧ v = .int .i64 k ∧ (∀ k', k' < k → ¬ (t.testBit i = true ∧ t.testBit k' = true ∧ meetM m i k' = true)) ∧ Below w.heap.size w wr) (fun v _ => n - (intOf v).toNat)
            case atStart => exact ⟨0, by omega, rfl, fun k hk => by omega, HB2.out⟩
            case round =>
              obtain ⟨k, hk, rfl, hin, hbw3⟩ := hrel
              have HI := Lib.hid hin
              have HB3 := Lib.hid hbw3
              clear hin hbw3
              by_cases hkl : k < n
              · have q2 : 0 ≤ (k : Int) := by omega
                have q3 : (k : Int) < n := by omega
                obtain ⟨u, hu, hu8⟩ := row_nat HRW.out hn8 hil
                have x1 : wr.cell? ⟨b, off + i, none⟩ = some (.int .i64 (u : Int)) := by rw [← hu]; exact (HB3.out.cell (p := ⟨b, off + i, none⟩) (block_lt_of_cell (HC.out i hil))).trans (HC.out i hil)
                have HI1 := Lib.hid (fun X => rin_any t i (by omega) (by omega) X)
                have HI2 := Lib.hid (fun X => rin_any t k (by omega) (by omega) X)
                have HI3 := Lib.hid (fun X => rin_any u k (by omega) (by omega) X)
                have hme : meetM m i k = u.testBit k := by rw [meetM, hu, bit_nat]
                have HNX := Lib.hid (fun (hf : ¬ (t.testBit i = true ∧ t.testBit k = true ∧ u.testBit k = true)) => (show ∀ k', k' < k + 1 → ¬ (t.testBit i = true ∧ t.testBit k' = true ∧ meetM m i k' = true) from fun k' hk' => by
                  by_cases e : k' = k
                  · subst e; rw [hme]; exact hf
                  · exact HI.out k' (by omega)))
                have HNO := Lib.hid (fun (hf : t.testBit i = true ∧ t.testBit k = true ∧ u.testBit k = true) => free_no (m := m) (t := t) (by rw [HL.out]; exact hil) (by rw [HL.out]; exact hkl) (by rw [hme]; exact hf))
                obtain ⟨B1, hB1⟩ : ∃ x, t.testBit i = x := ⟨_, rfl⟩
                obtain ⟨B2, hB2⟩ : ∃ x, t.testBit k = x := ⟨_, rfl⟩
                obtain ⟨B3, hB3⟩ : ∃ x, u.testBit k = x := ⟨_, rfl⟩
                simp only [hB1] at HI1
                simp only [hB2] at HI2
                simp only [hB3] at HI3
                have HBB := Lib.hid (And.intro hB1 (And.intro hB2 hB3))
                clear hB1 hB2 hB3 hu hme
                cases B1
                all_goals cases B2
                all_goals cases B3
                all_goals first
                  | (have HF := Lib.hid (HNX.out (fun h => by
                      have hh := HBB.out
                      rw [hh.1, hh.2.1, hh.2.2] at h
                      simp at h))
                     go_wp2_with (first
                       | (go_at_call 82; (with_reducible refine (HI1.out _).mono ?_); rintro e w1 ⟨rfl, rfl⟩)
                       | (go_at_call 82; (with_reducible refine (HI2.out _).mono ?_); rintro e w1 ⟨rfl, rfl⟩)
                       | (go_at_call 82; (with_reducible refine (HI3.out _).mono ?_); rintro e w1 ⟨rfl, rfl⟩))
                     go_roundw
                     case rel => exact ⟨k + 1, by omega, by go_num, HF.out, HB3.out⟩
                     case measure => simp [intOf]; omega)
                  | (have HF := Lib.hid (HNO.out HBB.out)
                     go_wp2_with (first
                       | (go_at_call 82; (with_reducible refine (HI1.out _).mono ?_); rintro e w1 ⟨rfl, rfl⟩)
                       | (go_at_call 82; (with_reducible refine (HI2.out _).mono ?_); rintro e w1 ⟨rfl, rfl⟩)
                       | (go_at_call 82; (with_reducible refine (HI3.out _).mono ?_); rintro e w1 ⟨rfl, rfl⟩))
                     go_ret
                     exact ⟨by rw [HF.out]; rfl, HB3.out⟩)
              · obtain rfl : k = n := by omega
                have HF := Lib.hid (show ∀ i', i' < i + 1 → ∀ k', k' < k → ¬ (t.testBit i' = true ∧ t.testBit k' = true ∧ meetM m i' k' = true) from fun i' hi' k' hk' => by
                  by_cases e : i' = i
                  · subst e; exact HI.out k' hk'
                  · exact HO.out i' (by omega) k' hk')
                go_wp2
                go_roundw
                case rel => exact ⟨i + 1, by omega, by go_num, HF.out, HB3.out⟩
                case measure => simp [intOf]; omega
          · obtain rfl : i = n := by omega
            have HR := Lib.hid (show freeM m (t : Int) = true from (free_nat hM.out (by rw [HL.out]; exact HTN.out)).2 (by rw [HL.out]; exact HO.out))
            go_wp2
            go_ret
            exact ⟨by rw [HR.out]; rfl, HB2.out⟩
end Go.Proofs.Ytgnhmdfajnnkhaa


/- The walk over the document's Against of a set. -/
namespace Go.Proofs.Ytgnhmdfajnnkhaa
set_option maxRecDepth 100000
set_option linter.unusedVariables false
set_option linter.unusedSimpArgs false
open Go.RowKit

theorem against_bad {m : List Int} {s : Int} (h : mayM m = false ∨ s < 0 ∨ ((2 ^ m.length : Nat) : Int) ≤ s) : againstM m s = -1 := if_neg fun hh => by
  obtain ⟨h1, h2, h3⟩ := hh
  rw [pow_int] at h3
  rcases h with h | h | h
  · rw [h] at h1; cases h1
  · omega
  · omega
end Go.Proofs.Ytgnhmdfajnnkhaa


/- The walks over the document's stage of a plan, and Has. -/
namespace Go.Proofs.Ytgnhmdfajnnkhaa
set_option maxRecDepth 100000
set_option linter.unusedVariables false
set_option linter.unusedSimpArgs false
open Go.RowKit

set_option maxHeartbeats 4000000 in
theorem rstage_any (p : Pl) (x : Stg) (w : World) (hp : PlIn w p) : Calls Try.prog 81 #[plV p, .agg #[.int .i64 x.g, .int .i64 x.mn, .int .i64 x.mx]] w fun e w' => e = .returned (.bool (stageB p.m x)) ∧ Below w.heap.size w w' := by
  obtain ⟨g, mn, mx⟩ := x
  simp only [plV]
  have hr : stageB p.m ⟨g, mn, mx⟩ = (freeM p.m g && (decide (g ≠ 0) && (decide (1 ≤ mn) && (decide (mn ≤ 200) && (decide (mn ≤ mx) && decide (mx ≤ 200)))))) := rfl
  obtain ⟨W, hW⟩ : ∃ W, (w.alloc (.cells #[.slice p.A p.n p.c, .slice p.B p.k p.d, .int .i64 p.am, .int .i64 p.rd, .int .i64 p.hd] 47)).alloc (.cells #[.int .i64 g, .int .i64 mn, .int .i64 mx] 71) = W := ⟨_, rfl⟩
  have hB : Below w.heap.size w W := by rw [← hW]; exact (one_alloc w _).alloc (by simp) _
  have HFR := Lib.hid (rgfree_any p.A p.n p.c p.m g W (hp.below hB).m)
  have hx : W.heap[w.heap.size + 1]? = some (.cells #[.int .i64 g, .int .i64 mn, .int .i64 mx] 71 (0, 0)) := by rw [← hW]; exact heap_alloc2_new w _ _
  have hlt : w.heap.size + 1 < W.heap.size := (Array.getElem?_eq_some_iff.1 hx).1
  have HXC := Lib.hid (show ∀ X, Below W.heap.size W X → X.cell? ⟨w.heap.size + 1, 0, none⟩ = some (.int .i64 g) ∧ X.cell? ⟨w.heap.size + 1, 1, none⟩ = some (.int .i64 mn) ∧ X.cell? ⟨w.heap.size + 1, 2, none⟩ = some (.int .i64 mx) from fun X hX => by
    have h := (hX.block _ hlt).trans hx
    exact ⟨(cell_of_row _ _ _ _ _ _ h).trans rfl, (cell_of_row _ _ _ _ _ _ h).trans rfl, (cell_of_row _ _ _ _ _ _ h).trans rfl⟩)
  obtain ⟨F, hF⟩ : ∃ F, freeM p.m g = F := ⟨_, rfl⟩
  obtain ⟨M, hM⟩ : ∃ M, stageB p.m ⟨g, mn, mx⟩ = M := ⟨_, rfl⟩
  rw [hF] at HFR hr
  rw [hM] at hr ⊢
  have HB := Lib.hid hB
  have HW := Lib.hid hW
  obtain ⟨A, n, c, m, B, k, d, s, am, rd, hd⟩ := p
  simp only at *
  clear hM hF hp hx hlt hB hW
  obtain ⟨p0, hp0⟩ : ∃ b, decide (g ≠ 0) = b := ⟨_, rfl⟩
  obtain ⟨p1, hp1⟩ : ∃ b, decide (1 ≤ mn) = b := ⟨_, rfl⟩
  obtain ⟨p2, hp2⟩ : ∃ b, decide (mn ≤ 200) = b := ⟨_, rfl⟩
  obtain ⟨p3, hp3⟩ : ∃ b, decide (mn ≤ mx) = b := ⟨_, rfl⟩
  obtain ⟨p4, hp4⟩ : ∃ b, decide (mx ≤ 200) = b := ⟨_, rfl⟩
  have ep0 : (g != 0) = p0 := by rw [← hp0, Bool.eq_iff_iff]; simp
  rw [hp0, hp1, hp2, hp3, hp4] at hr
  clear hp0
  cases F
  case' true =>
    cases p0
    case' true =>
      cases p1
      case' true =>
        cases p2
        case' true =>
          cases p3
  all_goals
    simp only [Bool.true_and, Bool.false_and, Bool.and_true, Bool.and_false] at hr
    subst hr
    go_enter Try.func81, Try.ntmps81
    go_wp2_with (first
      | (go_at_call 95
         rw [HW.out]
         (with_reducible refine (HFR.out).mono ?_)
         rintro e w1 ⟨rfl, hb1⟩
         obtain ⟨z0, z1, z2⟩ := HXC.out w1 hb1
         have HB1 := Lib.hid (HB.out.trans (hb1.mono HB.out.size))
         clear hb1))
    go_ret
    exact ⟨rfl, HB1.out⟩
/-- has stage k group i? -/
theorem rhas_any (p : Pl) (k i t : Nat) (w : World) (hp : PlIn w p) (hk : k < p.k) (hg : (p.s.getD k Stg.zero).g = (t : Int)) (ht : t < 4611686018427387904) (hi : i ≤ 40) : Calls Try.prog 71 #[plV p, .int .i64 (k : Int), .int .i64 (i : Int)] w fun e w' => e = .returned (.bool (t.testBit i)) ∧ Below w.heap.size w w' := by
  have hsm := hp.s.small
  simp only [plV]
  have hB := one_alloc w (.cells #[.slice p.A p.n p.c, .slice p.B p.k p.d, .int .i64 p.am, .int .i64 p.rd, .int .i64 p.hd] 47)
  have hsa := hp.s.below hB
  obtain ⟨b, off, x, hA, hx, -, -, z0, -, -⟩ := hsa.at_ k hk
  rw [hx] at hg
  rw [hg] at z0
  have q0 : 0 ≤ (k : Int) := by omega
  have q1 : (k : Int) < p.k := by omega
  have HI := Lib.hid (fun X => rin_any t i ht hi X)
  have HB := Lib.hid hB
  obtain ⟨A, n, c, m, B, kk, d, s, am, rd, hd⟩ := p
  simp only at *
  subst hA
  clear hp hsa hx hg hB
  go_enter Try.func71, Try.ntmps71
  go_wp2_with (go_at_call 82; (with_reducible refine (HI.out _).mono ?_); rintro e w1 ⟨rfl, rfl⟩)
  go_ret
  exact ⟨rfl, HB.out⟩
end Go.Proofs.Ytgnhmdfajnnkhaa


/- The walk over the document's Fit of a plan. -/
namespace Go.Proofs.Ytgnhmdfajnnkhaa
set_option maxRecDepth 100000
set_option linter.unusedVariables false
set_option linter.unusedSimpArgs false
open Go.RowKit

theorem not_fit {p : Pl} (h : ¬ Fits p) : fitP p = false := by
  rw [← Bool.not_eq_true, fit_iff]
  exact h
theorem fit_stage {p : Pl} {j : Nat} (hj : j < p.s.length) (h : stageB p.m (p.s.getD j Stg.zero) = false) : fitP p = false := not_fit fun hf => by
  have h1 : stageB p.m (p.s.getD j Stg.zero) = true := stage_iff.2 (hf.stage _ (by rw [List.getD_eq_getElem?_getD, List.getElem?_eq_getElem hj]; exact List.getElem_mem hj))
  rw [h] at h1
  cases h1
def someTo (s : List Stg) (i k : Nat) : Bool := someB (s.take k) i
theorem some_zero (s : List Stg) (i : Nat) : someTo s i 0 = false := rfl
theorem some_next {s : List Stg} {k : Nat} (i : Nat) (hk : k < s.length) : someTo s i (k + 1) = (someTo s i k || bitI (s.getD k Stg.zero).g i) := by
  rw [someTo, List.take_succ_eq_append_getElem hk, someB, List.any_append]
  simp [List.getD_eq_getElem?_getD, hk, someTo, someB]
theorem some_all (s : List Stg) (i : Nat) : someTo s i s.length = someB s i := by rw [someTo, List.take_length]
theorem fit_some {p : Pl} {i : Nat} (hi : i < p.m.length) (h : someB p.s i = false) : fitP p = false := not_fit fun hf => by
  have h1 := some_iff.2 (hf.some i hi)
  rw [h] at h1
  cases h1
theorem fit_rest {p : Pl} (h1 : mayM p.m = true) (h2 : 2 ≤ p.s.length) (h6 : p.s.length ≤ 6) (hs : ∀ j, j < p.s.length → stageB p.m (p.s.getD j Stg.zero) = true) (hg : ∀ i, i < p.m.length → someB p.s i = true) : fitP p = spanB p := by
  unfold fitP
  have ha : p.s.all (stageB p.m) = true := List.all_eq_true.2 fun x hx => by
    obtain ⟨j, hj, rfl⟩ := List.getElem_of_mem hx
    have := hs j hj
    rwa [List.getD_eq_getElem?_getD, List.getElem?_eq_getElem hj] at this
  have hb : (List.range p.m.length).all (someB p.s) = true := List.all_eq_true.2 fun i hi => hg i (List.mem_range.1 hi)
  rw [h1, ha, hb, decide_eq_true ⟨h2, h6⟩]
  rfl
set_option maxHeartbeats 8000000 in
theorem rfit_any (p : Pl) (w : World) (hp : PlIn w p) : Calls Try.prog 69 #[plV p] w fun e w' => e = .returned (.bool (fitP p)) ∧ Below w.heap.size w w' := by
  have hsm := hp.m.small
  have hsk := hp.s.small
  have hML := hp.m.len
  have hSL := hp.s.len
  simp only [plV]
  obtain ⟨W0, hW0⟩ : ∃ W0, w.alloc (.cells #[.slice p.A p.n p.c, .slice p.B p.k p.d, .int .i64 p.am, .int .i64 p.rd, .int .i64 p.hd] 47) = W0 := ⟨_, rfl⟩
  have hB0 : Below w.heap.size w W0 := by rw [← hW0]; exact one_alloc w _
  have hp0 : PlIn W0 p := hp.below hB0
  have hbx : BoxP W0 w.heap.size p := by rw [← hW0]; exact BoxP.new w p
  have HW := Lib.hid hW0
  have HB0 := Lib.hid hB0
  have HMY := Lib.hid (rgmay_any p.A p.n p.c p.m W0 hp0.m)
  have HBC := Lib.hid (show ∀ X, Below W0.heap.size W0 X → X.cell? ⟨w.heap.size, 0, none⟩ = some (.slice p.A p.n p.c) ∧ X.cell? ⟨w.heap.size, 1, none⟩ = some (.slice p.B p.k p.d) ∧ X.cell? ⟨w.heap.size, 2, none⟩ = some (.int .i64 p.am) ∧ X.cell? ⟨w.heap.size, 3, none⟩ = some (.int .i64 p.rd) ∧ X.cell? ⟨w.heap.size, 4, none⟩ = some (.int .i64 p.hd) from fun X hX => (hbx.below hX).cells)
  have HPI := Lib.hid (show ∀ X, Below W0.heap.size W0 X → PlIn X p from fun X hX => hp0.below hX)
  clear hW0 hB0 hbx hp
  cases hm : mayM p.m with
  | false =>
    rw [hm] at HMY
    have HR := Lib.hid (not_fit (p := p) fun hf => by rw [hf.may] at hm; cases hm)
    clear hm hp0
    go_enter Try.func69, Try.ntmps69
    go_wp2_with (go_at_call 80; rw [HW.out]; (with_reducible refine (HMY.out).mono ?_); rintro e w1 ⟨rfl, hb1⟩; have HB1 := Lib.hid (HB0.out.trans (hb1.mono HB0.out.size)); clear hb1)
    go_ret
    exact ⟨by rw [HR.out]; rfl, HB1.out⟩
  | true =>
    rw [hm] at HMY
    by_cases hlen : p.k < 2 ∨ 6 < p.k
    · have HR := Lib.hid (not_fit (p := p) fun hf => by have := hf.two; have := hf.six; omega)
      rcases hlen with hlen | hlen
      all_goals
        clear hm hp0
        go_enter Try.func69, Try.ntmps69
        go_wp2_with (go_at_call 80; rw [HW.out]; (with_reducible refine (HMY.out).mono ?_); rintro e w1 ⟨rfl, hb1⟩; obtain ⟨a0, a1, a2, a3, a4⟩ := HBC.out w1 hb1; have HB1 := Lib.hid (HB0.out.trans (hb1.mono HB0.out.size)); clear hb1)
        go_ret
        exact ⟨by rw [HR.out]; rfl, HB1.out⟩
    · obtain ⟨b, off, -, hA, -⟩ := hp0.s.at_ 0 (by omega)
      obtain ⟨A, n, c, m, B, k, d, s, am, rd, hd⟩ := p
      simp only at *
      subst hA
      have hk2 : ¬ ((k : Int) < 2) := by omega
      have hk6 : ¬ (6 < (k : Int)) := by omega
      obtain ⟨hn8, hrow⟩ := may_rows hML hm
      have HSC := Lib.hid (show ∀ j, j < k → ∀ X, Below W0.heap.size W0 X → X.cell? ⟨b, off + j * 3, none⟩ = some (.int .i64 (s.getD j Stg.zero).g) ∧ X.cell? ⟨b, off + j * 3 + 1, none⟩ = some (.int .i64 (s.getD j Stg.zero).mn) ∧ X.cell? ⟨b, off + j * 3 + 2, none⟩ = some (.int .i64 (s.getD j Stg.zero).mx) from fun j hj X hX => by
        obtain ⟨b', off', x, hA', hx, -, -, z0, z1, z2⟩ := (hp0.s.below hX).at_ j hj
        cases hA'
        rw [hx]
        exact ⟨z0, z1, z2⟩)
      have HSL := Lib.hid hSL
      have HML := Lib.hid hML
      have HM := Lib.hid hm
      have HRW := Lib.hid hrow
      have hl2 : 2 ≤ k ∧ k ≤ 6 := by omega
      clear hm hp0 hML hSL hlen hrow
      go_enter Try.func69, Try.ntmps69
      go_wp2_with (go_at_call 80; rw [HW.out]; (with_reducible refine (HMY.out).mono ?_); rintro e w1 ⟨rfl, hb1⟩; obtain ⟨a0, a1, a2, a3, a4⟩ := HBC.out w1 hb1; have HB1 := Lib.hid hb1; clear hb1)
      clear a0 a1 a2 a3 a4
      go_loopw [4] (fun v wr => ∃ j : Nat, j ≤ k ∧ v = .int .i64 j ∧ (∀ i, i < j → stageB m (s.getD i Stg.zero) = true) ∧ Below W0.heap.size W0 wr) (fun v _ => k - (intOf v).toNat)
      case atStart => exact ⟨0, by omega, rfl, fun i hi => by omega, HB1.out⟩
      case round =>
        obtain ⟨j, hj, rfl, hall, hbw⟩ := hrel
        have HBW := Lib.hid hbw
        have HAL := Lib.hid hall
        obtain ⟨a0, a1, a2, a3, a4⟩ := HBC.out wr hbw
        clear hall hbw
        by_cases hlt : j < k
        · have hlt2 : (j : Int) < k := by omega
          have q0 : 0 ≤ (j : Int) := by omega
          have HF0 := HSC.out j hlt
          obtain ⟨x, hx⟩ : ∃ x, s.getD j Stg.zero = x := ⟨_, rfl⟩
          simp only [hx] at HF0
          have HF := Lib.hid (show ∀ X, Below wr.heap.size wr X → X.cell? ⟨w.heap.size, 0, none⟩ = some (.slice A n c) ∧ X.cell? ⟨w.heap.size, 1, none⟩ = some (.slice (some ⟨b, off, none⟩) k d) ∧ X.cell? ⟨w.heap.size, 2, none⟩ = some (.int .i64 am) ∧ X.cell? ⟨w.heap.size, 3, none⟩ = some (.int .i64 rd) ∧ X.cell? ⟨w.heap.size, 4, none⟩ = some (.int .i64 hd) ∧
              X.cell? ⟨b, off + j * 3, none⟩ = some (.int .i64 x.g) ∧ X.cell? ⟨b, off + j * 3 + 1, none⟩ = some (.int .i64 x.mn) ∧ X.cell? ⟨b, off + j * 3 + 2, none⟩ = some (.int .i64 x.mx) from fun X hX => by
            have hX0 := HBW.out.trans (hX.mono HBW.out.size)
            obtain ⟨a0, a1, a2, a3, a4⟩ := HBC.out X hX0
            exact ⟨a0, a1, a2, a3, a4, HF0 X hX0⟩)
          have HSB := Lib.hid (show ∀ X, Below wr.heap.size wr X → Calls Try.prog 81 #[.agg #[.slice A n c, .slice (some ⟨b, off, none⟩) k d, .int .i64 am, .int .i64 rd, .int .i64 hd], .agg #[.int .i64 x.g, .int .i64 x.mn, .int .i64 x.mx]] X fun e w' => e = .returned (.bool (stageB m x)) ∧ Below X.heap.size X w' from fun X hX => rstage_any _ x X (HPI.out X (HBW.out.trans (hX.mono HBW.out.size))))
          clear HF0
          cases hs : stageB m x
          · rw [hs] at HSB
            have HR := Lib.hid (fit_stage (p := ⟨A, n, c, m, some ⟨b, off, none⟩, k, d, s, am, rd, hd⟩) (j := j) (by simp only; rw [HSL.out]; exact hlt) (by simp only; rw [hx]; exact hs))
            clear hx hs
            go_wp2
            clear a0 a1 a2 a3 a4
            have hSd : Below wr.heap.size wr wr.drew := (Below.refl _ wr).drew
            refine wp_region_held_drew (S := fun X => Below wr.heap.size wr X) (by kernel_rfl) hSd (fun hHeld => ?_)
            refine tkS 0 (.agg #[.slice A n c, .slice (some ⟨b, off, none⟩) k d, .int .i64 am, .int .i64 rd, .int .i64 hd]) hHeld (fun w hq => ?_) ?_
            · obtain ⟨a0, a1, a2, a3, a4, z0, z1, z2⟩ := HF.out w hq
              go_simp
            simp only [PT]
            refine tk 1 (.pointer (some ⟨w.heap.size, 1, none⟩)) hHeld (fun w => ?_) ?_
            · go_simp
            simp only [PT]
            refine tkS 2 (.slice (some ⟨b, off, none⟩) k d) hHeld (fun w hq => ?_) ?_
            · obtain ⟨a0, a1, a2, a3, a4, z0, z1, z2⟩ := HF.out w hq
              go_simp
            simp only [PT]
            refine tk 3 (.int .i64 j) hHeld (fun w => ?_) ?_
            · go_simp
            simp only [PT]
            refine tk 4 (.pointer (some ⟨b, off + j * 3, none⟩)) hHeld (fun w => ?_) ?_
            · go_simp
            simp only [PT]
            refine tkS 5 (.agg #[.int .i64 x.g, .int .i64 x.mn, .int .i64 x.mx]) hHeld (fun w hq => ?_) ?_
            · obtain ⟨a0, a1, a2, a3, a4, z0, z1, z2⟩ := HF.out w hq
              go_simp
            simp only [PT]
            refine one_step 6 (by kernel_rfl) rfl (fun Kq hKq => ?_)
            go_simp
            go_at_call 81
            (with_reducible refine (HSB.out _ hSd).mono ?_)
            rintro e y1 ⟨rfl, hbx⟩
            have hS1 : Below wr.heap.size wr y1 := hSd.trans (hbx.mono hSd.size)
            clear hbx
            refine hKq.out _ _ hS1 (fun hHeld0 => ?_)
            clear hKq Kq hHeld
            have hHeld := hHeld0
            clear hHeld0
            try simp only [PT]
            refine tk 7 (.bool false) hHeld (fun w => ?_) ?_
            · go_simp
            simp only [PT]
            refine wpAnyH_done (by kernel_rfl) ?_ _
            clear hHeld
            go_wp2
            go_ret
            exact ⟨by rw [HR.out]; rfl, HB0.out.trans ((HBW.out.trans (hS1.mono HBW.out.size)).mono HB0.out.size)⟩
          · rw [hs] at HSB
            have HN := Lib.hid (show ∀ i, i < j + 1 → stageB m (s.getD i Stg.zero) = true from fun i hi => by
              by_cases e : i = j
              · subst e; rw [hx]; exact hs
              · exact HAL.out i (by omega))
            clear hx hs
            go_wp2
            clear a0 a1 a2 a3 a4
            have hSd : Below wr.heap.size wr wr.drew := (Below.refl _ wr).drew
            refine wp_region_held_drew (S := fun X => Below wr.heap.size wr X) (by kernel_rfl) hSd (fun hHeld => ?_)
            refine tkS 0 (.agg #[.slice A n c, .slice (some ⟨b, off, none⟩) k d, .int .i64 am, .int .i64 rd, .int .i64 hd]) hHeld (fun w hq => ?_) ?_
            · obtain ⟨a0, a1, a2, a3, a4, z0, z1, z2⟩ := HF.out w hq
              go_simp
            simp only [PT]
            refine tk 1 (.pointer (some ⟨w.heap.size, 1, none⟩)) hHeld (fun w => ?_) ?_
            · go_simp
            simp only [PT]
            refine tkS 2 (.slice (some ⟨b, off, none⟩) k d) hHeld (fun w hq => ?_) ?_
            · obtain ⟨a0, a1, a2, a3, a4, z0, z1, z2⟩ := HF.out w hq
              go_simp
            simp only [PT]
            refine tk 3 (.int .i64 j) hHeld (fun w => ?_) ?_
            · go_simp
            simp only [PT]
            refine tk 4 (.pointer (some ⟨b, off + j * 3, none⟩)) hHeld (fun w => ?_) ?_
            · go_simp
            simp only [PT]
            refine tkS 5 (.agg #[.int .i64 x.g, .int .i64 x.mn, .int .i64 x.mx]) hHeld (fun w hq => ?_) ?_
            · obtain ⟨a0, a1, a2, a3, a4, z0, z1, z2⟩ := HF.out w hq
              go_simp
            simp only [PT]
            refine one_step 6 (by kernel_rfl) rfl (fun Kq hKq => ?_)
            go_simp
            go_at_call 81
            (with_reducible refine (HSB.out _ hSd).mono ?_)
            rintro e y1 ⟨rfl, hbx⟩
            have hS1 : Below wr.heap.size wr y1 := hSd.trans (hbx.mono hSd.size)
            clear hbx
            refine hKq.out _ _ hS1 (fun hHeld0 => ?_)
            clear hKq Kq hHeld
            have hHeld := hHeld0
            clear hHeld0
            try simp only [PT]
            refine tk 7 (.bool true) hHeld (fun w => ?_) ?_
            · go_simp
            simp only [PT]
            refine wpAnyH_done (by kernel_rfl) ?_ _
            clear hHeld
            go_wp2
            go_roundw
            case rel => exact ⟨j + 1, by omega, by go_num, HN.out, HBW.out.trans (hS1.mono HBW.out.size)⟩
            case measure => simp [intOf]; omega
        · obtain rfl : j = k := by omega
          have hge : ¬ ((j : Int) < j) := by omega
          go_wp2
          clear a0 a1 a2 a3 a4
          go_loopw [6, 7, 8] (fun v y z wr => ∃ i : Nat, i ≤ n ∧ v = .int .i64 i ∧ (∀ l, l < i → someB s l = true) ∧ Below W0.heap.size W0 wr) (fun v _ _ _ => n - (intOf v).toNat)
          case atStart => exact ⟨0, by omega, rfl, fun l hl => by omega, HBW.out⟩
          case round =>
            rename_i wro
            obtain ⟨i, hi, rfl, hso, hbi⟩ := hrel
            have HBI := Lib.hid hbi
            have HSO := Lib.hid hso
            obtain ⟨a0, a1, a2, a3, a4⟩ := HBC.out wr hbi
            clear hso hbi
            by_cases hin : i < n
            · have hin2 : (i : Int) < n := by omega
              go_wp2
              clear a0 a1 a2 a3 a4
              go_loopw [7, 8] (fun y z wr => ∃ l : Nat, l ≤ j ∧ z = .int .i64 l ∧ y = .bool (someTo s i l) ∧ Below W0.heap.size W0 wr) (fun _ z _ => j - (intOf z).toNat)
              case atStart => exact ⟨0, by omega, rfl, rfl, HBI.out⟩
              case round =>
                rename_i wri
                obtain ⟨l, hl, rfl, rfl, hbl⟩ := hrel
                have HBL := Lib.hid hbl
                obtain ⟨a0, a1, a2, a3, a4⟩ := HBC.out wr hbl
                obtain ⟨S, hS⟩ : ∃ S, someTo s i l = S := ⟨_, rfl⟩
                rw [hS]
                clear hbl
                by_cases hll : l < j
                · have hll2 : (l : Int) < j := by omega
                  have hfr := (stage_iff.1 (HAL.out l hll)).1
                  obtain ⟨-, ⟨g0, g1⟩, -⟩ := free_iff.1 hfr
                  obtain ⟨t, ht⟩ := Int.eq_ofNat_of_zero_le g0
                  have h8 := pow_le hn8
                  have ht2 : t < 256 := by rw [ht, HML.out, pow_int] at g1; omega
                  have HHS := Lib.hid (fun X hX => rhas_any ⟨A, n, c, m, some ⟨b, off, none⟩, j, d, s, am, rd, hd⟩ l i t X (HPI.out X hX) hll ht (by omega) (by omega))
                  simp only [plV] at HHS
                  have hnx := some_next (s := s) i (by rw [HSL.out]; exact hll)
                  rw [hS, ht, bit_nat] at hnx
                  obtain ⟨T, hT⟩ : ∃ T, t.testBit i = T := ⟨_, rfl⟩
                  rw [hT] at HHS hnx
                  have HNX := Lib.hid hnx
                  clear hnx hfr g0 g1 ht hS hT
                  cases S
                  all_goals
                    go_wp2_with (go_at_call 71
                                 (with_reducible refine (HHS.out _ HBL.out).mono ?_)
                                 rintro e w3 ⟨rfl, hb3⟩
                                 have HB3 := Lib.hid (HBL.out.trans (hb3.mono HBL.out.size))
                                 clear hb3)
                    go_roundw
                    case rel => exact ⟨l + 1, by omega, by go_num, by rw [HNX.out]; rfl, HB3.out⟩
                    case measure => simp [intOf]; omega
                · obtain rfl : l = j := by omega
                  have hgl : ¬ ((l : Int) < l) := by omega
                  have hsa := some_all s i
                  rw [HSL.out, hS] at hsa
                  cases S
                  · have HR := Lib.hid (fit_some (p := ⟨A, n, c, m, some ⟨b, off, none⟩, l, d, s, am, rd, hd⟩) (i := i) (by simp only; rw [HML.out]; exact hin) hsa.symm)
                    clear hsa hS
                    go_wp2
                    go_ret
                    exact ⟨by rw [HR.out]; rfl, HB0.out.trans (HBL.out.mono HB0.out.size)⟩
                  · have HN := Lib.hid (show ∀ r, r < i + 1 → someB s r = true from fun r hr => by
                      by_cases e : r = i
                      · subst e; exact hsa.symm
                      · exact HSO.out r (by omega))
                    clear hsa hS
                    go_wp2
                    go_roundw
                    case rel => exact ⟨i + 1, by omega, by go_num, HN.out, HBL.out⟩
                    case measure => simp [intOf]; omega
            · obtain rfl : i = n := by omega
              have hgi : ¬ ((i : Int) < i) := by omega
              have hr := fit_rest (p := ⟨A, i, c, m, some ⟨b, off, none⟩, j, d, s, am, rd, hd⟩) HM.out (by simp only; rw [HSL.out]; omega) (by simp only; rw [HSL.out]; omega) (fun r hr => HAL.out r (by simp only at hr; rw [HSL.out] at hr; exact hr)) (fun r hr => HSO.out r (by simp only at hr; rw [HML.out] at hr; exact hr))
              obtain ⟨M, hM⟩ : ∃ M, fitP ⟨A, i, c, m, some ⟨b, off, none⟩, j, d, s, am, rd, hd⟩ = M := ⟨_, rfl⟩
              have HMM := Lib.hid hM
              rw [hM] at hr
              unfold spanB at hr
              simp only at hr
              clear hM
              obtain ⟨p0, hp0⟩ : ∃ b, decide (1 ≤ am) = b := ⟨_, rfl⟩
              obtain ⟨p1, hp1⟩ : ∃ b, decide (am ≤ 200) = b := ⟨_, rfl⟩
              obtain ⟨p2, hp2⟩ : ∃ b, decide (1 ≤ rd) = b := ⟨_, rfl⟩
              obtain ⟨p3, hp3⟩ : ∃ b, decide (rd ≤ 200) = b := ⟨_, rfl⟩
              obtain ⟨p4, hp4⟩ : ∃ b, decide (0 ≤ hd) = b := ⟨_, rfl⟩
              obtain ⟨p5, hp5⟩ : ∃ b, decide (hd ≤ 300) = b := ⟨_, rfl⟩
              rw [hp0, hp1, hp2, hp3, hp4, hp5] at hr
              cases p0
              case' true =>
                cases p1
                case' true =>
                  cases p2
                  case' true =>
                    cases p3
                    case' true =>
                      cases p4
              all_goals
                simp only [Bool.true_and, Bool.false_and, Bool.and_true, Bool.and_false] at hr
                subst hr
                go_wp2
                go_ret
                exact ⟨by rw [HMM.out]; rfl, HB0.out.trans (HBI.out.mono HB0.out.size)⟩
end Go.Proofs.Ytgnhmdfajnnkhaa


/- A slice of numbers without its first ones. -/
namespace Go.Proofs.Ytgnhmdfajnnkhaa
open Go.RowKit

end Go.Proofs.Ytgnhmdfajnnkhaa


/- The walk over the document's Ints: are two lists of numbers the same? -/
namespace Go.Proofs.Ytgnhmdfajnnkhaa
set_option maxRecDepth 100000
set_option linter.unusedVariables false
set_option linter.unusedSimpArgs false
open Go.RowKit

theorem ints_differ (a b : List Int) (k : Nat) (h : a.getD k 0 ≠ b.getD k 0) : (a == b) = false := by
  rw [beq_eq_false_iff_ne]
  rintro rfl
  exact h rfl
theorem ints_same (a b : List Int) (k : Nat) (ha : a.length = k) (hb : b.length = k) (h : ∀ j, j < k → a.getD j 0 = b.getD j 0) : (a == b) = true := by
  rw [beq_iff_eq]
  refine List.ext_getElem (by omega) fun j h1 h2 => ?_
  have := h j (by omega)
  simpa [List.getD_eq_getElem?_getD, h1, h2] using this
end Go.Proofs.Ytgnhmdfajnnkhaa


/- '==' between two stages. -/
namespace Go.Proofs.Ytgnhmdfajnnkhaa
set_option maxRecDepth 100000
set_option linter.unusedVariables false
set_option linter.unusedSimpArgs false
open Go.RowKit

theorem stg_part {P : Program} (t : TypeId) (k : IntKind) (cs : Array Value) (off : Nat) (v : Value) (h : P.underlying t = some (.int k)) (hv : cs[off]? = some v) (w : World) : (part t cs off).run P w = .ok v w := by
  simp [part, isAgg, run_underlying h, hv, go_sem]
theorem stg_fields {P : Program} {d : Nat} {xs ys : Array Value} {f : Field} {fs : List Field} {a b : Value} {r : Bool} {w : World} (hn : f.name ≠ "_") (ha : (part f.type xs f.offset).run P w = .ok a w) (hb : (part f.type ys f.offset).run P w = .ok b w) (he : (Op.equalIn d f.type a b).run P w = .ok r w) :
    (Op.eqFields d xs ys (f :: fs)).run P w = if r then (Op.eqFields d xs ys fs).run P w else .ok false w := by
  simp only [Op.eqFields, if_pos hn, Sem.run_bind, ha, hb, he, Result.andThen_ok]
  cases r <;> simp
theorem stg_if (r s : Bool) (w : World) : (if r then (Result.ok s w : Result Bool) else .ok false w) = .ok (r && s) w := by cases r <;> rfl
end Go.Proofs.Ytgnhmdfajnnkhaa


/- The walk over the document's Same of plans. -/
namespace Go.Proofs.Ytgnhmdfajnnkhaa
set_option maxRecDepth 100000
set_option linter.unusedVariables false
set_option linter.unusedSimpArgs false
open Go.RowKit

end Go.Proofs.Ytgnhmdfajnnkhaa


/- The walks over the document's Next and Cycle of a plan. -/
namespace Go.Proofs.Ytgnhmdfajnnkhaa
set_option maxRecDepth 100000
set_option linter.unusedVariables false
set_option linter.unusedSimpArgs false
open Go.RowKit

set_option maxHeartbeats 8000000 in
theorem rnext_any (p : Pl) (x : Int) (w : World) (hp : PlIn w p) : Calls Try.prog 70 #[plV p, .int .i64 x] w fun e w' => e = .returned (.int .i64 (nextP p x)) ∧ Below w.heap.size w w' := by
  have hsk := hp.s.small
  have hsm := hp.m.small
  have hSL := hp.s.len
  have hML := hp.m.len
  obtain ⟨W0, hW0⟩ : ∃ W0, w.alloc (.cells #[.slice p.A p.n p.c, .slice p.B p.k p.d, .int .i64 p.am, .int .i64 p.rd, .int .i64 p.hd] 47) = W0 := ⟨_, rfl⟩
  have hB0 : Below w.heap.size w W0 := by rw [← hW0]; exact one_alloc w _
  have hp0 : PlIn W0 p := hp.below hB0
  have hbp : BoxP W0 w.heap.size p := by rw [← hW0]; exact BoxP.new w p
  have HFT := Lib.hid (rfit_any p W0 hp0)
  simp only [plV] at HFT ⊢
  have HW := Lib.hid hW0
  have HB0 := Lib.hid hB0
  have HAC := Lib.hid (show ∀ X, Below W0.heap.size W0 X → X.cell? ⟨w.heap.size, 0, none⟩ = some (.slice p.A p.n p.c) ∧ X.cell? ⟨w.heap.size, 1, none⟩ = some (.slice p.B p.k p.d) ∧ X.cell? ⟨w.heap.size, 2, none⟩ = some (.int .i64 p.am) ∧ X.cell? ⟨w.heap.size, 3, none⟩ = some (.int .i64 p.rd) ∧ X.cell? ⟨w.heap.size, 4, none⟩ = some (.int .i64 p.hd) from fun X hX => (hbp.below hX).cells)
  have HSL := Lib.hid hSL
  have HML := Lib.hid hML
  have HP := Lib.hid hp0
  obtain ⟨a0, a1, a2, a3, a4⟩ := HAC.out W0 (Below.refl _ _)
  clear hW0 hB0 hbp hp hp0
  cases hf : fitP p with
  | false =>
    rw [hf] at HFT
    have HR := Lib.hid (show nextP p x = -1 from if_neg fun h => by rw [hf] at h; cases h.1)
    clear hf
    clear a0 a1 a2 a3 a4 hSL hML
    obtain ⟨A, n, c, m, B, k, d, s, am, rd, hd⟩ := p
    simp only at *
    go_enter Try.func70, Try.ntmps70
    go_wp2_with (go_at_call 69; rw [HW.out]; (with_reducible refine (HFT.out).mono ?_); rintro e w1 ⟨rfl, hb1⟩; obtain ⟨c0, c1, c2, c3, c4⟩ := HAC.out _ hb1; have HB1 := Lib.hid hb1; clear hb1)
    go_ret
    exact ⟨by rw [HR.out]; rfl, HB0.out.trans (HB1.out.mono HB0.out.size)⟩
  | true =>
    rw [hf] at HFT
    by_cases hac : x < 0
    · have HR := Lib.hid (show nextP p x = -1 from if_neg fun h => by omega)
      clear hf
      clear a0 a1 a2 a3 a4 hSL hML
      obtain ⟨A, n, c, m, B, k, d, s, am, rd, hd⟩ := p
      simp only at *
      go_enter Try.func70, Try.ntmps70
      go_wp2_with (go_at_call 69; rw [HW.out]; (with_reducible refine (HFT.out).mono ?_); rintro e w1 ⟨rfl, hb1⟩; obtain ⟨c0, c1, c2, c3, c4⟩ := HAC.out _ hb1; have HB1 := Lib.hid hb1; clear hb1)
      go_ret
      exact ⟨by rw [HR.out]; rfl, HB0.out.trans (HB1.out.mono HB0.out.size)⟩
    by_cases hbc : (p.k : Int) ≤ x
    · have HR := Lib.hid (show nextP p x = -1 from if_neg fun h => by have := HSL.out; omega)
      clear hf
      clear a0 a1 a2 a3 a4 hSL hML
      obtain ⟨A, n, c, m, B, k, d, s, am, rd, hd⟩ := p
      simp only at *
      go_enter Try.func70, Try.ntmps70
      go_wp2_with (go_at_call 69; rw [HW.out]; (with_reducible refine (HFT.out).mono ?_); rintro e w1 ⟨rfl, hb1⟩; obtain ⟨c0, c1, c2, c3, c4⟩ := HAC.out _ hb1; have HB1 := Lib.hid hb1; clear hb1)
      go_ret
      exact ⟨by rw [HR.out]; rfl, HB0.out.trans (HB1.out.mono HB0.out.size)⟩
    have hfx : fitP p = true ∧ 0 ≤ x ∧ x < p.s.length := ⟨hf, by omega, by omega⟩
    have hf2 := (fit_iff.1 hf).two
    by_cases hl : x = (p.k : Int) - 1
    · have HR := Lib.hid (show nextP p x = 0 by rw [nextP, if_pos hfx, if_pos (by omega)])
      clear hfx hf hf2
      have hl2 : (x == (p.k : Int) - 1) = true := by rw [beq_iff_eq]; exact hl
      clear a0 a1 a2 a3 a4 hSL hML
      obtain ⟨A, n, c, m, B, k, d, s, am, rd, hd⟩ := p
      simp only at *
      go_enter Try.func70, Try.ntmps70
      go_wp2_with (go_at_call 69; rw [HW.out]; (with_reducible refine (HFT.out).mono ?_); rintro e w1 ⟨rfl, hb1⟩; obtain ⟨c0, c1, c2, c3, c4⟩ := HAC.out _ hb1; have HB1 := Lib.hid hb1; clear hb1)
      go_ret
      exact ⟨by rw [HR.out]; rfl, HB0.out.trans (HB1.out.mono HB0.out.size)⟩
    · have HR := Lib.hid (show nextP p x = x + 1 by rw [nextP, if_pos hfx, if_neg (by omega)])
      have hl2 : (x == (p.k : Int) - 1) = false := by rw [beq_eq_false_iff_ne]; exact hl
      have hwx : wrap64 (x + 1) = x + 1 := by unfold wrap64; omega
      clear hfx hf hf2
      clear a0 a1 a2 a3 a4 hSL hML
      obtain ⟨A, n, c, m, B, k, d, s, am, rd, hd⟩ := p
      simp only at *
      go_enter Try.func70, Try.ntmps70
      go_wp2_with (go_at_call 69; rw [HW.out]; (with_reducible refine (HFT.out).mono ?_); rintro e w1 ⟨rfl, hb1⟩; obtain ⟨c0, c1, c2, c3, c4⟩ := HAC.out _ hb1; have HB1 := Lib.hid hb1; clear hb1)
      go_ret
      exact ⟨by rw [HR.out]; rfl, HB0.out.trans (HB1.out.mono HB0.out.size)⟩
end Go.Proofs.Ytgnhmdfajnnkhaa


/- The walk over the document's Least of a plan. -/
namespace Go.Proofs.Ytgnhmdfajnnkhaa
set_option maxRecDepth 100000
set_option linter.unusedVariables false
set_option linter.unusedSimpArgs false
open Go.RowKit

end Go.Proofs.Ytgnhmdfajnnkhaa


/- The walk over the document's All of plans. -/
namespace Go.Proofs.Ytgnhmdfajnnkhaa
set_option maxRecDepth 100000
set_option linter.unusedVariables false
set_option linter.unusedSimpArgs false
open Go.RowKit

theorem all_no {l : List Pl} {j : Nat} (hj : j < l.length) (h : fitP (l.getD j Pl.zero) = false ∨ (l.getD j Pl.zero).m.length ≠ (l.getD 0 Pl.zero).m.length) : allP l = false := by
  rw [← Bool.not_eq_true, all_iff]
  rintro ⟨-, hal⟩
  have h0 : l.headD Pl.zero = l.getD 0 Pl.zero := by cases l <;> rfl
  have := hal (l.getD j Pl.zero) (by rw [List.getD_eq_getElem?_getD, List.getElem?_eq_getElem hj]; exact List.getElem_mem hj)
  rw [h0] at this
  rcases h with h | h
  · rw [this.1] at h; cases h
  · exact h this.2
theorem all_yes {l : List Pl} (h : 1 ≤ l.length ∧ l.length ≤ 3) (ha : ∀ j, j < l.length → fitP (l.getD j Pl.zero) = true ∧ (l.getD j Pl.zero).m.length = (l.getD 0 Pl.zero).m.length) : allP l = true := by
  rw [all_iff]
  have h0 : l.headD Pl.zero = l.getD 0 Pl.zero := by cases l <;> rfl
  refine ⟨h, fun p hp => ?_⟩
  obtain ⟨j, hj, rfl⟩ := List.getElem_of_mem hp
  have := ha j hj
  rw [h0]
  rwa [show l[j] = l.getD j Pl.zero by rw [List.getD_eq_getElem?_getD, List.getElem?_eq_getElem hj]; rfl]
set_option maxHeartbeats 8000000 in
theorem rall_any (A : Option Addr) (n c : Nat) (l : List Pl) (w : World) (hl : Pls w A n c l) : Calls Try.prog 53 #[.slice A n c] w fun e w' => e = .returned (.bool (allP l)) ∧ Below w.heap.size w w' := by
  have hsm := hl.small
  have HLL := Lib.hid hl.len
  by_cases hn : n < 1 ∨ 3 < n
  · have HR := Lib.hid (show allP l = false by rw [← Bool.not_eq_true, all_iff]; rintro ⟨h, -⟩; have := HLL.out; omega)
    rcases hn with hn | hn
    all_goals
      clear hl
      go_enter Try.func53, Try.ntmps53
      go_wp2
      go_ret
      exact ⟨by rw [HR.out]; rfl, Below.refl _ _⟩
  · have hn1 : ¬ ((n : Int) < 1) := by omega
    have hn3 : ¬ (3 < (n : Int)) := by omega
    obtain ⟨b, off, p0, rfl, hp0, -, -, hpi0, -⟩ := hl.at_ 0 (by omega)
    have HP0 := Lib.hid hp0
    have HPI0 := Lib.hid hpi0
    have HL := Lib.hid hl
    have hq3 : (0 : Int) < n := by omega
    clear hp0 hpi0 hl
    go_enter Try.func53, Try.ntmps53
    go_wp2
    go_loopw [3] (fun v wr => ∃ j : Nat, j ≤ n ∧ v = .int .i64 j ∧ (∀ i, i < j → fitP (l.getD i Pl.zero) = true ∧ (l.getD i Pl.zero).m.length = (l.getD 0 Pl.zero).m.length) ∧ Below w.heap.size w wr) (fun v _ => n - (intOf v).toNat)
    case atStart => exact ⟨0, by omega, rfl, fun i hi => by omega, Below.refl _ _⟩
    case round =>
      obtain ⟨j, hj, rfl, hall, hbw⟩ := hrel
      have HBW := Lib.hid hbw
      have HAL := Lib.hid hall
      clear hall
      by_cases hlt : j < n
      · have hlt2 : (j : Int) < n := by omega
        have q0 : 0 ≤ (j : Int) := by omega
        obtain ⟨b', off', q, hA, hq, -, -, hqi, z0, z1, z2, z3, z4⟩ := (HL.out.below hbw).at_ j hlt
        cases hA
        have HFT := Lib.hid (rfit_any q wr hqi)
        simp only [plV] at HFT
        have HF := Lib.hid (show ∀ X, Below wr.heap.size wr X → X.cell? ⟨b, off + j * 5, none⟩ = some (.slice q.A q.n q.c) ∧ X.cell? ⟨b, off, none⟩ = some (.slice p0.A p0.n p0.c) from fun X hX => by
          have hX0 := HBW.out.trans (hX.mono HBW.out.size)
          obtain ⟨b2, off2, q2, hA2, hq2, -, -, -, y0, -, -, -, -⟩ := (HL.out.below hX0).at_ j hlt
          cases hA2
          obtain rfl := hq.symm.trans hq2
          obtain ⟨b3, off3, q3, hA3, hq3, -, -, -, y1, -, -, -, -⟩ := (HL.out.below hX0).at_ 0 (by omega)
          cases hA3
          obtain rfl := HP0.out.symm.trans hq3
          exact ⟨y0, by simpa using y1⟩)
        have HQL := Lib.hid hqi.m.len
        have HQ := Lib.hid hq
        have hqs := hqi.m.small
        clear hbw hqi hq
        cases hf : fitP q with
        | false =>
          rw [hf] at HFT
          have HR := Lib.hid (all_no (l := l) (j := j) (by rw [HLL.out]; exact hlt) (.inl (by rw [HQ.out]; exact hf)))
          clear hf
          go_wp2_with (first
            | (go_at_call 69
               (with_reducible refine (HFT.out).mono ?_)
               rintro e w3 ⟨rfl, hb3⟩
               have HB3 := Lib.hid hb3
               clear hb3 z0 z1 z2 z3 z4))
          have HF2 := Lib.hid (show ∀ X, Below w3.heap.size w3 X → X.cell? ⟨b, off + j * 5, none⟩ = some (.slice q.A q.n q.c) ∧ X.cell? ⟨b, off, none⟩ = some (.slice p0.A p0.n p0.c) from fun X hX => HF.out X (HB3.out.trans (hX.mono HB3.out.size)))
          have hSd : Below w3.heap.size w3 w3.drew := (Below.refl _ w3).drew
          refine wp_region_held_drew (S := fun X => Below w3.heap.size w3 X) (by kernel_rfl) hSd (fun hHeld => ?_)
          refine tk 0 (.bool false) hHeld (fun w => ?_) ?_
          · go_simp
          simp only [PT]
          refine tk 1 (.bool true) hHeld (fun w => ?_) ?_
          · go_simp
          simp only [PT]
          refine tk 2 (.bool true) hHeld (fun w => ?_) ?_
          · go_simp
          simp only [PT]
          refine tkO 3 hHeld ?_
          simp only [PT]
          refine tkO 4 hHeld ?_
          simp only [PT]
          refine tkO 5 hHeld ?_
          simp only [PT]
          refine tkO 6 hHeld ?_
          simp only [PT]
          refine tkO 7 hHeld ?_
          simp only [PT]
          refine tkO 8 hHeld ?_
          simp only [PT]
          refine tkO 9 hHeld ?_
          simp only [PT]
          refine tkO 10 hHeld ?_
          simp only [PT]
          refine tkO 11 hHeld ?_
          simp only [PT]
          refine tkO 12 hHeld ?_
          simp only [PT]
          refine tkO 13 hHeld ?_
          simp only [PT]
          refine tkO 14 hHeld ?_
          simp only [PT]
          refine tk 15 (.bool true) hHeld (fun w => ?_) ?_
          · go_simp
          simp only [PT]
          refine wpAnyH_done (by kernel_rfl) ?_ _
          clear hHeld
          go_wp2
          go_ret
          exact ⟨by rw [HR.out]; rfl, HBW.out.trans ((HB3.out.drew).mono HBW.out.size)⟩
        | true =>
          rw [hf] at HFT
          obtain ⟨D, hD⟩ : ∃ D, ((q.n : Int) != (p0.n : Int)) = D := ⟨_, rfl⟩
          have hqm := HQL.out
          have hpm := HPI0.out.m.len
          cases D
          · have HN := Lib.hid (show ∀ i, i < j + 1 → fitP (l.getD i Pl.zero) = true ∧ (l.getD i Pl.zero).m.length = (l.getD 0 Pl.zero).m.length from fun i hi => by
              by_cases e : i = j
              · subst e
                rw [HQ.out, HP0.out]
                exact ⟨hf, by simp at hD; omega⟩
              · exact HAL.out i (by omega))
            clear hf hqm hpm
            go_wp2_with (first
              | (go_at_call 69
                 (with_reducible refine (HFT.out).mono ?_)
                 rintro e w3 ⟨rfl, hb3⟩
                 have HB3 := Lib.hid hb3
                 clear hb3 z0 z1 z2 z3 z4))
            have HF2 := Lib.hid (show ∀ X, Below w3.heap.size w3 X → X.cell? ⟨b, off + j * 5, none⟩ = some (.slice q.A q.n q.c) ∧ X.cell? ⟨b, off, none⟩ = some (.slice p0.A p0.n p0.c) from fun X hX => HF.out X (HB3.out.trans (hX.mono HB3.out.size)))
            have hSd : Below w3.heap.size w3 w3.drew := (Below.refl _ w3).drew
            refine wp_region_held_drew (S := fun X => Below w3.heap.size w3 X) (by kernel_rfl) hSd (fun hHeld => ?_)
            refine tk 0 (.bool true) hHeld (fun w => ?_) ?_
            · go_simp
            simp only [PT]
            refine tk 1 (.bool false) hHeld (fun w => ?_) ?_
            · go_simp
            simp only [PT]
            refine tk 2 (.bool false) hHeld (fun w => ?_) ?_
            · go_simp
            simp only [PT]
            refine tk 3 (.slice (some ⟨b, off, none⟩) n c) hHeld (fun w => ?_) ?_
            · go_simp
            simp only [PT]
            refine tk 4 (.int .i64 j) hHeld (fun w => ?_) ?_
            · go_simp
            simp only [PT]
            refine tk 5 (.pointer (some ⟨b, off + j * 5, none⟩)) hHeld (fun w => ?_) ?_
            · go_simp
            simp only [PT]
            refine tk 6 (.pointer (some ⟨b, off + j * 5, none⟩)) hHeld (fun w => ?_) ?_
            · go_simp
            simp only [PT]
            refine tkS 7 (.slice q.A q.n q.c) hHeld (fun w hq => ?_) ?_
            · obtain ⟨z0, z1⟩ := HF2.out w hq
              go_simp
            simp only [PT]
            refine tk 8 (.int .i64 (q.n : Int)) hHeld (fun w => ?_) ?_
            · go_simp
            simp only [PT]
            refine tk 9 (.slice (some ⟨b, off, none⟩) n c) hHeld (fun w => ?_) ?_
            · go_simp
            simp only [PT]
            refine tk 10 (.pointer (some ⟨b, off, none⟩)) hHeld (fun w => ?_) ?_
            · (go_simp; intro hz; omega)
            simp only [PT]
            refine tk 11 (.pointer (some ⟨b, off, none⟩)) hHeld (fun w => ?_) ?_
            · go_simp
            simp only [PT]
            refine tkS 12 (.slice p0.A p0.n p0.c) hHeld (fun w hq => ?_) ?_
            · obtain ⟨z0, z1⟩ := HF2.out w hq
              go_simp
            simp only [PT]
            refine tk 13 (.int .i64 (p0.n : Int)) hHeld (fun w => ?_) ?_
            · go_simp
            simp only [PT]
            refine tk 14 (.bool false) hHeld (fun w => ?_) ?_
            · go_simp
            simp only [PT]
            refine tk 15 (.bool false) hHeld (fun w => ?_) ?_
            · go_simp
            simp only [PT]
            refine wpAnyH_done (by kernel_rfl) ?_ _
            clear hHeld
            go_wp2
            go_roundw
            case rel => exact ⟨j + 1, by omega, by go_num, HN.out, HBW.out.trans ((HB3.out.drew).mono HBW.out.size)⟩
            case measure => simp [intOf]; omega
          · have HR := Lib.hid (all_no (l := l) (j := j) (by rw [HLL.out]; exact hlt) (.inr (by rw [HQ.out, HP0.out]; simp at hD; omega)))
            clear hf hqm hpm
            go_wp2_with (first
              | (go_at_call 69
                 (with_reducible refine (HFT.out).mono ?_)
                 rintro e w3 ⟨rfl, hb3⟩
                 have HB3 := Lib.hid hb3
                 clear hb3 z0 z1 z2 z3 z4))
            have HF2 := Lib.hid (show ∀ X, Below w3.heap.size w3 X → X.cell? ⟨b, off + j * 5, none⟩ = some (.slice q.A q.n q.c) ∧ X.cell? ⟨b, off, none⟩ = some (.slice p0.A p0.n p0.c) from fun X hX => HF.out X (HB3.out.trans (hX.mono HB3.out.size)))
            have hSd : Below w3.heap.size w3 w3.drew := (Below.refl _ w3).drew
            refine wp_region_held_drew (S := fun X => Below w3.heap.size w3 X) (by kernel_rfl) hSd (fun hHeld => ?_)
            refine tk 0 (.bool true) hHeld (fun w => ?_) ?_
            · go_simp
            simp only [PT]
            refine tk 1 (.bool false) hHeld (fun w => ?_) ?_
            · go_simp
            simp only [PT]
            refine tk 2 (.bool false) hHeld (fun w => ?_) ?_
            · go_simp
            simp only [PT]
            refine tk 3 (.slice (some ⟨b, off, none⟩) n c) hHeld (fun w => ?_) ?_
            · go_simp
            simp only [PT]
            refine tk 4 (.int .i64 j) hHeld (fun w => ?_) ?_
            · go_simp
            simp only [PT]
            refine tk 5 (.pointer (some ⟨b, off + j * 5, none⟩)) hHeld (fun w => ?_) ?_
            · go_simp
            simp only [PT]
            refine tk 6 (.pointer (some ⟨b, off + j * 5, none⟩)) hHeld (fun w => ?_) ?_
            · go_simp
            simp only [PT]
            refine tkS 7 (.slice q.A q.n q.c) hHeld (fun w hq => ?_) ?_
            · obtain ⟨z0, z1⟩ := HF2.out w hq
              go_simp
            simp only [PT]
            refine tk 8 (.int .i64 (q.n : Int)) hHeld (fun w => ?_) ?_
            · go_simp
            simp only [PT]
            refine tk 9 (.slice (some ⟨b, off, none⟩) n c) hHeld (fun w => ?_) ?_
            · go_simp
            simp only [PT]
            refine tk 10 (.pointer (some ⟨b, off, none⟩)) hHeld (fun w => ?_) ?_
            · (go_simp; intro hz; omega)
            simp only [PT]
            refine tk 11 (.pointer (some ⟨b, off, none⟩)) hHeld (fun w => ?_) ?_
            · go_simp
            simp only [PT]
            refine tkS 12 (.slice p0.A p0.n p0.c) hHeld (fun w hq => ?_) ?_
            · obtain ⟨z0, z1⟩ := HF2.out w hq
              go_simp
            simp only [PT]
            refine tk 13 (.int .i64 (p0.n : Int)) hHeld (fun w => ?_) ?_
            · go_simp
            simp only [PT]
            refine tk 14 (.bool true) hHeld (fun w => ?_) ?_
            · go_simp
            simp only [PT]
            refine tk 15 (.bool true) hHeld (fun w => ?_) ?_
            · go_simp
            simp only [PT]
            refine wpAnyH_done (by kernel_rfl) ?_ _
            clear hHeld
            go_wp2
            go_ret
            exact ⟨by rw [HR.out]; rfl, HBW.out.trans ((HB3.out.drew).mono HBW.out.size)⟩
      · obtain rfl : j = n := by omega
        have hge : ¬ ((j : Int) < j) := by omega
        have HR := Lib.hid (all_yes (l := l) (by have := HLL.out; omega) (fun i hi => HAL.out i (by rw [HLL.out] at hi; exact hi)))
        go_wp2
        go_ret
        exact ⟨by rw [HR.out]; rfl, HBW.out⟩
end Go.Proofs.Ytgnhmdfajnnkhaa


/- Lamps, plainly: rows, their texts, what a plan shows, what clashes. -/
namespace Go.Proofs.Ytgnhmdfajnnkhaa
set_option maxRecDepth 100000
set_option linter.unusedVariables false
set_option linter.unusedSimpArgs false
open Go.RowKit

/-- a lamp's letter, a letter's lamp -/
def letU (x : Int) : UInt8 := if x = 0 then 114 else if x = 1 then 97 else 103
def okL (x : Int) : Prop := 0 ≤ x ∧ x < 3
instance (x : Int) : Decidable (okL x) := by unfold okL; infer_instance
def mayR (l : List Int) : Bool := decide ((1 ≤ l.length ∧ l.length ≤ 8) ∧ ∀ x ∈ l, okL x)
def txt (l : List Int) : ByteArray := ⟨(l.map letU).toArray⟩
def textR (l : List Int) : ByteArray := if mayR l = true then txt l else ⟨#[]⟩
def lampP (t : Int) (ph : Int) (g : Nat) : Int := if bitI t g = true ∧ ph = 0 then 2 else if bitI t g = true ∧ ph = 1 then 1 else 0
def showR (p : Pl) (st ph : Int) : List Int := if fitP p = true ∧ (0 ≤ st ∧ st < p.s.length) ∧ (0 ≤ ph ∧ ph < 3) then (List.range p.m.length).map (lampP (p.s.getD st.toNat Stg.zero).g ph) else []
def hitR (m l : List Int) (g h : Nat) : Prop := meetM m g h = true ∧ l.getD g 0 ≠ 0 ∧ l.getD h 0 ≠ 0
instance (m l : List Int) (g h : Nat) : Decidable (hitR m l g h) := by unfold hitR; infer_instance
theorem may_iff {l : List Int} : mayR l = true ↔ (1 ≤ l.length ∧ l.length ≤ 8) ∧ ∀ x ∈ l, 0 ≤ x ∧ x < 3 := decide_eq_true_iff
end Go.Proofs.Ytgnhmdfajnnkhaa


/- The signal machine, plainly: which machines may be, what a tick makes of one, what it shows, what several ticks make. -/
namespace Go.Proofs.Ytgnhmdfajnnkhaa
set_option maxRecDepth 100000
set_option linter.unusedVariables false
set_option linter.unusedSimpArgs false
open Go.RowKit

structure Sg where
  pl : Int
  st : Int
  nx : Int
  ph : Int
  t : Int
  hd : Int
  hl : Int
  ak : Int
  wt : Int
  sp : Bool
deriving DecidableEq
/-- a machine of numbers, as far as that is asked for -/
abbrev SmG (s : Sg) : Prop := s.t < 9223372036854775808 ∧ s.hl < 9223372036854775808
def Sg.arr (s : Sg) : Array Value := #[.int .i64 s.pl, .int .i64 s.st, .int .i64 s.nx, .int .i64 s.ph, .int .i64 s.t, .int .i64 s.hd, .int .i64 s.hl, .int .i64 s.ak, .int .i64 s.wt, .bool s.sp]
def Sg.zero : Sg := ⟨0, 0, 0, 0, 0, 0, 0, 0, 0, false⟩
def sgV (s : Sg) : Value := .agg #[.int .i64 s.pl, .int .i64 s.st, .int .i64 s.nx, .int .i64 s.ph, .int .i64 s.t, .int .i64 s.hd, .int .i64 s.hl, .int .i64 s.ak, .int .i64 s.wt, .bool s.sp]
theorem sgV_arr (s : Sg) : sgV s = .agg s.arr := rfl
/-- a block that holds a machine -/
def BoxG (w : World) (b : Nat) (s : Sg) : Prop := w.heap[b]? = some (.cells #[.int .i64 s.pl, .int .i64 s.st, .int .i64 s.nx, .int .i64 s.ph, .int .i64 s.t, .int .i64 s.hd, .int .i64 s.hl, .int .i64 s.ak, .int .i64 s.wt, .bool s.sp] 24 (0, 0))
structure CellsG (w : World) (b : Nat) (s : Sg) : Prop where
  c0 : w.cell? ⟨b, 0, none⟩ = some (.int .i64 s.pl)
  c1 : w.cell? ⟨b, 1, none⟩ = some (.int .i64 s.st)
  c2 : w.cell? ⟨b, 2, none⟩ = some (.int .i64 s.nx)
  c3 : w.cell? ⟨b, 3, none⟩ = some (.int .i64 s.ph)
  c4 : w.cell? ⟨b, 4, none⟩ = some (.int .i64 s.t)
  c5 : w.cell? ⟨b, 5, none⟩ = some (.int .i64 s.hd)
  c6 : w.cell? ⟨b, 6, none⟩ = some (.int .i64 s.hl)
  c7 : w.cell? ⟨b, 7, none⟩ = some (.int .i64 s.ak)
  c8 : w.cell? ⟨b, 8, none⟩ = some (.int .i64 s.wt)
  c9 : w.cell? ⟨b, 9, none⟩ = some (.bool s.sp)
section
variable {w w' : World} {b : Nat} {s : Sg}
theorem BoxG.new (w : World) (s : Sg) : BoxG (w.alloc (.cells #[.int .i64 s.pl, .int .i64 s.st, .int .i64 s.nx, .int .i64 s.ph, .int .i64 s.t, .int .i64 s.hd, .int .i64 s.hl, .int .i64 s.ak, .int .i64 s.wt, .bool s.sp] 24)) w.heap.size s := heap_alloc_new w _
theorem BoxG.lt (h : BoxG w b s) : b < w.heap.size := (Array.getElem?_eq_some_iff.1 h).1
theorem BoxG.below (h : BoxG w b s) (hb : Below w.heap.size w w') : BoxG w' b s := (hb.block b h.lt).trans h
theorem BoxG.low {B : Nat} (h : BoxG w b s) (hb : Below B w w') (hg : b < B) : BoxG w' b s := (hb.block b hg).trans h
theorem BoxG.cells (h : BoxG w b s) : CellsG w b s :=
  ⟨(cell_of_row _ _ _ _ _ _ h).trans rfl, (cell_of_row _ _ _ _ _ _ h).trans rfl, (cell_of_row _ _ _ _ _ _ h).trans rfl, (cell_of_row _ _ _ _ _ _ h).trans rfl, (cell_of_row _ _ _ _ _ _ h).trans rfl, (cell_of_row _ _ _ _ _ _ h).trans rfl, (cell_of_row _ _ _ _ _ _ h).trans rfl, (cell_of_row _ _ _ _ _ _ h).trans rfl, (cell_of_row _ _ _ _ _ _ h).trans rfl, (cell_of_row _ _ _ _ _ _ h).trans rfl⟩
end
/-- a row of lamps: where it lies, and what it is -/
structure Rw where
  A : Option Addr
  n : Nat
  c : Nat
  l : List Int
def Rw.zero : Rw := ⟨none, 0, 0, []⟩
def Rw.row (r : Rw) : List Value := [.slice r.A r.n r.c]
/-- a slice of rows -/
structure Lns (w : World) (A : Option Addr) (n c : Nat) (l : List Rw) : Prop where
  rws : Rws 1 w A n c (l.map Rw.row)
  its : ∀ r ∈ l, Its .i64 w r.A r.n r.c r.l
section
variable {w w' : World} {A : Option Addr} {n c : Nat} {l : List Rw}
theorem Lns.len (h : Lns w A n c l) : l.length = n := by rw [← h.rws.len, List.length_map]
theorem Lns.small (h : Lns w A n c l) : n ≤ 9223372036854775807 := h.rws.small
theorem Lns.below (h : Lns w A n c l) (hb : Below w.heap.size w w') : Lns w' A n c l := ⟨h.rws.below hb, fun r hr => (h.its r hr).below hb⟩
theorem Lns.nil (w : World) : Lns w none 0 0 [] := ⟨Rws.nil 1 w, fun p hp => by cases hp⟩
theorem Lns.at_ (h : Lns w A n c l) (j : Nat) (hj : j < n) : ∃ b off r, A = some ⟨b, off, none⟩ ∧ l.getD j Rw.zero = r ∧ r ∈ l ∧ l[j]? = some r ∧ Its .i64 w r.A r.n r.c r.l ∧ w.cell? ⟨b, off + j, none⟩ = some (.slice r.A r.n r.c) := by
  obtain ⟨b, off, hA, hc⟩ := h.rws.at_ (by omega)
  have hl : j < l.length := by rw [h.len]; exact hj
  have hm : l[j] ∈ l := List.getElem_mem hl
  have hr : (l.map Rw.row).getD j [] = l[j].row := by simp [List.getD_eq_getElem?_getD, hl]
  refine ⟨b, off, l[j], hA, by simp [List.getD_eq_getElem?_getD, hl], hm, by simp [hl], h.its _ hm, ?_⟩
  have := hc j hj 0 (by omega)
  rw [hr, Nat.mul_one] at this
  exact this
end
/-- a machine's plan, a plan's stage -/
def planAt (l : List Pl) (k : Int) : Pl := l.getD k.toNat Pl.zero
def stgAt (p : Pl) (k : Int) : Stg := p.s.getD k.toNat Stg.zero
/-- may a machine be, of its plan? -/
structure RangeS (p : Pl) (n : Nat) (s : Sg) : Prop where
  s0 : 0 ≤ s.st
  s1 : s.st < p.s.length
  n0 : 0 ≤ s.nx
  n1 : s.nx < p.s.length
  p0 : 0 ≤ s.ph
  p1 : s.ph < 3
  a0 : -1 ≤ s.ak
  a1 : s.ak < p.s.length
  w0 : -1 ≤ s.wt
  w1 : s.wt < n
structure HeldS (p : Pl) (s : Sg) : Prop where
  h0 : 0 ≤ s.hd
  h1 : 0 ≤ s.hl
  h2 : s.hl ≤ p.hd
  h3 : s.hd ≤ p.hd - s.hl
structure GreenS (p : Pl) (s : Sg) : Prop where
  t0 : s.hl ≤ s.t
  t1 : s.t - s.hl < (stgAt p s.st).mx
  t2 : s.sp = true → s.hd = 0
structure OtherS (p : Pl) (s : Sg) : Prop where
  d : s.hd = 0
  l : s.hl = 0
  a : s.ak = -1
  t : 0 ≤ s.t
  am : s.ph = 1 → s.t < p.am
  rd : s.ph ≠ 1 → s.t ≤ p.rd
structure MayS (l : List Pl) (s : Sg) : Prop where
  all : allP l = true
  p0 : 0 ≤ s.pl
  p1 : s.pl < l.length
  range : RangeS (planAt l s.pl) l.length s
  held : HeldS (planAt l s.pl) s
  green : s.ph = 0 → GreenS (planAt l s.pl) s
  other : s.ph ≠ 0 → OtherS (planAt l s.pl) s
def rangeB (p : Pl) (n : Nat) (s : Sg) : Bool := decide (0 ≤ s.st ∧ s.st < p.s.length ∧ 0 ≤ s.nx ∧ s.nx < p.s.length ∧ 0 ≤ s.ph ∧ s.ph < 3 ∧ -1 ≤ s.ak ∧ s.ak < p.s.length ∧ -1 ≤ s.wt ∧ s.wt < n)
def heldB (p : Pl) (s : Sg) : Bool := decide (0 ≤ s.hd ∧ 0 ≤ s.hl ∧ s.hl ≤ p.hd ∧ s.hd ≤ p.hd - s.hl)
def timeB (p : Pl) (s : Sg) : Bool := if s.ph = 0 then decide (s.hl ≤ s.t ∧ s.t - s.hl < (stgAt p s.st).mx ∧ (s.sp = true → s.hd = 0)) else decide (s.hd = 0 ∧ s.hl = 0 ∧ s.ak = -1 ∧ 0 ≤ s.t ∧ (s.ph = 1 → s.t < p.am) ∧ (s.ph ≠ 1 → s.t ≤ p.rd))
def mayS (l : List Pl) (s : Sg) : Bool := allP l && (decide (0 ≤ s.pl ∧ s.pl < l.length) && (rangeB (planAt l s.pl) l.length s && (heldB (planAt l s.pl) s && timeB (planAt l s.pl) s)))
theorem range_iff {p : Pl} {n : Nat} {s : Sg} : rangeB p n s = true ↔ RangeS p n s := by
  rw [rangeB, decide_eq_true_eq]
  exact ⟨fun ⟨a, b, c, d, e, f, g, h, i, j⟩ => ⟨a, b, c, d, e, f, g, h, i, j⟩, fun ⟨a, b, c, d, e, f, g, h, i, j⟩ => ⟨a, b, c, d, e, f, g, h, i, j⟩⟩
theorem held_iff {p : Pl} {s : Sg} : heldB p s = true ↔ HeldS p s := by
  rw [heldB, decide_eq_true_eq]
  exact ⟨fun ⟨a, b, c, d⟩ => ⟨a, b, c, d⟩, fun ⟨a, b, c, d⟩ => ⟨a, b, c, d⟩⟩
theorem time_iff {p : Pl} {s : Sg} : timeB p s = true ↔ (s.ph = 0 → GreenS p s) ∧ (s.ph ≠ 0 → OtherS p s) := by
  rw [timeB]
  by_cases h : s.ph = 0
  · rw [if_pos h, decide_eq_true_eq]
    exact ⟨fun ⟨a, b, c⟩ => ⟨fun _ => ⟨a, b, c⟩, fun n => (n h).elim⟩, fun ⟨g, _⟩ => ⟨(g h).t0, (g h).t1, (g h).t2⟩⟩
  · rw [if_neg h, decide_eq_true_eq]
    exact ⟨fun ⟨a, b, c, d, e, f⟩ => ⟨fun n => (h n).elim, fun _ => ⟨a, b, c, d, e, f⟩⟩, fun ⟨_, g⟩ => ⟨(g h).d, (g h).l, (g h).a, (g h).t, (g h).am, (g h).rd⟩⟩
theorem mayS_iff {l : List Pl} {s : Sg} : mayS l s = true ↔ MayS l s := by
  rw [mayS, Bool.and_eq_true, Bool.and_eq_true, Bool.and_eq_true, Bool.and_eq_true, decide_eq_true_eq, range_iff, held_iff, time_iff]
  exact ⟨fun ⟨a, ⟨b, c⟩, d, e, f, g⟩ => ⟨a, b, c, d, e, f, g⟩, fun ⟨a, b, c, d, e, f, g⟩ => ⟨a, ⟨b, c⟩, d, e, f, g⟩⟩
/-- what a tick makes of it -/
def endsS (p : Pl) (s : Sg) : Bool := decide ((stgAt p s.st).mn ≤ s.t + 1) && (s.sp || (decide (s.ak ≠ -1) || (decide (s.wt ≠ -1) || decide ((stgAt p s.st).mx ≤ s.t + 1))))
def greenT (p : Pl) (s : Sg) : Sg :=
  if 0 < s.hd then { s with t := s.t + 1, hd := s.hd - 1, hl := s.hl + 1 }
  else if endsS p s = true then { s with ph := 1, t := 0, hl := 0, nx := if s.ak = -1 then nextP p s.st else s.ak, ak := -1 }
  else { s with t := s.t + 1 }
def redN (p : Pl) (s : Sg) : Int := if s.t < p.rd then s.t + 1 else s.t
def redT (p : Pl) (s : Sg) : Sg :=
  if redN p s < p.rd ∨ s.sp = true then { s with t := redN p s }
  else if s.wt = -1 then { s with ph := 0, st := s.nx, t := 0 }
  else { s with pl := s.wt, wt := -1, nx := 0, ph := 0, st := 0, t := 0 }
def amberT (p : Pl) (s : Sg) : Sg := if s.t + 1 = p.am then { s with ph := 2, t := 0 } else { s with t := s.t + 1 }
def tickS (l : List Pl) (s : Sg) : Sg := if mayS l s = true then (if s.ph = 0 then greenT (planAt l s.pl) s else if s.ph = 1 then amberT (planAt l s.pl) s else redT (planAt l s.pl) s) else s
def lampsS (l : List Pl) (s : Sg) : List Int := if mayS l s = true then showR (planAt l s.pl) s.st s.ph else []
def ticksS (l : List Pl) (s : Sg) : Nat → Sg
  | 0 => s
  | k + 1 => tickS l (ticksS l s k)
def rowsS (l : List Pl) (s : Sg) : Nat → List (List Int)
  | 0 => []
  | k + 1 => rowsS l s k ++ [lampsS l (ticksS l s (k + 1))]
def runOk (l : List Pl) (s : Sg) (n : Int) : Bool := mayS l s && decide (0 ≤ n ∧ n ≤ 2000)
def runG (l : List Pl) (s : Sg) (n : Int) : Sg := if runOk l s n = true then ticksS l s n.toNat else s
def runL (l : List Pl) (s : Sg) (n : Int) : List (List Int) := if runOk l s n = true then rowsS l s n.toNat else []
def newG : Sg := ⟨0, 0, 0, 2, 0, 0, 0, -1, -1, false⟩
/-- what a call gives: a row; a machine and rows -/
def GivesG (s : Sg) (X : World) : Ending → World → Prop := fun e w' => e = .returned (sgV s) ∧ Below X.heap.size X w'
def GivesGL (s : Sg) (L : List (List Int)) (X : World) : Ending → World → Prop := fun e w' => ∃ A n c r, e = .returned (.tuple #[sgV s, .slice A n c]) ∧ Lns w' A n c r ∧ r.map Rw.l = L ∧ Below X.heap.size X w'
end Go.Proofs.Ytgnhmdfajnnkhaa


/- The walk over the document's May of a machine. -/
namespace Go.Proofs.Ytgnhmdfajnnkhaa
set_option maxRecDepth 100000
set_option linter.unusedVariables false
set_option linter.unusedSimpArgs false
open Go.RowKit

theorem mays_not {l : List Pl} {s : Sg} (h : ¬ MayS l s) : mayS l s = false := by
  rw [← Bool.not_eq_true, mayS_iff]
  exact h
/-- a plan of a list that fits, out of it -/
theorem plan_of {w : World} {A : Option Addr} {n c : Nat} {l : List Pl} (h : Pls w A n c l) {j : Nat} (hj : j < n) : PlIn w (planAt l (j : Int)) ∧ planAt l (j : Int) ∈ l := by
  obtain ⟨b, off, p, -, hp, hm, -, hi, -⟩ := h.at_ j hj
  rw [planAt, Int.toNat_natCast, hp]
  exact ⟨hi, hm⟩
theorem all_fit {l : List Pl} (h : allP l = true) {p : Pl} (hp : p ∈ l) : fitP p = true := ((all_iff.1 h).2 p hp).1
theorem all_three {l : List Pl} (h : allP l = true) : 1 ≤ l.length ∧ l.length ≤ 3 := (all_iff.1 h).1
end Go.Proofs.Ytgnhmdfajnnkhaa

