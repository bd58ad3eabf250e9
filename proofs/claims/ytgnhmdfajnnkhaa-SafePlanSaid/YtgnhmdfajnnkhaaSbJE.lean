/- Joined texts: Package plan's small calls: isSpan, timed, sized, takes, served. Package plan's Fit. Pure facts of plans, for the laws. Package plan's calls All, Same, Next, Least, Cycle; with Fit they are all that the laws stand on. A strings.Builder of the call's own: one letter more is written, what it holds is read. The walks over lamp's May, letter, spell and Text. -/
import Derived.Test.YtgnhmdfajnnkhaaSbJC
import Derived.Test.YtgnhmdfajnnkhaaSbJD
import Derived.Deep.LoopGhost
import Derived.Test.YtgnhmdfajnnkhaaSbJB
import Derived.Lib.Builder
import Derived.Lib.UnsafeStr
import Derived.Laws.Externs
/- Package plan's small calls: isSpan, timed, sized, takes, served. -/
namespace Go.Proofs.Ytgnhmdfajnnkhaa
set_option maxRecDepth 100000
set_option linter.unusedVariables false
set_option linter.unusedSimpArgs false
open Go.RowKit

def isSpanB (x : Int) : Bool := decide (1 ≤ x) && decide (x ≤ 200)
theorem isSpan_any (x : Int) (w : World) : Calls Try.prog 102 #[.int .i64 x] w fun e w' => e = .returned (.bool (isSpanB x)) ∧ w = w' := by
  rw [isSpanB]
  by_cases h1 : 1 ≤ x
  · rw [decide_eq_true h1]
    go_enter Try.func102, Try.ntmps102
    go_wp2
    go_ret
    exact ⟨rfl, rfl⟩
  · rw [decide_eq_false h1]
    go_enter Try.func102, Try.ntmps102
    go_wp2
    go_ret
    exact ⟨rfl, rfl⟩
/-- the cells of a draft's block -/
theorem draft_new (w : World) (p : Pl) (X : World) (hX : Below (w.heap.size + 1) (w.alloc (.cells #[.slice p.A p.n p.c, .slice p.B p.k p.d, .int .i64 p.am, .int .i64 p.rd, .int .i64 p.hd] 97)) X) :
    X.cell? ⟨w.heap.size, 0, none⟩ = some (.slice p.A p.n p.c) ∧ X.cell? ⟨w.heap.size, 1, none⟩ = some (.slice p.B p.k p.d) ∧ X.cell? ⟨w.heap.size, 2, none⟩ = some (.int .i64 p.am) ∧ X.cell? ⟨w.heap.size, 3, none⟩ = some (.int .i64 p.rd) ∧ X.cell? ⟨w.heap.size, 4, none⟩ = some (.int .i64 p.hd) := by
  have h := (hX.block w.heap.size (by omega)).trans (heap_alloc_new w (.cells #[.slice p.A p.n p.c, .slice p.B p.k p.d, .int .i64 p.am, .int .i64 p.rd, .int .i64 p.hd] 97))
  exact ⟨(cell_of_row _ _ _ _ _ _ h).trans rfl, (cell_of_row _ _ _ _ _ _ h).trans rfl, (cell_of_row _ _ _ _ _ _ h).trans rfl, (cell_of_row _ _ _ _ _ _ h).trans rfl, (cell_of_row _ _ _ _ _ _ h).trans rfl⟩
set_option maxHeartbeats 4000000 in
theorem sized_any (p : Pl) (w : World) (hp : PlIn w p) : Calls Try.prog 87 #[plV p] w fun e w' => e = .returned (.bool (mayM p.m && decide (2 ≤ p.s.length ∧ p.s.length ≤ 6))) ∧ Below w.heap.size w w' := by
  have hsk := hp.s.small
  have hSL := hp.s.len
  have hD := draft_new w p
  simp only [plV]
  obtain ⟨W0, hW0⟩ : ∃ W0, w.alloc (.cells #[.slice p.A p.n p.c, .slice p.B p.k p.d, .int .i64 p.am, .int .i64 p.rd, .int .i64 p.hd] 97) = W0 := ⟨_, rfl⟩
  have hB0 : Below w.heap.size w W0 := by rw [← hW0]; exact one_alloc w _
  have hs0 : W0.heap.size = w.heap.size + 1 := by rw [← hW0]; simp
  rw [hW0, ← hs0] at hD
  have HD := Lib.hid hD
  have HW := Lib.hid hW0
  have HB0 := Lib.hid hB0
  have HMY := Lib.hid (gmay_any p.A p.n p.c p.m W0 (hp.m.below hB0))
  rw [hSL]
  clear hD hW0 hB0 hs0 hp hSL
  obtain ⟨A, n, c, m, B, k, d, s, am, rd, hd⟩ := p
  simp only at *
  cases hm : mayM m with
  | false =>
    rw [hm] at HMY
    clear hm
    go_enter Try.func87, Try.ntmps87
    go_wp2_with (go_at_call 101; rw [HW.out]; (with_reducible refine (HMY.out).mono ?_); rintro e w1 ⟨rfl, hb1⟩; have HB1 := Lib.hid (HB0.out.trans (hb1.mono HB0.out.size)); clear hb1)
    go_ret
    exact ⟨rfl, HB1.out⟩
  | true =>
    rw [hm] at HMY
    clear hm
    by_cases h2 : 2 ≤ k
    · by_cases h6 : k ≤ 6
      · have q2 : (2 : Int) ≤ k := by omega
        have q6 : (k : Int) ≤ 6 := by omega
        have HR := Lib.hid (show decide (2 ≤ k ∧ k ≤ 6) = true from decide_eq_true ⟨h2, h6⟩)
        go_enter Try.func87, Try.ntmps87
        go_wp2_with (go_at_call 101; rw [HW.out]; (with_reducible refine (HMY.out).mono ?_); rintro e w1 ⟨rfl, hb1⟩; obtain ⟨a0, a1, a2, a3, a4⟩ := HD.out w1 hb1; have HB1 := Lib.hid (HB0.out.trans (hb1.mono HB0.out.size)); clear hb1)
        go_ret
        exact ⟨by first | rfl | (rw [HR.out]; rfl) | (rw [HR.out, decide_eq_true q6]; rfl) | (rw [HR.out, show decide ((k : Int) ≤ 6) = false from decide_eq_false (by omega)]; rfl), HB1.out⟩
      · have q2 : (2 : Int) ≤ k := by omega
        have q6 : ¬ ((k : Int) ≤ 6) := by omega
        have HR := Lib.hid (show decide (2 ≤ k ∧ k ≤ 6) = false from decide_eq_false (fun h => h6 h.2))
        go_enter Try.func87, Try.ntmps87
        go_wp2_with (go_at_call 101; rw [HW.out]; (with_reducible refine (HMY.out).mono ?_); rintro e w1 ⟨rfl, hb1⟩; obtain ⟨a0, a1, a2, a3, a4⟩ := HD.out w1 hb1; have HB1 := Lib.hid (HB0.out.trans (hb1.mono HB0.out.size)); clear hb1)
        go_ret
        exact ⟨by first | rfl | (rw [HR.out]; rfl) | (rw [HR.out, decide_eq_true q6]; rfl) | (rw [HR.out, show decide ((k : Int) ≤ 6) = false from decide_eq_false (by omega)]; rfl), HB1.out⟩
    · have q2 : ¬ ((2 : Int) ≤ k) := by omega
      have HR := Lib.hid (show decide (2 ≤ k ∧ k ≤ 6) = false from decide_eq_false (fun h => h2 h.1))
      go_enter Try.func87, Try.ntmps87
      go_wp2_with (go_at_call 101; rw [HW.out]; (with_reducible refine (HMY.out).mono ?_); rintro e w1 ⟨rfl, hb1⟩; obtain ⟨a0, a1, a2, a3, a4⟩ := HD.out w1 hb1; have HB1 := Lib.hid (HB0.out.trans (hb1.mono HB0.out.size)); clear hb1)
      go_ret
      exact ⟨by first | rfl | (rw [HR.out]; rfl), HB1.out⟩
theorem span_two (p : Pl) : spanB p = (isSpanB p.am && (isSpanB p.rd && (decide (0 ≤ p.hd) && decide (p.hd ≤ 300)))) := by
  simp only [spanB, isSpanB, Bool.and_assoc]
set_option maxHeartbeats 4000000 in
theorem timed_any (p : Pl) (w : World) : Calls Try.prog 88 #[plV p] w fun e w' => e = .returned (.bool (spanB p)) ∧ Below w.heap.size w w' := by
  have HB0 := Lib.hid (one_alloc w (.cells #[.slice p.A p.n p.c, .slice p.B p.k p.d, .int .i64 p.am, .int .i64 p.rd, .int .i64 p.hd] 97))
  have HS1 := Lib.hid (fun X => isSpan_any p.am X)
  have HS2 := Lib.hid (fun X => isSpan_any p.rd X)
  rw [span_two]
  simp only [plV]
  obtain ⟨A, n, c, m, B, k, d, s, am, rd, hd⟩ := p
  simp only at *
  obtain ⟨b1, h1⟩ : ∃ b, isSpanB am = b := ⟨_, rfl⟩
  obtain ⟨b2, h2⟩ : ∃ b, isSpanB rd = b := ⟨_, rfl⟩
  rw [h1] at HS1 ⊢
  rw [h2] at HS2 ⊢
  clear h1 h2
  cases b1
  · go_enter Try.func88, Try.ntmps88
    go_wp2_with (go_at_call 102; (with_reducible refine (HS1.out _).mono ?_); rintro e w1 ⟨rfl, rfl⟩)
    go_ret
    exact ⟨rfl, HB0.out⟩
  · cases b2
    · go_enter Try.func88, Try.ntmps88
      go_wp2_with (go_at_call 102; first | ((with_reducible refine (HS1.out _).mono ?_); rintro e w1 ⟨rfl, rfl⟩; clear HS1) | ((with_reducible refine (HS2.out _).mono ?_); rintro e w1 ⟨rfl, rfl⟩))
      go_ret
      exact ⟨rfl, HB0.out⟩
    · by_cases h0 : 0 ≤ hd
      · rw [decide_eq_true h0]
        go_enter Try.func88, Try.ntmps88
        go_wp2_with (go_at_call 102; first | ((with_reducible refine (HS1.out _).mono ?_); rintro e w1 ⟨rfl, rfl⟩; clear HS1) | ((with_reducible refine (HS2.out _).mono ?_); rintro e w1 ⟨rfl, rfl⟩))
        go_ret
        exact ⟨rfl, HB0.out⟩
      · rw [decide_eq_false h0]
        go_enter Try.func88, Try.ntmps88
        go_wp2_with (go_at_call 102; first | ((with_reducible refine (HS1.out _).mono ?_); rintro e w1 ⟨rfl, rfl⟩; clear HS1) | ((with_reducible refine (HS2.out _).mono ?_); rintro e w1 ⟨rfl, rfl⟩))
        go_ret
        exact ⟨rfl, HB0.out⟩
theorem stage_order (m : List Int) (x : Stg) : stageB m x = (decide (x.g ≠ 0) && (freeM m x.g && (isSpanB x.mn && (decide (x.mn ≤ x.mx) && decide (x.mx ≤ 200))))) := by
  simp only [stageB, isSpanB, Bool.and_assoc]
  cases freeM m x.g <;> simp
theorem stg_new (w : World) (x : Stg) (X : World) (hX : Below (w.heap.size + 1) (w.alloc (.cells #[.int .i64 x.g, .int .i64 x.mn, .int .i64 x.mx] 71)) X) :
    X.cell? ⟨w.heap.size, 0, none⟩ = some (.int .i64 x.g) ∧ X.cell? ⟨w.heap.size, 1, none⟩ = some (.int .i64 x.mn) ∧ X.cell? ⟨w.heap.size, 2, none⟩ = some (.int .i64 x.mx) := by
  have h := (hX.block w.heap.size (by omega)).trans (heap_alloc_new w (.cells #[.int .i64 x.g, .int .i64 x.mn, .int .i64 x.mx] 71))
  exact ⟨(cell_of_row _ _ _ _ _ _ h).trans rfl, (cell_of_row _ _ _ _ _ _ h).trans rfl, (cell_of_row _ _ _ _ _ _ h).trans rfl⟩
set_option maxHeartbeats 4000000 in
theorem takes_any (p : Pl) (x : Stg) (w : World) (hp : PlIn w p) : Calls Try.prog 90 #[plV p, .agg #[.int .i64 x.g, .int .i64 x.mn, .int .i64 x.mx]] w fun e w' => e = .returned (.bool (stageB p.m x)) ∧ Below w.heap.size w w' := by
  rw [stage_order]
  simp only [plV]
  obtain ⟨V, hV⟩ : ∃ V, w.alloc (.cells #[.slice p.A p.n p.c, .slice p.B p.k p.d, .int .i64 p.am, .int .i64 p.rd, .int .i64 p.hd] 97) = V := ⟨_, rfl⟩
  have hBV : Below w.heap.size w V := by rw [← hV]; exact one_alloc w _
  have hsV : V.heap.size = w.heap.size + 1 := by rw [← hV]; simp
  have hD := stg_new V x
  obtain ⟨W0, hW0⟩ : ∃ W0, V.alloc (.cells #[.int .i64 x.g, .int .i64 x.mn, .int .i64 x.mx] 71) = W0 := ⟨_, rfl⟩
  have hB0 : Below w.heap.size w W0 := hBV.trans (by rw [← hW0]; exact (one_alloc V _).mono (by omega))
  have hs0 : W0.heap.size = V.heap.size + 1 := by rw [← hW0]; simp
  rw [hW0, ← hs0, hsV] at hD
  rw [← hV] at hW0
  have HD := Lib.hid hD
  have HW := Lib.hid hW0
  have HB0 := Lib.hid hB0
  have HFR := Lib.hid (gfree_any p.A p.n p.c p.m x.g W0 (hp.m.below hB0))
  have HS1 := Lib.hid (fun X => isSpan_any x.mn X)
  clear hD hW0 hV hBV hsV hB0 hs0 hp
  obtain ⟨A, n, c, m, B, k, d, s, am, rd, hd⟩ := p
  obtain ⟨g, mn, mx⟩ := x
  simp only at *
  obtain ⟨F, hF⟩ : ∃ F, freeM m g = F := ⟨_, rfl⟩
  obtain ⟨b1, h1⟩ : ∃ b, isSpanB mn = b := ⟨_, rfl⟩
  rw [hF] at HFR ⊢
  rw [h1] at HS1 ⊢
  clear hF h1 V
  by_cases h0 : g = 0
  · subst h0
    go_enter Try.func90, Try.ntmps90
    go_wp2
    go_ret
    exact ⟨by first | rfl | simp, by have := HW.out; first | (rw [this]; exact HB0.out) | exact HB0.out⟩
  · have hne : (g != 0) = true := by rw [bne_iff_ne]; exact h0
    have hdc : decide (g ≠ 0) = true := decide_eq_true h0
    rw [hdc]
    cases F
    · go_enter Try.func90, Try.ntmps90
      go_wp2_with (first
        | (go_at_call 103; rw [HW.out]; (with_reducible refine (HFR.out).mono ?_); rintro e w1 ⟨rfl, hb1⟩; obtain ⟨a0, a1, a2⟩ := HD.out w1 hb1; have HB1 := Lib.hid (HB0.out.trans (hb1.mono HB0.out.size)); clear hb1)
        | (go_at_call 102; (with_reducible refine (HS1.out _).mono ?_); rintro e w2 ⟨rfl, rfl⟩))
      go_ret
      exact ⟨rfl, HB1.out⟩
    · cases b1
      · go_enter Try.func90, Try.ntmps90
        go_wp2_with (first
        | (go_at_call 103; rw [HW.out]; (with_reducible refine (HFR.out).mono ?_); rintro e w1 ⟨rfl, hb1⟩; obtain ⟨a0, a1, a2⟩ := HD.out w1 hb1; have HB1 := Lib.hid (HB0.out.trans (hb1.mono HB0.out.size)); clear hb1)
        | (go_at_call 102; (with_reducible refine (HS1.out _).mono ?_); rintro e w2 ⟨rfl, rfl⟩))
        go_ret
        exact ⟨rfl, HB1.out⟩
      · by_cases h3 : mn ≤ mx
        · rw [decide_eq_true h3]
          go_enter Try.func90, Try.ntmps90
          go_wp2_with (first
        | (go_at_call 103; rw [HW.out]; (with_reducible refine (HFR.out).mono ?_); rintro e w1 ⟨rfl, hb1⟩; obtain ⟨a0, a1, a2⟩ := HD.out w1 hb1; have HB1 := Lib.hid (HB0.out.trans (hb1.mono HB0.out.size)); clear hb1)
        | (go_at_call 102; (with_reducible refine (HS1.out _).mono ?_); rintro e w2 ⟨rfl, rfl⟩))
          go_ret
          exact ⟨rfl, HB1.out⟩
        · rw [decide_eq_false h3]
          go_enter Try.func90, Try.ntmps90
          go_wp2_with (first
        | (go_at_call 103; rw [HW.out]; (with_reducible refine (HFR.out).mono ?_); rintro e w1 ⟨rfl, hb1⟩; obtain ⟨a0, a1, a2⟩ := HD.out w1 hb1; have HB1 := Lib.hid (HB0.out.trans (hb1.mono HB0.out.size)); clear hb1)
        | (go_at_call 102; (with_reducible refine (HS1.out _).mono ?_); rintro e w2 ⟨rfl, rfl⟩))
          go_ret
          exact ⟨rfl, HB1.out⟩
def OrTo (s : List Stg) (n k : Nat) (o : Int) : Prop := (∀ x ∈ s, 0 ≤ x.g ∧ x.g < ((2 ^ n : Nat) : Int)) → ∃ t : Nat, o = (t : Int) ∧ t < 2 ^ n ∧ ∀ i, t.testBit i = someTo s i k
theorem orTo_zero (s : List Stg) (n : Nat) : OrTo s n 0 0 := fun _ => ⟨0, rfl, Nat.pow_pos (by omega), fun i => by rw [some_zero, Nat.zero_testBit]⟩
theorem orTo_next {s : List Stg} {n k : Nat} {o : Int} (hn : n ≤ 8) (hk : k < s.length) (h : OrTo s n k o) : OrTo s n (k + 1) (bits .or .i64 o (s.getD k Stg.zero).g) := fun hq => by
  obtain ⟨t, rfl, ht, hb⟩ := h hq
  have hmem : s.getD k Stg.zero ∈ s := by rw [List.getD_eq_getElem?_getD, List.getElem?_eq_getElem hk]; exact List.getElem_mem hk
  obtain ⟨g0, g1⟩ := hq _ hmem
  have hnx := fun i => some_next (s := s) i hk
  obtain ⟨x, hx⟩ : ∃ x, (s.getD k Stg.zero).g = x := ⟨_, rfl⟩
  rw [hx] at g0 g1 ⊢
  simp only [hx] at hnx
  obtain ⟨u, rfl⟩ := Int.eq_ofNat_of_zero_le g0
  have hu : u < 2 ^ n := by omega
  have h8 := pow_le hn
  refine ⟨t ||| u, or_set t u (by omega) (by omega), Nat.or_lt_two_pow ht hu, fun i => ?_⟩
  rw [Nat.testBit_or, hb, hnx, bit_nat]
theorem orTo_end {s : List Stg} {n : Nat} {o : Int} (h : OrTo s n s.length o) (hq : ∀ x ∈ s, 0 ≤ x.g ∧ x.g < ((2 ^ n : Nat) : Int)) : (o == ((2 ^ n : Nat) : Int) - 1) = (List.range n).all (someB s) := by
  obtain ⟨t, rfl, ht, hb⟩ := h hq
  simp only [some_all] at hb
  rw [Bool.eq_iff_iff, beq_iff_eq, List.all_eq_true]
  constructor
  · intro e i hi
    have e2 : t = 2 ^ n - 1 := by omega
    rw [← hb, e2, Nat.testBit_two_pow_sub_one]
    exact decide_eq_true (List.mem_range.1 hi)
  · intro hall
    have e2 : t = 2 ^ n - 1 := Nat.eq_of_testBit_eq fun i => by
      rw [Nat.testBit_two_pow_sub_one]
      by_cases hi : i < n
      · rw [decide_eq_true hi, hb]
        exact hall i (List.mem_range.2 hi)
      · rw [decide_eq_false hi]
        exact Nat.testBit_lt_two_pow (Nat.lt_of_lt_of_le ht (Nat.pow_le_pow_right (by omega) (by omega)))
    omega
def orAt (s : List Stg) : Nat → Int
  | 0 => 0
  | k + 1 => bits .or .i64 (orAt s k) (s.getD k Stg.zero).g
theorem orAt_to (s : List Stg) (n : Nat) (hn : n ≤ 8) : ∀ k, k ≤ s.length → OrTo s n k (orAt s k)
  | 0, _ => orTo_zero s n
  | k + 1, h => orTo_next hn (by omega) (orAt_to s n hn k (by omega))
def servedB (s : List Stg) (n : Nat) : Bool := orAt s s.length == ((2 ^ n : Nat) : Int) - 1
theorem served_all {s : List Stg} {n : Nat} (hn : n ≤ 8) (hq : ∀ x ∈ s, 0 ≤ x.g ∧ x.g < ((2 ^ n : Nat) : Int)) : servedB s n = (List.range n).all (someB s) := orTo_end (orAt_to s n hn _ (Nat.le_refl _)) hq
set_option maxHeartbeats 4000000 in
theorem served_any (p : Pl) (w : World) (hp : PlIn w p) (hn8 : p.n ≤ 8) : Calls Try.prog 89 #[plV p] w fun e w' => e = .returned (.bool (servedB p.s p.n)) ∧ Below w.heap.size w w' := by
  have hsk := hp.s.small
  have HSL := Lib.hid hp.s.len
  have h8 := pow_le hn8
  have hD := draft_new w p
  simp only [plV]
  obtain ⟨W0, hW0⟩ : ∃ W0, w.alloc (.cells #[.slice p.A p.n p.c, .slice p.B p.k p.d, .int .i64 p.am, .int .i64 p.rd, .int .i64 p.hd] 97) = W0 := ⟨_, rfl⟩
  have hB0 : Below w.heap.size w W0 := by rw [← hW0]; exact one_alloc w _
  have hs0 : W0.heap.size = w.heap.size + 1 := by rw [← hW0]; simp
  rw [hW0, ← hs0] at hD
  have HD := Lib.hid hD
  have HW := Lib.hid hW0
  have HB0 := Lib.hid hB0
  have HST := Lib.hid (hp.s.below hB0)
  obtain ⟨a0, a1, a2, a3, a4⟩ := hD W0 (Below.refl _ _)
  clear hD hW0 hB0 hs0 hp
  obtain ⟨A, n, c, m, B, k, d, s, am, rd, hd⟩ := p
  simp only at *
  obtain ⟨P, hP⟩ : ∃ P : Nat, 2 ^ n = P := ⟨_, rfl⟩
  have hPi : (2 : Int) ^ n = (P : Int) := by rw [pow_int, hP]
  have hpos : 0 < P := by rw [← hP]; exact Nat.pow_pos (by omega)
  have hw : IntKind.i64.wrap (1 * (2 : Int) ^ n) = (P : Int) := by rw [hPi, IntKind.wrap_i64]; rw [hP] at h8; omega
  go_enter Try.func89, Try.ntmps89
  go_wp2
  rw [HW.out]
  go_loopw [3, 5, 10] (fun o y v wr => ∃ j : Nat, ∃ x : Int, j ≤ k ∧ v = .int .i64 j ∧ o = .int .i64 x ∧ orAt s j = x ∧ Below W0.heap.size W0 wr) (fun _ _ v _ => k - (intOf v).toNat)
  case atStart => exact ⟨0, 0, by omega, rfl, rfl, rfl, Below.refl _ _⟩
  case round =>
    obtain ⟨j, o, hj, rfl, rfl, hor, hbw⟩ := hrel
    have HBW := Lib.hid hbw
    have HOR := Lib.hid hor
    by_cases hlt : j < k
    · have q1 : (j : Int) < k := by omega
      have q0 : 0 ≤ (j : Int) := by omega
      obtain ⟨b, off, x, rfl, hx, -, -, z0, z1, z2⟩ := (HST.out.below hbw).at_ j hlt
      have HN := Lib.hid (show orAt s (j + 1) = bits .or .i64 o x.g by rw [orAt, hor, hx])
      obtain ⟨g, mn, mx⟩ := x
      simp only at z0 z1 z2 HN
      have HB1 := Lib.hid (hbw.trans ((one_alloc wr (.cells #[.int .i64 g, .int .i64 mn, .int .i64 mx] 71)).mono hbw.size))
      clear hbw hor hx
      go_wp2
      go_roundw
      case rel => exact ⟨j + 1, _, by omega, by go_num, rfl, HN.out, HB1.out⟩
      case measure => simp [intOf]; omega
    · obtain rfl : j = k := by omega
      have hge : ¬ ((j : Int) < j) := by omega
      obtain ⟨a0, a1, a2, a3, a4⟩ := HD.out wr hbw
      have HE := Lib.hid (show servedB s n = (o == (P : Int) - 1) by rw [servedB, HSL.out, hor, hP])
      clear hbw hor
      go_wp2
      go_ret
      exact ⟨by rw [HE.out]; rfl, HB0.out.trans (HBW.out.mono HB0.out.size)⟩
end Go.Proofs.Ytgnhmdfajnnkhaa


/- Package plan's Fit. -/
namespace Go.Proofs.Ytgnhmdfajnnkhaa
set_option maxRecDepth 100000
set_option linter.unusedVariables false
set_option linter.unusedSimpArgs false
open Go.RowKit

theorem fit_sized {p : Pl} (h : (mayM p.m && decide (2 ≤ p.s.length ∧ p.s.length ≤ 6)) = false) : fitP p = false := by
  rw [fitP, ← Bool.and_assoc, h, Bool.false_and]
theorem fit_span {p : Pl} (h : spanB p = false) : fitP p = false := by
  rw [fitP, h]; simp
theorem stages_in {p : Pl} (hs : ∀ x ∈ p.s, stageB p.m x = true) : ∀ x ∈ p.s, 0 ≤ x.g ∧ x.g < ((2 ^ p.m.length : Nat) : Int) := fun x hx => by
  obtain ⟨-, ⟨g0, g1⟩, -⟩ := free_iff.1 (stage_iff.1 (hs x hx)).1
  rw [pow_int] at g1
  exact ⟨g0, g1⟩
theorem fit_served {p : Pl} (h : servedB p.s p.m.length = false) : fitP p = false := not_fit fun hf => by
  obtain ⟨⟨-, h8⟩, -, -⟩ := may_all hf.may
  rw [served_all h8 (stages_in fun x hx => stage_iff.2 (hf.stage x hx))] at h
  rw [List.all_eq_false] at h
  obtain ⟨i, hi, hno⟩ := h
  exact hno (some_iff.2 (hf.some i (List.mem_range.1 hi)))
theorem fit_yes {p : Pl} (h1 : (mayM p.m && decide (2 ≤ p.s.length ∧ p.s.length ≤ 6)) = true) (h2 : spanB p = true) (h3 : servedB p.s p.m.length = true) (hs : ∀ j, j < p.s.length → stageB p.m (p.s.getD j Stg.zero) = true) : fitP p = true := by
  rw [Bool.and_eq_true, decide_eq_true_eq] at h1
  obtain ⟨hm, h4, h6⟩ := h1
  obtain ⟨⟨-, h8⟩, -, -⟩ := may_all hm
  have hall : ∀ x ∈ p.s, stageB p.m x = true := fun x hx => by
    obtain ⟨j, hj, rfl⟩ := List.getElem_of_mem hx
    have := hs j hj
    rwa [List.getD_eq_getElem?_getD, List.getElem?_eq_getElem hj] at this
  rw [served_all h8 (stages_in hall)] at h3
  rw [fit_rest hm h4 h6 hs (fun i hi => List.all_eq_true.1 h3 i (List.mem_range.2 hi)), h2]
set_option maxHeartbeats 8000000 in
theorem fits_any (p : Pl) (w : World) (hp : PlIn w p) : Calls Try.prog 75 #[plV p] w fun e w' => e = .returned (.bool (fitP p)) ∧ Below w.heap.size w w' := by
  have hsk := hp.s.small
  have hML := hp.m.len
  have HSL := Lib.hid hp.s.len
  have hD := draft_new w p
  obtain ⟨W0, hW0⟩ : ∃ W0, w.alloc (.cells #[.slice p.A p.n p.c, .slice p.B p.k p.d, .int .i64 p.am, .int .i64 p.rd, .int .i64 p.hd] 97) = W0 := ⟨_, rfl⟩
  have hB0 : Below w.heap.size w W0 := by rw [← hW0]; exact one_alloc w _
  have hs0 : W0.heap.size = w.heap.size + 1 := by rw [← hW0]; simp
  rw [hW0, ← hs0] at hD
  have hp0 : PlIn W0 p := hp.below hB0
  have HD := Lib.hid hD
  have HW := Lib.hid hW0
  have HB0 := Lib.hid hB0
  have HSZ := Lib.hid (sized_any p W0 hp0)
  have HTM := Lib.hid (fun X => timed_any p X)
  have HTK := Lib.hid (fun (x : Stg) (X : World) (hX : Below W0.heap.size W0 X) => takes_any p x X (hp0.below hX))
  have HST := Lib.hid (hp0.s)
  have HFS := Lib.hid (fun j => fit_stage (p := p) (j := j))
  obtain ⟨b1, h1⟩ : ∃ b, (mayM p.m && decide (2 ≤ p.s.length ∧ p.s.length ≤ 6)) = b := ⟨_, rfl⟩
  obtain ⟨b2, h2⟩ : ∃ b, spanB p = b := ⟨_, rfl⟩
  have HSV := Lib.hid (show b1 = true → ∀ X, Below W0.heap.size W0 X → Calls Try.prog 89 #[plV p] X fun e w' => e = .returned (.bool (servedB p.s p.m.length)) ∧ Below X.heap.size X w' from fun hb X hX => by
    rw [hML]
    refine served_any p X (hp0.below hX) ?_
    rw [hb, Bool.and_eq_true] at h1
    obtain ⟨⟨-, h8⟩, -, -⟩ := may_all h1.1
    omega)
  obtain ⟨b3, h3⟩ : ∃ b, servedB p.s p.m.length = b := ⟨_, rfl⟩
  have HZ := Lib.hid (fit_sized (p := p))
  have HS := Lib.hid (fit_span (p := p))
  have HV := Lib.hid (fit_served (p := p))
  have HY := Lib.hid (fit_yes (p := p))
  obtain ⟨F, hF⟩ : ∃ F, fitP p = F := ⟨_, rfl⟩
  rw [h1] at HZ HY HSZ
  rw [h2] at HS HY HTM
  rw [h3] at HV HY HSV
  rw [hF] at HZ HS HV HY HFS ⊢
  obtain ⟨a0, a1, a2, a3, a4⟩ := hD W0 (Below.refl _ _)
  simp only [plV] at HSZ HTM HTK HSV ⊢
  clear hD hW0 hB0 hp hp0 h1 h2 h3 hs0 hML hF
  obtain ⟨A, n, c, m, B, k, d, s, am, rd, hd⟩ := p
  simp only at *
  cases b1
  · have HR := Lib.hid (HZ.out rfl)
    clear HZ
    go_enter Try.func75, Try.ntmps75
    go_wp2
    rw [HW.out]
    go_step3
    go_wp2
    go_step3
    go_wp2_with (go_at_call 87; (with_reducible refine (HSZ.out).mono ?_); rintro e w1 ⟨rfl, hb1⟩; have HB1 := Lib.hid (HB0.out.trans (hb1.mono HB0.out.size)); clear hb1)
    try rw [Exit.noGoto_ret]
    go_ret
    exact ⟨by rw [HR.out]; rfl, HB1.out⟩
  · cases b2
    · have HR := Lib.hid (HS.out rfl)
      clear HS
      go_enter Try.func75, Try.ntmps75
      go_wp2
      rw [HW.out]
      go_step3
      go_wp2
      go_step3
      go_wp2_with (first
        | (go_at_call 87; (with_reducible refine (HSZ.out).mono ?_); rintro e w1 ⟨rfl, hb1⟩; obtain ⟨a0, a1, a2, a3, a4⟩ := HD.out w1 hb1; have HB1 := Lib.hid hb1; clear hb1)
        | (go_at_call 88; (with_reducible refine (HTM.out _).mono ?_); rintro e w2 ⟨rfl, hb2⟩; have HB2 := Lib.hid (HB1.out.trans (hb2.mono HB1.out.size)); clear hb2))
      try rw [Exit.noGoto_ret]
      go_ret
      exact ⟨by rw [HR.out]; rfl, HB0.out.trans (HB2.out.mono HB0.out.size)⟩
    · have HSV2 := Lib.hid (HSV.out rfl)
      clear HSV
      cases b3
      · have HR := Lib.hid (HV.out rfl)
        clear HV
        go_enter Try.func75, Try.ntmps75
        go_wp2
        rw [HW.out]
        go_step3
        go_wp2
        go_step3
        go_wp2_with (first
          | (go_at_call 87; (with_reducible refine (HSZ.out).mono ?_); rintro e w1 ⟨rfl, hb1⟩; obtain ⟨a0, a1, a2, a3, a4⟩ := HD.out w1 hb1; have HB1 := Lib.hid hb1; clear hb1)
          | (go_at_call 88; (with_reducible refine (HTM.out _).mono ?_); rintro e w2 ⟨rfl, hb2⟩; have HB2 := Lib.hid (HB1.out.trans (hb2.mono HB1.out.size)); clear hb2; obtain ⟨c0, c1, c2, c3, c4⟩ := HD.out w2 HB2.out)
          | (go_at_call 89; (with_reducible refine (HSV2.out _ HB2.out).mono ?_); rintro e w3 ⟨rfl, hb3⟩; have HB3 := Lib.hid (HB2.out.trans (hb3.mono HB2.out.size)); clear hb3))
        try rw [Exit.noGoto_ret]
        go_ret
        exact ⟨by rw [HR.out]; rfl, HB0.out.trans (HB3.out.mono HB0.out.size)⟩
      · have HY2 := Lib.hid (HY.out rfl rfl rfl)
        clear HY HV HS HZ
        go_enter Try.func75, Try.ntmps75
        go_wp2
        rw [HW.out]
        go_step3
        go_wp2
        go_step3
        go_wp2_with (first
          | (go_at_call 87; (with_reducible refine (HSZ.out).mono ?_); rintro e w1 ⟨rfl, hb1⟩; obtain ⟨a0, a1, a2, a3, a4⟩ := HD.out w1 hb1; have HB1 := Lib.hid hb1; clear hb1)
          | (go_at_call 88; (with_reducible refine (HTM.out _).mono ?_); rintro e w2 ⟨rfl, hb2⟩; have HB2 := Lib.hid (HB1.out.trans (hb2.mono HB1.out.size)); clear hb2; obtain ⟨c0, c1, c2, c3, c4⟩ := HD.out w2 HB2.out)
          | (go_at_call 89; (with_reducible refine (HSV2.out _ HB2.out).mono ?_); rintro e w3 ⟨rfl, hb3⟩; have HB3 := Lib.hid (HB2.out.trans (hb3.mono HB2.out.size)); clear hb3; obtain ⟨d0, d1, d2, d3, d4⟩ := HD.out w3 HB3.out))
        clear a0 a1 a2 a3 a4 c0 c1 c2 c3 c4 d0 d1 d2 d3 d4
        go_loopw [4, 9] (fun y v wr => ∃ j : Nat, j ≤ k ∧ v = .int .i64 j ∧ (∀ i, i < j → stageB m (s.getD i Stg.zero) = true) ∧ Below W0.heap.size W0 wr) (fun _ v _ => k - (intOf v).toNat)
        case atStart => exact ⟨0, by omega, rfl, fun i hi => by omega, HB3.out⟩
        case round =>
          obtain ⟨j, hj, rfl, hall, hbw⟩ := hrel
          have HBW := Lib.hid hbw
          have HAL := Lib.hid hall
          clear hall
          by_cases hlt : j < k
          · have q1 : (j : Int) < k := by omega
            have q0 : 0 ≤ (j : Int) := by omega
            obtain ⟨b, off, x, rfl, hx, -, -, z0, z1, z2⟩ := (HST.out.below hbw).at_ j hlt
            have HFJ := Lib.hid (HFS.out j (by rw [HSL.out]; exact hlt))
            rw [hx] at HFJ
            have HX := Lib.hid hx
            have HTX := Lib.hid (HTK.out x)
            have hone := one_alloc wr (.cells #[.int .i64 x.g, .int .i64 x.mn, .int .i64 x.mx] 71)
            have HB4 := Lib.hid (hbw.trans (hone.mono hbw.size))
            obtain ⟨e0, e1, e2, e3, e4⟩ := HD.out _ HB4.out
            clear hbw hx hone
            cases hs : stageB m x
            · rw [hs] at HTX
              have HR := Lib.hid (HFJ.out hs)
              clear hs
              go_wp2_with (go_at_call 90; (with_reducible refine (HTX.out _ HB4.out).mono ?_); rintro e w5 ⟨rfl, hb5⟩; have HB5 := Lib.hid (HB4.out.trans (hb5.mono HB4.out.size)); clear hb5)
              try rw [Exit.noGoto_ret]
              go_ret
              exact ⟨by rw [HR.out]; rfl, HB0.out.trans (HB5.out.mono HB0.out.size)⟩
            · rw [hs] at HTX
              have HN := Lib.hid (show ∀ i, i < j + 1 → stageB m (s.getD i Stg.zero) = true from fun i hi => by
                by_cases e : i = j
                · rw [e, HX.out]; exact hs
                · exact HAL.out i (by omega))
              clear hs
              go_wp2_with (go_at_call 90; (with_reducible refine (HTX.out _ HB4.out).mono ?_); rintro e w5 ⟨rfl, hb5⟩; have HB5 := Lib.hid (HB4.out.trans (hb5.mono HB4.out.size)); clear hb5)
              go_roundw
              case rel => exact ⟨j + 1, by omega, by go_num, HN.out, HB5.out⟩
              case measure => simp [intOf]; omega
          · obtain rfl : j = k := by omega
            have hge : ¬ ((j : Int) < j) := by omega
            have HR := Lib.hid (HY2.out (fun i hi => HAL.out i (by rw [HSL.out] at hi; exact hi)))
            go_wp2
            try rw [Exit.noGoto_ret]
            go_ret
            exact ⟨by rw [HR.out]; rfl, HB0.out.trans (HBW.out.mono HB0.out.size)⟩
theorem fit_any (p : Pl) (X : World) (h : PlIn X p) : Calls Try.prog 59 #[plV p] X fun e w' => e = .returned (.bool (fitP p)) ∧ Below X.heap.size X w' := by
  have HR := Lib.hid (fun X' (hX : Below X.heap.size X X') => fits_any p X' (h.below hX))
  simp only [plV] at HR ⊢
  go_enter Try.func59, Try.ntmps59
  go_wp2_with (go_at_call 75; (with_reducible refine (HR.out _ (one_alloc _ _)).mono ?_); rintro e w1 ⟨rfl, hb⟩)
  go_ret
  exact ⟨rfl, (show Below X.heap.size X _ from (one_alloc _ _)).trans (hb.mono (by simp <;> omega))⟩
end Go.Proofs.Ytgnhmdfajnnkhaa


/- Pure facts of plans, for the laws. -/
namespace Go.Proofs.Ytgnhmdfajnnkhaa
set_option maxRecDepth 100000
set_option linter.unusedVariables false
set_option linter.unusedSimpArgs false
open Go.RowKit

end Go.Proofs.Ytgnhmdfajnnkhaa


/- Package plan's calls All, Same, Next, Least, Cycle; with Fit they are all that the laws stand on. -/
namespace Go.Proofs.Ytgnhmdfajnnkhaa
set_option maxRecDepth 100000
set_option linter.unusedVariables false
set_option linter.unusedSimpArgs false
open Go.RowKit

set_option maxHeartbeats 8000000 in
theorem pall_own (A : Option Addr) (n c : Nat) (l : List Pl) (w : World) (hl : Pls w A n c l) : Calls Try.prog 42 #[.slice A n c] w fun e w' => e = .returned (.bool (allP l)) ∧ Below w.heap.size w w' := by
  have hsm := hl.small
  have HLL := Lib.hid hl.len
  by_cases hn : n < 1 ∨ 3 < n
  · have HR := Lib.hid (show allP l = false by rw [← Bool.not_eq_true, all_iff]; rintro ⟨h, -⟩; have := HLL.out; omega)
    rcases hn with hn | hn
    all_goals
      clear hl
      go_enter Try.func42, Try.ntmps42
      go_wp2
      go_ret
      exact ⟨by rw [HR.out]; rfl, Below.refl _ _⟩
  · have hn1 : ¬ ((n : Int) < 1) := by omega
    have hn3 : ¬ (3 < (n : Int)) := by omega
    obtain ⟨b, off, p0, rfl, hp0, -, -, hpi0, -⟩ := hl.at_ 0 (by omega)
    have HP0 := Lib.hid hp0
    have HPI0 := Lib.hid hpi0
    have HL := Lib.hid hl
    have hq3 : (0 : Int) < n := by omega
    clear hp0 hpi0 hl
    go_enter Try.func42, Try.ntmps42
    go_wp2
    go_loopw [4, 15] (fun y v wr => ∃ j : Nat, j ≤ n ∧ v = .int .i64 j ∧ (∀ i, i < j → fitP (l.getD i Pl.zero) = true ∧ (l.getD i Pl.zero).m.length = (l.getD 0 Pl.zero).m.length) ∧ Below w.heap.size w wr) (fun _ v _ => n - (intOf v).toNat)
    case atStart => exact ⟨0, by omega, rfl, fun i hi => by omega, Below.refl _ _⟩
    case round =>
      obtain ⟨j, hj, rfl, hall, hbw⟩ := hrel
      have HBW := Lib.hid hbw
      have HAL := Lib.hid hall
      clear hall
      by_cases hlt : j < n
      · have hlt2 : (j : Int) < n := by omega
        have q0 : 0 ≤ (j : Int) := by omega
        obtain ⟨b', off', q, hA, hq, -, -, hqi, z0, z1, z2, z3, z4⟩ := (HL.out.below hbw).at_ j hlt
        cases hA
        obtain ⟨Wa, hWa⟩ : ∃ Wa, wr.alloc (.cells #[.slice q.A q.n q.c, .slice q.B q.k q.d, .int .i64 q.am, .int .i64 q.rd, .int .i64 q.hd] 47) = Wa := ⟨_, rfl⟩
        have hBa : Below wr.heap.size wr Wa := by rw [← hWa]; exact one_alloc wr _
        have hBX : BoxP Wa wr.heap.size q := by rw [← hWa]; exact BoxP.new wr q
        have HB3 := Lib.hid (hbw.trans (hBa.mono hbw.size))
        have HFT := Lib.hid (fun X (hX : Below Wa.heap.size Wa X) => fit_any q X ((hqi.below hBa).below hX))
        simp only [plV] at HFT
        have HF := Lib.hid (show ∀ X, Below Wa.heap.size Wa X → X.cell? ⟨wr.heap.size, 0, none⟩ = some (.slice q.A q.n q.c) ∧ X.cell? ⟨wr.heap.size, 1, none⟩ = some (.slice q.B q.k q.d) ∧ X.cell? ⟨wr.heap.size, 2, none⟩ = some (.int .i64 q.am) ∧ X.cell? ⟨wr.heap.size, 3, none⟩ = some (.int .i64 q.rd) ∧ X.cell? ⟨wr.heap.size, 4, none⟩ = some (.int .i64 q.hd) ∧ X.cell? ⟨b, off, none⟩ = some (.slice p0.A p0.n p0.c) from fun X hX => by
          obtain ⟨y0, y1, y2, y3, y4⟩ := (hBX.below hX).cells
          have hX0 := HB3.out.trans (hX.mono HB3.out.size)
          obtain ⟨b3, off3, q3, hA3, hq3, -, -, -, y5, -, -, -, -⟩ := (HL.out.below hX0).at_ 0 (by omega)
          cases hA3
          obtain rfl := HP0.out.symm.trans hq3
          exact ⟨y0, y1, y2, y3, y4, by simpa using y5⟩)
        have HWA := Lib.hid hWa
        have HQL := Lib.hid hqi.m.len
        have HQ := Lib.hid hq
        have hqs := hqi.m.small
        clear hbw hqi hq hBa hBX hWa
        cases hf : fitP q with
        | false =>
          rw [hf] at HFT
          have HR := Lib.hid (all_no (l := l) (j := j) (by rw [HLL.out]; exact hlt) (.inl (by rw [HQ.out]; exact hf)))
          clear hf
          go_wp2
          rw [HWA.out]
          clear z0 z1 z2 z3 z4
          have hSd : Below Wa.heap.size Wa Wa.drew := (Below.refl _ Wa).drew
          refine wp_region_held_drew (S := fun X => Below Wa.heap.size Wa X) (by kernel_rfl) hSd (fun hHeld => ?_)
          refine tkS 0 (.agg #[.slice q.A q.n q.c, .slice q.B q.k q.d, .int .i64 q.am, .int .i64 q.rd, .int .i64 q.hd]) hHeld (fun w hq => ?_) ?_
          · obtain ⟨z0, z1, z2, z3, z4, z5⟩ := HF.out w hq
            go_simp
          simp only [PT]
          refine one_step 1 (by kernel_rfl) rfl (fun Kq hKq => ?_)
          go_simp
          go_at_call 59
          (with_reducible refine (HFT.out _ hSd).mono ?_)
          rintro e y1 ⟨rfl, hbx⟩
          have hS1 : Below Wa.heap.size Wa y1 := hSd.trans (hbx.mono hSd.size)
          clear hbx
          refine hKq.out _ _ hS1 (fun hHeld0 => ?_)
          clear hKq Kq hHeld
          have hHeld := hHeld0
          clear hHeld0
          try simp only [PT]
          refine tk 2 (.bool true) hHeld (fun w => ?_) ?_
          · go_simp
          simp only [PT]
          refine tk 3 (.bool true) hHeld (fun w => ?_) ?_
          · go_simp
          simp only [PT]
          refine tkO 4 hHeld ?_
          simp only [PT]
          refine tkO 5 hHeld ?_
          simp only [PT]
          refine tkO 6 hHeld ?_
          simp only [PT]
          refine tkO 7 hHeld ?_
          simp only [PT]
          refine tkO 8 hHeld ?_
          simp only [PT]
          refine tkO 9 hHeld ?_
          simp only [PT]
          refine tkO 10 hHeld ?_
          simp only [PT]
          refine tkO 11 hHeld ?_
          simp only [PT]
          refine tkO 12 hHeld ?_
          simp only [PT]
          refine tk 13 (.bool true) hHeld (fun w => ?_) ?_
          · go_simp
          simp only [PT]
          refine wpAnyH_done (by kernel_rfl) ?_ _
          clear hHeld
          go_wp2
          go_ret
          exact ⟨by rw [HR.out]; rfl, HB3.out.trans (hS1.mono HB3.out.size)⟩
        | true =>
          rw [hf] at HFT
          obtain ⟨D, hD⟩ : ∃ D, ((q.n : Int) != (p0.n : Int)) = D := ⟨_, rfl⟩
          have hqm := HQL.out
          have hpm := HPI0.out.m.len
          cases D
          · have HN := Lib.hid (show ∀ i, i < j + 1 → fitP (l.getD i Pl.zero) = true ∧ (l.getD i Pl.zero).m.length = (l.getD 0 Pl.zero).m.length from fun i hi => by
              by_cases e : i = j
              · subst e
                rw [HQ.out, HP0.out]
                exact ⟨hf, by simp at hD; omega⟩
              · exact HAL.out i (by omega))
            clear hf hqm hpm
            go_wp2
            rw [HWA.out]
            clear z0 z1 z2 z3 z4
            have hSd : Below Wa.heap.size Wa Wa.drew := (Below.refl _ Wa).drew
            refine wp_region_held_drew (S := fun X => Below Wa.heap.size Wa X) (by kernel_rfl) hSd (fun hHeld => ?_)
            refine tkS 0 (.agg #[.slice q.A q.n q.c, .slice q.B q.k q.d, .int .i64 q.am, .int .i64 q.rd, .int .i64 q.hd]) hHeld (fun w hq => ?_) ?_
            · obtain ⟨z0, z1, z2, z3, z4, z5⟩ := HF.out w hq
              go_simp
            simp only [PT]
            refine one_step 1 (by kernel_rfl) rfl (fun Kq hKq => ?_)
            go_simp
            go_at_call 59
            (with_reducible refine (HFT.out _ hSd).mono ?_)
            rintro e y1 ⟨rfl, hbx⟩
            have hS1 : Below Wa.heap.size Wa y1 := hSd.trans (hbx.mono hSd.size)
            clear hbx
            refine hKq.out _ _ hS1 (fun hHeld0 => ?_)
            clear hKq Kq hHeld
            have hHeld := hHeld0
            clear hHeld0
            try simp only [PT]
            refine tk 2 (.bool false) hHeld (fun w => ?_) ?_
            · go_simp
            simp only [PT]
            refine tk 3 (.bool false) hHeld (fun w => ?_) ?_
            · go_simp
            simp only [PT]
            refine tk 4 (.pointer (some ⟨wr.heap.size, 0, none⟩)) hHeld (fun w => ?_) ?_
            · go_simp
            simp only [PT]
            refine tkS 5 (.slice q.A q.n q.c) hHeld (fun w hq => ?_) ?_
            · obtain ⟨z0, z1, z2, z3, z4, z5⟩ := HF.out w hq
              go_simp
            simp only [PT]
            refine tk 6 (.int .i64 (q.n : Int)) hHeld (fun w => ?_) ?_
            · go_simp
            simp only [PT]
            refine tk 7 (.slice (some ⟨b, off, none⟩) n c) hHeld (fun w => ?_) ?_
            · go_simp
            simp only [PT]
            refine tk 8 (.pointer (some ⟨b, off, none⟩)) hHeld (fun w => ?_) ?_
            · (go_simp; intro hz; omega)
            simp only [PT]
            refine tk 9 (.pointer (some ⟨b, off, none⟩)) hHeld (fun w => ?_) ?_
            · go_simp
            simp only [PT]
            refine tkS 10 (.slice p0.A p0.n p0.c) hHeld (fun w hq => ?_) ?_
            · obtain ⟨z0, z1, z2, z3, z4, z5⟩ := HF.out w hq
              go_simp
            simp only [PT]
            refine tk 11 (.int .i64 (p0.n : Int)) hHeld (fun w => ?_) ?_
            · go_simp
            simp only [PT]
            refine tk 12 (.bool false) hHeld (fun w => ?_) ?_
            · go_simp
            simp only [PT]
            refine tk 13 (.bool false) hHeld (fun w => ?_) ?_
            · go_simp
            simp only [PT]
            refine wpAnyH_done (by kernel_rfl) ?_ _
            clear hHeld
            go_wp2
            go_roundw
            case rel => exact ⟨j + 1, by omega, by go_num, HN.out, HB3.out.trans (hS1.mono HB3.out.size)⟩
            case measure => simp [intOf]; omega
          · have HR := Lib.hid (all_no (l := l) (j := j) (by rw [HLL.out]; exact hlt) (.inr (by rw [HQ.out, HP0.out]; simp at hD; omega)))
            clear hf hqm hpm
            go_wp2
            rw [HWA.out]
            clear z0 z1 z2 z3 z4
            have hSd : Below Wa.heap.size Wa Wa.drew := (Below.refl _ Wa).drew
            refine wp_region_held_drew (S := fun X => Below Wa.heap.size Wa X) (by kernel_rfl) hSd (fun hHeld => ?_)
            refine tkS 0 (.agg #[.slice q.A q.n q.c, .slice q.B q.k q.d, .int .i64 q.am, .int .i64 q.rd, .int .i64 q.hd]) hHeld (fun w hq => ?_) ?_
            · obtain ⟨z0, z1, z2, z3, z4, z5⟩ := HF.out w hq
              go_simp
            simp only [PT]
            refine one_step 1 (by kernel_rfl) rfl (fun Kq hKq => ?_)
            go_simp
            go_at_call 59
            (with_reducible refine (HFT.out _ hSd).mono ?_)
            rintro e y1 ⟨rfl, hbx⟩
            have hS1 : Below Wa.heap.size Wa y1 := hSd.trans (hbx.mono hSd.size)
            clear hbx
            refine hKq.out _ _ hS1 (fun hHeld0 => ?_)
            clear hKq Kq hHeld
            have hHeld := hHeld0
            clear hHeld0
            try simp only [PT]
            refine tk 2 (.bool false) hHeld (fun w => ?_) ?_
            · go_simp
            simp only [PT]
            refine tk 3 (.bool false) hHeld (fun w => ?_) ?_
            · go_simp
            simp only [PT]
            refine tk 4 (.pointer (some ⟨wr.heap.size, 0, none⟩)) hHeld (fun w => ?_) ?_
            · go_simp
            simp only [PT]
            refine tkS 5 (.slice q.A q.n q.c) hHeld (fun w hq => ?_) ?_
            · obtain ⟨z0, z1, z2, z3, z4, z5⟩ := HF.out w hq
              go_simp
            simp only [PT]
            refine tk 6 (.int .i64 (q.n : Int)) hHeld (fun w => ?_) ?_
            · go_simp
            simp only [PT]
            refine tk 7 (.slice (some ⟨b, off, none⟩) n c) hHeld (fun w => ?_) ?_
            · go_simp
            simp only [PT]
            refine tk 8 (.pointer (some ⟨b, off, none⟩)) hHeld (fun w => ?_) ?_
            · (go_simp; intro hz; omega)
            simp only [PT]
            refine tk 9 (.pointer (some ⟨b, off, none⟩)) hHeld (fun w => ?_) ?_
            · go_simp
            simp only [PT]
            refine tkS 10 (.slice p0.A p0.n p0.c) hHeld (fun w hq => ?_) ?_
            · obtain ⟨z0, z1, z2, z3, z4, z5⟩ := HF.out w hq
              go_simp
            simp only [PT]
            refine tk 11 (.int .i64 (p0.n : Int)) hHeld (fun w => ?_) ?_
            · go_simp
            simp only [PT]
            refine tk 12 (.bool true) hHeld (fun w => ?_) ?_
            · go_simp
            simp only [PT]
            refine tk 13 (.bool true) hHeld (fun w => ?_) ?_
            · go_simp
            simp only [PT]
            refine wpAnyH_done (by kernel_rfl) ?_ _
            clear hHeld
            go_wp2
            go_ret
            exact ⟨by rw [HR.out]; rfl, HB3.out.trans (hS1.mono HB3.out.size)⟩
      · obtain rfl : j = n := by omega
        have hge : ¬ ((j : Int) < j) := by omega
        have HR := Lib.hid (all_yes (l := l) (by have := HLL.out; omega) (fun i hi => HAL.out i (by rw [HLL.out] at hi; exact hi)))
        go_wp2
        go_ret
        exact ⟨by rw [HR.out]; rfl, HBW.out⟩
set_option maxHeartbeats 8000000 in
theorem pnext_own (p : Pl) (x : Int) (w : World) (hp : PlIn w p) : Calls Try.prog 91 #[plV p, .int .i64 x] w fun e w' => e = .returned (.int .i64 (nextP p x)) ∧ Below w.heap.size w w' := by
  have hsk := hp.s.small
  have hsm := hp.m.small
  have hSL := hp.s.len
  have hML := hp.m.len
  obtain ⟨W0, hW0⟩ : ∃ W0, w.alloc (.cells #[.slice p.A p.n p.c, .slice p.B p.k p.d, .int .i64 p.am, .int .i64 p.rd, .int .i64 p.hd] 47) = W0 := ⟨_, rfl⟩
  have hB0 : Below w.heap.size w W0 := by rw [← hW0]; exact one_alloc w _
  have hp0 : PlIn W0 p := hp.below hB0
  have hbp : BoxP W0 w.heap.size p := by rw [← hW0]; exact BoxP.new w p
  have HFT := Lib.hid (fit_any p W0 hp0)
  simp only [plV] at HFT ⊢
  have HW := Lib.hid hW0
  have HB0 := Lib.hid hB0
  have HAC := Lib.hid (show ∀ X, Below W0.heap.size W0 X → X.cell? ⟨w.heap.size, 0, none⟩ = some (.slice p.A p.n p.c) ∧ X.cell? ⟨w.heap.size, 1, none⟩ = some (.slice p.B p.k p.d) ∧ X.cell? ⟨w.heap.size, 2, none⟩ = some (.int .i64 p.am) ∧ X.cell? ⟨w.heap.size, 3, none⟩ = some (.int .i64 p.rd) ∧ X.cell? ⟨w.heap.size, 4, none⟩ = some (.int .i64 p.hd) from fun X hX => (hbp.below hX).cells)
  have HSL := Lib.hid hSL
  have HML := Lib.hid hML
  have HP := Lib.hid hp0
  obtain ⟨a0, a1, a2, a3, a4⟩ := HAC.out W0 (Below.refl _ _)
  clear hW0 hB0 hbp hp hp0
  cases hf : fitP p with
  | false =>
    rw [hf] at HFT
    have HR := Lib.hid (show nextP p x = -1 from if_neg fun h => by rw [hf] at h; cases h.1)
    clear hf
    clear a0 a1 a2 a3 a4 hSL hML
    obtain ⟨A, n, c, m, B, k, d, s, am, rd, hd⟩ := p
    simp only at *
    go_enter Try.func91, Try.ntmps91
    go_wp2_with (go_at_call 59; rw [HW.out]; (with_reducible refine (HFT.out).mono ?_); rintro e w1 ⟨rfl, hb1⟩; obtain ⟨c0, c1, c2, c3, c4⟩ := HAC.out _ hb1; have HB1 := Lib.hid hb1; clear hb1)
    go_ret
    exact ⟨by rw [HR.out]; rfl, HB0.out.trans (HB1.out.mono HB0.out.size)⟩
  | true =>
    rw [hf] at HFT
    by_cases hac : x < 0
    · have HR := Lib.hid (show nextP p x = -1 from if_neg fun h => by omega)
      clear hf
      clear a0 a1 a2 a3 a4 hSL hML
      obtain ⟨A, n, c, m, B, k, d, s, am, rd, hd⟩ := p
      simp only at *
      go_enter Try.func91, Try.ntmps91
      go_wp2_with (go_at_call 59; rw [HW.out]; (with_reducible refine (HFT.out).mono ?_); rintro e w1 ⟨rfl, hb1⟩; obtain ⟨c0, c1, c2, c3, c4⟩ := HAC.out _ hb1; have HB1 := Lib.hid hb1; clear hb1)
      go_ret
      exact ⟨by rw [HR.out]; rfl, HB0.out.trans (HB1.out.mono HB0.out.size)⟩
    by_cases hbc : (p.k : Int) ≤ x
    · have HR := Lib.hid (show nextP p x = -1 from if_neg fun h => by have := HSL.out; omega)
      clear hf
      clear a0 a1 a2 a3 a4 hSL hML
      obtain ⟨A, n, c, m, B, k, d, s, am, rd, hd⟩ := p
      simp only at *
      go_enter Try.func91, Try.ntmps91
      go_wp2_with (go_at_call 59; rw [HW.out]; (with_reducible refine (HFT.out).mono ?_); rintro e w1 ⟨rfl, hb1⟩; obtain ⟨c0, c1, c2, c3, c4⟩ := HAC.out _ hb1; have HB1 := Lib.hid hb1; clear hb1)
      go_ret
      exact ⟨by rw [HR.out]; rfl, HB0.out.trans (HB1.out.mono HB0.out.size)⟩
    have hfx : fitP p = true ∧ 0 ≤ x ∧ x < p.s.length := ⟨hf, by omega, by omega⟩
    have hf2 := (fit_iff.1 hf).two
    have hwx : wrap64 (x + 1) = x + 1 := by unfold wrap64; omega
    have hk0 : ¬ ((p.k : Int) = 0) := by omega
    have HR := Lib.hid (show nextP p x = (x + 1) % (p.k : Int) by
      rw [nextP, if_pos hfx]
      by_cases hl : x = (p.s.length : Int) - 1
      · rw [if_pos hl, show x + 1 = (p.k : Int) by omega, Int.emod_self]
      · rw [if_neg hl, Int.emod_eq_of_lt (by omega) (by omega)])
    clear hfx hf hf2
    clear a0 a1 a2 a3 a4 hSL hML
    obtain ⟨A, n, c, m, B, k, d, s, am, rd, hd⟩ := p
    simp only at *
    go_enter Try.func91, Try.ntmps91
    go_wp2_with (go_at_call 59; rw [HW.out]; (with_reducible refine (HFT.out).mono ?_); rintro e w1 ⟨rfl, hb1⟩; obtain ⟨c0, c1, c2, c3, c4⟩ := HAC.out _ hb1; have HB1 := Lib.hid hb1; clear hb1)
    go_ret
    exact ⟨by rw [HR.out]; rfl, HB0.out.trans (HB1.out.mono HB0.out.size)⟩
end Go.Proofs.Ytgnhmdfajnnkhaa


/- A strings.Builder of the call's own: one letter more is written, what it holds is read. -/
namespace Go.Proofs.Ytgnhmdfajnnkhaa
set_option maxRecDepth 100000
set_option linter.unusedVariables false
set_option linter.unusedSimpArgs false
open Go.RowKit

theorem info_sb : ((Try.prog.info? 85).map (·.size)) = some 2 := by kernel_rfl
theorem lies_sb : liesAt Try.prog Try.prog.depth 85 (2 / Try.prog.cellsOf 85) 0 85 1 = true := by kernel_rfl
theorem info_u8 : (Try.prog.info? 5).map (fun i => (i.zero, i.size, i.bytes)) = some (some (.int .u8 0), 1, 1) := by kernel_rfl
theorem cells_u8 : Try.prog.cellsOf 5 = 1 := by kernel_rfl
set_option maxHeartbeats 1000000 in
theorem check_used (b : Nat) (w : World) (h0 : w.cell? ⟨b, 0, none⟩ = some (.pointer (some ⟨b, 0, none⟩))) : Calls Try.prog 78 #[.pointer (some ⟨b, 0, none⟩)] w fun e w' => e = .returned (.tuple #[]) ∧ w' = w := by
  obtain ⟨j, hj, -⟩ := Option.map_eq_some_iff.1 info_sb
  go_enter Try.func78, Try.ntmps78
  go_wp2
  rw [Lib.run_neq_ptr_same w _ Try.underlying82 hj]
  go_wp2
  go_end0
  exact ⟨rfl, rfl⟩
set_option maxHeartbeats 1000000 in
theorem check_fresh (b : Nat) (w : World) (h0 : w.cell? ⟨b, 0, none⟩ = some (.pointer none)) (hsh : w.shape? b = some (85, 2)) (hfz : w.frozen? ⟨b, 0, none⟩ = false) : Calls Try.prog 78 #[.pointer (some ⟨b, 0, none⟩)] w fun e w' => e = .returned (.tuple #[]) ∧ w' = w.setCell ⟨b, 0, none⟩ (.pointer (some ⟨b, 0, none⟩)) := by
  obtain ⟨j, hj, hjs⟩ := Option.map_eq_some_iff.1 info_sb
  go_enter Try.func78, Try.ntmps78
  go_wp2
  rw [Lib.run_to_unsafe w ⟨b, 0, none⟩ Try.underlying82 Try.underlying110 hj (by rw [hjs]; decide) hsh (Nat.zero_lt_succ 1)]
  simp only [Result.andThen]
  rw [Oper.upon_value]
  go_wp2
  rw [run_callFunc_extern Try.func92 (by kernel_rfl) (by kernel_rfl) (by kernel_rfl) (e := Extern.AbiNoEscape.same) (by kernel_rfl)]
  rw [Lib.run_noEscape]
  simp only [Result.andThen]
  rw [Oper.upon_value]
  go_wp2
  rw [Lib.run_from_unsafe w ⟨b, 0, none⟩ Try.underlying110 Try.underlying82 hj hsh lies_sb]
  simp only [Result.andThen]
  rw [Oper.upon_value]
  go_wp2
  go_end0
  exact ⟨rfl, rfl⟩
theorem check_any (B b : Nat) (bs : List Value) (w : World) (h : Lib.IsBuilder 85 5 B b bs w) : Calls Try.prog 78 #[.pointer (some ⟨b, 0, none⟩)] w fun e w' => e = .returned (.tuple #[]) ∧ (Lib.BuilderAt 85 5 B b (.pointer (some ⟨b, 0, none⟩)) bs w' ∧ Below B w w') := by
  rcases h with h | h
  · refine (check_fresh b w h.cell0 h.shape h.frozen0).mono ?_
    rintro e w' ⟨rfl, rfl⟩
    exact ⟨rfl, h.used _, (Below.refl B w).setCell (p := ⟨b, 0, none⟩) h.1 _⟩
  · refine (check_used b w h.cell0).mono ?_
    rintro e w' ⟨rfl, rfl⟩
    exact ⟨rfl, h, Below.refl B _⟩
set_option maxHeartbeats 2000000 in
/-- AppendRune of a rune of one byte, onto a row of the call's own -/
theorem rune_any (B : Nat) (v : Value) (bs : List Value) (r : Int) (hr0 : 0 ≤ r) (hr1 : r < 128) (w : World) (hown : w.ownsRow B 5 1 v bs.length bs) (hlen : bs.length ≤ 1000) (hBw : B ≤ w.heap.size) : Calls Try.prog 79 #[v, .int .i32 r] w fun e w' => ∃ g cap, e = .returned (.slice (some ⟨g, 0, none⟩) (bs.length + 1) cap) ∧ w'.ownsRow B 5 1 (.slice (some ⟨g, 0, none⟩) (bs.length + 1) cap) (bs.length + 1) (bs ++ [.int .u8 r]) ∧ (w.alloc (.cells #[.int .u8 r] 5)).grownBy w' v.ownBlock := by
  obtain ⟨i0, hi, hz0, hz1, hz2⟩ := info_parts info_u8
  have hcv : IntKind.wrap .u8 r = r := by rw [IntKind.wrap_u8']; omega
  have hcu : IntKind.wrap .u32 r = r := by rw [IntKind.wrap_u32']; omega
  have hle : r ≤ 127 := by omega
  go_enter Try.func79, Try.ntmps79
  go_wp2_with (at_builtin; refine wpList_append_own _ rfl _ _ 83 rfl B 5 i0 (.int .u8 0) 1 1 Try.underlying83 hi hz0 hz1 hz2 rfl (by decide) _ _ _ rfl (hown.alloc _) ⟨w.heap.size, 0, none⟩ 1 1 [.int .u8 r] rfl rfl ?c1 ?c2 ?c3 ?c4 ?c5 ?_)
  case c1 =>
    intro j u hj
    match j, hj with
    | 0, hj => simp at hj; subst hj; simp [Addr.add]
  case c2 => intro u hu; simp at hu; subst hu; rfl
  case c3 => unfold maxLen; omega
  case c4 => omega
  case c5 => simp; omega
  intro v' w2 hown' hgrow _
  obtain ⟨g, cap2, rfl⟩ : ∃ g cap, v' = .slice (some ⟨g, 0, none⟩) (bs.length + 1) cap := by
    rcases hown'.2 with ⟨_, h0⟩ | ⟨g, cap, cur, hv, _⟩
    · omega
    · exact ⟨g, cap, hv⟩
  go_wp2
  go_ret
  exact ⟨g, cap2, rfl, hown', hgrow⟩
set_option maxHeartbeats 2000000 in
/-- WriteRune at a rune of one byte -/
theorem write_any (B b : Nat) (bs : List Value) (r : Int) (hr0 : 0 ≤ r) (hr1 : r < 128) (w : World) (h : Lib.IsBuilder 85 5 B b bs w) (hlen : bs.length ≤ 1000) (hBw : B ≤ w.heap.size) : Calls Try.prog 67 #[.pointer (some ⟨b, 0, none⟩), .int .i32 r] w fun e w' => (∃ z, e = .returned z) ∧ (Lib.BuilderAt 85 5 B b (.pointer (some ⟨b, 0, none⟩)) (bs ++ [.int .u8 r]) w' ∧ Below B w w') := by
  go_enter Try.func67, Try.ntmps67
  go_wp2_with (go_at_call 78; refine (check_any B b bs _ h).mono ?_)
  rintro e w1 ⟨rfl, h1, hb1⟩
  obtain ⟨hB, v, hbk, hown, hne⟩ := h1
  have c0 : w1.cell? ⟨b, 0, none⟩ = some (.pointer (some ⟨b, 0, none⟩)) := by rw [Lib.cell_of_heap hbk]; rfl
  have c1 : w1.cell? ⟨b, 1, none⟩ = some v := by rw [Lib.cell_of_heap hbk]; rfl
  have hlt : b < w1.heap.size := by
    rcases Nat.lt_or_ge b w1.heap.size with h' | h'
    · exact h'
    · simp [Array.getElem?_eq_none h'] at hbk
  obtain ⟨ao, cap, hv⟩ : ∃ ao cap, v = .slice ao bs.length cap := by
    rcases hown.2 with ⟨hv, h0⟩ | ⟨g, cap, cur, hv, _⟩
    · exact ⟨none, 0, by rw [hv, h0]⟩
    · exact ⟨_, _, hv⟩
  have HRU := Lib.hid (rune_any B v bs r hr0 hr1 w1 hown hlen (by have := hb1.size; omega))
  have HK := Lib.hid (show ∀ w2, (w1.alloc (.cells #[.int .u8 r] 5)).grownBy w2 v.ownBlock → w2.heap[b]? = some (.cells #[.pointer (some ⟨b, 0, none⟩), v] 85 (0, 0)) ∧ Below B w w2 from fun w2 hg => ⟨by rw [hg.block b (by simp; omega) (fun e => hne e.symm), Lib.alloc_old w1 _ b hlt]; exact hbk, (hb1.alloc (by have := hb1.size; omega) _).grown hg (by have := hb1.size; simp; omega) (fun k hk => (hown.lt k hk).1)⟩)
  rw [hv] at HRU HK c1
  clear hown hne hbk
  go_wp2_with (first
    | (go_at_call 79
       (with_reducible refine (HRU.out).mono ?_)
       rintro e w2 ⟨g, cap2, rfl, hown', hgrow⟩
       obtain ⟨hb2, hbel⟩ := HK.out w2 hgrow
       have d0 : w2.cell? ⟨b, 0, none⟩ = some (.pointer (some ⟨b, 0, none⟩)) := by rw [Lib.cell_of_heap hb2]; rfl
       have d1 : w2.cell? ⟨b, 1, none⟩ = some (.slice ao bs.length cap) := by rw [Lib.cell_of_heap hb2]; rfl
       have f1 : w2.frozen? ⟨b, 1, none⟩ = false := Lib.frozen_of_heap hb2 1
       have HP := Lib.hid (Lib.BuilderAt.put (T := 85) (e := 5) hB hb2 (bs' := bs ++ [.int .u8 r]) (by simpa using hown') (by decide))
       have HBB := Lib.hid (hbel.setCell (p := ⟨b, 1, none⟩) hB (.slice (some ⟨g, 0, none⟩) (bs.length + 1) cap2))
       clear hown' hgrow hb2 hbel))
  go_ret2
  exact ⟨⟨_, rfl⟩, HP.out, HBB.out⟩
set_option maxHeartbeats 2000000 in
/-- String of a builder that holds at least one byte -/
theorem string_any (B b : Nat) (l : List UInt8) (w : World) (h : Lib.IsBuilder 85 5 B b (Lib.byteCells l) w) (h0 : l ≠ []) : Calls Try.prog 68 #[.pointer (some ⟨b, 0, none⟩)] w fun e w' => e = .returned (.string ⟨l.toArray⟩) ∧ Below B w w' := by
  obtain ⟨p, hB, v, hbk, hown, hne⟩ : ∃ p, Lib.BuilderAt 85 5 B b p (Lib.byteCells l) w := by
    rcases h with h | h
    · exact ⟨_, h⟩
    · exact ⟨_, h⟩
  have hl0 : l.length ≠ 0 := by simpa using h0
  rw [Lib.byteCells_length] at hown
  obtain ⟨g, cap, cur, rfl, hbg, hg, hnc, hcm, hcs, htake⟩ : ∃ g cap cur, v = .slice (some ⟨g, 0, none⟩) l.length cap ∧ B ≤ g ∧ w.heap[g]? = some (.cells cur 5 (0, 0)) ∧ l.length ≤ cap ∧ cap ≤ maxLen ∧ cur.size = cap * 1 ∧ cur.toList.take (l.length * 1) = Lib.byteCells l := by
    rcases hown.2 with ⟨_, hz⟩ | ⟨g, cap, cur, hv, r⟩
    · exact absurd hz hl0
    · exact ⟨g, cap, cur, hv, r⟩
  have c1 : w.drew.cell? ⟨b, 1, none⟩ = some (.slice (some ⟨g, 0, none⟩) l.length cap) := by
    have : w.drew.heap[b]? = some (.cells #[p, .slice (some ⟨g, 0, none⟩) l.length cap] 85 (0, 0)) := hbk
    rw [Lib.cell_of_heap this]; rfl
  have hSD : (Builtin.unsafeSliceData_ #[83] 100 #[.slice (some ⟨g, 0, none⟩) l.length cap]).run Try.prog w.drew = .ok (.pointer (some ⟨g, 0, none⟩)) w.drew :=
    Lib.run_unsafeSliceData_row _ _ _ _ _ _ (by omega)
  have hUS : (Builtin.unsafeString_ #[100, 3] 9 #[.pointer (some ⟨g, 0, none⟩), .int .i64 l.length]).run Try.prog w.drew = .ok (.string ⟨l.toArray⟩) (w.drew.freeze ⟨g, 0, none⟩ l.length) := by
    refine Lib.run_unsafeString_row w.drew 100 3 9 5 Try.underlying100 cells_u8 g cur.size (by have hg' : w.drew.heap[g]? = some (.cells cur 5 (0, 0)) := hg; simp [World.shape?, hg']) l h0 (by omega) (by unfold maxLen at hcm; omega) ?_
    intro j x hx
    have := hown.cells (g := g) rfl j (.int .u8 x.toNat) (by simp [Lib.byteCells, hx])
    exact this
  go_enter Try.func68, Try.ntmps68
  go_wp2
  go_region
  all_goals (go_wp2; go_ret; exact ⟨rfl, Lib.below_freeze (Below.drew (Below.refl B w)) (p := ⟨g, 0, none⟩) hbg _⟩)
end Go.Proofs.Ytgnhmdfajnnkhaa


/- The walks over lamp's May, letter, spell and Text. -/
namespace Go.Proofs.Ytgnhmdfajnnkhaa
set_option maxRecDepth 100000
set_option linter.unusedVariables false
set_option linter.unusedSimpArgs false
open Go.RowKit

set_option maxHeartbeats 2000000 in
theorem lmay_any (A : Option Addr) (n c : Nat) (l : List Int) (w : World) (hb : Its .i64 w A n c l) : Calls Try.prog 46 #[.slice A n c] w fun e w' => e = .returned (.bool (mayR l)) ∧ w = w' := by
  have hsm := hb.small
  have HL := Lib.hid hb.len
  by_cases hn : n < 1 ∨ 8 < n
  · have HR := Lib.hid (show mayR l = false by rw [← Bool.not_eq_true, may_iff]; rintro ⟨h, -⟩; have := HL.out; omega)
    rcases hn with hn | hn
    · obtain rfl : n = 0 := by omega
      clear hb
      go_enter Try.func46, Try.ntmps46
      go_wp2
      go_ret
      exact ⟨by rw [HR.out]; rfl, rfl⟩
    · have hn1 : ¬ ((n : Int) < 1) := by omega
      have hn8 : (8 < (n : Int)) := by omega
      clear hb
      go_enter Try.func46, Try.ntmps46
      go_wp2
      go_ret
      exact ⟨by rw [HR.out]; rfl, rfl⟩
  · have hn1 : ¬ ((n : Int) < 1) := by omega
    have hn8 : ¬ (8 < (n : Int)) := by omega
    obtain ⟨b, off, rfl, hc⟩ := hb.at_ (by omega)
    have HC := Lib.hid hc
    clear hb hc
    go_enter Try.func46, Try.ntmps46
    go_wp2
    go_loop [15] (fun i => ∃ j : Nat, j ≤ n ∧ i = .int .i64 j ∧ ∀ k, k < j → 0 ≤ l.getD k 0 ∧ l.getD k 0 < 3) (fun i => n - (intOf i).toNat)
    case atStart => exact ⟨0, by omega, rfl, fun k hk => by omega⟩
    case round =>
      obtain ⟨j, hj, rfl, hall⟩ := hrel
      have HA := Lib.hid hall
      clear hall
      by_cases hlt : j < n
      · have hlt2 : (j : Int) < n := by omega
        have q0 : 0 ≤ (j : Int) := by omega
        have z := HC.out j hlt
        obtain ⟨x, hx⟩ : ∃ x, l.getD j 0 = x := ⟨_, rfl⟩
        rw [hx] at z
        by_cases h1 : x < 0
        · have HR := Lib.hid (row_bad (by rw [HL.out]; exact hlt) (.inl (by rw [hx]; exact h1)))
          clear hx
          go_wp2
          go_ret
          exact ⟨by rw [HR.out]; rfl, rfl⟩
        · by_cases h2 : 3 ≤ x
          · have HR := Lib.hid (row_bad (by rw [HL.out]; exact hlt) (.inr (by rw [hx]; exact h2)))
            clear hx
            go_wp2
            go_ret
            exact ⟨by rw [HR.out]; rfl, rfl⟩
          · have HN := Lib.hid (show ∀ k, k < j + 1 → 0 ≤ l.getD k 0 ∧ l.getD k 0 < 3 from fun k hk => by
              by_cases e : k = j
              · subst e; rw [hx]; omega
              · exact HA.out k (by omega))
            clear hx
            go_wp2
            go_round
            case rel => exact ⟨j + 1, by omega, by go_num, HN.out⟩
            case measure => simp [intOf]; omega
      · obtain rfl : j = n := by omega
        have hge : ¬ ((j : Int) < j) := by omega
        have HR := Lib.hid (show mayR l = true by
          rw [may_iff]
          refine ⟨by have := HL.out; omega, fun x hx => ?_⟩
          obtain ⟨k, hk, rfl⟩ := mem_getD hx
          exact HA.out k (by rw [HL.out] at hk; exact hk))
        go_wp2
        go_ret
        exact ⟨by rw [HR.out]; rfl, rfl⟩
theorem let_lt (x : Int) : ((letU x).toNat : Int) < 128 := by
  unfold letU
  split
  · decide
  · split <;> decide
/-- the letters -/
theorem rag0 : wrap32 (((⟨#[114, 97, 103]⟩ : ByteArray)[0]'(by decide)).toNat : Int) = ((letU 0).toNat : Int) := by decide +kernel
theorem rag1 : wrap32 (((⟨#[114, 97, 103]⟩ : ByteArray)[1]'(by decide)).toNat : Int) = ((letU 1).toNat : Int) := by decide +kernel
theorem rag2 : wrap32 (((⟨#[114, 97, 103]⟩ : ByteArray)[2]'(by decide)).toNat : Int) = ((letU 2).toNat : Int) := by decide +kernel
set_option maxHeartbeats 1000000 in
theorem letter_any (x : Int) (hx : 0 ≤ x ∧ x < 3) (w : World) : Calls Try.prog 48 #[.string ⟨#[114, 97, 103]⟩, .int .i64 x] w fun e w' => e = .returned (.int .i32 ((letU x).toNat : Int)) ∧ w = w' := by
  have : x = 0 ∨ x = 1 ∨ x = 2 := by omega
  rcases this with rfl | rfl | rfl
  all_goals
    go_enter Try.func48, Try.ntmps48
    go_wp2
    go_ret
    first | exact ⟨congrArg (fun z => Ending.returned (Value.int .i32 z)) rag0, rfl⟩ | exact ⟨congrArg (fun z => Ending.returned (Value.int .i32 z)) rag1, rfl⟩ | exact ⟨congrArg (fun z => Ending.returned (Value.int .i32 z)) rag2, rfl⟩
theorem cells_next {l : List Int} {j : Nat} (h : j < l.length) : Lib.byteCells ((l.take (j + 1)).map letU) = Lib.byteCells ((l.take j).map letU) ++ [.int .u8 ((letU (l.getD j 0)).toNat : Int)] := by
  rw [List.take_succ_eq_append_getElem h, List.map_append, Lib.byteCells_append]
  simp [Lib.byteCells, List.getD_eq_getElem?_getD, h]
set_option maxHeartbeats 4000000 in
theorem spell_any (A : Option Addr) (n c : Nat) (l : List Int) (w : World) (hb : Its .i64 w A n c l) (hm : mayR l = true) : Calls Try.prog 47 #[.slice A n c, .func (Fn.func 48) #[.string ⟨#[114, 97, 103]⟩] #[]] w fun e w' => e = .returned (.string (txt l)) ∧ Below w.heap.size w w' := by
  have hsm := hb.small
  have HL := Lib.hid hb.len
  obtain ⟨⟨m1, m8⟩, hall⟩ := may_iff.1 hm
  have HA := Lib.hid hall
  rw [hb.len] at m1 m8
  obtain ⟨b, off, rfl, -⟩ := hb.at_ (by omega)
  have HI := Lib.hid (show ∀ X, Below w.heap.size w X → ∀ j, j < n → X.cell? ⟨b, off + j, none⟩ = some (.int .i64 (l.getD j 0)) from fun X hX j hj => by
    obtain ⟨b', off', e, hc⟩ := (hb.below hX).at_ (by omega)
    cases e
    exact hc j hj)
  clear hb hall hm
  go_enter Try.func47, Try.ntmps47
  go_wp2
  go_loopw [10] (fun i wr => ∃ j : Nat, j ≤ n ∧ i = .int .i64 j ∧ Lib.IsBuilder 85 5 w.heap.size w.heap.size (Lib.byteCells ((l.take j).map letU)) wr ∧ Below w.heap.size w wr) (fun i _ => n - (intOf i).toNat)
  case atStart => exact ⟨0, by omega, rfl, Lib.fresh_isBuilder _ _ w, one_alloc w _⟩
  case round =>
    obtain ⟨j, hj, rfl, hbu, hbw⟩ := hrel
    have HBU := Lib.hid hbu
    have HBW := Lib.hid hbw
    clear hbu
    by_cases hlt : j < n
    · have hlt2 : (j : Int) < n := by omega
      have q0 : 0 ≤ (j : Int) := by omega
      have hjl : j < l.length := by rw [HL.out]; exact hlt
      have z := HI.out wr hbw j hlt
      have ho := HA.out _ (getD_mem hjl)
      have hnx := cells_next hjl
      have hll : (Lib.byteCells ((l.take j).map letU)).length ≤ 1000 := by rw [Lib.byteCells_length, List.length_map, List.length_take]; omega
      obtain ⟨x, hx⟩ : ∃ x, l.getD j 0 = x := ⟨_, rfl⟩
      rw [hx] at z ho hnx
      obtain ⟨S, hS⟩ : ∃ S, Lib.byteCells ((l.take j).map letU) = S := ⟨_, rfl⟩
      rw [hS] at hll HBU hnx
      obtain ⟨N, hN⟩ : ∃ N : Int, ((letU x).toNat : Int) = N := ⟨_, rfl⟩
      have hn0 : 0 ≤ N := by rw [← hN]; omega
      have hn1 : N < 128 := by rw [← hN]; exact let_lt x
      have HLE := Lib.hid (fun X => letter_any x ho X)
      rw [hN] at HLE hnx
      have HWR := Lib.hid (write_any w.heap.size w.heap.size S N hn0 hn1 wr HBU.out hll hbw.size)
      have HNX := Lib.hid hnx
      clear hx ho hnx hS hN hn0 hn1 hjl hbw
      go_wp2_with (first
        | (go_at_call 48
           (with_reducible refine (HLE.out _).mono ?_)
           rintro e w1 ⟨rfl, rfl⟩)
        | (go_at_call 67
           (with_reducible refine (HWR.out).mono ?_)
           rintro e w2 ⟨⟨z, rfl⟩, hbu2, hbw2⟩
           have HBU2 := Lib.hid hbu2
           have HBW2 := Lib.hid (HBW.out.trans hbw2)
           clear hbu2 hbw2))
      go_roundw
      case rel => exact ⟨j + 1, by omega, by go_num, .inr (by rw [HNX.out]; exact HBU2.out), HBW2.out⟩
      case measure => simp [intOf]; omega
    · obtain rfl : j = n := by omega
      have hge : ¬ ((j : Int) < j) := by omega
      have HT := Lib.hid (show l.take j = l from List.take_of_length_le (by rw [HL.out]; exact Nat.le_refl _))
      have hbu := HBU.out
      rw [HT.out] at hbu
      have HST := Lib.hid (string_any w.heap.size w.heap.size (l.map letU) wr hbu (by intro h; have := congrArg List.length h; rw [List.length_map, HL.out] at this; simp at this; omega))
      clear hbu hbw
      go_wp2_with (go_at_call 68; (with_reducible refine (HST.out).mono ?_); rintro e w2 ⟨rfl, hbw2⟩; have HBW2 := Lib.hid (HBW.out.trans hbw2); clear hbw2)
      go_ret
      exact ⟨rfl, HBW2.out⟩
set_option maxHeartbeats 4000000 in
theorem ltext_any (A : Option Addr) (n c : Nat) (l : List Int) (w : World) (hb : Its .i64 w A n c l) : Calls Try.prog 27 #[.slice A n c] w fun e w' => e = .returned (.string (textR l)) ∧ Below w.heap.size w w' := by
  have hsm := hb.small
  have HL := Lib.hid hb.len
  have HM := Lib.hid (lmay_any A n c l w hb)
  cases hm : mayR l with
  | false =>
    rw [hm] at HM
    have HR := Lib.hid (show textR l = ⟨#[]⟩ by rw [textR, hm]; rfl)
    clear hm hb
    go_enter Try.func27, Try.ntmps27
    go_wp2_with (go_at_call 46; (with_reducible refine (HM.out).mono ?_); rintro e w1 ⟨rfl, rfl⟩)
    go_ret
    exact ⟨by rw [HR.out]; rfl, Below.refl _ _⟩
  | true =>
    rw [hm] at HM
    obtain ⟨⟨m1, m8⟩, hall⟩ := may_iff.1 hm
    have HR := Lib.hid (show textR l = txt l by rw [textR, if_pos hm])
    have HSP := Lib.hid (spell_any A n c l w hb hm)
    clear hm hb hall
    go_enter Try.func27, Try.ntmps27
    go_wp2_with (first
      | (go_at_call 46; (with_reducible refine (HM.out).mono ?_); rintro e w1 ⟨rfl, rfl⟩)
      | (go_at_call 47; (with_reducible refine (HSP.out).mono ?_); rintro e w2 ⟨rfl, hb2⟩; have HB2 := Lib.hid hb2; clear hb2))
    go_ret
    exact ⟨by rw [HR.out]; rfl, HB2.out⟩
end Go.Proofs.Ytgnhmdfajnnkhaa

