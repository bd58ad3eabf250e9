/- Package plan's small calls: isSpan, timed, sized, takes, served. -/
import Derived.Test.YtjjjfckkglcdfaaPlnEq
import Derived.Test.YtjjjfckkglcdfaaGrpTop
namespace Go.Proofs.Ytjjjfckkglcdfaa
set_option maxRecDepth 100000
set_option linter.unusedVariables false
set_option linter.unusedSimpArgs false
open Go.RowKit

def isSpanB (x : Int) : Bool := decide (1 ≤ x) && decide (x ≤ 200)
theorem isSpan_any (x : Int) (w : World) : Calls Try.prog 46 #[.int .i64 x] w fun e w' => e = .returned (.bool (isSpanB x)) ∧ w = w' := by
  rw [isSpanB]
  by_cases h1 : 1 ≤ x
  · rw [decide_eq_true h1]
    go_enter Try.func46, Try.ntmps46
    go_wp2
    go_ret
    exact ⟨rfl, rfl⟩
  · rw [decide_eq_false h1]
    go_enter Try.func46, Try.ntmps46
    go_wp2
    go_ret
    exact ⟨rfl, rfl⟩
/-- the cells of a draft's block -/
theorem draft_new (w : World) (p : Pl) (X : World) (hX : Below (w.heap.size + 1) (w.alloc (.cells #[.slice p.A p.n p.c, .slice p.B p.k p.d, .int .i64 p.am, .int .i64 p.rd, .int .i64 p.hd] 47)) X) :
    X.cell? ⟨w.heap.size, 0, none⟩ = some (.slice p.A p.n p.c) ∧ X.cell? ⟨w.heap.size, 1, none⟩ = some (.slice p.B p.k p.d) ∧ X.cell? ⟨w.heap.size, 2, none⟩ = some (.int .i64 p.am) ∧ X.cell? ⟨w.heap.size, 3, none⟩ = some (.int .i64 p.rd) ∧ X.cell? ⟨w.heap.size, 4, none⟩ = some (.int .i64 p.hd) := by
  have h := (hX.block w.heap.size (by omega)).trans (heap_alloc_new w (.cells #[.slice p.A p.n p.c, .slice p.B p.k p.d, .int .i64 p.am, .int .i64 p.rd, .int .i64 p.hd] 47))
  exact ⟨(cell_of_row _ _ _ _ _ _ h).trans rfl, (cell_of_row _ _ _ _ _ _ h).trans rfl, (cell_of_row _ _ _ _ _ _ h).trans rfl, (cell_of_row _ _ _ _ _ _ h).trans rfl, (cell_of_row _ _ _ _ _ _ h).trans rfl⟩
set_option maxHeartbeats 4000000 in
theorem sized_any (p : Pl) (w : World) (hp : PlIn w p) : Calls Try.prog 40 #[plV p] w fun e w' => e = .returned (.bool (mayM p.m && decide (2 ≤ p.s.length ∧ p.s.length ≤ 6))) ∧ Below w.heap.size w w' := by
  have hsk := hp.s.small
  have hSL := hp.s.len
  have hD := draft_new w p
  simp only [plV]
  obtain ⟨W0, hW0⟩ : ∃ W0, w.alloc (.cells #[.slice p.A p.n p.c, .slice p.B p.k p.d, .int .i64 p.am, .int .i64 p.rd, .int .i64 p.hd] 47) = W0 := ⟨_, rfl⟩
  have hB0 : Below w.heap.size w W0 := by rw [← hW0]; exact one_alloc w _
  have hs0 : W0.heap.size = w.heap.size + 1 := by rw [← hW0]; simp
  rw [hW0, ← hs0] at hD
  have HD := Lib.hid hD
  have HW := Lib.hid hW0
  have HB0 := Lib.hid hB0
  have HMY := Lib.hid (gmay_any p.A p.n p.c p.m W0 (hp.m.below hB0))
  rw [hSL]
  clear hD hW0 hB0 hs0 hp hSL
  obtain ⟨A, n, c, m, B, k, d, s, am, rd, hd⟩ := p
  simp only at *
  cases hm : mayM m with
  | false =>
    rw [hm] at HMY
    clear hm
    go_enter Try.func40, Try.ntmps40
    go_wp2_with (go_at_call 34; rw [HW.out]; (with_reducible refine (HMY.out).mono ?_); rintro e w1 ⟨rfl, hb1⟩; have HB1 := Lib.hid (HB0.out.trans (hb1.mono HB0.out.size)); clear hb1)
    go_ret
    exact ⟨rfl, HB1.out⟩
  | true =>
    rw [hm] at HMY
    clear hm
    by_cases h2 : 2 ≤ k
    · by_cases h6 : k ≤ 6
      · have q2 : (2 : Int) ≤ k := by omega
        have q6 : (k : Int) ≤ 6 := by omega
        have HR := Lib.hid (show decide (2 ≤ k ∧ k ≤ 6) = true from decide_eq_true ⟨h2, h6⟩)
        go_enter Try.func40, Try.ntmps40
        go_wp2_with (go_at_call 34; rw [HW.out]; (with_reducible refine (HMY.out).mono ?_); rintro e w1 ⟨rfl, hb1⟩; obtain ⟨a0, a1, a2, a3, a4⟩ := HD.out w1 hb1; have HB1 := Lib.hid (HB0.out.trans (hb1.mono HB0.out.size)); clear hb1)
        go_ret
        exact ⟨by first | rfl | (rw [HR.out]; rfl) | (rw [HR.out, decide_eq_true q6]; rfl) | (rw [HR.out, show decide ((k : Int) ≤ 6) = false from decide_eq_false (by omega)]; rfl), HB1.out⟩
      · have q2 : (2 : Int) ≤ k := by omega
        have q6 : ¬ ((k : Int) ≤ 6) := by omega
        have HR := Lib.hid (show decide (2 ≤ k ∧ k ≤ 6) = false from decide_eq_false (fun h => h6 h.2))
        go_enter Try.func40, Try.ntmps40
        go_wp2_with (go_at_call 34; rw [HW.out]; (with_reducible refine (HMY.out).mono ?_); rintro e w1 ⟨rfl, hb1⟩; obtain ⟨a0, a1, a2, a3, a4⟩ := HD.out w1 hb1; have HB1 := Lib.hid (HB0.out.trans (hb1.mono HB0.out.size)); clear hb1)
        go_ret
        exact ⟨by first | rfl | (rw [HR.out]; rfl) | (rw [HR.out, decide_eq_true q6]; rfl) | (rw [HR.out, show decide ((k : Int) ≤ 6) = false from decide_eq_false (by omega)]; rfl), HB1.out⟩
    · have q2 : ¬ ((2 : Int) ≤ k) := by omega
      have HR := Lib.hid (show decide (2 ≤ k ∧ k ≤ 6) = false from decide_eq_false (fun h => h2 h.1))
      go_enter Try.func40, Try.ntmps40
      go_wp2_with (go_at_call 34; rw [HW.out]; (with_reducible refine (HMY.out).mono ?_); rintro e w1 ⟨rfl, hb1⟩; obtain ⟨a0, a1, a2, a3, a4⟩ := HD.out w1 hb1; have HB1 := Lib.hid (HB0.out.trans (hb1.mono HB0.out.size)); clear hb1)
      go_ret
      exact ⟨by first | rfl | (rw [HR.out]; rfl), HB1.out⟩
theorem span_two (p : Pl) : spanB p = (isSpanB p.am && (isSpanB p.rd && (decide (0 ≤ p.hd) && decide (p.hd ≤ 300)))) := by
  simp only [spanB, isSpanB, Bool.and_assoc]
set_option maxHeartbeats 4000000 in
theorem timed_any (p : Pl) (w : World) : Calls Try.prog 41 #[plV p] w fun e w' => e = .returned (.bool (spanB p)) ∧ Below w.heap.size w w' := by
  have HB0 := Lib.hid (one_alloc w (.cells #[.slice p.A p.n p.c, .slice p.B p.k p.d, .int .i64 p.am, .int .i64 p.rd, .int .i64 p.hd] 47))
  have HS1 := Lib.hid (fun X => isSpan_any p.am X)
  have HS2 := Lib.hid (fun X => isSpan_any p.rd X)
  rw [span_two]
  simp only [plV]
  obtain ⟨A, n, c, m, B, k, d, s, am, rd, hd⟩ := p
  simp only at *
  obtain ⟨b1, h1⟩ : ∃ b, isSpanB am = b := ⟨_, rfl⟩
  obtain ⟨b2, h2⟩ : ∃ b, isSpanB rd = b := ⟨_, rfl⟩
  rw [h1] at HS1 ⊢
  rw [h2] at HS2 ⊢
  clear h1 h2
  cases b1
  · go_enter Try.func41, Try.ntmps41
    go_wp2_with (go_at_call 46; (with_reducible refine (HS1.out _).mono ?_); rintro e w1 ⟨rfl, rfl⟩)
    go_ret
    exact ⟨rfl, HB0.out⟩
  · cases b2
    · go_enter Try.func41, Try.ntmps41
      go_wp2_with (go_at_call 46; first | ((with_reducible refine (HS1.out _).mono ?_); rintro e w1 ⟨rfl, rfl⟩; clear HS1) | ((with_reducible refine (HS2.out _).mono ?_); rintro e w1 ⟨rfl, rfl⟩))
      go_ret
      exact ⟨rfl, HB0.out⟩
    · by_cases h0 : 0 ≤ hd
      · rw [decide_eq_true h0]
        go_enter Try.func41, Try.ntmps41
        go_wp2_with (go_at_call 46; first | ((with_reducible refine (HS1.out _).mono ?_); rintro e w1 ⟨rfl, rfl⟩; clear HS1) | ((with_reducible refine (HS2.out _).mono ?_); rintro e w1 ⟨rfl, rfl⟩))
        go_ret
        exact ⟨rfl, HB0.out⟩
      · rw [decide_eq_false h0]
        go_enter Try.func41, Try.ntmps41
        go_wp2_with (go_at_call 46; first | ((with_reducible refine (HS1.out _).mono ?_); rintro e w1 ⟨rfl, rfl⟩; clear HS1) | ((with_reducible refine (HS2.out _).mono ?_); rintro e w1 ⟨rfl, rfl⟩))
        go_ret
        exact ⟨rfl, HB0.out⟩
theorem stage_order (m : List Int) (x : Stg) : stageB m x = (decide (x.g ≠ 0) && (freeM m x.g && (isSpanB x.mn && (decide (x.mn ≤ x.mx) && decide (x.mx ≤ 200))))) := by
  simp only [stageB, isSpanB, Bool.and_assoc]
  cases freeM m x.g <;> simp
theorem stg_new (w : World) (x : Stg) (X : World) (hX : Below (w.heap.size + 1) (w.alloc (.cells #[.int .i64 x.g, .int .i64 x.mn, .int .i64 x.mx] 36)) X) :
    X.cell? ⟨w.heap.size, 0, none⟩ = some (.int .i64 x.g) ∧ X.cell? ⟨w.heap.size, 1, none⟩ = some (.int .i64 x.mn) ∧ X.cell? ⟨w.heap.size, 2, none⟩ = some (.int .i64 x.mx) := by
  have h := (hX.block w.heap.size (by omega)).trans (heap_alloc_new w (.cells #[.int .i64 x.g, .int .i64 x.mn, .int .i64 x.mx] 36))
  exact ⟨(cell_of_row _ _ _ _ _ _ h).trans rfl, (cell_of_row _ _ _ _ _ _ h).trans rfl, (cell_of_row _ _ _ _ _ _ h).trans rfl⟩
set_option maxHeartbeats 4000000 in
theorem takes_any (p : Pl) (x : Stg) (w : World) (hp : PlIn w p) : Calls Try.prog 43 #[plV p, .agg #[.int .i64 x.g, .int .i64 x.mn, .int .i64 x.mx]] w fun e w' => e = .returned (.bool (stageB p.m x)) ∧ Below w.heap.size w w' := by
  rw [stage_order]
  simp only [plV]
  obtain ⟨V, hV⟩ : ∃ V, w.alloc (.cells #[.slice p.A p.n p.c, .slice p.B p.k p.d, .int .i64 p.am, .int .i64 p.rd, .int .i64 p.hd] 47) = V := ⟨_, rfl⟩
  have hBV : Below w.heap.size w V := by rw [← hV]; exact one_alloc w _
  have hsV : V.heap.size = w.heap.size + 1 := by rw [← hV]; simp
  have hD := stg_new V x
  obtain ⟨W0, hW0⟩ : ∃ W0, V.alloc (.cells #[.int .i64 x.g, .int .i64 x.mn, .int .i64 x.mx] 36) = W0 := ⟨_, rfl⟩
  have hB0 : Below w.heap.size w W0 := hBV.trans (by rw [← hW0]; exact (one_alloc V _).mono (by omega))
  have hs0 : W0.heap.size = V.heap.size + 1 := by rw [← hW0]; simp
  rw [hW0, ← hs0, hsV] at hD
  rw [← hV] at hW0
  have HD := Lib.hid hD
  have HW := Lib.hid hW0
  have HB0 := Lib.hid hB0
  have HFR := Lib.hid (gfree_any p.A p.n p.c p.m x.g W0 (hp.m.below hB0))
  have HS1 := Lib.hid (fun X => isSpan_any x.mn X)
  clear hD hW0 hV hBV hsV hB0 hs0 hp
  obtain ⟨A, n, c, m, B, k, d, s, am, rd, hd⟩ := p
  obtain ⟨g, mn, mx⟩ := x
  simp only at *
  obtain ⟨F, hF⟩ : ∃ F, freeM m g = F := ⟨_, rfl⟩
  obtain ⟨b1, h1⟩ : ∃ b, isSpanB mn = b := ⟨_, rfl⟩
  rw [hF] at HFR ⊢
  rw [h1] at HS1 ⊢
  clear hF h1 V
  by_cases h0 : g = 0
  · subst h0
    go_enter Try.func43, Try.ntmps43
    go_wp2
    go_ret
    exact ⟨by first | rfl | simp, by have := HW.out; first | (rw [this]; exact HB0.out) | exact HB0.out⟩
  · have hne : (g != 0) = true := by rw [bne_iff_ne]; exact h0
    have hdc : decide (g ≠ 0) = true := decide_eq_true h0
    rw [hdc]
    cases F
    · go_enter Try.func43, Try.ntmps43
      go_wp2_with (first
        | (go_at_call 25; rw [HW.out]; (with_reducible refine (HFR.out).mono ?_); rintro e w1 ⟨rfl, hb1⟩; obtain ⟨a0, a1, a2⟩ := HD.out w1 hb1; have HB1 := Lib.hid (HB0.out.trans (hb1.mono HB0.out.size)); clear hb1)
        | (go_at_call 46; (with_reducible refine (HS1.out _).mono ?_); rintro e w2 ⟨rfl, rfl⟩))
      go_ret
      exact ⟨rfl, HB1.out⟩
    · cases b1
      · go_enter Try.func43, Try.ntmps43
        go_wp2_with (first
        | (go_at_call 25; rw [HW.out]; (with_reducible refine (HFR.out).mono ?_); rintro e w1 ⟨rfl, hb1⟩; obtain ⟨a0, a1, a2⟩ := HD.out w1 hb1; have HB1 := Lib.hid (HB0.out.trans (hb1.mono HB0.out.size)); clear hb1)
        | (go_at_call 46; (with_reducible refine (HS1.out _).mono ?_); rintro e w2 ⟨rfl, rfl⟩))
        go_ret
        exact ⟨rfl, HB1.out⟩
      · by_cases h3 : mn ≤ mx
        · rw [decide_eq_true h3]
          go_enter Try.func43, Try.ntmps43
          go_wp2_with (first
        | (go_at_call 25; rw [HW.out]; (with_reducible refine (HFR.out).mono ?_); rintro e w1 ⟨rfl, hb1⟩; obtain ⟨a0, a1, a2⟩ := HD.out w1 hb1; have HB1 := Lib.hid (HB0.out.trans (hb1.mono HB0.out.size)); clear hb1)
        | (go_at_call 46; (with_reducible refine (HS1.out _).mono ?_); rintro e w2 ⟨rfl, rfl⟩))
          go_ret
          exact ⟨rfl, HB1.out⟩
        · rw [decide_eq_false h3]
          go_enter Try.func43, Try.ntmps43
          go_wp2_with (first
        | (go_at_call 25; rw [HW.out]; (with_reducible refine (HFR.out).mono ?_); rintro e w1 ⟨rfl, hb1⟩; obtain ⟨a0, a1, a2⟩ := HD.out w1 hb1; have HB1 := Lib.hid (HB0.out.trans (hb1.mono HB0.out.size)); clear hb1)
        | (go_at_call 46; (with_reducible refine (HS1.out _).mono ?_); rintro e w2 ⟨rfl, rfl⟩))
          go_ret
          exact ⟨rfl, HB1.out⟩
def OrTo (s : List Stg) (n k : Nat) (o : Int) : Prop := (∀ x ∈ s, 0 ≤ x.g ∧ x.g < ((2 ^ n : Nat) : Int)) → ∃ t : Nat, o = (t : Int) ∧ t < 2 ^ n ∧ ∀ i, t.testBit i = someTo s i k
theorem orTo_zero (s : List Stg) (n : Nat) : OrTo s n 0 0 := fun _ => ⟨0, rfl, Nat.pow_pos (by omega), fun i => by rw [some_zero, Nat.zero_testBit]⟩
theorem orTo_next {s : List Stg} {n k : Nat} {o : Int} (hn : n ≤ 8) (hk : k < s.length) (h : OrTo s n k o) : OrTo s n (k + 1) (bits .or .i64 o (s.getD k Stg.zero).g) := fun hq => by
  obtain ⟨t, rfl, ht, hb⟩ := h hq
  have hmem : s.getD k Stg.zero ∈ s := by rw [List.getD_eq_getElem?_getD, List.getElem?_eq_getElem hk]; exact List.getElem_mem hk
  obtain ⟨g0, g1⟩ := hq _ hmem
  have hnx := fun i => some_next (s := s) i hk
  obtain ⟨x, hx⟩ : ∃ x, (s.getD k Stg.zero).g = x := ⟨_, rfl⟩
  rw [hx] at g0 g1 ⊢
  simp only [hx] at hnx
  obtain ⟨u, rfl⟩ := Int.eq_ofNat_of_zero_le g0
  have hu : u < 2 ^ n := by omega
  have h8 := pow_le hn
  refine ⟨t ||| u, or_set t u (by omega) (by omega), Nat.or_lt_two_pow ht hu, fun i => ?_⟩
  rw [Nat.testBit_or, hb, hnx, bit_nat]
theorem orTo_end {s : List Stg} {n : Nat} {o : Int} (h : OrTo s n s.length o) (hq : ∀ x ∈ s, 0 ≤ x.g ∧ x.g < ((2 ^ n : Nat) : Int)) : (o == ((2 ^ n : Nat) : Int) - 1) = (List.range n).all (someB s) := by
  obtain ⟨t, rfl, ht, hb⟩ := h hq
  simp only [some_all] at hb
  rw [Bool.eq_iff_iff, beq_iff_eq, List.all_eq_true]
  constructor
  · intro e i hi
    have e2 : t = 2 ^ n - 1 := by omega
    rw [← hb, e2, Nat.testBit_two_pow_sub_one]
    exact decide_eq_true (List.mem_range.1 hi)
  · intro hall
    have e2 : t = 2 ^ n - 1 := Nat.eq_of_testBit_eq fun i => by
      rw [Nat.testBit_two_pow_sub_one]
      by_cases hi : i < n
      · rw [decide_eq_true hi, hb]
        exact hall i (List.mem_range.2 hi)
      · rw [decide_eq_false hi]
        exact Nat.testBit_lt_two_pow (Nat.lt_of_lt_of_le ht (Nat.pow_le_pow_right (by omega) (by omega)))
    omega
def orAt (s : List Stg) : Nat → Int
  | 0 => 0
  | k + 1 => bits .or .i64 (orAt s k) (s.getD k Stg.zero).g
theorem orAt_to (s : List Stg) (n : Nat) (hn : n ≤ 8) : ∀ k, k ≤ s.length → OrTo s n k (orAt s k)
  | 0, _ => orTo_zero s n
  | k + 1, h => orTo_next hn (by omega) (orAt_to s n hn k (by omega))
def servedB (s : List Stg) (n : Nat) : Bool := orAt s s.length == ((2 ^ n : Nat) : Int) - 1
theorem served_all {s : List Stg} {n : Nat} (hn : n ≤ 8) (hq : ∀ x ∈ s, 0 ≤ x.g ∧ x.g < ((2 ^ n : Nat) : Int)) : servedB s n = (List.range n).all (someB s) := orTo_end (orAt_to s n hn _ (Nat.le_refl _)) hq
set_option maxHeartbeats 4000000 in
theorem served_any (p : Pl) (w : World) (hp : PlIn w p) (hn8 : p.n ≤ 8) : Calls Try.prog 42 #[plV p] w fun e w' => e = .returned (.bool (servedB p.s p.n)) ∧ Below w.heap.size w w' := by
  have hsk := hp.s.small
  have HSL := Lib.hid hp.s.len
  have h8 := pow_le hn8
  have hD := draft_new w p
  simp only [plV]
  obtain ⟨W0, hW0⟩ : ∃ W0, w.alloc (.cells #[.slice p.A p.n p.c, .slice p.B p.k p.d, .int .i64 p.am, .int .i64 p.rd, .int .i64 p.hd] 47) = W0 := ⟨_, rfl⟩
  have hB0 : Below w.heap.size w W0 := by rw [← hW0]; exact one_alloc w _
  have hs0 : W0.heap.size = w.heap.size + 1 := by rw [← hW0]; simp
  rw [hW0, ← hs0] at hD
  have HD := Lib.hid hD
  have HW := Lib.hid hW0
  have HB0 := Lib.hid hB0
  have HST := Lib.hid (hp.s.below hB0)
  obtain ⟨a0, a1, a2, a3, a4⟩ := hD W0 (Below.refl _ _)
  clear hD hW0 hB0 hs0 hp
  obtain ⟨A, n, c, m, B, k, d, s, am, rd, hd⟩ := p
  simp only at *
  obtain ⟨P, hP⟩ : ∃ P : Nat, 2 ^ n = P := ⟨_, rfl⟩
  have hPi : (2 : Int) ^ n = (P : Int) := by rw [pow_int, hP]
  have hpos : 0 < P := by rw [← hP]; exact Nat.pow_pos (by omega)
  have hw : IntKind.i64.wrap (1 * (2 : Int) ^ n) = (P : Int) := by rw [hPi, IntKind.wrap_i64]; rw [hP] at h8; omega
  go_enter Try.func42, Try.ntmps42
  go_wp2
  rw [HW.out]
  go_loopw [3, 5, 10] (fun o y v wr => ∃ j : Nat, ∃ x : Int, j ≤ k ∧ v = .int .i64 j ∧ o = .int .i64 x ∧ orAt s j = x ∧ Below W0.heap.size W0 wr) (fun _ _ v _ => k - (intOf v).toNat)
  case atStart => exact ⟨0, 0, by omega, rfl, rfl, rfl, Below.refl _ _⟩
  case round =>
    obtain ⟨j, o, hj, rfl, rfl, hor, hbw⟩ := hrel
    have HBW := Lib.hid hbw
    have HOR := Lib.hid hor
    by_cases hlt : j < k
    · have q1 : (j : Int) < k := by omega
      have q0 : 0 ≤ (j : Int) := by omega
      obtain ⟨b, off, x, rfl, hx, -, -, z0, z1, z2⟩ := (HST.out.below hbw).at_ j hlt
      have HN := Lib.hid (show orAt s (j + 1) = bits .or .i64 o x.g by rw [orAt, hor, hx])
      obtain ⟨g, mn, mx⟩ := x
      simp only at z0 z1 z2 HN
      have HB1 := Lib.hid (hbw.trans ((one_alloc wr (.cells #[.int .i64 g, .int .i64 mn, .int .i64 mx] 36)).mono hbw.size))
      clear hbw hor hx
      go_wp2
      go_roundw
      case rel => exact ⟨j + 1, _, by omega, by go_num, rfl, HN.out, HB1.out⟩
      case measure => simp [intOf]; omega
    · obtain rfl : j = k := by omega
      have hge : ¬ ((j : Int) < j) := by omega
      obtain ⟨a0, a1, a2, a3, a4⟩ := HD.out wr hbw
      have HE := Lib.hid (show servedB s n = (o == (P : Int) - 1) by rw [servedB, HSL.out, hor, hP])
      clear hbw hor
      go_wp2
      go_ret
      exact ⟨by rw [HE.out]; rfl, HB0.out.trans (HBW.out.mono HB0.out.size)⟩
end Go.Proofs.Ytjjjfckkglcdfaa
