/- What package plan does: contracts that its own walks must bring; the chapter's example over them; Few, FewAll. -/
import Derived.Test.YtjjjfckkglcdfaaPlnRAll
namespace Go.Proofs.Ytjjjfckkglcdfaa
set_option maxRecDepth 100000
set_option linter.unusedVariables false
set_option linter.unusedSimpArgs false
open Go.RowKit

structure PlnOk : Prop where
  fit : ∀ (p : Pl) (X : World), PlIn X p → p.n ≤ 1000 → p.k ≤ 1000 → Calls Try.prog 15 #[plV p] X fun e w' => e = .returned (.bool (fitP p)) ∧ Below X.heap.size X w'
  all : ∀ (A : Option Addr) (n c : Nat) (l : List Pl) (X : World), Pls X A n c l → n ≤ 1000 → (∀ p ∈ l, p.n ≤ 1000 ∧ p.k ≤ 1000) → Calls Try.prog 16 #[.slice A n c] X fun e w' => e = .returned (.bool (allP l)) ∧ Below X.heap.size X w'
  same : ∀ (p q : Pl) (X : World), PlIn X p → PlIn X q → p.n ≤ 1000 → p.k ≤ 1000 → q.n ≤ 1000 → q.k ≤ 1000 → Calls Try.prog 17 #[plV p, plV q] X fun e w' => e = .returned (.bool (samePl p q)) ∧ Below X.heap.size X w'
  next : ∀ (p : Pl) (x : Int) (X : World), PlIn X p → p.n ≤ 1000 → p.k ≤ 1000 → Calls Try.prog 18 #[plV p, .int .i64 x] X fun e w' => e = .returned (.int .i64 (nextP p x)) ∧ Below X.heap.size X w'
  least : ∀ (p : Pl) (x : Int) (X : World), PlIn X p → p.n ≤ 1000 → p.k ≤ 1000 → Calls Try.prog 20 #[plV p, .int .i64 x] X fun e w' => e = .returned (.int .i64 (leastP p x)) ∧ Below X.heap.size X w'
  cycle : ∀ (p : Pl) (X : World), PlIn X p → p.n ≤ 1000 → p.k ≤ 1000 → Calls Try.prog 22 #[plV p] X fun e w' => e = .returned (.int .i64 (cycP p)) ∧ Below X.heap.size X w'
/-- what it takes of package group -/
structure GrpTwo : Prop where
  free : ∀ (A : Option Addr) (n c : Nat) (m : List Int) (s : Int) (X : World), Its .i64 X A n c m → n ≤ 1000 → Calls Try.prog 25 #[.slice A n c, .int .i64 s] X fun e w' => e = .returned (.bool (freeM m s)) ∧ Below X.heap.size X w'
  against : ∀ (A : Option Addr) (n c : Nat) (m : List Int) (s : Int) (X : World), Its .i64 X A n c m → n ≤ 1000 → Calls Try.prog 24 #[.slice A n c, .int .i64 s] X fun e w' => e = .returned (.int .i64 (againstM m s)) ∧ Below X.heap.size X w'
/-- the example -/
structure IsTwo (p : Pl) : Prop where
  m : p.m = [2, 1]
  s : p.s = [⟨1, 5, 9⟩, ⟨2, 7, 8⟩]
  am : p.am = 3
  rd : p.rd = 2
  hd : p.hd = 4
  n : p.n = 2
  k : p.k = 2
def plTwo : Pl := ⟨none, 2, 2, [2, 1], none, 2, 2, [⟨1, 5, 9⟩, ⟨2, 7, 8⟩], 3, 2, 4⟩
theorem two_fit {p : Pl} (h : IsTwo p) : fitP p = true := by
  have : fitP plTwo = true := by decide +kernel
  rw [← this]
  unfold fitP spanB
  rw [h.m, h.s, h.am, h.rd, h.hd]
  rfl
theorem two_next0 {p : Pl} (h : IsTwo p) : nextP p 0 = 1 := by
  rw [nextP, two_fit h, h.s]
  decide +kernel
theorem two_next1 {p : Pl} (h : IsTwo p) : nextP p 1 = 0 := by
  rw [nextP, two_fit h, h.s]
  decide +kernel
theorem two_least {p : Pl} (h : IsTwo p) : leastP p 1 = 7 := by
  rw [leastP, two_fit h, h.s, h.m]
  decide +kernel
theorem two_cycle {p : Pl} (h : IsTwo p) : cycP p = 22 := by
  rw [cycP, two_fit h, h.s, h.am, h.rd]
  decide +kernel
theorem two_all {p : Pl} (h : IsTwo p) : allP [p, p] = true := by
  rw [all_iff]
  refine ⟨by simp, fun q hq => ?_⟩
  have e : q = p := by simpa using hq
  rw [e]
  exact ⟨two_fit h, rfl⟩
theorem lit_pair (W : World) (x y : Int) : Its .i64 (W.alloc (.cells #[.int .i64 x, .int .i64 y] 3 (0, 0))) (some ⟨W.heap.size, 0, none⟩) 2 2 [x, y] := by
  refine ⟨rfl, Nat.le_refl _, by unfold maxLen; omega, (fun h => by cases h), fun _ => ⟨_, 0, rfl, fun j hj => ?_⟩⟩
  rw [cell_of_row _ _ _ _ _ _ (heap_alloc_new W _)]
  match j, hj with
  | 0, _ => rfl
  | 1, _ => rfl
theorem sts_two (W : World) (x y : Stg) : Sts (W.alloc (.cells #[.int .i64 x.g, .int .i64 x.mn, .int .i64 x.mx, .int .i64 y.g, .int .i64 y.mn, .int .i64 y.mx] 36 (0, 0))) (some ⟨W.heap.size, 0, none⟩) 2 2 [x, y] := by
  refine ⟨rfl, fun r hr => ?_, fun r hr u hu => ?_, Nat.le_refl _, by unfold maxLen; omega, (fun h => by cases h), fun _ => ⟨_, 0, rfl, fun j hj i hi => ?_⟩⟩
  · simp only [List.map_cons, List.map_nil, List.mem_cons, List.not_mem_nil, or_false] at hr
    rcases hr with rfl | rfl <;> rfl
  · simp only [List.map_cons, List.map_nil, List.mem_cons, List.not_mem_nil, or_false] at hr
    rcases hr with rfl | rfl
    all_goals
      simp only [Stg.row, List.mem_cons, List.not_mem_nil, or_false] at hu
      rcases hu with rfl | rfl | rfl <;> rfl
  · rw [cell_of_row _ _ _ _ _ _ (heap_alloc_new W _)]
    match j, hj, i, hi with
    | 0, _, 0, _ => rfl
    | 0, _, 1, _ => rfl
    | 0, _, 2, _ => rfl
    | 1, _, 0, _ => rfl
    | 1, _, 1, _ => rfl
    | 1, _, 2, _ => rfl
theorem two_mem {p : Pl} (h1 : p.n ≤ 1000) (h2 : p.k ≤ 1000) : ∀ q ∈ [p, p], q.n ≤ 1000 ∧ q.k ≤ 1000 := fun q hq => by
  have e : q = p := by simpa using hq
  rw [e]
  exact ⟨h1, h2⟩
theorem same_self (p : Pl) : samePl p p = true := same_iff.2 ⟨rfl, rfl, rfl, rfl, rfl⟩
set_option maxHeartbeats 2000000 in
theorem two_any (w : World) : Calls Try.prog 26 #[] w fun e w' => ∃ p, e = .returned (plV p) ∧ IsTwo p ∧ PlIn w' p ∧ Below w.heap.size w w' := by
  go_enter Try.func26, Try.ntmps26
  go_wp2
  obtain ⟨W1, hW1⟩ : ∃ W1, w.alloc (.cells #[.slice (some ⟨w.heap.size + 1, 0, none⟩) 2 2, .slice (some ⟨w.heap.size + 1 + 1, 0, none⟩) 2 2, .int .i64 3, .int .i64 2, .int .i64 4] 25) = W1 := ⟨_, rfl⟩
  have s1 : W1.heap.size = w.heap.size + 1 := by rw [← hW1]; simp
  have b1 : W1.heap[w.heap.size]? = some (.cells #[.slice (some ⟨w.heap.size + 1, 0, none⟩) 2 2, .slice (some ⟨w.heap.size + 1 + 1, 0, none⟩) 2 2, .int .i64 3, .int .i64 2, .int .i64 4] 25 (0, 0)) := by rw [← hW1]; exact heap_alloc_new w _
  have hB1 : Below w.heap.size w W1 := by rw [← hW1]; exact one_alloc w _
  rw [hW1]
  obtain ⟨W2, hW2⟩ : ∃ W2, W1.alloc (.cells #[.int .i64 2, .int .i64 1] 3) = W2 := ⟨_, rfl⟩
  have s2 : W2.heap.size = w.heap.size + 1 + 1 := by rw [← hW2]; simp [s1]
  have i2 : Its .i64 W2 (some ⟨w.heap.size + 1, 0, none⟩) 2 2 [2, 1] := by rw [← hW2, ← s1]; exact lit_pair W1 2 1
  have hB2 : Below W1.heap.size W1 W2 := by rw [← hW2]; exact one_alloc W1 _
  rw [hW2]
  obtain ⟨W3, hW3⟩ : ∃ W3, W2.alloc (.cells #[.int .i64 1, .int .i64 5, .int .i64 9, .int .i64 2, .int .i64 7, .int .i64 8] 36) = W3 := ⟨_, rfl⟩
  have i3 : Sts W3 (some ⟨w.heap.size + 1 + 1, 0, none⟩) 2 2 [⟨1, 5, 9⟩, ⟨2, 7, 8⟩] := by rw [← hW3, ← s2]; exact sts_two W2 ⟨1, 5, 9⟩ ⟨2, 7, 8⟩
  have hB3 : Below W2.heap.size W2 W3 := by rw [← hW3]; exact one_alloc W2 _
  rw [hW3]
  have b3 := (hB3.block _ (by omega)).trans ((hB2.block _ (by omega)).trans b1)
  have hbx : BoxP W3 w.heap.size ⟨some ⟨w.heap.size + 1, 0, none⟩, 2, 2, [2, 1], some ⟨w.heap.size + 1 + 1, 0, none⟩, 2, 2, [⟨1, 5, 9⟩, ⟨2, 7, 8⟩], 3, 2, 4⟩ := b3
  obtain ⟨c0, c1, c2, c3, c4⟩ := hbx.cells
  simp only at c0 c1 c2 c3 c4
  refine bodyPost_ret (v := plV ⟨some ⟨w.heap.size + 1, 0, none⟩, 2, 2, [2, 1], some ⟨w.heap.size + 1 + 1, 0, none⟩, 2, 2, [⟨1, 5, 9⟩, ⟨2, 7, 8⟩], 3, 2, 4⟩) ?_ rfl ⟨_, rfl, ⟨rfl, rfl, rfl, rfl, rfl, rfl, rfl⟩, ⟨i2.below hB3, i3⟩, hB1.trans ((hB2.trans (hB3.mono hB2.size)).mono hB1.size)⟩
  simp [results, Try.results26, plV, go_sem, c0, c1, c2, c3, c4]
theorem pls_one (W : World) (p : Pl) (hp : PlIn W p) : Pls (W.alloc (.cells #[.slice p.A p.n p.c, .slice p.B p.k p.d, .int .i64 p.am, .int .i64 p.rd, .int .i64 p.hd] 25 (0, 0))) (some ⟨W.heap.size, 0, none⟩) 1 1 [p] := by
  have hb := one_alloc W (.cells #[.slice p.A p.n p.c, .slice p.B p.k p.d, .int .i64 p.am, .int .i64 p.rd, .int .i64 p.hd] 25 (0, 0))
  refine ⟨⟨rfl, fun r hr => ?_, fun r hr u hu => ?_, Nat.le_refl _, by unfold maxLen; omega, (fun h => by cases h), fun _ => ⟨_, 0, rfl, fun j hj i hi => ?_⟩⟩, fun x hx => ?_⟩
  · simp only [List.map_cons, List.map_nil, List.mem_cons, List.not_mem_nil, or_false] at hr
    rcases hr with rfl; rfl
  · simp only [List.map_cons, List.map_nil, List.mem_cons, List.not_mem_nil, or_false] at hr
    rcases hr with rfl
    all_goals
      simp only [Pl.row, List.mem_cons, List.not_mem_nil, or_false] at hu
      rcases hu with rfl | rfl | rfl | rfl | rfl <;> rfl
  · rw [cell_of_row _ _ _ _ _ _ (heap_alloc_new W _)]
    match j, hj, i, hi with
    | 0, _, 0, _ => rfl
    | 0, _, 1, _ => rfl
    | 0, _, 2, _ => rfl
    | 0, _, 3, _ => rfl
    | 0, _, 4, _ => rfl
  · simp only [List.mem_cons, List.not_mem_nil, or_false] at hx
    rcases hx with rfl
    · exact hp.below hb
theorem pls_two (W : World) (p q : Pl) (hp : PlIn W p) (hq : PlIn W q) : Pls (W.alloc (.cells #[.slice p.A p.n p.c, .slice p.B p.k p.d, .int .i64 p.am, .int .i64 p.rd, .int .i64 p.hd, .slice q.A q.n q.c, .slice q.B q.k q.d, .int .i64 q.am, .int .i64 q.rd, .int .i64 q.hd] 25 (0, 0))) (some ⟨W.heap.size, 0, none⟩) 2 2 [p, q] := by
  have hb := one_alloc W (.cells #[.slice p.A p.n p.c, .slice p.B p.k p.d, .int .i64 p.am, .int .i64 p.rd, .int .i64 p.hd, .slice q.A q.n q.c, .slice q.B q.k q.d, .int .i64 q.am, .int .i64 q.rd, .int .i64 q.hd] 25 (0, 0))
  refine ⟨⟨rfl, fun r hr => ?_, fun r hr u hu => ?_, Nat.le_refl _, by unfold maxLen; omega, (fun h => by cases h), fun _ => ⟨_, 0, rfl, fun j hj i hi => ?_⟩⟩, fun x hx => ?_⟩
  · simp only [List.map_cons, List.map_nil, List.mem_cons, List.not_mem_nil, or_false] at hr
    rcases hr with rfl | rfl <;> rfl
  · simp only [List.map_cons, List.map_nil, List.mem_cons, List.not_mem_nil, or_false] at hr
    rcases hr with rfl | rfl
    all_goals
      simp only [Pl.row, List.mem_cons, List.not_mem_nil, or_false] at hu
      rcases hu with rfl | rfl | rfl | rfl | rfl <;> rfl
  · rw [cell_of_row _ _ _ _ _ _ (heap_alloc_new W _)]
    match j, hj, i, hi with
    | 0, _, 0, _ => rfl
    | 0, _, 1, _ => rfl
    | 0, _, 2, _ => rfl
    | 0, _, 3, _ => rfl
    | 0, _, 4, _ => rfl
    | 1, _, 0, _ => rfl
    | 1, _, 1, _ => rfl
    | 1, _, 2, _ => rfl
    | 1, _, 3, _ => rfl
    | 1, _, 4, _ => rfl
  · simp only [List.mem_cons, List.not_mem_nil, or_false] at hx
    rcases hx with rfl | rfl
    · exact hp.below hb
    · exact hq.below hb
theorem pls_three (W : World) (p q r : Pl) (hp : PlIn W p) (hq : PlIn W q) (hr : PlIn W r) : Pls (W.alloc (.cells #[.slice p.A p.n p.c, .slice p.B p.k p.d, .int .i64 p.am, .int .i64 p.rd, .int .i64 p.hd, .slice q.A q.n q.c, .slice q.B q.k q.d, .int .i64 q.am, .int .i64 q.rd, .int .i64 q.hd, .slice r.A r.n r.c, .slice r.B r.k r.d, .int .i64 r.am, .int .i64 r.rd, .int .i64 r.hd] 25 (0, 0))) (some ⟨W.heap.size, 0, none⟩) 3 3 [p, q, r] := by
  have hb := one_alloc W (.cells #[.slice p.A p.n p.c, .slice p.B p.k p.d, .int .i64 p.am, .int .i64 p.rd, .int .i64 p.hd, .slice q.A q.n q.c, .slice q.B q.k q.d, .int .i64 q.am, .int .i64 q.rd, .int .i64 q.hd, .slice r.A r.n r.c, .slice r.B r.k r.d, .int .i64 r.am, .int .i64 r.rd, .int .i64 r.hd] 25 (0, 0))
  refine ⟨⟨rfl, fun r hr => ?_, fun r hr u hu => ?_, Nat.le_refl _, by unfold maxLen; omega, (fun h => by cases h), fun _ => ⟨_, 0, rfl, fun j hj i hi => ?_⟩⟩, fun x hx => ?_⟩
  · simp only [List.map_cons, List.map_nil, List.mem_cons, List.not_mem_nil, or_false] at hr
    rcases hr with rfl | rfl | rfl <;> rfl
  · simp only [List.map_cons, List.map_nil, List.mem_cons, List.not_mem_nil, or_false] at hr
    rcases hr with rfl | rfl | rfl
    all_goals
      simp only [Pl.row, List.mem_cons, List.not_mem_nil, or_false] at hu
      rcases hu with rfl | rfl | rfl | rfl | rfl <;> rfl
  · rw [cell_of_row _ _ _ _ _ _ (heap_alloc_new W _)]
    match j, hj, i, hi with
    | 0, _, 0, _ => rfl
    | 0, _, 1, _ => rfl
    | 0, _, 2, _ => rfl
    | 0, _, 3, _ => rfl
    | 0, _, 4, _ => rfl
    | 1, _, 0, _ => rfl
    | 1, _, 1, _ => rfl
    | 1, _, 2, _ => rfl
    | 1, _, 3, _ => rfl
    | 1, _, 4, _ => rfl
    | 2, _, 0, _ => rfl
    | 2, _, 1, _ => rfl
    | 2, _, 2, _ => rfl
    | 2, _, 3, _ => rfl
    | 2, _, 4, _ => rfl
  · simp only [List.mem_cons, List.not_mem_nil, or_false] at hx
    rcases hx with rfl | rfl | rfl
    · exact hp.below hb
    · exact hq.below hb
    · exact hr.below hb
theorem pls_four (W : World) (p q r s : Pl) (hp : PlIn W p) (hq : PlIn W q) (hr : PlIn W r) (hs : PlIn W s) : Pls (W.alloc (.cells #[.slice p.A p.n p.c, .slice p.B p.k p.d, .int .i64 p.am, .int .i64 p.rd, .int .i64 p.hd, .slice q.A q.n q.c, .slice q.B q.k q.d, .int .i64 q.am, .int .i64 q.rd, .int .i64 q.hd, .slice r.A r.n r.c, .slice r.B r.k r.d, .int .i64 r.am, .int .i64 r.rd, .int .i64 r.hd, .slice s.A s.n s.c, .slice s.B s.k s.d, .int .i64 s.am, .int .i64 s.rd, .int .i64 s.hd] 25 (0, 0))) (some ⟨W.heap.size, 0, none⟩) 4 4 [p, q, r, s] := by
  have hb := one_alloc W (.cells #[.slice p.A p.n p.c, .slice p.B p.k p.d, .int .i64 p.am, .int .i64 p.rd, .int .i64 p.hd, .slice q.A q.n q.c, .slice q.B q.k q.d, .int .i64 q.am, .int .i64 q.rd, .int .i64 q.hd, .slice r.A r.n r.c, .slice r.B r.k r.d, .int .i64 r.am, .int .i64 r.rd, .int .i64 r.hd, .slice s.A s.n s.c, .slice s.B s.k s.d, .int .i64 s.am, .int .i64 s.rd, .int .i64 s.hd] 25 (0, 0))
  refine ⟨⟨rfl, fun r hr => ?_, fun r hr u hu => ?_, Nat.le_refl _, by unfold maxLen; omega, (fun h => by cases h), fun _ => ⟨_, 0, rfl, fun j hj i hi => ?_⟩⟩, fun x hx => ?_⟩
  · simp only [List.map_cons, List.map_nil, List.mem_cons, List.not_mem_nil, or_false] at hr
    rcases hr with rfl | rfl | rfl | rfl <;> rfl
  · simp only [List.map_cons, List.map_nil, List.mem_cons, List.not_mem_nil, or_false] at hr
    rcases hr with rfl | rfl | rfl | rfl
    all_goals
      simp only [Pl.row, List.mem_cons, List.not_mem_nil, or_false] at hu
      rcases hu with rfl | rfl | rfl | rfl | rfl <;> rfl
  · rw [cell_of_row _ _ _ _ _ _ (heap_alloc_new W _)]
    match j, hj, i, hi with
    | 0, _, 0, _ => rfl
    | 0, _, 1, _ => rfl
    | 0, _, 2, _ => rfl
    | 0, _, 3, _ => rfl
    | 0, _, 4, _ => rfl
    | 1, _, 0, _ => rfl
    | 1, _, 1, _ => rfl
    | 1, _, 2, _ => rfl
    | 1, _, 3, _ => rfl
    | 1, _, 4, _ => rfl
    | 2, _, 0, _ => rfl
    | 2, _, 1, _ => rfl
    | 2, _, 2, _ => rfl
    | 2, _, 3, _ => rfl
    | 2, _, 4, _ => rfl
    | 3, _, 0, _ => rfl
    | 3, _, 1, _ => rfl
    | 3, _, 2, _ => rfl
    | 3, _, 3, _ => rfl
    | 3, _, 4, _ => rfl
  · simp only [List.mem_cons, List.not_mem_nil, or_false] at hx
    rcases hx with rfl | rfl | rfl | rfl
    · exact hp.below hb
    · exact hq.below hb
    · exact hr.below hb
    · exact hs.below hb
set_option maxHeartbeats 4000000 in
theorem pawake_any (HO : PlnOk) (w : World) : Calls Try.prog 9 #[] w fun e w' => e = .returned (.bool true) ∧ Below w.heap.size w w' := by
  go_enter Try.func9, Try.ntmps9
  go_wp2_with (first
    | (go_at_call 26
       (with_reducible refine (two_any _).mono ?_)
       rintro e w1 ⟨p, rfl, ht, hp, hb⟩
       obtain ⟨W, hW⟩ : ∃ W, w1.alloc (.cells #[.slice p.A p.n p.c, .slice p.B p.k p.d, .int .i64 p.am, .int .i64 p.rd, .int .i64 p.hd] 25) = W := ⟨_, rfl⟩
       have hB1 : Below w1.heap.size w1 W := by rw [← hW]; exact one_alloc w1 _
       have hbx : BoxP W w1.heap.size p := by rw [← hW]; exact BoxP.new w1 p
       have hpi : PlIn W p := hp.below hB1
       have hno : p.n ≤ 1000 := by rw [ht.n]; omega
       have hko : p.k ≤ 1000 := by rw [ht.k]; omega
       have hmem : ∀ q ∈ [p, p], q.n ≤ 1000 ∧ q.k ≤ 1000 := two_mem hno hko
       have HBC := Lib.hid (show ∀ X, Below W.heap.size W X → X.cell? ⟨w1.heap.size, 0, none⟩ = some (.slice p.A p.n p.c) ∧ X.cell? ⟨w1.heap.size, 1, none⟩ = some (.slice p.B p.k p.d) ∧ X.cell? ⟨w1.heap.size, 2, none⟩ = some (.int .i64 p.am) ∧ X.cell? ⟨w1.heap.size, 3, none⟩ = some (.int .i64 p.rd) ∧ X.cell? ⟨w1.heap.size, 4, none⟩ = some (.int .i64 p.hd) from fun X hX => (hbx.below hX).cells)
       have HPI := Lib.hid (show ∀ X, Below W.heap.size W X → PlIn X p from fun X hX => hpi.below hX)
       have HFT := Lib.hid (fun X hX => HO.fit p X (HPI.out X hX) hno hko)
       have HNX := Lib.hid (fun x X hX => HO.next p x X (HPI.out X hX) hno hko)
       have HLE := Lib.hid (fun x X hX => HO.least p x X (HPI.out X hX) hno hko)
       have HCY := Lib.hid (fun X hX => HO.cycle p X (HPI.out X hX) hno hko)
       have HSM := Lib.hid (fun X hX => HO.same p p X (HPI.out X hX) (HPI.out X hX) hno hko hno hko)
       have HAL := Lib.hid (fun X (hX : Below W.heap.size W X) => HO.all _ 2 2 [p, p] (X.alloc (.cells #[.slice p.A p.n p.c, .slice p.B p.k p.d, .int .i64 p.am, .int .i64 p.rd, .int .i64 p.hd, .slice p.A p.n p.c, .slice p.B p.k p.d, .int .i64 p.am, .int .i64 p.rd, .int .i64 p.hd] 25)) (pls_two X p p (HPI.out X hX) (HPI.out X hX)) (by omega) hmem)
       rw [two_all ht] at HAL
       simp only [two_fit ht, same_self, two_cycle ht] at HFT HSM HCY
       have HN0 := Lib.hid (HNX.out 0)
       have HN1 := Lib.hid (HNX.out 1)
       have HL1 := Lib.hid (HLE.out 1)
       rw [two_next0 ht] at HN0
       rw [two_next1 ht] at HN1
       rw [two_least ht] at HL1
       have HB1 := Lib.hid (hb.trans (hB1.mono hb.size))
       have HW := Lib.hid hW
       have HX1 := Lib.hid (Below.refl W.heap.size W)
       clear hb hW hB1 hbx hpi hp ht HNX HLE hmem
       simp only [plV] at HFT HN0 HN1 HL1 HCY HSM ⊢)
    | (go_at_call 15
       rw [HW.out]
       (with_reducible refine (HFT.out _ HX1.out).mono ?_)
       rintro e w2 ⟨rfl, hbx⟩
       obtain ⟨z0, z1, z2, z3, z4⟩ := HBC.out w2 (HX1.out.trans (hbx.mono HX1.out.size))
       have HX2 := Lib.hid (HX1.out.trans (hbx.mono HX1.out.size))
       clear hbx)
    | (go_at_call 22
       (with_reducible refine (HCY.out _ HX2.out).mono ?_)
       rintro e w3 ⟨rfl, hbx⟩
       obtain ⟨z0, z1, z2, z3, z4⟩ := HBC.out w3 (HX2.out.trans (hbx.mono HX2.out.size))
       have HX3 := Lib.hid (HX2.out.trans (hbx.mono HX2.out.size))
       clear hbx)
    | (go_at_call 18
       (with_reducible refine (HN0.out _ HX3.out).mono ?_)
       rintro e w4 ⟨rfl, hbx⟩
       obtain ⟨z0, z1, z2, z3, z4⟩ := HBC.out w4 (HX3.out.trans (hbx.mono HX3.out.size))
       have HX4 := Lib.hid (HX3.out.trans (hbx.mono HX3.out.size))
       clear hbx)
    | (go_at_call 18
       (with_reducible refine (HN1.out _ HX4.out).mono ?_)
       rintro e w5 ⟨rfl, hbx⟩
       obtain ⟨z0, z1, z2, z3, z4⟩ := HBC.out w5 (HX4.out.trans (hbx.mono HX4.out.size))
       have HX5 := Lib.hid (HX4.out.trans (hbx.mono HX4.out.size))
       clear hbx)
    | (go_at_call 20
       (with_reducible refine (HL1.out _ HX5.out).mono ?_)
       rintro e w6 ⟨rfl, hbx⟩
       obtain ⟨z0, z1, z2, z3, z4⟩ := HBC.out w6 (HX5.out.trans (hbx.mono HX5.out.size))
       have HX6 := Lib.hid (HX5.out.trans (hbx.mono HX5.out.size))
       clear hbx)
    | (go_at_call 16
       (with_reducible refine (HAL.out _ HX6.out).mono ?_)
       rintro e w7 ⟨rfl, hbx⟩
       have hX7 : Below W.heap.size W w7 := (HX6.out.alloc HX6.out.size _).trans (hbx.mono (HX6.out.alloc HX6.out.size _).size)
       obtain ⟨z0, z1, z2, z3, z4⟩ := HBC.out w7 hX7
       have HX7 := Lib.hid hX7
       clear hbx hX7)
    | (go_at_call 17
       (with_reducible refine (HSM.out _ HX7.out).mono ?_)
       rintro e w8 ⟨rfl, hbx⟩
       obtain ⟨z0, z1, z2, z3, z4⟩ := HBC.out w8 (HX7.out.trans (hbx.mono HX7.out.size))
       have HX8 := Lib.hid (HX7.out.trans (hbx.mono HX7.out.size))
       clear hbx))
  go_ret
  exact ⟨rfl, HB1.out.trans (HX8.out.mono HB1.out.size)⟩
def fewB (p : Pl) : Bool := decide (p.n ≤ 10) && decide (p.k ≤ 10)
theorem few_iff {p : Pl} : fewB p = true ↔ p.n ≤ 10 ∧ p.k ≤ 10 := by simp [fewB]
set_option maxHeartbeats 2000000 in
theorem pfew_any (p : Pl) (w : World) (hp : PlIn w p) : Calls Try.prog 10 #[plV p] w fun e w' => e = .returned (.bool (fewB p)) ∧ Below w.heap.size w w' := by
  have hsm := hp.m.small
  have hsk := hp.s.small
  have HB := Lib.hid (one_alloc w (.cells #[.slice p.A p.n p.c, .slice p.B p.k p.d, .int .i64 p.am, .int .i64 p.rd, .int .i64 p.hd] 25))
  have hr : fewB p = (decide (p.n ≤ 10) && decide (p.k ≤ 10)) := rfl
  simp only [plV]
  obtain ⟨A, n, c, m, B, k, d, s, am, rd, hd⟩ := p
  simp only at *
  rw [hr]
  clear hr hp
  by_cases h1 : n ≤ 10
  · by_cases h2 : k ≤ 10
    · have h1' : decide (n ≤ 10) = true := decide_eq_true h1
      have h2' : decide (k ≤ 10) = true := decide_eq_true h2
      rw [h1', h2']
      go_enter Try.func10, Try.ntmps10
      go_wp2
      go_ret
      exact ⟨by first | (simp [h1, h2]; omega) | simp [h1, h2], HB.out⟩
    · have h1' : decide (n ≤ 10) = true := decide_eq_true h1
      have h2' : decide (k ≤ 10) = false := decide_eq_false h2
      rw [h1', h2']
      go_enter Try.func10, Try.ntmps10
      go_wp2
      go_ret
      exact ⟨by first | (simp [h1, h2]; omega) | simp [h1, h2], HB.out⟩
  · have h1' : decide (n ≤ 10) = false := decide_eq_false h1
    rw [h1']
    go_enter Try.func10, Try.ntmps10
    go_wp2
    go_ret
    exact ⟨by first | (simp [h1]; omega) | simp [h1], HB.out⟩
def fewAllB (l : List Pl) : Bool := (l.take 6).all fewB && decide (l.length ≤ 5)
theorem fewall_iff {l : List Pl} : fewAllB l = true ↔ l.length ≤ 5 ∧ ∀ p ∈ l, p.n ≤ 10 ∧ p.k ≤ 10 := by
  simp only [fewAllB, Bool.and_eq_true, decide_eq_true_eq, List.all_eq_true, few_iff]
  constructor
  · rintro ⟨h1, h2⟩
    rw [List.take_of_length_le (by omega)] at h1
    exact ⟨h2, h1⟩
  · rintro ⟨h1, h2⟩
    rw [List.take_of_length_le (by omega)]
    exact ⟨h2, h1⟩
set_option maxHeartbeats 2000000 in
theorem pfewall_any (A : Option Addr) (n c : Nat) (l : List Pl) (w : World) (hl : Pls w A n c l) : Calls Try.prog 11 #[.slice A n c] w fun e w' => e = .returned (.bool (fewAllB l)) ∧ Below w.heap.size w w' := by
  have hsm := hl.small
  have HLL := Lib.hid hl.len
  have HL := Lib.hid hl
  clear hl
  go_enter Try.func11, Try.ntmps11
  go_wp2
  go_loopw [3] (fun v wr => ∃ j : Nat, j ≤ n ∧ j ≤ 6 ∧ v = .int .i64 j ∧ (l.take j).all fewB = true ∧ Below w.heap.size w wr) (fun v _ => n - (intOf v).toNat)
  case atStart => exact ⟨0, by omega, by omega, rfl, rfl, Below.refl _ _⟩
  case round =>
    obtain ⟨j, hj, hj6, rfl, hall, hbw⟩ := hrel
    have HBW := Lib.hid hbw
    have HAL := Lib.hid hall
    clear hall
    by_cases hlt : j < n
    · have hlt2 : (j : Int) < n := by omega
      by_cases h5 : j ≤ 5
      · have h52 : (j : Int) ≤ 5 := by omega
        have q0 : 0 ≤ (j : Int) := by omega
        obtain ⟨b, off, q, rfl, hq, -, hget, hqi, z0, z1, z2, z3, z4⟩ := (HL.out.below hbw).at_ j hlt
        have HFW := Lib.hid (pfew_any q wr hqi)
        simp only [plV] at HFW
        have htk : (l.take (j + 1)).all fewB = fewB q := by
          have hl' : j < l.length := by rw [HLL.out]; exact hlt
          have e : l[j] = q := by rw [List.getElem?_eq_getElem hl'] at hget; injection hget
          rw [List.take_succ_eq_append_getElem hl', List.all_append, HAL.out, e]
          simp
        have HTK := Lib.hid htk
        clear hbw hqi hq hget htk
        cases hf : fewB q
        · rw [hf] at HFW
          have HR := Lib.hid (show fewAllB l = false by
            rw [fewAllB, Bool.and_eq_false_iff]
            left
            rw [List.all_eq_false]
            have h1 := HTK.out
            rw [hf, List.all_eq_false] at h1
            obtain ⟨x, hx, hxf⟩ := h1
            exact ⟨x, (List.take_subset_take_left l (by omega)) hx, hxf⟩)
          clear hf
          go_wp2_with (first
            | (go_at_call 10
               (with_reducible refine (HFW.out).mono ?_)
               rintro e w3 ⟨rfl, hb3⟩
               have HB3 := Lib.hid (HBW.out.trans (hb3.mono HBW.out.size))
               clear hb3))
          go_ret
          exact ⟨by rw [HR.out]; rfl, HB3.out⟩
        · rw [hf] at HFW
          have HN := Lib.hid (HTK.out.trans hf)
          clear hf
          go_wp2_with (first
            | (go_at_call 10
               (with_reducible refine (HFW.out).mono ?_)
               rintro e w3 ⟨rfl, hb3⟩
               have HB3 := Lib.hid (HBW.out.trans (hb3.mono HBW.out.size))
               clear hb3))
          go_roundw
          case rel => exact ⟨j + 1, by omega, by omega, by go_num, HN.out, HB3.out⟩
          case measure => simp [intOf]; omega
      · have h52 : ¬ ((j : Int) ≤ 5) := by omega
        have hn5 : ¬ (n ≤ 5) := by omega
        have hn5i : decide (n ≤ 5) = false := decide_eq_false hn5
        have HR := Lib.hid (show fewAllB l = false by rw [fewAllB, HLL.out, hn5i, Bool.and_false])
        go_wp2
        go_ret
        exact ⟨by rw [HR.out]; first | (simp [hn5]; omega) | simp [hn5], HBW.out⟩
    · obtain rfl : j = n := by omega
      have hge : ¬ ((j : Int) < j) := by omega
      by_cases h5 : j ≤ 5
      · have hn5i : decide (j ≤ 5) = true := decide_eq_true h5
        have HR := Lib.hid (show fewAllB l = true by
          have h1 := HAL.out
          rw [fewAllB, HLL.out, hn5i, Bool.and_true]
          rw [List.take_of_length_le (by rw [HLL.out]; exact Nat.le_refl _)] at h1
          rw [List.take_of_length_le (by rw [HLL.out]; omega)]
          exact h1)
        go_wp2
        go_ret
        exact ⟨by rw [HR.out]; first | (simp [h5]; omega) | simp [h5], HBW.out⟩
      · have hn5i : decide (j ≤ 5) = false := decide_eq_false h5
        have HR := Lib.hid (show fewAllB l = false by rw [fewAllB, HLL.out, hn5i, Bool.and_false])
        go_wp2
        go_ret
        exact ⟨by rw [HR.out]; first | (simp [h5]; omega) | simp [h5], HBW.out⟩
end Go.Proofs.Ytjjjfckkglcdfaa
