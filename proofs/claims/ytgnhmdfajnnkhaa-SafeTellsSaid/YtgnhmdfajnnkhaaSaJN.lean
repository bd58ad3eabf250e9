/- Joined texts: Wishes of package safe as the landed code has them, and what is asked of them. What a machine of package stage tells: its stage, what it shows, what is next. -/
import Derived.Test.YtgnhmdfajnnkhaaSaJM
import Derived.Test.YtgnhmdfajnnkhaaSaJF
/- Wishes of package safe as the landed code has them, and what is asked of them. -/
namespace Go.Proofs.Ytgnhmdfajnnkhaa
set_option maxRecDepth 100000
set_option linter.unusedVariables false
set_option linter.unusedSimpArgs false
open Go.RowKit

def wsV (A : Option Addr) (n c : Nat) (s : Sg) (a : Int) : Value := .agg #[.slice A n c, .int .i64 s.pl, .int .i64 s.st, .int .i64 s.nx, .int .i64 s.ph, .int .i64 s.t, .int .i64 s.hd, .int .i64 s.hl, .int .i64 s.ak, .int .i64 s.wt, .bool s.sp, .int .i64 a]
/-- a block that holds one -/
def BoxW (w : World) (b : Nat) (A : Option Addr) (n c : Nat) (s : Sg) (a : Int) : Prop := w.heap[b]? = some (.cells #[.slice A n c, .int .i64 s.pl, .int .i64 s.st, .int .i64 s.nx, .int .i64 s.ph, .int .i64 s.t, .int .i64 s.hd, .int .i64 s.hl, .int .i64 s.ak, .int .i64 s.wt, .bool s.sp, .int .i64 a] 62 (0, 0))
structure CellsW (w : World) (b : Nat) (A : Option Addr) (n c : Nat) (s : Sg) (a : Int) : Prop where
  m : w.cell? ⟨b, 0, none⟩ = some (.slice A n c)
  c0 : w.cell? ⟨b, 1, none⟩ = some (.int .i64 s.pl)
  c1 : w.cell? ⟨b, 2, none⟩ = some (.int .i64 s.st)
  c2 : w.cell? ⟨b, 3, none⟩ = some (.int .i64 s.nx)
  c3 : w.cell? ⟨b, 4, none⟩ = some (.int .i64 s.ph)
  c4 : w.cell? ⟨b, 5, none⟩ = some (.int .i64 s.t)
  c5 : w.cell? ⟨b, 6, none⟩ = some (.int .i64 s.hd)
  c6 : w.cell? ⟨b, 7, none⟩ = some (.int .i64 s.hl)
  c7 : w.cell? ⟨b, 8, none⟩ = some (.int .i64 s.ak)
  c8 : w.cell? ⟨b, 9, none⟩ = some (.int .i64 s.wt)
  c9 : w.cell? ⟨b, 10, none⟩ = some (.bool s.sp)
  ca : w.cell? ⟨b, 11, none⟩ = some (.int .i64 a)
section
variable {w w' : World} {b n c : Nat} {A : Option Addr} {s : Sg} {a : Int}
theorem BoxW.new (w : World) (A : Option Addr) (n c : Nat) (s : Sg) (a : Int) : BoxW (w.alloc (.cells #[.slice A n c, .int .i64 s.pl, .int .i64 s.st, .int .i64 s.nx, .int .i64 s.ph, .int .i64 s.t, .int .i64 s.hd, .int .i64 s.hl, .int .i64 s.ak, .int .i64 s.wt, .bool s.sp, .int .i64 a] 62)) w.heap.size A n c s a := heap_alloc_new w _
theorem BoxW.lt (h : BoxW w b A n c s a) : b < w.heap.size := (Array.getElem?_eq_some_iff.1 h).1
theorem BoxW.below (h : BoxW w b A n c s a) (hb : Below w.heap.size w w') : BoxW w' b A n c s a := (hb.block b h.lt).trans h
theorem BoxW.cells (h : BoxW w b A n c s a) : CellsW w b A n c s a :=
  ⟨(cell_of_row _ _ _ _ _ _ h).trans rfl, (cell_of_row _ _ _ _ _ _ h).trans rfl, (cell_of_row _ _ _ _ _ _ h).trans rfl, (cell_of_row _ _ _ _ _ _ h).trans rfl, (cell_of_row _ _ _ _ _ _ h).trans rfl, (cell_of_row _ _ _ _ _ _ h).trans rfl, (cell_of_row _ _ _ _ _ _ h).trans rfl, (cell_of_row _ _ _ _ _ _ h).trans rfl, (cell_of_row _ _ _ _ _ _ h).trans rfl, (cell_of_row _ _ _ _ _ _ h).trans rfl, (cell_of_row _ _ _ _ _ _ h).trans rfl, (cell_of_row _ _ _ _ _ _ h).trans rfl⟩
end
/-- why a wish is not done, on its way to who recovers it -/
def whyV (k : Int) : PanicEntry := { v := .iface 59 (.int .i64 k), recovered := false }
/-- gives a machine, or panics with the number of an error -/
def GivesWs (r : Sg × Int) (X : World) : Ending → World → Prop := fun e w' => ((r.2 = 0 ∧ e = .returned (sgV r.1)) ∨ (r.2 ≠ 0 ∧ e = .panicked [whyV r.2])) ∧ Below X.heap.size X w'
theorem GivesWs.ok {r : Sg × Int} {X w' : World} {g : Sg} (h : r = (g, 0)) (hb : Below X.heap.size X w') : GivesWs r X (.returned (sgV g)) w' := by subst h; exact ⟨.inl ⟨rfl, rfl⟩, hb⟩
theorem GivesWs.no {r : Sg × Int} {X w' : World} {g : Sg} {k : Int} (h : r = (g, k)) (hk : k ≠ 0) (hb : Below X.heap.size X w') : GivesWs r X (.panicked [whyV k]) w' := by subst h; exact ⟨.inr ⟨hk, rfl⟩, hb⟩
theorem unless_yes (k : Int) (w : World) : Calls Try.prog 49 #[.int .i64 k, .bool true] w fun e w' => e = .returned (.tuple #[]) ∧ w = w' := by
  go_enter Try.func49, Try.ntmps49
  go_wp2
  go_end0
  exact ⟨rfl, rfl⟩
theorem unless_no (k : Int) (w : World) : Calls Try.prog 49 #[.int .i64 k, .bool false] w fun e w' => e = .panicked [whyV k] ∧ w = w' := by
  go_enter Try.func49, Try.ntmps49
  go_wp2
  exact ⟨rfl, rfl, rfl⟩
theorem splace_any (x y : Int) (w : World) : Calls Try.prog 52 #[.int .i64 x, .int .i64 y] w fun e w' => e = .returned (.bool (placeB x y)) ∧ w = w' := by
  have HR := Lib.hid (show placeB x y = (decide (0 ≤ x) && decide (x < y)) from rfl)
  by_cases h0 : 0 ≤ x
  · rw [decide_eq_true h0, Bool.true_and] at HR
    go_enter Try.func52, Try.ntmps52
    go_wp2
    go_ret
    exact ⟨by rw [HR.out]; rfl, rfl⟩
  · rw [decide_eq_false h0, Bool.false_and] at HR
    go_enter Try.func52, Try.ntmps52
    go_wp2
    go_ret
    exact ⟨by rw [HR.out]; rfl, rfl⟩
set_option maxHeartbeats 4000000 in
theorem running_any (A : Option Addr) (n c : Nat) (s : Sg) (a : Int) (w : World) : Calls Try.prog 50 #[wsV A n c s a] w fun e w' => e = .returned (.bool (decide (freeG s))) ∧ Below w.heap.size w w' := by
  have HR := Lib.hid (show decide (freeG s) = (decide (s.ph = 0) && !s.sp) from by rw [Bool.eq_iff_iff, decide_eq_true_iff]; unfold freeG; simp)
  unfold wsV
  obtain ⟨R, hR⟩ : ∃ R, decide (freeG s) = R := ⟨_, rfl⟩
  rw [hR] at HR ⊢
  clear hR
  obtain ⟨pl, st, nx, ph, t, hd, hh, ak, wt, sp⟩ := s
  simp only at *
  by_cases h0 : ph = 0
  · rw [decide_eq_true h0, Bool.true_and] at HR
    subst h0
    cases sp <;>
      go_enter Try.func50, Try.ntmps50 <;> go_wp2 <;> go_ret <;>
      exact ⟨by rw [HR.out]; rfl, one_alloc w _⟩
  · rw [decide_eq_false h0, Bool.false_and] at HR
    have b0 : (ph == 0) = false := by simpa using h0
    go_enter Try.func50, Try.ntmps50
    go_wp2
    go_ret
    exact ⟨by rw [HR.out]; rfl, one_alloc w _⟩
set_option maxHeartbeats 4000000 in
theorem sown_plan (A : Option Addr) (n c : Nat) (l : List Pl) (s : Sg) (a : Int) (w : World) (hl : Pls w A n c l) (h0 : 0 ≤ s.pl) (h1 : s.pl < n) : Calls Try.prog 51 #[wsV A n c s a] w fun e w' => e = .returned (plV (planAt l s.pl)) ∧ Below w.heap.size w w' := by
  obtain ⟨j, hj⟩ := Int.eq_ofNat_of_zero_le h0
  have hjn : j < n := by omega
  obtain ⟨b, off, q, rfl, hq, hmem, -, -, -⟩ := hl.at_ j hjn
  have hqa : planAt l s.pl = q := by rw [hj, planAt, Int.toNat_natCast, hq]
  have HPC := Lib.hid (show ∀ X, Below w.heap.size w X → X.cell? ⟨b, off + j * 5, none⟩ = some (.slice q.A q.n q.c) ∧ X.cell? ⟨b, off + j * 5 + 1, none⟩ = some (.slice q.B q.k q.d) ∧ X.cell? ⟨b, off + j * 5 + 2, none⟩ = some (.int .i64 q.am) ∧ X.cell? ⟨b, off + j * 5 + 3, none⟩ = some (.int .i64 q.rd) ∧ X.cell? ⟨b, off + j * 5 + 4, none⟩ = some (.int .i64 q.hd) from fun X hX => by
    obtain ⟨b2, off2, p2, hA2, hp2, -, -, -, z0, z1, z2, z3, z4⟩ := (hl.below hX).at_ j hjn
    cases hA2
    obtain rfl := hq.symm.trans hp2
    exact ⟨z0, z1, z2, z3, z4⟩)
  have hj0 : 0 ≤ (j : Int) := by omega
  have hjn' : (j : Int) < n := by omega
  rw [hqa]
  unfold wsV plV
  clear hl hq hmem hqa h0 h1
  obtain ⟨pl, st, nx, ph, t, hd, hh, ak, wt, sp⟩ := s
  simp only at *
  subst hj
  obtain ⟨z0, z1, z2, z3, z4⟩ := HPC.out _ (below_alloc2 w (.cells #[.slice (some ⟨b, off, none⟩) n c, .int .i64 (j : Int), .int .i64 st, .int .i64 nx, .int .i64 ph, .int .i64 t, .int .i64 hd, .int .i64 hh, .int .i64 ak, .int .i64 wt, .bool sp, .int .i64 a] 62) (.cells #[.slice none 0 0, .slice none 0 0, .int .i64 0, .int .i64 0, .int .i64 0] 47))
  go_enter Try.func51, Try.ntmps51
  go_wp2
  refine bodyPost_ret (v := .agg #[.slice q.A q.n q.c, .slice q.B q.k q.d, .int .i64 q.am, .int .i64 q.rd, .int .i64 q.hd]) ?_ rfl ⟨rfl, below_alloc2 _ _ _⟩
  exact results_cell_row Try.results51 _ _ (w.heap.size + 1) 47 #[.slice q.A q.n q.c, .slice q.B q.k q.d, .int .i64 q.am, .int .i64 q.rd, .int .i64 q.hd] (0, 0) _ rfl (alloc2_new _ _ _) Try.underlying47 rfl info_plan
set_option maxHeartbeats 4000000 in
theorem wfree_any (A : Option Addr) (n c : Nat) (l : List Pl) (s : Sg) (a : Int) (w : World) : Calls Try.prog 31 #[wsV A n c s a] w (GivesWs (askS l s 2 a) w) := by
  unfold wsV
  by_cases h0 : a = 0
  · subst h0
    have b0 : ((0 : Int) == 0) = true := rfl
    by_cases h1 : s.hd = 0
    · have HE := Lib.hid (show askS l s 2 0 = (s, 11) from by rw [show askS l s 2 0 = bareS s 2 0 from rfl, bareS, if_neg (by decide), if_pos rfl, if_pos h1])
      obtain ⟨pl, st, nx, ph, t, hd, hh, ak, wt, sp⟩ := s
      simp only at *
      subst h1
      go_enter Try.func31, Try.ntmps31
      go_wp2_with (first
        | (go_at_call 49; (with_reducible refine (unless_yes 1 _).mono ?_); rintro e wq ⟨rfl, rfl⟩)
        | (go_at_call 49; (with_reducible refine (unless_no 11 _).mono ?_); rintro e wq ⟨rfl, rfl⟩))
      exact ⟨rfl, GivesWs.no HE.out (by decide) (below_alloc2 _ _ _)⟩
    · have HE := Lib.hid (show askS l s 2 0 = ({ s with hd := 0 }, 0) from by rw [show askS l s 2 0 = bareS s 2 0 from rfl, bareS, if_neg (by decide), if_pos rfl, if_neg h1])
      obtain ⟨pl, st, nx, ph, t, hd, hh, ak, wt, sp⟩ := s
      simp only at *
      have b1 : (hd != 0) = true := by rw [bne_iff_ne]; exact h1
      go_enter Try.func31, Try.ntmps31
      go_wp2_with (first
        | (go_at_call 49; (with_reducible refine (unless_yes 1 _).mono ?_); rintro e wq ⟨rfl, rfl⟩)
        | (go_at_call 49; (with_reducible refine (unless_yes 11 _).mono ?_); rintro e wq ⟨rfl, rfl⟩))
      refine bodyPost_ret (v := .agg #[.int .i64 pl, .int .i64 st, .int .i64 nx, .int .i64 ph, .int .i64 t, .int .i64 0, .int .i64 hh, .int .i64 ak, .int .i64 wt, .bool sp]) ?_ rfl (GivesWs.ok (g := ⟨pl, st, nx, ph, t, 0, hh, ak, wt, sp⟩) HE.out (below_alloc2 _ _ _))
      exact results_cell_row Try.results31 _ _ (w.heap.size + 1) 24 #[.int .i64 pl, .int .i64 st, .int .i64 nx, .int .i64 ph, .int .i64 t, .int .i64 0, .int .i64 hh, .int .i64 ak, .int .i64 wt, .bool sp] (0, 0) _ rfl (alloc2_new _ _ _) Try.underlying24 rfl info_sig
  · have HE := Lib.hid (show askS l s 2 a = (s, 1) from by rw [show askS l s 2 a = bareS s 2 a from rfl, bareS, if_pos h0])
    have b0 : (a == 0) = false := by simpa using h0
    obtain ⟨pl, st, nx, ph, t, hd, hh, ak, wt, sp⟩ := s
    simp only at *
    go_enter Try.func31, Try.ntmps31
    go_wp2_with (first
      | (go_at_call 49; (with_reducible refine (unless_no 1 _).mono ?_); rintro e wq ⟨rfl, rfl⟩))
    exact ⟨rfl, GivesWs.no HE.out (by decide) (below_alloc2 _ _ _)⟩
set_option maxHeartbeats 4000000 in
theorem wred_any (A : Option Addr) (n c : Nat) (l : List Pl) (s : Sg) (a : Int) (w : World) : Calls Try.prog 34 #[wsV A n c s a] w (GivesWs (askS l s 5 a) w) := by
  unfold wsV
  by_cases h0 : a = 0
  · subst h0
    have b0 : ((0 : Int) == 0) = true := rfl
    have HE := Lib.hid (show askS l s 5 0 = ({ s with sp := true, hd := 0 }, 0) from rfl)
    obtain ⟨pl, st, nx, ph, t, hd, hh, ak, wt, sp⟩ := s
    simp only at *
    go_enter Try.func34, Try.ntmps34
    go_wp2_with (first
      | (go_at_call 49; (with_reducible refine (unless_yes 1 _).mono ?_); rintro e wq ⟨rfl, rfl⟩))
    refine bodyPost_ret (v := .agg #[.int .i64 pl, .int .i64 st, .int .i64 nx, .int .i64 ph, .int .i64 t, .int .i64 0, .int .i64 hh, .int .i64 ak, .int .i64 wt, .bool true]) ?_ rfl (GivesWs.ok (g := ⟨pl, st, nx, ph, t, 0, hh, ak, wt, true⟩) HE.out (below_alloc2 _ _ _))
    exact results_cell_row Try.results34 _ _ (w.heap.size + 1) 24 #[.int .i64 pl, .int .i64 st, .int .i64 nx, .int .i64 ph, .int .i64 t, .int .i64 0, .int .i64 hh, .int .i64 ak, .int .i64 wt, .bool true] (0, 0) _ rfl (alloc2_new _ _ _) Try.underlying24 rfl info_sig
  · have HE := Lib.hid (show askS l s 5 a = (s, 1) from by rw [show askS l s 5 a = bareS s 5 a from rfl, bareS, if_pos h0])
    have b0 : (a == 0) = false := by simpa using h0
    obtain ⟨pl, st, nx, ph, t, hd, hh, ak, wt, sp⟩ := s
    simp only at *
    go_enter Try.func34, Try.ntmps34
    go_wp2_with (first
      | (go_at_call 49; (with_reducible refine (unless_no 1 _).mono ?_); rintro e wq ⟨rfl, rfl⟩))
    exact ⟨rfl, GivesWs.no HE.out (by decide) (below_alloc2 _ _ _)⟩
set_option maxHeartbeats 4000000 in
theorem wclear_any (A : Option Addr) (n c : Nat) (l : List Pl) (s : Sg) (a : Int) (w : World) : Calls Try.prog 35 #[wsV A n c s a] w (GivesWs (askS l s 6 a) w) := by
  unfold wsV
  by_cases h0 : a = 0
  · subst h0
    have b0 : ((0 : Int) == 0) = true := rfl
    have HE0 : askS l s 6 0 = if s.sp = false ∨ s.ph ≠ 2 then (s, 11) else ({ s with sp := false }, 0) := rfl
    by_cases h1 : s.sp = false
    · have HE := Lib.hid (HE0.trans (if_pos (.inl h1)))
      clear HE0
      obtain ⟨pl, st, nx, ph, t, hd, hh, ak, wt, sp⟩ := s
      simp only at *
      subst h1
      go_enter Try.func35, Try.ntmps35
      go_wp2_with (first
        | (go_at_call 49; (with_reducible refine (unless_yes 1 _).mono ?_); rintro e wq ⟨rfl, rfl⟩)
        | (go_at_call 49; (with_reducible refine (unless_no 11 _).mono ?_); rintro e wq ⟨rfl, rfl⟩))
      exact ⟨rfl, GivesWs.no HE.out (by decide) (below_alloc2 _ _ _)⟩
    · by_cases h2 : s.ph = 2
      · have HE := Lib.hid (HE0.trans (if_neg (fun h => h.elim h1 (fun h => h h2))))
        clear HE0
        obtain ⟨pl, st, nx, ph, t, hd, hh, ak, wt, sp⟩ := s
        simp only at *
        obtain rfl : sp = true := by cases sp <;> simp_all
        subst h2
        go_enter Try.func35, Try.ntmps35
        go_wp2_with (first
          | (go_at_call 49; (with_reducible refine (unless_yes 1 _).mono ?_); rintro e wq ⟨rfl, rfl⟩)
          | (go_at_call 49; (with_reducible refine (unless_yes 11 _).mono ?_); rintro e wq ⟨rfl, rfl⟩))
        refine bodyPost_ret (v := .agg #[.int .i64 pl, .int .i64 st, .int .i64 nx, .int .i64 2, .int .i64 t, .int .i64 hd, .int .i64 hh, .int .i64 ak, .int .i64 wt, .bool false]) ?_ rfl (GivesWs.ok (g := ⟨pl, st, nx, 2, t, hd, hh, ak, wt, false⟩) HE.out (below_alloc2 _ _ _))
        exact results_cell_row Try.results35 _ _ (w.heap.size + 1) 24 #[.int .i64 pl, .int .i64 st, .int .i64 nx, .int .i64 2, .int .i64 t, .int .i64 hd, .int .i64 hh, .int .i64 ak, .int .i64 wt, .bool false] (0, 0) _ rfl (alloc2_new _ _ _) Try.underlying24 rfl info_sig
      · have HE := Lib.hid (HE0.trans (if_pos (.inr h2)))
        clear HE0
        obtain ⟨pl, st, nx, ph, t, hd, hh, ak, wt, sp⟩ := s
        simp only at *
        obtain rfl : sp = true := by cases sp <;> simp_all
        have b2 : (ph == 2) = false := by simpa using h2
        go_enter Try.func35, Try.ntmps35
        go_wp2_with (first
          | (go_at_call 49; (with_reducible refine (unless_yes 1 _).mono ?_); rintro e wq ⟨rfl, rfl⟩)
          | (go_at_call 49; (with_reducible refine (unless_no 11 _).mono ?_); rintro e wq ⟨rfl, rfl⟩))
        exact ⟨rfl, GivesWs.no HE.out (by decide) (below_alloc2 _ _ _)⟩
  · have HE := Lib.hid (show askS l s 6 a = (s, 1) from by rw [show askS l s 6 a = bareS s 6 a from rfl, bareS, if_pos h0])
    have b0 : (a == 0) = false := by simpa using h0
    obtain ⟨pl, st, nx, ph, t, hd, hh, ak, wt, sp⟩ := s
    simp only at *
    go_enter Try.func35, Try.ntmps35
    go_wp2_with (first
      | (go_at_call 49; (with_reducible refine (unless_no 1 _).mono ?_); rintro e wq ⟨rfl, rfl⟩))
    exact ⟨rfl, GivesWs.no HE.out (by decide) (below_alloc2 _ _ _)⟩
theorem place_iff0 {x y : Int} : placeB x y = true ↔ 0 ≤ x ∧ x < y := by rw [placeB, Bool.and_eq_true, decide_eq_true_eq, decide_eq_true_eq]
set_option maxHeartbeats 4000000 in
theorem wplan_any (A : Option Addr) (n c : Nat) (l : List Pl) (s : Sg) (a : Int) (w : World) (hl : Pls w A n c l) : Calls Try.prog 33 #[wsV A n c s a] w (GivesWs (askS l s 4 a) w) := by
  have hlen := hl.len
  have hsm := hl.small
  have HE0 : askS l s 4 a = if a < 0 ∨ l.length ≤ a then (s, 1) else if s.sp = true ∨ a = s.pl then (s, 11) else ({ s with wt := a }, 0) := rfl
  unfold wsV
  have HPC := Lib.hid (fun X => splace_any a n X)
  by_cases h0 : a < 0 ∨ l.length ≤ a
  · have HE := Lib.hid (HE0.trans (if_pos h0))
    rw [show placeB a n = false by rw [Bool.eq_false_iff]; intro h; have := place_iff0.1 h; omega] at HPC
    clear HE0 hl
    obtain ⟨pl, st, nx, ph, t, hd, hh, ak, wt, sp⟩ := s
    simp only at *
    go_enter Try.func33, Try.ntmps33
    go_wp2_with (first
      | (go_at_call 52; (with_reducible refine (HPC.out _).mono ?_); rintro e wq ⟨rfl, rfl⟩)
      | (go_at_call 49; (with_reducible refine (unless_no 1 _).mono ?_); rintro e wq ⟨rfl, rfl⟩))
    exact ⟨rfl, GivesWs.no HE.out (by decide) (below_alloc2 _ _ _)⟩
  · rw [if_neg h0] at HE0
    rw [show placeB a n = true from place_iff0.2 (by omega)] at HPC
    clear hl
    by_cases h1 : s.sp = true
    · have HE := Lib.hid (HE0.trans (if_pos (.inl h1)))
      clear HE0
      obtain ⟨pl, st, nx, ph, t, hd, hh, ak, wt, sp⟩ := s
      simp only at *
      subst h1
      go_enter Try.func33, Try.ntmps33
      go_wp2_with (first
        | (go_at_call 52; (with_reducible refine (HPC.out _).mono ?_); rintro e wq ⟨rfl, rfl⟩)
        | (go_at_call 49; (with_reducible refine (unless_yes 1 _).mono ?_); rintro e wq ⟨rfl, rfl⟩)
        | (go_at_call 49; (with_reducible refine (unless_no 11 _).mono ?_); rintro e wq ⟨rfl, rfl⟩))
      exact ⟨rfl, GivesWs.no HE.out (by decide) (below_alloc2 _ _ _)⟩
    · by_cases h2 : a = s.pl
      · have HE := Lib.hid (HE0.trans (if_pos (.inr h2)))
        clear HE0
        obtain ⟨pl, st, nx, ph, t, hd, hh, ak, wt, sp⟩ := s
        simp only at *
        obtain rfl : sp = false := by cases sp <;> simp_all
        subst h2
        have b2 : (a != a) = false := by simp
        go_enter Try.func33, Try.ntmps33
        go_wp2_with (first
          | (go_at_call 52; (with_reducible refine (HPC.out _).mono ?_); rintro e wq ⟨rfl, rfl⟩)
          | (go_at_call 49; (with_reducible refine (unless_yes 1 _).mono ?_); rintro e wq ⟨rfl, rfl⟩)
          | (go_at_call 49; (with_reducible refine (unless_no 11 _).mono ?_); rintro e wq ⟨rfl, rfl⟩))
        exact ⟨rfl, GivesWs.no HE.out (by decide) (below_alloc2 _ _ _)⟩
      · have HE := Lib.hid (HE0.trans (if_neg (fun h => h.elim h1 h2)))
        clear HE0
        obtain ⟨pl, st, nx, ph, t, hd, hh, ak, wt, sp⟩ := s
        simp only at *
        obtain rfl : sp = false := by cases sp <;> simp_all
        have b2 : (a != pl) = true := by rw [bne_iff_ne]; exact h2
        go_enter Try.func33, Try.ntmps33
        go_wp2_with (first
          | (go_at_call 52; (with_reducible refine (HPC.out _).mono ?_); rintro e wq ⟨rfl, rfl⟩)
          | (go_at_call 49; (with_reducible refine (unless_yes 1 _).mono ?_); rintro e wq ⟨rfl, rfl⟩)
          | (go_at_call 49; (with_reducible refine (unless_yes 11 _).mono ?_); rintro e wq ⟨rfl, rfl⟩))
        refine bodyPost_ret (v := .agg #[.int .i64 pl, .int .i64 st, .int .i64 nx, .int .i64 ph, .int .i64 t, .int .i64 hd, .int .i64 hh, .int .i64 ak, .int .i64 a, .bool false]) ?_ rfl (GivesWs.ok (g := ⟨pl, st, nx, ph, t, hd, hh, ak, a, false⟩) HE.out (below_alloc2 _ _ _))
        exact results_cell_row Try.results33 _ _ (w.heap.size + 1) 24 #[.int .i64 pl, .int .i64 st, .int .i64 nx, .int .i64 ph, .int .i64 t, .int .i64 hd, .int .i64 hh, .int .i64 ak, .int .i64 a, .bool false] (0, 0) _ rfl (alloc2_new _ _ _) Try.underlying24 rfl info_sig
end Go.Proofs.Ytgnhmdfajnnkhaa


/- What a machine of package stage tells: its stage, what it shows, what is next. -/
namespace Go.Proofs.Ytgnhmdfajnnkhaa
set_option maxRecDepth 100000
set_option linter.unusedVariables false
set_option linter.unusedSimpArgs false
open Go.RowKit

theorem one_stg (a b c : Int) : (#[.int .i64 a, .int .i64 b, .int .i64 c] : Array Value).all (·.oneCell') = true := all_row (l := [.int .i64 a, .int .i64 b, .int .i64 c]) fun v hv => by
  simp only [List.mem_cons, List.not_mem_nil, or_false] at hv
  rcases hv with rfl | rfl | rfl <;> rfl

theorem beq_dec (a b : Int) : (a == b) = decide (a = b) := by rw [Bool.eq_iff_iff]; simp
theorem own_base {w : World} {b b' : Nat} {v : Value} {l : List Int} (h : OwnI .i64 3 w b v l) (hb : b' ≤ b) : OwnI .i64 3 w b' v l := h.mono hb
set_option maxHeartbeats 8000000 in
theorem stage_own (A : Option Addr) (n c : Nat) (l : List Pl) (s : Sg) (w : World) (hl : Pls w A n c l) (h0 : 0 ≤ s.pl) (h1 : s.pl < n) (s0 : 0 ≤ s.st) (s1 : s.st < (planAt l s.pl).k) : Calls Try.prog 62 #[mcV A n c s] w fun e w' => e = .returned (.agg #[.int .i64 (stgAt (planAt l s.pl) s.st).g, .int .i64 (stgAt (planAt l s.pl) s.st).mn, .int .i64 (stgAt (planAt l s.pl) s.st).mx]) ∧ Below w.heap.size w w' := by
  obtain ⟨W1, hW1⟩ : ∃ W1, w.alloc (.cells #[.slice A n c, .int .i64 s.pl, .int .i64 s.st, .int .i64 s.nx, .int .i64 s.ph, .int .i64 s.t, .int .i64 s.hd, .int .i64 s.hl, .int .i64 s.ak, .int .i64 s.wt, .bool s.sp] 66) = W1 := ⟨_, rfl⟩
  have hB1 : Below w.heap.size w W1 := by rw [← hW1]; exact one_alloc w _
  have hbm : BoxM W1 w.heap.size A n c s := by rw [← hW1]; exact BoxM.new w A n c s
  have hz1 : W1.heap.size = w.heap.size + 1 := by rw [← hW1]; simp
  obtain ⟨W0, hW0⟩ : ∃ W0, W1.alloc (.cells #[.int .i64 0, .int .i64 0, .int .i64 0] 71) = W0 := ⟨_, rfl⟩
  have hB0 : Below W1.heap.size W1 W0 := by rw [← hW0]; exact one_alloc W1 _
  have hr : W0.heap[w.heap.size + 1]? = some (.cells #[.int .i64 0, .int .i64 0, .int .i64 0] 71 (0, 0)) := by rw [← hW0, ← hz1]; exact heap_alloc_new W1 _
  have hlt1 : W1.heap.size ≤ w.heap.size + 1 := by omega
  have HW := Lib.hid (show (w.alloc (.cells #[.slice A n c, .int .i64 s.pl, .int .i64 s.st, .int .i64 s.nx, .int .i64 s.ph, .int .i64 s.t, .int .i64 s.hd, .int .i64 s.hl, .int .i64 s.ak, .int .i64 s.wt, .bool s.sp] 66)).alloc (.cells #[.int .i64 0, .int .i64 0, .int .i64 0] 71) = W0 by rw [hW1, hW0])
  have HB0 := Lib.hid hB0
  clear hz1 hW0 hW1 hB0
  have HB1 := Lib.hid hB1
  have HMC := Lib.hid (show ∀ X, Below W1.heap.size W1 X → X.cell? ⟨w.heap.size, 0, none⟩ = some (.slice A n c) ∧ X.cell? ⟨w.heap.size, 1, none⟩ = some (.int .i64 s.pl) ∧ X.cell? ⟨w.heap.size, 2, none⟩ = some (.int .i64 s.st) ∧ X.cell? ⟨w.heap.size, 3, none⟩ = some (.int .i64 s.nx) ∧ X.cell? ⟨w.heap.size, 4, none⟩ = some (.int .i64 s.ph) ∧ X.cell? ⟨w.heap.size, 5, none⟩ = some (.int .i64 s.t) ∧ X.cell? ⟨w.heap.size, 6, none⟩ = some (.int .i64 s.hd) ∧ X.cell? ⟨w.heap.size, 7, none⟩ = some (.int .i64 s.hl) ∧ X.cell? ⟨w.heap.size, 8, none⟩ = some (.int .i64 s.ak) ∧ X.cell? ⟨w.heap.size, 9, none⟩ = some (.int .i64 s.wt) ∧ X.cell? ⟨w.heap.size, 10, none⟩ = some (.bool s.sp) from fun X hX => by
    obtain ⟨cm, c0, c1, c2, c3, c4, c5, c6, c7, c8, c9⟩ := (hbm.below hX).cells
    exact ⟨cm, c0, c1, c2, c3, c4, c5, c6, c7, c8, c9⟩)
  have HOW := Lib.hid (fun X (hX : Below W1.heap.size W1 X) => own_plan A n c l s X ((hl.below hB1).below hX) h0 h1)
  have HQI := Lib.hid (show ∀ X, Below W1.heap.size W1 X → PlIn X (planAt l s.pl) from fun X hX => plan_lies ((hl.below hB1).below hX) h0 h1)
  obtain ⟨bs, os, x, hqb, hx, -, -, -, -, -⟩ := (HQI.out W1 (Below.refl _ _)).s.at_ s.st.toNat (by omega)
  have HXC := Lib.hid (show ∀ X, Below W1.heap.size W1 X → X.cell? ⟨bs, os + s.st.toNat * 3, none⟩ = some (.int .i64 x.g) ∧ X.cell? ⟨bs, os + s.st.toNat * 3 + 1, none⟩ = some (.int .i64 x.mn) ∧ X.cell? ⟨bs, os + s.st.toNat * 3 + 2, none⟩ = some (.int .i64 x.mx) from fun X hX => by
    obtain ⟨b2, o2, x2, hb2, hx2, -, -, z0, z1, z2⟩ := (HQI.out X hX).s.at_ s.st.toNat (by omega)
    obtain rfl := hx.symm.trans hx2
    rw [hqb] at hb2
    cases hb2
    exact ⟨z0, z1, z2⟩)
  have hxs : stgAt (planAt l s.pl) s.st = x := hx
  have hst : (s.st.toNat : Int) = s.st := Int.toNat_of_nonneg s0
  have hstk : s.st.toNat < (planAt l s.pl).k := by omega
  have hqk := (HQI.out W1 (Below.refl _ _)).s.small
  unfold mcV at HOW ⊢
  clear hbm hB1 hl
  rw [hxs]
  clear hxs hx
  obtain ⟨q, hq⟩ : ∃ q, planAt l s.pl = q := ⟨_, rfl⟩
  rw [hq] at HOW HQI hqb hstk hqk s1
  clear hq
  unfold plV at HOW
  obtain ⟨pl, st, nx, ph, t, hd, hh, ak, wt, sp⟩ := s
  obtain ⟨A', n', c', m, B, k, d, sl, am, rd, hd'⟩ := q
  simp only at *
  subst hqb
  go_enter Try.func62, Try.ntmps62
  go_wp2
  rw [HW.out]
  have hSd : Below W1.heap.size W1 W0.drew := HB0.out.drew
  refine wp_region_held_drew (S := fun X => Below W1.heap.size W1 X) (by kernel_rfl) hSd (fun hHeld => ?_)
  obtain ⟨y0, hY0⟩ : ∃ Y, W0.drew = Y := ⟨_, rfl⟩
  have hr0 := (show W0.drew.heap[w.heap.size + 1]? = _ from hr)
  rw [hY0] at hr0
  rw [hY0] at hSd hHeld ⊢
  clear hY0
  refine tkS 0 (.agg #[.slice A n c, .int .i64 pl, .int .i64 st, .int .i64 nx, .int .i64 ph, .int .i64 t, .int .i64 hd, .int .i64 hh, .int .i64 ak, .int .i64 wt, .bool sp]) hHeld (fun w hq => ?_) ?_
  · obtain ⟨cm, c0, c1, c2, c3, c4, c5, c6, c7, c8, c9⟩ := HMC.out w hq; obtain ⟨z0, z1, z2⟩ := HXC.out w hq
    go_simp
  simp only [PT]
  refine tk 3 (.pointer (some ⟨w.heap.size, 1, none⟩)) hHeld (fun w => ?_) ?_
  · go_simp
  simp only [PT]
  refine tk 4 (.pointer (some ⟨w.heap.size, 2, none⟩)) hHeld (fun w => ?_) ?_
  · go_simp
  simp only [PT]
  refine tkS 5 (.int .i64 st) hHeld (fun w hq => ?_) ?_
  · obtain ⟨cm, c0, c1, c2, c3, c4, c5, c6, c7, c8, c9⟩ := HMC.out w hq; obtain ⟨z0, z1, z2⟩ := HXC.out w hq
    go_simp
  simp only [PT]
  refine one_step 1 (by kernel_rfl) rfl (fun Kq hKq => ?_)
  go_simp
  go_at_call 58
  (with_reducible refine (HOW.out _ hSd).mono ?_)
  rintro e y1 ⟨rfl, hbx⟩
  try simp only [plV]
  have hS1 : Below W1.heap.size W1 y1 := hSd.trans (hbx.mono hSd.size)
  have hr1 := (hbx.block (w.heap.size + 1) (Array.getElem?_eq_some_iff.1 hr0).1).trans hr0
  clear hbx
  refine hKq.out _ _ hS1 (fun hHeld0 => ?_)
  clear hKq Kq hHeld
  have hHeld := hHeld0
  clear hHeld0
  try simp only [PT]
  refine tk 2 (.slice (some ⟨bs, os, none⟩) k d) hHeld (fun w => ?_) ?_
  · (go_simp; try rfl)
  simp only [PT]
  refine tk 6 (.pointer (some ⟨bs, os + st.toNat * 3, none⟩)) hHeld (fun w => ?_) ?_
  · go_simp
  simp only [PT]
  refine tkS 7 (.agg #[.int .i64 x.g, .int .i64 x.mn, .int .i64 x.mx]) hHeld (fun w hq => ?_) ?_
  · obtain ⟨cm, c0, c1, c2, c3, c4, c5, c6, c7, c8, c9⟩ := HMC.out w hq; obtain ⟨z0, z1, z2⟩ := HXC.out w hq
    go_simp
  simp only [PT]
  refine one_step 8 (by kernel_rfl) rfl (fun Kq hKq => ?_)
  refine step_store_part 71 _ _ rfl (w.heap.size + 1) 0 (.agg #[.int .i64 x.g, .int .i64 x.mn, .int .i64 x.mx]) #[.int .i64 x.g, .int .i64 x.mn, .int .i64 x.mx] rfl rfl rfl 71 #[.int .i64 0, .int .i64 0, .int .i64 0] #[.int .i64 x.g, .int .i64 x.mn, .int .i64 x.mx] hr1 (info_stage) (by simp) (one_stg _ _ _) rfl rfl ?_
  intro y2 hgk hr2 hzk
  have hS2 : Below W1.heap.size W1 y2 := Below.grows hS1 hgk hS1.size hlt1
  clear hgk hzk
  refine hKq.out _ _ hS2 (fun hHeld0 => ?_)
  clear hKq Kq hHeld
  have hHeld := hHeld0
  clear hHeld0
  try simp only [PT]
  refine wpAnyH_done (by kernel_rfl) ?_ _
  clear hHeld
  go_wp2
  refine bodyPost_ret (v := .agg #[.int .i64 x.g, .int .i64 x.mn, .int .i64 x.mx]) ?_ rfl ⟨rfl, HB1.out.trans (hS2.mono HB1.out.size)⟩
  exact results_cell_row Try.results62 _ _ (w.heap.size + 1) 71 #[.int .i64 x.g, .int .i64 x.mn, .int .i64 x.mx] (0, 0) _ rfl hr2 Try.underlying71 rfl info_stage
set_option maxHeartbeats 8000000 in
theorem shown_own (A : Option Addr) (n c : Nat) (l : List Pl) (s : Sg) (w : World) (hl : Pls w A n c l) (h0 : 0 ≤ s.pl) (h1 : s.pl < n) : Calls Try.prog 41 #[mcV A n c s] w (GivesO (showR (planAt l s.pl) s.st s.ph) w) := by
  obtain ⟨W1, hW1⟩ : ∃ W1, w.alloc (.cells #[.slice A n c, .int .i64 s.pl, .int .i64 s.st, .int .i64 s.nx, .int .i64 s.ph, .int .i64 s.t, .int .i64 s.hd, .int .i64 s.hl, .int .i64 s.ak, .int .i64 s.wt, .bool s.sp] 66) = W1 := ⟨_, rfl⟩
  have hB1 : Below w.heap.size w W1 := by rw [← hW1]; exact one_alloc w _
  have hbm : BoxM W1 w.heap.size A n c s := by rw [← hW1]; exact BoxM.new w A n c s
  have HW := Lib.hid hW1
  clear hW1
  have HB1 := Lib.hid hB1
  have HMC := Lib.hid (show ∀ X, Below W1.heap.size W1 X → X.cell? ⟨w.heap.size, 0, none⟩ = some (.slice A n c) ∧ X.cell? ⟨w.heap.size, 1, none⟩ = some (.int .i64 s.pl) ∧ X.cell? ⟨w.heap.size, 2, none⟩ = some (.int .i64 s.st) ∧ X.cell? ⟨w.heap.size, 3, none⟩ = some (.int .i64 s.nx) ∧ X.cell? ⟨w.heap.size, 4, none⟩ = some (.int .i64 s.ph) ∧ X.cell? ⟨w.heap.size, 5, none⟩ = some (.int .i64 s.t) ∧ X.cell? ⟨w.heap.size, 6, none⟩ = some (.int .i64 s.hd) ∧ X.cell? ⟨w.heap.size, 7, none⟩ = some (.int .i64 s.hl) ∧ X.cell? ⟨w.heap.size, 8, none⟩ = some (.int .i64 s.ak) ∧ X.cell? ⟨w.heap.size, 9, none⟩ = some (.int .i64 s.wt) ∧ X.cell? ⟨w.heap.size, 10, none⟩ = some (.bool s.sp) from fun X hX => by
    obtain ⟨cm, c0, c1, c2, c3, c4, c5, c6, c7, c8, c9⟩ := (hbm.below hX).cells
    exact ⟨cm, c0, c1, c2, c3, c4, c5, c6, c7, c8, c9⟩)
  have HOW := Lib.hid (fun X (hX : Below W1.heap.size W1 X) => own_plan A n c l s X ((hl.below hB1).below hX) h0 h1)
  have HQI := Lib.hid (show ∀ X, Below W1.heap.size W1 X → PlIn X (planAt l s.pl) from fun X hX => plan_lies ((hl.below hB1).below hX) h0 h1)
  have HSH := Lib.hid (fun X (hX : Below W1.heap.size W1 X) => lshowp_own (planAt l s.pl) s.st s.ph X (HQI.out X hX))
  unfold mcV at HOW ⊢
  clear hbm hB1 hl
  obtain ⟨q, hq⟩ : ∃ q, planAt l s.pl = q := ⟨_, rfl⟩
  rw [hq] at HOW HQI HSH ⊢
  clear hq
  unfold plV at HOW HSH
  obtain ⟨R, hR⟩ : ∃ R, showR q s.st s.ph = R := ⟨_, rfl⟩
  rw [hR] at HSH ⊢
  clear hR
  obtain ⟨pl, st, nx, ph, t, hd, hh, ak, wt, sp⟩ := s
  obtain ⟨A', n', c', m, B, k, d, sl, am, rd, hd'⟩ := q
  simp only at *
  go_enter Try.func41, Try.ntmps41
  go_wp2
  rw [HW.out]
  have hSd : Below W1.heap.size W1 W1.drew := (Below.refl _ W1).drew
  refine wp_region_held_drew (S := fun X => Below W1.heap.size W1 X) (by kernel_rfl) hSd (fun hHeld => ?_)
  obtain ⟨y0, hY0⟩ : ∃ Y, W1.drew = Y := ⟨_, rfl⟩
  rw [hY0] at hSd hHeld ⊢
  clear hY0
  refine tkS 0 (.agg #[.slice A n c, .int .i64 pl, .int .i64 st, .int .i64 nx, .int .i64 ph, .int .i64 t, .int .i64 hd, .int .i64 hh, .int .i64 ak, .int .i64 wt, .bool sp]) hHeld (fun w hq => ?_) ?_
  · obtain ⟨cm, c0, c1, c2, c3, c4, c5, c6, c7, c8, c9⟩ := HMC.out w hq
    go_simp
  simp only [PT]
  refine tk 2 (.pointer (some ⟨w.heap.size, 1, none⟩)) hHeld (fun w => ?_) ?_
  · go_simp
  simp only [PT]
  refine tk 3 (.pointer (some ⟨w.heap.size, 2, none⟩)) hHeld (fun w => ?_) ?_
  · go_simp
  simp only [PT]
  refine tkS 4 (.int .i64 st) hHeld (fun w hq => ?_) ?_
  · obtain ⟨cm, c0, c1, c2, c3, c4, c5, c6, c7, c8, c9⟩ := HMC.out w hq
    go_simp
  simp only [PT]
  refine tk 5 (.pointer (some ⟨w.heap.size, 1, none⟩)) hHeld (fun w => ?_) ?_
  · go_simp
  simp only [PT]
  refine tk 6 (.pointer (some ⟨w.heap.size, 4, none⟩)) hHeld (fun w => ?_) ?_
  · go_simp
  simp only [PT]
  refine tkS 7 (.int .i64 ph) hHeld (fun w hq => ?_) ?_
  · obtain ⟨cm, c0, c1, c2, c3, c4, c5, c6, c7, c8, c9⟩ := HMC.out w hq
    go_simp
  simp only [PT]
  refine one_step 1 (by kernel_rfl) rfl (fun Kq hKq => ?_)
  go_simp
  go_at_call 58
  (with_reducible refine (HOW.out _ hSd).mono ?_)
  rintro e y1 ⟨rfl, hbx⟩
  try simp only [plV]
  have hS1 : Below W1.heap.size W1 y1 := hSd.trans (hbx.mono hSd.size)
  clear hbx
  refine hKq.out _ _ hS1 (fun hHeld0 => ?_)
  clear hKq Kq hHeld
  have hHeld := hHeld0
  clear hHeld0
  try simp only [PT]
  refine one_step 8 (by kernel_rfl) rfl (fun Kq hKq => ?_)
  go_simp
  go_at_call 57
  (with_reducible refine (HSH.out _ hS1).mono ?_)
  rintro e y2 ⟨A1, n1, c1, rfl, ho1, hbx⟩
  have hS2 : Below W1.heap.size W1 y2 := hS1.trans (hbx.mono hS1.size)
  clear hbx
  refine hKq.out _ _ hS2 (fun hHeld0 => ?_)
  clear hKq Kq hHeld
  have hHeld := hHeld0
  clear hHeld0
  try simp only [PT]
  refine tk 9 (.slice A1 n1 c1) hHeld (fun w => ?_) ?_
  · go_simp
  simp only [PT]
  refine wpAnyH_done (by kernel_rfl) ?_ _
  clear hHeld
  go_wp2
  go_ret
  exact ⟨A1, n1, c1, rfl, own_base ho1 (Nat.le_trans HB1.out.size hS1.size), HB1.out.trans (hS2.mono HB1.out.size)⟩
set_option maxHeartbeats 8000000 in
theorem idle_any (A : Option Addr) (n c : Nat) (s : Sg) (w : World) : Calls Try.prog 63 #[mcV A n c s] w fun e w' => e = .returned (.bool (decide (s.hd = 0) && (decide (s.hl = 0) && decide (s.ak = -1)))) ∧ Below w.heap.size w w' := by
  have HB := one_alloc w (.cells #[.slice A n c, .int .i64 s.pl, .int .i64 s.st, .int .i64 s.nx, .int .i64 s.ph, .int .i64 s.t, .int .i64 s.hd, .int .i64 s.hl, .int .i64 s.ak, .int .i64 s.wt, .bool s.sp] 66)
  unfold mcV
  obtain ⟨pl, st, nx, ph, t, hd, hh, ak, wt, sp⟩ := s
  simp only at *
  by_cases g0 : hd = 0
  · have G0 := Lib.hid g0
    have b0 : (hd == 0) = true := by rw [g0]; rfl
    clear g0
    by_cases g1 : hh = 0
    · have G1 := Lib.hid g1
      have b1 : (hh == 0) = true := by rw [g1]; rfl
      clear g1
      go_enter Try.func63, Try.ntmps63
      go_wp2
      go_ret
      exact ⟨by rw [decide_eq_true G0.out, decide_eq_true G1.out, ← beq_dec]; rfl, HB⟩
    · have G1 := Lib.hid g1
      have b1 : (hh == 0) = false := by rw [beq_eq_false_iff_ne]; exact g1
      clear g1
      go_enter Try.func63, Try.ntmps63
      go_wp2
      go_ret
      exact ⟨by rw [decide_eq_true G0.out, decide_eq_false G1.out]; rfl, HB⟩
  · have G0 := Lib.hid g0
    have b0 : (hd == 0) = false := by rw [beq_eq_false_iff_ne]; exact g0
    clear g0
    go_enter Try.func63, Try.ntmps63
    go_wp2
    go_ret
    exact ⟨by rw [decide_eq_false G0.out]; rfl, HB⟩
end Go.Proofs.Ytgnhmdfajnnkhaa

