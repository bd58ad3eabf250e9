/- The walk over package term's Row. -/
import Derived.Test.YtgldbjlifcfjlaaTrmRow
import Derived.Deep.RegionLaw
namespace Go.Proofs.Ytgldbjlifcfjlaa
set_option linter.unusedVariables false
set_option linter.unusedSimpArgs false
open Go.RowKit

/-- behind a call that gives a term and a bool, and leaves all that was there -/
def GivesR (t : Te) (b : Bool) (w : World) (e : Ending) (w' : World) : Prop :=
  ∃ k n A m c, e = .returned (.tuple #[.agg #[.int .i64 k, .int .i64 n, .slice A m c], .bool b]) ∧ Is (fun b => w.heap.size ≤ b) w' t k n A m c ∧ Below w.heap.size w w'
def rowR (l : List Int) : Te := if rowB l then rowT l else .node 0 0 []
theorem rowB_no {l : List Int} (h : ¬ (0 < l.length ∧ l.length ≤ 12 ∧ ∀ x ∈ l, 0 ≤ x)) : rowB l = false := by
  rw [← Bool.not_eq_true, rowB_is]
  exact h
theorem rowR_no {l : List Int} (h : rowB l = false) : rowR l = .node 0 0 [] := by rw [rowR, h]; rfl

theorem rowT_drop {l : List Int} {i : Nat} (h : i + 1 < l.length) : rowT (l.drop i) = .node 2 0 [.node 0 (l.getD i 0) [], rowT (l.drop (i + 1))] := by
  have h1 : l.drop i = l.getD i 0 :: l.drop (i + 1) := by
    rw [List.drop_eq_getElem_cons (by omega)]
    simp [List.getD_eq_getElem?_getD, show i < l.length by omega]
  have h2 : l.drop (i + 1) = l.getD (i + 1) 0 :: l.drop (i + 1 + 1) := by
    rw [List.drop_eq_getElem_cons (by omega)]
    simp [List.getD_eq_getElem?_getD, show i + 1 < l.length by omega]
  rw [h1, h2, rowT]
theorem rowT_last {l : List Int} {i : Nat} (h : i + 1 = l.length) : rowT (l.drop i) = .node 0 (l.getD i 0) [] := by
  have h1 : l.drop i = [l.getD i 0] := by
    rw [List.drop_eq_getElem_cons (by omega), List.drop_of_length_le (by omega)]
    simp [List.getD_eq_getElem?_getD, show i < l.length by omega]
  rw [h1, rowT]
/-- a box with the three cells of a term -/
def Box3 (w : World) (g : Nat) (k n : Int) (A : Option Addr) (m c : Nat) : Prop := w.heap[g]? = some (.cells #[.int .i64 k, .int .i64 n, .slice A m c] 24 (0, 0))
section
variable {w w' : World} {g : Nat} {k n : Int} {A : Option Addr} {m c : Nat}
theorem Box3.lt (h : Box3 w g k n A m c) : g < w.heap.size := (Array.getElem?_eq_some_iff.1 h).1
theorem Box3.cells (h : Box3 w g k n A m c) : w.cell? ⟨g, 0, none⟩ = some (.int .i64 k) ∧ w.cell? ⟨g, 1, none⟩ = some (.int .i64 n) ∧ w.cell? ⟨g, 2, none⟩ = some (.slice A m c) :=
  ⟨(cell_of_row _ _ _ _ _ _ h).trans rfl, (cell_of_row _ _ _ _ _ _ h).trans rfl, (cell_of_row _ _ _ _ _ _ h).trans rfl⟩
theorem Box3.free (h : Box3 w g k n A m c) : w.frozen? ⟨g, 0, none⟩ = false ∧ w.frozen? ⟨g, 1, none⟩ = false ∧ w.frozen? ⟨g, 2, none⟩ = false := ⟨frozen_of_row _ _ _ _ _ h, frozen_of_row _ _ _ _ _ h, frozen_of_row _ _ _ _ _ h⟩
theorem Box3.below {B : Nat} (h : Box3 w g k n A m c) (hb : Below B w w') (hg : g < B) : Box3 w' g k n A m c := (hb.block g hg).trans h
theorem Box3.keep (h : Box3 w g k n A m c) (hb : Below w.heap.size w w') : Box3 w' g k n A m c := h.below hb h.lt
theorem Box3.new (w : World) (k n : Int) (A : Option Addr) (m c : Nat) : Box3 (w.alloc (.cells #[.int .i64 k, .int .i64 n, .slice A m c] 24)) w.heap.size k n A m c := heap_alloc_new w _
theorem Box3.set {k2 n2 : Int} {A2 : Option Addr} {m2 c2 : Nat} (h : Box3 w g k n A m c) : Box3 (((w.setCell ⟨g, 0, none⟩ (.int .i64 k2)).setCell ⟨g, 1, none⟩ (.int .i64 n2)).setCell ⟨g, 2, none⟩ (.slice A2 m2 c2)) g k2 n2 A2 m2 c2 := by
  have h1 := heap_setCell_same w g 0 _ _ (.int .i64 k2) h
  have h2 := heap_setCell_same _ g 1 _ _ (.int .i64 n2) h1
  have h3 := heap_setCell_same _ g 2 _ _ (.slice A2 m2 c2) h2
  exact h3
end
theorem set3_other {w : World} {g b : Nat} {u0 u1 u2 : Value} (h : b ≠ g) : (((w.setCell ⟨g, 0, none⟩ u0).setCell ⟨g, 1, none⟩ u1).setCell ⟨g, 2, none⟩ u2).heap[b]? = w.heap[b]? :=
  (Below.heap_setCell _ _ _ _ h).trans ((Below.heap_setCell _ _ _ _ h).trans (Below.heap_setCell _ _ _ _ h))
theorem set3_below {B : Nat} {w0 w : World} {g : Nat} {u0 u1 u2 : Value} (h : Below B w0 w) (hg : B ≤ g) : Below B w0 (((w.setCell ⟨g, 0, none⟩ u0).setCell ⟨g, 1, none⟩ u1).setCell ⟨g, 2, none⟩ u2) :=
  ((h.setCell (p := ⟨g, 0, none⟩) hg _).setCell (p := ⟨g, 1, none⟩) hg _).setCell (p := ⟨g, 2, none⟩) hg _
/-- a literal of two rows -/
theorem two_rws (k : Nat) (e : TypeId) (w : World) (r s : List Value) (hr : r.length = k) (hs : s.length = k) (h1 : ∀ u ∈ r, u.oneCell' = true) (h2 : ∀ u ∈ s, u.oneCell' = true) : Rws k (w.alloc (.cells (r ++ s).toArray e)) (some ⟨w.heap.size, 0, none⟩) 2 2 [r, s] := by
  refine ⟨rfl, fun x hx => ?_, fun x hx => ?_, Nat.le_refl _, by unfold maxLen; omega, (fun e => by cases e), fun _ => ⟨w.heap.size, 0, rfl, fun j hj i hi => ?_⟩⟩
  · simp only [List.mem_cons, List.not_mem_nil, or_false] at hx
    rcases hx with rfl | rfl
    · exact hr
    · exact hs
  · simp only [List.mem_cons, List.not_mem_nil, or_false] at hx
    rcases hx with rfl | rfl
    · exact h1
    · exact h2
  · rw [cell_of_row _ _ _ _ _ _ (heap_alloc_new w _)]
    have hf : (r ++ s) = [r, s].flatten := by simp
    have := flat_get (rows := [r, s]) (k := k) (fun x hx => by
      simp only [List.mem_cons, List.not_mem_nil, or_false] at hx
      rcases hx with rfl | rfl
      · exact hr
      · exact hs) j i (by simpa using hj) hi
    rw [← hf] at this
    rw [Nat.zero_add, List.getElem?_toArray]
    exact this
/-- the pair, or the tag, of two terms, its Args in a new block -/
theorem pair_is {P : Nat → Prop} {w w' : World} {t u : Te} {k n k2 n2 kk nn : Int} {A A2 : Option Addr} {m c m2 c2 : Nat} (ht : Is P w t k n A m c) (hu : Is P w u k2 n2 A2 m2 c2)
    (hw' : w.alloc (.cells #[.int .i64 k, .int .i64 n, .slice A m c, .int .i64 k2, .int .i64 n2, .slice A2 m2 c2] 24) = w') (hP : P w.heap.size) : Is P w' (.node kk nn [t, u]) kk nn (some ⟨w.heap.size, 0, none⟩) 2 2 := by
  subst hw'
  have hr := two_rws 3 24 w [.int .i64 k, .int .i64 n, .slice A m c] [.int .i64 k2, .int .i64 n2, .slice A2 m2 c2] rfl rfl (row_one k n A m c) (row_one k2 n2 A2 m2 c2)
  refine ⟨.mk hr (fun _ a ha => by injection ha with ha; subst ha; exact hP) rfl fun i hi => ?_⟩
  have hk : ∀ b, P b ∧ b < w.heap.size → (w.alloc (.cells #[.int .i64 k, .int .i64 n, .slice A m c, .int .i64 k2, .int .i64 n2, .slice A2 m2 c2] 24)).heap[b]? = w.heap[b]? := fun b hb => Below.heap_alloc _ _ _ hb.2
  have hi2 : i = 0 ∨ i = 1 := by simp at hi; omega
  rcases hi2 with rfl | rfl
  · exact (ht.lies.both.keep hk).mono fun b hb => hb.1
  · exact (hu.lies.both.keep hk).mono fun b hb => hb.1

set_option maxRecDepth 100000 in
set_option maxHeartbeats 2000000 in
theorem row_any (A : Option Addr) (n c : Nat) (l : List Int) (w : World) (hl : Its .i64 w A n c l) :
    Calls Try.prog 11 #[.slice A n c] w (GivesR (rowR l) (rowB l) w) := by
  have hn63 := hl.small
  have hone := one_alloc w (.cells #[.int .i64 0, .int .i64 0, .slice none 0 0] 24)
  have hll := hl.len
  have HONE := Lib.hid hone
  by_cases h0 : n = 0
  · have hb := rowB_no (l := l) (by omega)
    rw [rowR_no hb, hb]
    subst h0
    clear hone hll hl
    go_enter Try.func11, Try.ntmps11
    go_wp2
    exact bodyPost_ret (v := .tuple #[.agg #[.int .i64 0, .int .i64 0, .slice none 0 0], .bool false]) (by simp [results, Try.results11, go_sem]) rfl ⟨_, _, _, _, _, rfl, word_is _ 0 _, HONE.out⟩
  · have hn0 : ((n : Int) == 0) = false := by rw [beq_eq_false_iff_ne]; omega
    by_cases h12 : 12 < n
    · have hb := rowB_no (l := l) (by omega)
      rw [rowR_no hb, hb]
      have h12i : (12 : Int) < n := by omega
      clear hone hll hl
      go_enter Try.func11, Try.ntmps11
      go_wp2
      exact bodyPost_ret (v := .tuple #[.agg #[.int .i64 0, .int .i64 0, .slice none 0 0], .bool false]) (by simp [results, Try.results11, go_sem]) rfl ⟨_, _, _, _, _, rfl, word_is _ 0 _, HONE.out⟩
    · have hm := min_any A n c l _ (hl.below hone) (by omega)
      have h12d : decide ((12 : Int) < n) = false := by rw [decide_eq_false_iff_not]; omega
      have HM := Lib.hid hm
      by_cases hpos : ∀ x ∈ l, 0 ≤ x
      · have hb : rowB l = true := (rowB_is l).2 ⟨by omega, by omega, hpos⟩
        have hR : rowR l = rowT l := by rw [rowR, hb]; rfl
        rw [hR, hb]
        obtain ⟨b, off, rfl, hc⟩ := hl.at_ (by omega)
        have hcl := hc (n - 1) (by omega)
        have hbl : b < w.heap.size := block_lt_of_cell hcl
        have HC := Lib.hid hc
        have HLL := Lib.hid hll
        have HPOS := Lib.hid hpos
        clear hone hll hl hc hm hpos hb hR
        obtain ⟨x0, hx0⟩ : ∃ x0, l.getD (n - 1) 0 = x0 := ⟨_, rfl⟩
        rw [hx0] at hcl
        have HX0 := Lib.hid hx0
        clear hx0
        have hp0 : 0 ≤ (n : Int) - 1 := by omega
        have hp1 : (n : Int) - 1 < n := by omega
        have hp2 : ((n : Int) - 1).toNat = n - 1 := by omega
        go_enter Try.func11, Try.ntmps11
        go_wp2_with (first
          | (go_at_call 26; refine HM.out.mono ?_; rintro e w1 ⟨⟨x, rfl, hx⟩, rfl⟩
             have hx1 : ¬ x < 0 := by have := hx.2 HPOS.out; omega
             have hx2 : decide (x < 0) = false := decide_eq_false hx1
             clear hx)
          | (go_at_call 27; refine (word_any _ _).mono ?_; rintro e w2 ⟨rfl, hb2⟩
             have HB2 := Lib.hid hb2
             clear hb2))
        have hg0 : Box3 (w2.alloc (.cells #[.int .i64 0, .int .i64 x0, .slice none 0 0] 24)) w2.heap.size 0 x0 none 0 0 := Box3.new _ _ _ _ _ _
        have hone2 := one_alloc w2 (.cells #[.int .i64 0, .int .i64 x0, .slice none 0 0] 24)
        have hIs0 := word_is (fun b => w2.heap.size < b) x0 (w2.alloc (.cells #[.int .i64 0, .int .i64 x0, .slice none 0 0] 24))
        have hres : Box3 w2 w.heap.size 0 0 none 0 0 := (Box3.new w 0 0 none 0 0).keep HB2.out
        have hw2 : Below w.heap.size w w2 := HONE.out.trans (HB2.out.mono (size_le_alloc _ _))
        have hlt2 : w.heap.size < w2.heap.size := hres.lt
        generalize w2.alloc _ = W2 at hg0 hone2 hIs0 ⊢
        have HG0 := Lib.hid hg0
        have HONE2 := Lib.hid hone2
        have HI0 := Lib.hid hIs0
        have HRES := Lib.hid hres
        have HW2 := Lib.hid hw2
        clear hg0 hone2 hIs0 hres hw2 hcl
        go_loopw [6] (fun v wr => ∃ (i : Nat) (x k' n' : Int) (A' : Option Addr) (m' c' : Nat), i < n ∧ x = (i : Int) - 1 ∧ v = .int .i64 x ∧ Box3 wr w2.heap.size k' n' A' m' c' ∧ Is (fun b => w2.heap.size < b) wr (rowT (l.drop i)) k' n' A' m' c' ∧ Below w2.heap.size w2 wr) (fun v _ => (intOf v + 1).toNat)
        case atStart =>
          refine ⟨n - 1, _, 0, x0, none, 0, 0, by omega, ?_, rfl, HG0.out, ?_, HONE2.out⟩
          · omega
          · rw [rowT_last (by rw [HLL.out]; omega), HX0.out]
            exact HI0.out
        case round =>
          obtain ⟨i, y, k', n', A', m', c', hi, hy, rfl, hbx, hIs, hbw⟩ := hrel
          obtain ⟨p0, p1, p2⟩ := hbx.cells
          by_cases hi0 : i = 0
          · have hy1 : y = -1 := by omega
            subst hy1
            clear hy
            subst hi0
            rw [List.drop_zero] at hIs
            have hrs := HRES.out.below hbw hlt2
            obtain ⟨r0, r1, r2⟩ := hrs.cells
            obtain ⟨f0, f1, f2⟩ := hrs.free
            have HBW := Lib.hid hbw
            have HIS := Lib.hid hIs
            clear hbw hIs hrs hbx
            go_wp2
            refine bodyPost_ret (v := .tuple #[.agg #[.int .i64 k', .int .i64 n', .slice A' m' c'], .bool true]) (by simp [results, Try.results11, go_sem, r0, r1, r2]) rfl ⟨_, _, _, _, _, rfl, ?_, ?_⟩
            · refine (HIS.out.keep fun b hb => set3_other (by omega)).mono fun b hb => by omega
            · exact set3_below (HW2.out.trans (HBW.out.mono HW2.out.size)) (Nat.le_refl _)
          · obtain ⟨q, rfl⟩ : ∃ q, i = q + 1 := ⟨i - 1, by omega⟩
            obtain rfl : y = (q : Int) := by omega
            clear hy
            have hcq := HC.out q (by omega)
            obtain ⟨z, hz⟩ : ∃ z, l.getD q 0 = z := ⟨_, rfl⟩
            rw [hz] at hcq
            have cq := ((HW2.out.trans (hbw.mono HW2.out.size)).cell (p := ⟨b, off + q, none⟩) hbl).trans hcq
            have hqn : (q : Int) < n := by omega
            have hq0 : 0 ≤ (q : Int) := by omega
            have hrt := rowT_drop (l := l) (i := q) (by rw [HLL.out]; omega)
            rw [hz] at hrt
            have HRT := Lib.hid hrt
            have HBW := Lib.hid hbw
            have HIS := Lib.hid hIs
            have HBX := Lib.hid hbx
            clear hbw hIs hbx hcq hz hrt
            go_wp2
            go_region_law (first
              | (go_simp
                 go_at_call 27; (with_reducible refine (word_any _ _).mono ?_); rintro e w4 ⟨rfl, hb4⟩
                 have hb4 := below_draw hb4
                 have hbx4 := HBX.out.keep hb4
                 obtain ⟨e1, e2, e3⟩ := hbx4.cells
                 have e0 := (hb4.cell (p := ⟨b, off + q, none⟩) (block_lt_of_cell cq)).trans cq
                 have hone5 := one_alloc w4 (.cells #[.int .i64 0, .int .i64 z, .slice none 0 0, .int .i64 k', .int .i64 n', .slice A' m' c'] 24)
                 have hbx5 := hbx4.keep hone5
                 have g0 := (hone5.cell (p := ⟨b, off + q, none⟩) (block_lt_of_cell e0)).trans e0
                 obtain ⟨g1, g2, g3⟩ := hbx5.cells
                 obtain ⟨f1, f2, f3⟩ := hbx5.free
                 have HLT4 := Lib.hid hbx4.lt
                 have HBX5 := Lib.hid hbx5
                 have HB4 := Lib.hid hb4
                 have HONE5 := Lib.hid hone5
                 clear hbx4 hbx5 hb4 hone5))
            all_goals
              obtain ⟨W5, hW5⟩ : ∃ W5, w4.alloc (.cells #[.int .i64 0, .int .i64 z, .slice none 0 0, .int .i64 k', .int .i64 n', .slice A' m' c'] 24) = W5 := ⟨_, rfl⟩
              have hnew : Is (fun b => w2.heap.size < b) W5 (rowT (l.drop q)) 2 0 (some ⟨w4.heap.size, 0, none⟩) 2 2 := by
                rw [HRT.out]
                exact pair_is (word_is _ z w4) (HIS.out.both.keep fun b hb => HB4.out.block b hb.2).strip hW5 HLT4.out
              have hbw5 : Below w2.heap.size w2 W5 := by
                rw [← hW5]
                exact (HBW.out.trans (HB4.out.mono HBW.out.size)).alloc (Nat.le_trans HBW.out.size HB4.out.size) _
              have hbx5 : Box3 W5 w2.heap.size k' n' A' m' c' := by rw [← hW5]; exact HBX5.out
              rw [hW5]
              have HN := Lib.hid hnew
              have HBW5 := Lib.hid hbw5
              have HX5 := Lib.hid hbx5
              clear hW5 hnew hbw5 hbx5 e0 e1 e2 e3 g0 g1 g2 g3 f1 f2 f3 p0 p1 p2
              go_wp2
              go_roundw
              case rel => exact ⟨q, _, 2, 0, _, 2, 2, by omega, rfl, rfl, HX5.out.set, HN.out.keep fun b hb => set3_other (by omega), set3_below HBW5.out (Nat.le_refl _)⟩
              case measure => simp [intOf]
      · have hb := rowB_no (l := l) (by intro h; exact hpos h.2.2)
        rw [rowR_no hb, hb]
        have HPOS := Lib.hid hpos
        clear hone hll hl hm hpos hb
        go_enter Try.func11, Try.ntmps11
        go_wp2_with (go_at_call 26; refine HM.out.mono ?_; rintro e w1 ⟨⟨x, rfl, hx⟩, rfl⟩
                     have hx1 : x < 0 := Int.not_le.1 fun h => HPOS.out (hx.1 h)
                     have hx2 : decide (x < 0) = true := decide_eq_true hx1
                     clear hx)
        exact bodyPost_ret (v := .tuple #[.agg #[.int .i64 0, .int .i64 0, .slice none 0 0], .bool false]) (by simp [results, Try.results11, go_sem]) rfl ⟨_, _, _, _, _, rfl, word_is _ 0 _, HONE.out⟩
end Go.Proofs.Ytgldbjlifcfjlaa
