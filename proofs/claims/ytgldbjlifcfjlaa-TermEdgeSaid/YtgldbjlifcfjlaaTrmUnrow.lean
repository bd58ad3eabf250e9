/- The walk over package term's Unrow: the words of a row. -/
import Derived.Test.YtgldbjlifcfjlaaTrmIter
import Derived.Shelf.RegionOpen
import Derived.Test.YtgldbjlifcfjlaaBasFence
namespace Go.Proofs.Ytgldbjlifcfjlaa
set_option linter.unusedVariables false
set_option linter.unusedSimpArgs false
open Go.RowKit Go.Shelf
attribute [local go_sem] Oper.semAt_some

/-- behind a call that tells the numbers whose row a term is, or that there are none -/
def UnPost (t : Te) (w : World) (e : Ending) (w' : World) : Prop :=
  ∃ (b : Bool) (l : List Int) (A : Option Addr) (m c : Nat), e = .returned (.tuple #[.slice A m c, .bool b]) ∧ Its .i64 w' A m c l ∧ Below w.heap.size w w' ∧
    (b = true → rowB l = true ∧ t = rowT l) ∧ (b = false → l = [] ∧ ∀ l', rowB l' = true → t ≠ rowT l')

def rowAt (L : List (Te × R5)) (k : Nat) : R5 := (L.getD k (.node 0 0 [], (0, 0, none, 0, 0))).2
theorem alV_row (L : List (Te × R5)) (k : Nat) : alV L k = r5V (rowAt L k) := rfl
theorem row_at {L : List (Te × R5)} {k : Nat} (hk : k < L.length) : rowAt L k = L[k].2 := by simp [rowAt, List.getD_eq_getElem?_getD, hk]
/-- the first ones are words -/
def wordsTo (L : List (Te × R5)) (k : Nat) : Prop := ∀ j, j < k → wordB (rowAt L j) = true
theorem words_next {L : List (Te × R5)} {k : Nat} (h : wordsTo L k) (hk : wordB (rowAt L k) = true) : wordsTo L (k + 1) := by
  intro j hj
  by_cases e : j = k
  · rw [e]; exact hk
  · exact h j (by omega)
theorem un_stop {L : List (Te × R5)} {k : Nat} (hk : k < L.length) (h : wordB (rowAt L k) = false ∨ 12 ≤ k) : unB L = false := by
  rw [← Bool.not_eq_true]
  unfold unB
  rw [Bool.and_eq_true, decide_eq_true_eq, List.all_eq_true]
  rintro ⟨h1, h2⟩
  rcases h with h | h
  · have := h2 L[k] (List.getElem_mem hk)
    rw [row_at hk, this] at h
    cases h
  · omega
theorem un_done {L : List (Te × R5)} (h : wordsTo L L.length) (h12 : L.length ≤ 12) : unB L = true := by
  unfold unB
  rw [Bool.and_eq_true, decide_eq_true_eq, List.all_eq_true]
  refine ⟨h12, fun x hx => ?_⟩
  obtain ⟨j, hj, rfl⟩ := List.getElem_of_mem hx
  have := h j hj
  rwa [row_at hj] at this
theorem nums_next {L : List (Te × R5)} {k : Nat} (hk : k < L.length) : nums (L.take (k + 1)) = nums (L.take k) ++ [(rowAt L k).2.1] := by
  rw [List.take_succ_eq_append_getElem hk, row_at hk]
  simp only [nums, List.map_append, List.map_cons, List.map_nil]
/-- what the numbers are worth -/
theorem un_true {w : World} {P : Nat → Prop} {t : Te} {r : R5} {L : List (Te × R5)} (h : Along P w t r L) (hu : unB L = true) : rowB (nums L) = true ∧ t = rowT (nums L) := by
  unfold unB at hu
  rw [Bool.and_eq_true, decide_eq_true_eq] at hu
  obtain ⟨h1, h2⟩ := along_row h hu.2
  have hp := h.pos
  refine ⟨(rowB_is _).2 ⟨by simpa [nums] using hp, by simpa [nums] using hu.1, h2⟩, h1⟩
theorem un_false {w : World} {P : Nat → Prop} {t : Te} {r : R5} {L : List (Te × R5)} (h : Along P w t r L) (hu : unB L = false) : ∀ l', rowB l' = true → t ≠ rowT l' := by
  intro l' hl' he
  obtain ⟨h1, h2, h3⟩ := (rowB_is l').1 hl'
  obtain ⟨e1, e2⟩ := along_back h l' h1 h3 he
  have : unB L = true := by
    unfold unB
    rw [Bool.and_eq_true, decide_eq_true_eq]
    refine ⟨?_, e2⟩
    rw [← e1] at h2
    simpa [nums] using h2
  rw [hu] at this
  cases this
/-- between two rounds -/
def UnInv (L : List (Te × R5)) (w : World) (k : Nat) (W : World) : Prop :=
  k ≤ 12 ∧ wordsTo L k ∧ Boxed W (w.heap.size + 1) 25 (.slice none 0 0) ∧ Boxed W (w.heap.size + 1 + 1) 4 (.bool false) ∧ Below w.heap.size w W ∧
  ∃ v, Boxed W (w.heap.size + 1 + 1 + 1) 25 v ∧ OwnI .i64 3 W (w.heap.size + 8) v (nums (L.take k))
/-- where a round has left -/
def UnX (L : List (Te × R5)) (w : World) (W : World) : Prop :=
  unB L = false ∧ Boxed W (w.heap.size + 1) 25 (.slice none 0 0) ∧ Boxed W (w.heap.size + 1 + 1) 4 (.bool false) ∧ Below w.heap.size w W
/-- the frame of a round -/
def UnF (k n : Int) (A : Option Addr) (m c b X : Nat) (r : R5) : Act :=
  { tmps := #[.agg #[.int .i64 k, .int .i64 n, .slice A m c], .pointer (some ⟨b, 0, none⟩), .pointer (some ⟨b + 1, 0, none⟩), .pointer (some ⟨b + 1 + 1, 0, none⟩), .pointer (some ⟨b + 1 + 1 + 1, 0, none⟩), .pointer (some ⟨X, 0, none⟩), .agg #[.int .i64 k, .int .i64 n, .slice A m c],
      .func (.func 36) #[] #[.pointer (some ⟨b + 1 + 1 + 1 + 1, 0, none⟩)], .agg #[.int .i64 r.1, .int .i64 r.2.1, .slice r.2.2.1 r.2.2.2.1 r.2.2.2.2], undef, undef, undef, undef, undef, undef, undef, undef, undef, undef, undef, undef, undef, undef, undef, undef, undef, undef, undef], defers := [] }
def UnAx (L : List (Te × R5)) (k n : Int) (A : Option Addr) (m c : Nat) (w : World) (j : Nat) (a' : Act) (W : World) : Prop :=
  ∃ X, w.heap.size + 7 < X ∧ a' = UnF k n A m c w.heap.size X (rowAt L j) ∧ Box3 W X (rowAt L j).1 (rowAt L j).2.1 (rowAt L j).2.2.1 (rowAt L j).2.2.2.1 (rowAt L j).2.2.2.2
theorem put_below {B : Nat} {w W : World} {l : Nat} {o' : Obj} (h : Below B w W) (hB : B ≤ W.heap.size) (hl : B ≤ l) : Below B w (W.putObj l o') := h.grown (grownBy_putObj' W l o') hB (fun g e => by cases e; exact hl)
theorem box3_put {w : World} {g l : Nat} {k n : Int} {A : Option Addr} {m c : Nat} {o : Obj} (o' : Obj) (h : Box3 w g k n A m c) (hl : w.heap[l]? = some o) (hn : o.isCells = false) : Box3 (w.putObj l o') g k n A m c :=
  (World.putObj_heap_other (block_ne h rfl hl hn)).trans h

theorem un_left {L : List (Te × R5)} {w W w1 : World} (hk : KeepsOthers W w1) (h3 : Boxed w1 (w.heap.size + 1) 25 (.slice none 0 0)) (h4 : Boxed w1 (w.heap.size + 1 + 1) 4 (.bool false)) (hb : Below w.heap.size w w1) (hu : unB L = false) :
    KeepsOthers W ((w1.setCell ⟨w.heap.size + 1, 0, none⟩ (.slice none 0 0)).setCell ⟨w.heap.size + 1 + 1, 0, none⟩ (.bool false)) ∧ UnX L w ((w1.setCell ⟨w.heap.size + 1, 0, none⟩ (.slice none 0 0)).setCell ⟨w.heap.size + 1 + 1, 0, none⟩ (.bool false)) :=
  ⟨(hk.trans (KeepsOthers.setCell _ _ _)).trans (KeepsOthers.setCell _ _ _), hu, (h3.set _).other (by omega) _, (h4.other (by omega) _).set _,
    (hb.setCell (p := ⟨w.heap.size + 1, 0, none⟩) (Nat.le_succ _) _).setCell (p := ⟨w.heap.size + 1 + 1, 0, none⟩) (by show w.heap.size ≤ w.heap.size + 1 + 1; omega) _⟩

set_option maxRecDepth 100000 in
set_option maxHeartbeats 2000000 in
theorem unrow_any (P : Nat → Prop) (t : Te) (k n : Int) (A : Option Addr) (m c : Nat) (w : World) (hI : Is P w t k n A m c) :
    Calls Try.prog 13 #[.agg #[.int .i64 k, .int .i64 n, .slice A m c]] w (UnPost t w) := by
  obtain ⟨L, hL⟩ := along_there _ _ _ _ _ _ hI.old
  have HL := Lib.hid hL
  clear hL hI
  refine (callsIn_wide (n := 9)).1 ?_
  refine callsIn_of_wp_marks Try.func13 rfl trivial ?_ rfl
  simp only [Try.ntmps13, List.size_toArray, List.length_cons, List.length_nil, Nat.reduceAdd, Nat.reduceSub, Array.replicate_succ, Array.replicate_zero, List.push_toArray, List.append_toArray, List.nil_append, List.cons_append]
  gi_wp2_with (refine ⟨trivial, ?_⟩; gi_at_call 28; refine (callsIn_wide.2 (along_any _ _ _ _ _ _)).mono ?_; rintro e w1 ⟨rfl, rfl⟩)
  obtain ⟨W0, hW0⟩ : ∃ W0, ((((w.alloc (.cells #[.int .i64 k, .int .i64 n, .slice A m c] 24)).alloc (.cells #[.slice none 0 0] 25)).alloc (.cells #[.bool false] 4)).alloc (.cells #[.slice none 0 0] 25)).alloc (.cells #[.int .i64 k, .int .i64 n, .slice A m c] 24) = W0 := ⟨_, rfl⟩
  have hsz : W0.heap.size = w.heap.size + 1 + 1 + 1 + 1 + 1 := by rw [← hW0]; simp
  have hB0 : Below w.heap.size w W0 := by
    rw [← hW0]
    exact ((three_below w _ _ _).alloc (by simp; omega) _).alloc (by simp; omega) _
  have b1 : Boxed W0 (w.heap.size + 1) 25 (.slice none 0 0) := by
    rw [← hW0]
    have := Boxed.new (w.alloc (.cells #[.int .i64 k, .int .i64 n, .slice A m c] 24)) 25 (.slice none 0 0)
    rw [World.size_alloc] at this
    exact ((this.alloc _).alloc _).alloc _
  have b2 : Boxed W0 (w.heap.size + 1 + 1) 4 (.bool false) := by
    rw [← hW0]
    have := Boxed.new ((w.alloc (.cells #[.int .i64 k, .int .i64 n, .slice A m c] 24)).alloc (.cells #[.slice none 0 0] 25)) 4 (.bool false)
    rw [World.size_alloc, World.size_alloc] at this
    exact (this.alloc _).alloc _
  have b3 : Boxed W0 (w.heap.size + 1 + 1 + 1) 25 (.slice none 0 0) := by
    rw [← hW0]
    have := Boxed.new (((w.alloc (.cells #[.int .i64 k, .int .i64 n, .slice A m c] 24)).alloc (.cells #[.slice none 0 0] 25)).alloc (.cells #[.bool false] 4)) 25 (.slice none 0 0)
    rw [World.size_alloc, World.size_alloc, World.size_alloc] at this
    exact this.alloc _
  have b4 : Box3 W0 (w.heap.size + 1 + 1 + 1 + 1) k n A m c := by
    rw [← hW0]
    have := Box3.new ((((w.alloc (.cells #[.int .i64 k, .int .i64 n, .slice A m c] 24)).alloc (.cells #[.slice none 0 0] 25)).alloc (.cells #[.bool false] 4)).alloc (.cells #[.slice none 0 0] 25)) k n A m c
    rw [World.size_alloc, World.size_alloc, World.size_alloc, World.size_alloc] at this
    exact this
  rw [hW0]
  clear hW0
  have hih := along_hands 8 w.heap.size (w.heap.size + 1 + 1 + 1 + 1) t 0 m c k n A L w W0 (by omega) HL.out hB0 (by omega) (by omega) b4
  have HB0 := Lib.hid hB0
  refine range_stops (F := Fence.wide) rfl (by omega) (gf := 36) (lb := #[.pointer (some ⟨w.heap.size + 1 + 1 + 1 + 1, 0, none⟩)]) rfl trivial (enters_of Try.func36 (by kernel_rfl) rfl) hih (Below.refl _ _)
    (fun ⟨h1, h2⟩ ⟨k1, k2⟩ => ⟨h1.trans k1, k2.trans h2⟩) ?hKb (UnInv L w) ?hI ?hIb (UnX L w) ?hIx ?hIxb ?h0 (UnAx L k n A m c w) ?hAx ?assign ?body ?done ?stop
  case hKb =>
    intro W o o' hl hc _
    have hlt := (Array.getElem?_eq_some_iff.1 hl).1
    exact ⟨put_below (Below.refl _ _) (by omega) (by omega), World.putObj_heap_other (by omega)⟩
  case hI =>
    rintro j W x o o' ⟨h1, h2, h3, h4, h5, v, h6, h7⟩ hx ho hc
    exact ⟨h1, h2, boxed_put o' h3 ho hc, boxed_put o' h4 ho hc, put_below h5 h5.size (by omega), v, boxed_put o' h6 ho hc, own_put o' h7 ho hc⟩
  case hIb =>
    rintro j X Y ⟨h1, h2, h3, h4, h5, v, h6, h7⟩ hb
    exact ⟨h1, h2, hb.boxed h3 (by omega), hb.boxed h4 (by omega), h5.trans (hb.below (by omega) h5.size), v, hb.boxed h6 (by omega), own_but h7 hb (by omega)⟩
  case hIx =>
    rintro W x o o' ⟨h1, h3, h4, h5⟩ hx ho hc
    exact ⟨h1, boxed_put o' h3 ho hc, boxed_put o' h4 ho hc, put_below h5 h5.size (by omega)⟩
  case hIxb =>
    rintro X Y ⟨h1, h3, h4, h5⟩ hb
    exact ⟨h1, hb.boxed h3 (by omega), hb.boxed h4 (by omega), h5.trans (hb.below (by omega) h5.size)⟩
  case h0 =>
    intro o
    exact ⟨by omega, (fun j hj => by omega), (b1.alloc _).alloc _, (b2.alloc _).alloc _, HB0.out.trans ((two_below W0 _ _).mono HB0.out.size), .slice none 0 0, (b3.alloc _).alloc _, OwnI.nil _ _ _ _⟩
  case hAx =>
    rintro j a' W x o o' ⟨X, h1, h2, h3⟩ hx ho hc
    exact ⟨X, h1, h2, box3_put o' h3 ho hc⟩
  case assign =>
    intro x j W K hj hlt hi hK
    rw [alV_row]
    obtain ⟨⟨k', n', A', m', c'⟩, hr⟩ : ∃ r, rowAt L j = r := ⟨_, rfl⟩
    have hK2 := hK (UnF k n A m c w.heap.size W.heap.size (rowAt L j)) (W.alloc (.cells #[.int .i64 k', .int .i64 n', .slice A' m' c'] 24)) (KeepsOthers.alloc _ _) ⟨(Below.refl _ _).alloc (by omega) _, Below.heap_alloc _ _ _ (by omega)⟩
      (by obtain ⟨h1, h2, h3, h4, h5, v, h6, h7⟩ := hi; exact ⟨h1, h2, h3.alloc _, h4.alloc _, h5.alloc h5.size _, v, h6.alloc _, h7.more _⟩)
      ⟨W.heap.size, by omega, rfl, by rw [hr]; exact Box3.new W k' n' A' m' c'⟩
    rw [hr] at hK2 ⊢
    unfold UnF at hK2
    unfold r5V
    clear hK hi
    gi_wp2
    exact hK2
  case body =>
    rintro x j a' W hj ⟨h1, h2, h3, h4, h5, v, h6, h7⟩ ⟨X, hX, rfl, hbx⟩
    obtain ⟨⟨k', n', A', m', c'⟩, hr⟩ : ∃ r, rowAt L j = r := ⟨_, rfl⟩
    have hmi : m' ≤ 9223372036854775807 := by
      have h := HL.out.is L[j] (List.getElem_mem hj)
      rw [← row_at hj, hr] at h
      obtain ⟨l', rows, e, _⟩ := h.inv
      rw [e] at h
      exact h.len.2.2.2
    have hst := un_stop hj
    have hnx := @words_next L j h2
    have hnn := nums_next hj
    rw [hr] at hbx hst hnx hnn ⊢
    unfold UnF
    simp only at hbx hnn ⊢
    unfold wordB at hst hnx
    simp only at hst hnx
    have hlen : (nums (L.take j)).length = j := by simp [nums]; omega
    obtain ⟨y0, y1, y2⟩ := hbx.cells
    have x1 := h3.cell
    have x2 := h4.cell
    have x3 := h6.cell
    have f1 := h3.frozen
    have f2 := h4.frozen
    have f3 := h6.frozen
    have HBX := Lib.hid hbx
    have H3 := Lib.hid h3
    have H4 := Lib.hid h4
    have H5 := Lib.hid h5
    have H6 := Lib.hid h6
    have H7 := Lib.hid h7
    have hbW : w.heap.size + 8 ≤ W.heap.size := by have := hbx.lt; omega
    by_cases hk0 : k' = 0
    · subst hk0
      have hic := isNode_any 0 n' A' m' c' W hmi
      cases hnb : nodeB 0 n' m' with
      | false =>
        rw [hnb] at hic hst
        have HST := Lib.hid (hst (.inl rfl))
        have HIC := Lib.hid ((callsIn_wide (n := 9 - 1 - 1 - 1).2 hic).inRound x)
        clear hic hst hnx hnn hnb hbx h1 h2 h3 h4 h5 h6 h7 b1 b2 b3 b4 hih hB0 hr
        gi_wp2_with (refine ⟨trivial, ?_⟩; gi_at_call 29; refine HIC.out.mono ?_; rintro e w1 ⟨rfl, hb1⟩
                     have k3 : Boxed w1 (w.heap.size + 1) 25 (.slice none 0 0) := (hb1.block _ H3.out.lt).trans H3.out
                     have k4 : Boxed w1 (w.heap.size + 1 + 1) 4 (.bool false) := (hb1.block _ H4.out.lt).trans H4.out
                     have z1 := k3.cell
                     have z2 := k4.cell
                     have g1 := k3.frozen
                     have g2 := k4.frozen
                     have K3 := Lib.hid k3
                     have K4 := Lib.hid k4
                     have HB1 := Lib.hid hb1
                     clear k3 k4 hb1)
        exact un_left (others_below HB1.out) K3.out K4.out (H5.out.trans (HB1.out.mono H5.out.size)) HST.out
      | true =>
        rw [hnb] at hic hst hnx
        have HIC := Lib.hid ((callsIn_wide (n := 9 - 1 - 1 - 1).2 hic).inRound x)
        obtain ⟨A4, m4, c4, rfl, hits⟩ := h7.its
        obtain rfl : j = m4 := by rw [← hits.len, hlen]
        by_cases h12 : j = 12
        · have HST := Lib.hid (hst (.inr (by omega)))
          have h12b : ((j : Int) == 12) = true := by rw [beq_iff_eq]; omega
          clear hic hst hnx hnn hnb hbx h1 h2 h3 h4 h5 h6 h7 b1 b2 b3 b4 hih hB0 hr hits hlen
          gi_wp2_with (refine ⟨trivial, ?_⟩; gi_at_call 29; refine HIC.out.mono ?_; rintro e w1 ⟨rfl, hb1⟩
                       have k3 : Boxed w1 (w.heap.size + 1) 25 (.slice none 0 0) := (hb1.block _ H3.out.lt).trans H3.out
                       have k4 : Boxed w1 (w.heap.size + 1 + 1) 4 (.bool false) := (hb1.block _ H4.out.lt).trans H4.out
                       have k6 : Boxed w1 (w.heap.size + 1 + 1 + 1) 25 _ := (hb1.block _ H6.out.lt).trans H6.out
                       obtain ⟨q0, q1, q2⟩ := (HBX.out.keep hb1).cells
                       have z1 := k3.cell
                       have z2 := k4.cell
                       have z3 := k6.cell
                       have g1 := k3.frozen
                       have g2 := k4.frozen
                       have K3 := Lib.hid k3
                       have K4 := Lib.hid k4
                       have K6 := Lib.hid k6
                       have HB1 := Lib.hid hb1
                       clear k3 k4 k6 hb1)
          exact un_left (others_below HB1.out) K3.out K4.out (H5.out.trans (HB1.out.mono H5.out.size)) HST.out
        · have h12b : ((j : Int) == 12) = false := by rw [beq_eq_false_iff_ne]; omega
          have HNX := Lib.hid (hnx rfl)
          have HNN := Lib.hid hnn
          have HLEN := Lib.hid hlen
          have hj12 : j + 1 ≤ 12 := by omega
          clear hic hst hnx hnn hnb hbx h1 h2 h3 h4 h5 h6 h7 b1 b2 b3 b4 hih hB0 hr hits hlen
          gi_wp2_with (first
            | (refine ⟨trivial, ?_⟩; gi_at_call 29; refine HIC.out.mono ?_; rintro e w1 ⟨rfl, hb1⟩
               have k3 : Boxed w1 (w.heap.size + 1) 25 (.slice none 0 0) := (hb1.block _ H3.out.lt).trans H3.out
               have k4 : Boxed w1 (w.heap.size + 1 + 1) 4 (.bool false) := (hb1.block _ H4.out.lt).trans H4.out
               have k6 : Boxed w1 (w.heap.size + 1 + 1 + 1) 25 _ := (hb1.block _ H6.out.lt).trans H6.out
               obtain ⟨q0, q1, q2⟩ := (HBX.out.keep hb1).cells
               have z1 := k3.cell
               have z2 := k4.cell
               have z3 := k6.cell
               have g1 := k3.frozen
               have g2 := k4.frozen
               have K3 := Lib.hid k3
               have K4 := Lib.hid k4
               have K6 := Lib.hid k6
               have HB1 := Lib.hid hb1
               clear k3 k4 k6 hb1)
            | (gi_at_builtin
               refine wpListIn_append_i rfl 25 3 .i64 8 _ _ rfl Try.underlying25 (by kernel_rfl) (by omega) (w.heap.size + 8) (.slice A4 j c4) (nums (L.take j)) rfl ((H7.out.below HB1.out).more _) ⟨w1.heap.size, 0, none⟩ 1 1 [n'] rfl (one_its .i64 3 w1 n') (by have := HLEN.out; omega) (Nat.le_trans hbW (Nat.le_trans HB1.out.size (size_le_alloc _ _))) ?_
               intro v4 w4 hown4 hg4
               have hob : ∀ g, (Value.slice A4 j c4).ownBlock = some g → w.heap.size + 8 ≤ g := fun g hg => (H7.out.size g hg).1
               have hko : KeepsOthers W w4 := (others_below HB1.out).trans ((KeepsOthers.alloc _ _).trans (others_grown ((H7.out.below HB1.out).more _) hg4))
               have hbe : Below (w.heap.size + 8) W w4 := ((HB1.out.mono hbW).alloc (Nat.le_trans hbW HB1.out.size) _).grown hg4 (Nat.le_trans hbW (Nat.le_trans HB1.out.size (size_le_alloc _ _))) hob
               have k3 : Boxed w4 (w.heap.size + 1) 25 (.slice none 0 0) := (hbe.block _ (by omega)).trans H3.out
               have k4 : Boxed w4 (w.heap.size + 1 + 1) 4 (.bool false) := (hbe.block _ (by omega)).trans H4.out
               have k6 : Boxed w4 (w.heap.size + 1 + 1 + 1) 25 (.slice A4 j c4) := (hbe.block _ (by omega)).trans H6.out
               obtain ⟨A5, m5, c5, rfl, _⟩ := hown4.its
               rw [← HNN.out] at hown4
               have p6 := k6.cell
               have o6 := k6.frozen
               have HKO := Lib.hid hko
               have HBE := Lib.hid hbe
               have J3 := Lib.hid k3
               have J4 := Lib.hid k4
               have J6 := Lib.hid k6
               have HO4 := Lib.hid hown4
               clear hown4 hg4 hob hko hbe k3 k4 k6))
          refine ⟨HKO.out.trans (KeepsOthers.setCell _ _ _), ⟨(HBE.out.mono (by omega)).setCell (p := ⟨w.heap.size + 1 + 1 + 1, 0, none⟩) (by show w.heap.size ≤ w.heap.size + 1 + 1 + 1; omega) _, ?_⟩, hj12, HNX.out, J3.out.other (by omega) _, J4.out.other (by omega) _, ?_, _, J6.out.set _, own_set HO4.out (by omega)⟩
          · rw [hsz]
            exact (Below.heap_setCell _ _ _ _ (by show w.heap.size + 1 + 1 + 1 + 1 + 1 + 1 + 1 ≠ w.heap.size + 1 + 1 + 1; omega)).trans (HBE.out.block _ (by omega))
          · exact (H5.out.trans (HBE.out.mono (by omega))).setCell (p := ⟨w.heap.size + 1 + 1 + 1, 0, none⟩) (by show w.heap.size ≤ w.heap.size + 1 + 1 + 1; omega) _
    · have hk0n : (k' != 0) = true := by rw [bne_iff_ne]; exact hk0
      have HST := Lib.hid (hst (.inl (by rw [decide_eq_false hk0]; rfl)))
      clear hst hnx hnn hbx h1 h2 h3 h4 h5 h6 h7 b1 b2 b3 b4 hih hB0 hr
      gi_wp2
      refine ⟨trivial, ?_⟩
      gi_wp2
      exact un_left (KeepsOthers.refl _) H3.out H4.out H5.out HST.out
  case done =>
    rintro D W hD ⟨h1, h2, h3, h4, h5, v, h6, h7⟩ hDD
    rw [List.take_length] at h7
    obtain ⟨A', m', c', rfl, hits⟩ := h7.its
    have hu := un_done h2 h1
    have x1 := h3.cell
    have x2 := h4.cell
    have x3 := h6.cell
    have f1 := h3.frozen
    have f2 := h4.frozen
    obtain ⟨W5, hW5⟩ : ∃ W5, (W.setCell ⟨w.heap.size + 1, 0, none⟩ (.slice A' m' c')).setCell ⟨w.heap.size + 1 + 1, 0, none⟩ (.bool true) = W5 := ⟨_, rfl⟩
    have y1 : Boxed W5 (w.heap.size + 1) 25 (.slice A' m' c') := by rw [← hW5]; exact (h3.set _).other (by omega) _
    have y2 : Boxed W5 (w.heap.size + 1 + 1) 4 (.bool true) := by rw [← hW5]; exact (h4.other (by omega) _).set _
    have y3 : OwnI .i64 3 W5 (w.heap.size + 8) (.slice A' m' c') (nums L) := by rw [← hW5]; exact own_set (own_set h7 (by omega)) (by omega)
    have y4 : Below w.heap.size w W5 := by rw [← hW5]; exact (h5.setCell (p := ⟨w.heap.size + 1, 0, none⟩) (Nat.le_succ _) _).setCell (p := ⟨w.heap.size + 1 + 1, 0, none⟩) (by show w.heap.size ≤ w.heap.size + 1 + 1; omega) _
    have y5 : W5.heap[D]? = some (.deferred (some [])) := by
      rw [← hW5]
      exact (Below.heap_setCell _ _ _ _ (by show D ≠ w.heap.size + 1 + 1; omega)).trans ((Below.heap_setCell _ _ _ _ (by show D ≠ w.heap.size + 1; omega)).trans hDD)
    have HY1 := Lib.hid y1
    have HY2 := Lib.hid y2
    have HY3 := Lib.hid y3
    have HY4 := Lib.hid y4
    have HY5 := Lib.hid y5
    have HW5 := Lib.hid hW5
    have HU := Lib.hid hu
    clear y1 y2 y3 y4 y5 hW5 hu hits h1 h2 h3 h4 h5 h6 h7 b1 b2 b3 b4 hih hB0
    gi_wp2
    rw [HW5.out]
    refine ⟨by simp, .inl ⟨_, _, rfl, run_takeDeferred HY5.out, ?_⟩⟩
    have z1 := fun o' => (boxed_put o' HY1.out HY5.out rfl).cell
    have z2 := fun o' => (boxed_put o' HY2.out HY5.out rfl).cell
    refine ⟨.tuple #[.slice A' m' c', .bool true], by simp [results, Try.results13, go_sem, z1, z2], true, nums L, A', m', c', rfl, ?_, ?_, ?_, ?_⟩
    · obtain ⟨A2, m2, c2, e, h⟩ := (own_put _ HY3.out HY5.out rfl).its
      injection e with e1 e2 e3
      subst e1 e2 e3
      exact h
    · exact put_below HY4.out HY4.out.size (by omega)
    · exact fun _ => un_true HL.out HU.out
    · exact fun e => by cases e
  case stop =>
    rintro D W hD ⟨h1, h3, h4, h5⟩ hDD
    have z1 := fun o' => (boxed_put o' h3 hDD rfl).cell
    have z2 := fun o' => (boxed_put o' h4 hDD rfl).cell
    have HY4 := Lib.hid h5
    have HD := Lib.hid hDD
    have HU := Lib.hid h1
    clear h1 h3 h4 h5 hDD hih hB0 b1 b2 b3 b4
    gi_wp2
    refine ⟨by simp, .inl ⟨_, _, rfl, run_takeDeferred HD.out, ?_⟩⟩
    refine ⟨.tuple #[.slice none 0 0, .bool false], by simp [results, Try.results13, go_sem, z1, z2], false, [], none, 0, 0, rfl, Its.nil _ _, ?_, (fun e => by cases e), fun _ => ⟨rfl, un_false HL.out HU.out⟩⟩
    exact put_below HY4.out HY4.out.size (by omega)
end Go.Proofs.Ytgldbjlifcfjlaa
