/- The walk over the document's Row of numbers. -/
import Derived.Test.YtgldbjlifcfjlaaTrmRow2
import Derived.Test.YtgldbjlifcfjlaaBasIts
namespace Go.Proofs.Ytgldbjlifcfjlaa
set_option linter.unusedVariables false
set_option linter.unusedSimpArgs false
open Go.RowKit

theorem rowB_cons (x y : Int) (l : List Int) : rowB (x :: y :: l) = (decide (l.length ≤ 10) && decide (0 ≤ x) && rowB (y :: l)) := by
  rw [Bool.eq_iff_iff, Bool.and_eq_true, Bool.and_eq_true, rowB_is, rowB_is, decide_eq_true_eq, decide_eq_true_eq]
  simp only [List.length_cons, List.mem_cons, forall_eq_or_imp]
  constructor
  · rintro ⟨h1, h2, h3, h4, h5⟩
    exact ⟨⟨by omega, h3⟩, by omega, by omega, h4, h5⟩
  · rintro ⟨⟨h1, h2⟩, h3, h4, h5, h6⟩
    exact ⟨by omega, by omega, h2, h5, h6⟩
theorem rowR_cons {x y : Int} {l : List Int} (h : rowB (x :: y :: l) = true) : rowR (x :: y :: l) = .node 2 0 [.node 0 x [], rowR (y :: l)] := by
  have h2 := h
  rw [rowB_cons, Bool.and_eq_true] at h2
  rw [rowR, h, rowR, h2.2, if_pos rfl, if_pos rfl, rowT]
theorem size_int (w : World) : (sizeOf (Try.prog.elem 25)).run Try.prog w = .ok 1 w := by
  rw [show Try.prog.elem 25 = 3 from by kernel_rfl]
  rfl

set_option maxRecDepth 100000 in
set_option maxHeartbeats 2000000 in
theorem rrow_any : ∀ (l : List Int) (A : Option Addr) (n c : Nat) (w : World), Its .i64 w A n c l →
    Calls Try.prog 12 #[.slice A n c] w (GivesR (rowR l) (rowB l) w) := by
  intro l
  induction l with
  | nil =>
    intro A n c w hl
    obtain rfl : n = 0 := hl.len.symm
    have HONE := Lib.hid (one_alloc w (.cells #[.int .i64 0, .int .i64 0, .slice none 0 0] 24))
    have hb := rowB_no (l := []) (by simp)
    rw [rowR_no hb, hb]
    clear hl
    go_enter Try.func12, Try.ntmps12
    go_wp2
    exact bodyPost_ret (v := .tuple #[.agg #[.int .i64 0, .int .i64 0, .slice none 0 0], .bool false]) (by simp [results, Try.results12, go_sem]) rfl ⟨_, _, _, _, _, rfl, word_is _ 0 _, HONE.out⟩
  | cons x l ih =>
    intro A n c w hl
    have hn63 := hl.small
    have hll : l.length + 1 = n := hl.len
    have HONE := Lib.hid (one_alloc w (.cells #[.int .i64 0, .int .i64 0, .slice none 0 0] 24))
    have hn0 : ((n : Int) == 0) = false := by rw [beq_eq_false_iff_ne]; omega
    obtain ⟨b, off, rfl, hc⟩ := hl.at_ (by omega)
    have hc0 := hc 0 (by omega)
    rw [Nat.add_zero] at hc0
    have hbl : b < w.heap.size := block_lt_of_cell hc0
    have e0 : (x :: l).getD 0 0 = x := rfl
    rw [e0] at hc0
    have HL := Lib.hid hl
    have IH := Lib.hid ih
    clear hl ih hc e0
    by_cases h12 : 12 < n
    · have hb := rowB_no (l := x :: l) (by simp only [List.length_cons]; omega)
      rw [rowR_no hb, hb]
      have h12i : (12 : Int) < n := by omega
      go_enter Try.func12, Try.ntmps12
      go_wp2
      exact bodyPost_ret (v := .tuple #[.agg #[.int .i64 0, .int .i64 0, .slice none 0 0], .bool false]) (by simp [results, Try.results12, go_sem]) rfl ⟨_, _, _, _, _, rfl, word_is _ 0 _, HONE.out⟩
    · have h12d : decide ((12 : Int) < n) = false := by rw [decide_eq_false_iff_not]; omega
      by_cases hx : x < 0
      · have hb := rowB_no (l := x :: l) (by intro h; have := h.2.2 x (by simp); omega)
        rw [rowR_no hb, hb]
        go_enter Try.func12, Try.ntmps12
        go_wp2
        exact bodyPost_ret (v := .tuple #[.agg #[.int .i64 0, .int .i64 0, .slice none 0 0], .bool false]) (by simp [results, Try.results12, go_sem]) rfl ⟨_, _, _, _, _, rfl, word_is _ 0 _, HONE.out⟩
      · have hxd : decide (x < 0) = false := decide_eq_false hx
        have two := two_below w (.cells #[.int .i64 0, .int .i64 0, .slice none 0 0] 24) (.cells #[.int .i64 0, .int .i64 x, .slice none 0 0] 24)
        cases l with
        | nil =>
          obtain rfl : n = 1 := by simp at hll; omega
          have hb : rowB [x] = true := by rw [rowB_is]; exact ⟨by simp, by simp, fun y hy => by simp at hy; omega⟩
          have hR : rowR [x] = .node 0 x [] := by rw [rowR, hb]; rfl
          rw [hR, hb]
          have TWO := Lib.hid two
          clear two hb hR
          go_enter Try.func12, Try.ntmps12
          go_wp2
          refine bodyPost_ret (v := .tuple #[.agg #[.int .i64 0, .int .i64 x, .slice none 0 0], .bool true]) (by simp [results, Try.results12, go_sem]) rfl ⟨_, _, _, _, _, rfl, word_is _ x _, ?_⟩
          exact two_below w _ _
        | cons y l =>
          obtain ⟨A2, hrun, hits⟩ := its_from (P := Try.prog) Try.underlying25 size_int HL.out (1 : Int) (lo := 1) rfl (by omega)
          have hn1 : ((n : Int) == 1) = false := by rw [beq_eq_false_iff_ne]; simp only [List.length_cons] at hll; omega
          obtain ⟨W2, hW2⟩ : ∃ W2, (w.alloc (.cells #[.int .i64 0, .int .i64 0, .slice none 0 0] 24)).alloc (.cells #[.int .i64 0, .int .i64 x, .slice none 0 0] 24) = W2 := ⟨_, rfl⟩
          have hz2 : W2.heap.size = w.heap.size + 1 + 1 := by rw [← hW2]; simp
          have hr2 : Box3 W2 w.heap.size 0 0 none 0 0 := by rw [← hW2]; exact (Box3.new w 0 0 none 0 0).keep (one_alloc _ _)
          have hx2 : Box3 W2 (w.heap.size + 1) 0 x none 0 0 := by
            rw [← hW2]
            have := Box3.new (w.alloc (.cells #[.int .i64 0, .int .i64 0, .slice none 0 0] 24)) 0 x none 0 0
            rwa [size_next] at this
          rw [hW2] at two
          have hcall := IH.out A2 (n - 1) (c - 1) W2 ((hits w HL.out).below two)
          have hrb := rowB_cons x y l
          rw [show decide (l.length ≤ 10) = true by rw [decide_eq_true_eq]; simp only [List.length_cons] at hll; omega, show decide (0 ≤ x) = true by rw [decide_eq_true_eq]; omega, Bool.true_and, Bool.true_and] at hrb
          have HW2 := Lib.hid hW2
          have TWO := Lib.hid two
          have HR2 := Lib.hid hr2
          have HX2 := Lib.hid hx2
          have HZ2 := Lib.hid hz2
          cases hrest : rowB (y :: l) with
          | false =>
            rw [hrest] at hrb hcall
            rw [rowR_no hrb, hrb]
            have HC := Lib.hid hcall
            clear hcall hrb hrest hW2 two hr2 hx2 hz2 hits
            go_enter Try.func12, Try.ntmps12
            go_wp2_with (go_at_call 12; rw [HW2.out]; refine HC.out.mono ?_; rintro e w3 ⟨k3, n3, A3, m3, c3, rfl, hI3, hB3⟩
                         have hr3 := HR2.out.keep hB3
                         have hr4 := hr3.keep (one_alloc w3 (.cells #[.int .i64 k3, .int .i64 n3, .slice A3 m3 c3] 24))
                         obtain ⟨r0, r1, r2⟩ := hr4.cells
                         obtain ⟨f0, f1, f2⟩ := hr4.free
                         have HB3 := Lib.hid hB3
                         clear hr3 hr4 hI3 hB3)
            refine bodyPost_ret (v := .tuple #[.agg #[.int .i64 0, .int .i64 0, .slice none 0 0], .bool false]) (by simp [results, Try.results12, go_sem, r0, r1, r2]) rfl ⟨_, _, _, _, _, rfl, word_is _ 0 _, ?_⟩
            exact set3_below ((TWO.out.trans (HB3.out.mono TWO.out.size)).alloc (Nat.le_trans TWO.out.size HB3.out.size) _) (Nat.le_refl _)
          | true =>
            rw [hrest] at hrb hcall
            rw [rowR_cons hrb, hrb]
            have HC := Lib.hid hcall
            clear hcall hrb hrest hW2 two hr2 hx2 hz2 hits
            go_enter Try.func12, Try.ntmps12
            go_wp2_with (go_at_call 12; rw [HW2.out]; refine HC.out.mono ?_; rintro e w3 ⟨k3, n3, A3, m3, c3, rfl, hI3, hB3⟩
                         have hone3 := one_alloc w3 (.cells #[.int .i64 k3, .int .i64 n3, .slice A3 m3 c3] 24)
                         have hr4 := (HR2.out.keep hB3).keep hone3
                         have hx4 := (HX2.out.keep hB3).keep hone3
                         obtain ⟨x0, x1, x2⟩ := hx4.cells
                         have hone4 := one_alloc (w3.alloc (.cells #[.int .i64 k3, .int .i64 n3, .slice A3 m3 c3] 24)) (.cells #[.int .i64 0, .int .i64 x, .slice none 0 0, .int .i64 k3, .int .i64 n3, .slice A3 m3 c3] 24)
                         have hr5 := hr4.keep hone4
                         obtain ⟨r0, r1, r2⟩ := hr5.cells
                         obtain ⟨f0, f1, f2⟩ := hr5.free
                         have HB3 := Lib.hid hB3
                         have HI3 := Lib.hid hI3
                         have HONE3 := Lib.hid hone3
                         clear hr4 hx4 hone3 hone4 hr5 hI3 hB3)
            obtain ⟨W4, hW4⟩ : ∃ W4, w3.alloc (.cells #[.int .i64 k3, .int .i64 n3, .slice A3 m3 c3] 24) = W4 := ⟨_, rfl⟩
            have hz4 : W4.heap.size = w3.heap.size + 1 := by rw [← hW4]; simp
            have hb4 : Below w3.heap.size w3 W4 := by rw [← hW4]; exact HONE3.out
            rw [hW4] at r0 r1 r2 f0 f1 f2 ⊢
            obtain ⟨W5, hW5⟩ : ∃ W5, W4.alloc (.cells #[.int .i64 0, .int .i64 x, .slice none 0 0, .int .i64 k3, .int .i64 n3, .slice A3 m3 c3] 24) = W5 := ⟨_, rfl⟩
            have hsz3 : W2.heap.size ≤ w3.heap.size := HB3.out.size
            have hnew : Is (fun b => w.heap.size < b) W5 (.node 2 0 [.node 0 x [], rowR (y :: l)]) 2 0 (some ⟨w3.heap.size + 1, 0, none⟩) 2 2 := by
              have := pair_is (kk := 2) (nn := 0) (word_is (fun b => w.heap.size < b) x W4) ((HI3.out.later hb4).mono fun b (hb : W2.heap.size ≤ b) => by have := HZ2.out; omega) hW5 (by have := HZ2.out; omega)
              rwa [hz4] at this
            have hb5 : Below w.heap.size w W5 := by
              rw [← hW5]
              have h1 : Below w.heap.size w w3 := TWO.out.trans (HB3.out.mono TWO.out.size)
              exact (h1.trans (hb4.mono h1.size)).alloc (Nat.le_trans h1.size hb4.size) _
            rw [hW5] at r0 r1 r2 f0 f1 f2 ⊢
            refine bodyPost_ret (v := .tuple #[.agg #[.int .i64 2, .int .i64 0, .slice (some ⟨w3.heap.size + 1, 0, none⟩) 2 2], .bool true]) (by simp [results, Try.results12, go_sem, r0, r1, r2]) rfl ⟨_, _, _, _, _, rfl, ?_, ?_⟩
            · exact (hnew.keep fun b hb => set3_other (by omega)).mono fun b hb => by omega
            · exact set3_below hb5 (Nat.le_refl _)
end Go.Proofs.Ytgldbjlifcfjlaa
