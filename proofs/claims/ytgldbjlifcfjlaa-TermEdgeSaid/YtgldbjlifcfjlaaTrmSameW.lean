/- The walk over the law TermSame. -/
import Derived.Test.YtgldbjlifcfjlaaTrmLeafW
import Derived.Test.YtgldbjlifcfjlaaTrmRefSz
namespace Go.Proofs.Ytgldbjlifcfjlaa
set_option linter.unusedVariables false
set_option linter.unusedSimpArgs false
open Go.RowKit

/-- six cells, held -/
theorem six_held {W w' : World} {p0 p1 p2 p3 p4 p5 : Addr} {v0 v1 v2 v3 v4 v5 : Value} (hb : Below W.heap.size W w') (h : W.cell? p0 = some v0 ∧ W.cell? p1 = some v1 ∧ W.cell? p2 = some v2 ∧ W.cell? p3 = some v3 ∧ W.cell? p4 = some v4 ∧ W.cell? p5 = some v5) :
    w'.cell? p0 = some v0 ∧ w'.cell? p1 = some v1 ∧ w'.cell? p2 = some v2 ∧ w'.cell? p3 = some v3 ∧ w'.cell? p4 = some v4 ∧ w'.cell? p5 = some v5 := by
  obtain ⟨h0, h1, h2, h3, h4, h5⟩ := h
  exact ⟨(hb.cell (block_lt_of_cell h0)).trans h0, (hb.cell (block_lt_of_cell h1)).trans h1, (hb.cell (block_lt_of_cell h2)).trans h2, (hb.cell (block_lt_of_cell h3)).trans h3, (hb.cell (block_lt_of_cell h4)).trans h4, (hb.cell (block_lt_of_cell h5)).trans h5⟩
/-- the cells of two boxes -/
theorem boxes_six {w : World} {v0 v1 v2 u0 u1 u2 : Value} {t : TypeId} : ∀ W2, (w.alloc (.cells #[v0, v1, v2] t)).alloc (.cells #[u0, u1, u2] t) = W2 →
    W2.cell? ⟨w.heap.size, 0, none⟩ = some v0 ∧ W2.cell? ⟨w.heap.size, 1, none⟩ = some v1 ∧ W2.cell? ⟨w.heap.size, 2, none⟩ = some v2 ∧ W2.cell? ⟨w.heap.size + 1, 0, none⟩ = some u0 ∧ W2.cell? ⟨w.heap.size + 1, 1, none⟩ = some u1 ∧ W2.cell? ⟨w.heap.size + 1, 2, none⟩ = some u2 := by
  rintro W2 rfl
  obtain ⟨⟨a0, a1, a2⟩, ⟨b0, b1, b2⟩, _⟩ := box_both (w := w) (Below.refl _ ((w.alloc (.cells #[v0, v1, v2] t)).alloc (.cells #[u0, u1, u2] t)))
  exact ⟨a0, a1, a2, b0, b1, b2⟩
theorem below_drewN {B : Nat} {a w : World} (h : Below B a w) (n : Nat) : Below B a (w.drewN n) := ⟨h.os, h.tape, h.output, h.size, h.block⟩
theorem light_small {t : Te} {most deep : Nat} (h : lightB t most deep = true) : t.size ≤ most ∧ t.depth ≤ deep := by
  unfold lightB at h
  rw [decide_eq_true_eq] at h
  exact ⟨h.2, h.1⟩

set_option maxRecDepth 100000 in
set_option maxHeartbeats 4000000 in
theorem same_any (t u : Te) (k n k2 n2 : Int) (A A2 : Option Addr) (m c m2 c2 : Nat) (w : World) (hI : Is (· < w.heap.size) w t k n A m c) (hJ : Is (· < w.heap.size) w u k2 n2 A2 m2 c2) :
    Calls Try.prog 4 #[.agg #[.int .i64 k, .int .i64 n, .slice A m c], .agg #[.int .i64 k2, .int .i64 n2, .slice A2 m2 c2]] w (GivesB true w) := by
  have two := two_below w (.cells #[.int .i64 k, .int .i64 n, .slice A m c] 24) (.cells #[.int .i64 k2, .int .i64 n2, .slice A2 m2 c2] 24)
  obtain ⟨W2, hW2⟩ : ∃ W2, (w.alloc (.cells #[.int .i64 k, .int .i64 n, .slice A m c] 24)).alloc (.cells #[.int .i64 k2, .int .i64 n2, .slice A2 m2 c2] 24) = W2 := ⟨_, rfl⟩
  have hS := boxes_six W2 hW2
  rw [hW2] at two
  have TWO := Lib.hid two
  have HW2 := Lib.hid hW2
  have HT := Lib.hid hI
  have HU := Lib.hid hJ
  have hB2 := Below.refl W2.heap.size W2
  clear two hW2 hI hJ
  have hscm := Te.same_comm u t
  cases hlt : lightB t 150 20 <;> cases hlu : lightB u 150 20 <;> cases hs : t.same u
  all_goals
    have HLT := Lib.hid hlt
    have HLU := Lib.hid hlu
    have HSM := Lib.hid hs
    have hsc : u.same t = _ := hscm.trans hs
    have HSC := Lib.hid hsc
    clear hscm hsc hs hlt hlu
    go_enter Try.func4, Try.ntmps4
    go_wp2_with (first
      | (go_at_call 9
         rw [HW2.out]
         have hc3 := tawake_any W2
         (with_reducible refine hc3.mono ?_)
         rintro e w3 ⟨rfl, hb3⟩
         have hB3 : Below W2.heap.size W2 w3 := hB2.trans (hb3.mono hB2.size)
         have S3 := six_held hB3 hS
         clear hc3 hb3)
      | (go_at_call 10
         have hc4 := light_any _ t k n A m c w3 (HT.out.below (TWO.out.trans (hB3.mono TWO.out.size)))
         rw [HLT.out] at hc4
         (with_reducible refine hc4.mono ?_)
         rintro e w4 ⟨rfl, hb4⟩
         have hB4 : Below W2.heap.size W2 w4 := hB3.trans (hb4.mono hB3.size)
         have S4 := six_held hB4 hS
         clear hc4 hb4)
      | (go_at_call 10
         have hc5 := light_any _ u k2 n2 A2 m2 c2 w4 (HU.out.below (TWO.out.trans (hB4.mono TWO.out.size)))
         rw [HLU.out] at hc5
         (with_reducible refine hc5.mono ?_)
         rintro e w5 ⟨rfl, hb5⟩
         have hB5 : Below W2.heap.size W2 w5 := hB4.trans (hb5.mono hB4.size)
         have S5 := six_held hB5 hS
         clear hc5 hb5)
      | (go_at_call 24
         have hc6 := psame_any _ _ t u k n k2 n2 A A2 m c m2 c2 w5 (HT.out.below (TWO.out.trans (hB5.mono TWO.out.size))) (HU.out.below (TWO.out.trans (hB5.mono TWO.out.size)))
         rw [HSM.out] at hc6
         (with_reducible refine hc6.mono ?_)
         rintro e w6 ⟨rfl, hb6⟩
         have hB6 : Below W2.heap.size W2 w6 := hB5.trans (hb6.mono hB5.size)
         have S6 := six_held hB6 hS
         clear hc6 hb6))
  all_goals first
    | (go_ret; exact ⟨rfl, TWO.out.trans (hB5.mono TWO.out.size)⟩)
    | skip
  all_goals
    have hB6d : Below W2.heap.size W2 w6.drew := hB6.drew
    have S6d := six_held hB6d hS
    go_region_held3 (fun w' => w'.cell? ⟨w.heap.size, 0, none⟩ = some (.int .i64 k) ∧ w'.cell? ⟨w.heap.size, 1, none⟩ = some (.int .i64 n) ∧ w'.cell? ⟨w.heap.size, 2, none⟩ = some (.slice A m c) ∧ w'.cell? ⟨w.heap.size + 1, 0, none⟩ = some (.int .i64 k2) ∧ w'.cell? ⟨w.heap.size + 1, 1, none⟩ = some (.int .i64 n2) ∧ w'.cell? ⟨w.heap.size + 1, 2, none⟩ = some (.slice A2 m2 c2)) (first | with_reducible exact S6d | with_reducible exact S7 | with_reducible exact S8 | with_reducible exact S9 | with_reducible exact S10) (first
      | (go_at_call 24
         have hc7 := psame_any _ _ u t k2 n2 k n A2 A m2 c2 m c w6.drew (HU.out.below (TWO.out.trans (hB6d.mono TWO.out.size))) (HT.out.below (TWO.out.trans (hB6d.mono TWO.out.size)))
         rw [HSC.out] at hc7
         (with_reducible refine hc7.mono ?_)
         rintro e w7 ⟨rfl, hb7⟩
         have hB7 : Below W2.heap.size W2 w7 := hB6d.trans (hb7.mono hB6d.size)
         have S7 := six_held hB7 hS
         clear hc7 hb7)
      | (go_at_call 24
         have hc8 := psame_any _ _ t t k n k n A A m c m c w7 (HT.out.below (TWO.out.trans (hB7.mono TWO.out.size))) (HT.out.below (TWO.out.trans (hB7.mono TWO.out.size)))
         rw [Te.same_refl] at hc8
         (with_reducible refine hc8.mono ?_)
         rintro e w8 ⟨rfl, hb8⟩
         have hB8 : Below W2.heap.size W2 w8 := hB7.trans (hb8.mono hB7.size)
         have S8 := six_held hB8 hS
         clear hc8 hb8)
      | (go_at_call 16
         (with_reducible refine (own_any _ t k n A m c w8 (HT.out.below (TWO.out.trans (hB8.mono TWO.out.size))) (by have := (light_small HLT.out).1; omega)).mono ?_)
         rintro e w9 ⟨k5, n5, A5, m5, c5, rfl, hI5, hb9⟩
         have hB9 : Below W2.heap.size W2 w9 := hB8.trans (hb9.mono hB8.size)
         have S9 := six_held hB9 hS
         have HI5 := Lib.hid hI5
         clear hI5 hb9)
      | (go_at_call 24
         have hc10 := psame_any _ _ t t k5 n5 k n A5 A m5 c5 m c w9 HI5.out (HT.out.below (TWO.out.trans (hB9.mono TWO.out.size)))
         rw [Te.same_refl] at hc10
         (with_reducible refine hc10.mono ?_)
         rintro e w10 ⟨rfl, hb10⟩
         have hB10 : Below W2.heap.size W2 w10 := hB9.trans (hb10.mono hB9.size)
         have S10 := six_held hB10 hS
         clear hc10 hb10))
    go_wp2
    have hB10d : Below W2.heap.size W2 w10.drew := hB10.drew
    have S10d := six_held hB10d hS
  · clear hB10d S10d
    go_quiet (fail)
    go_wp2
    go_ret
    exact ⟨rfl, TWO.out.trans ((below_drewN hB10 _).mono TWO.out.size)⟩
  · obtain rfl : t = u := (Te.same_iff t u).1 HSM.out
    obtain ⟨x, hx⟩ : ∃ x : Int, (t.size : Int) = x := ⟨_, rfl⟩
    obtain ⟨y, hy⟩ : ∃ y : Int, (t.depth : Int) = y := ⟨_, rfl⟩
    obtain ⟨z, hz⟩ : ∃ z : Bool, t.may = z := ⟨_, rfl⟩
    have HX := Lib.hid hx
    have HY := Lib.hid hy
    have HZ := Lib.hid hz
    clear hx hy hz
    go_region_held3 (fun w' => w'.cell? ⟨w.heap.size, 0, none⟩ = some (.int .i64 k) ∧ w'.cell? ⟨w.heap.size, 1, none⟩ = some (.int .i64 n) ∧ w'.cell? ⟨w.heap.size, 2, none⟩ = some (.slice A m c) ∧ w'.cell? ⟨w.heap.size + 1, 0, none⟩ = some (.int .i64 k2) ∧ w'.cell? ⟨w.heap.size + 1, 1, none⟩ = some (.int .i64 n2) ∧ w'.cell? ⟨w.heap.size + 1, 2, none⟩ = some (.slice A2 m2 c2)) (first | with_reducible exact S10d | with_reducible exact S11 | with_reducible exact S12 | with_reducible exact S13 | with_reducible exact S14 | with_reducible exact S15 | with_reducible exact S16) (first
      | (go_at_call 19
         have hc11 := size_any _ t k n A m c w10.drew (HT.out.below (TWO.out.trans (hB10d.mono TWO.out.size))) (by have := (light_small HLT.out).1; omega)
         rw [HX.out] at hc11
         (with_reducible refine hc11.mono ?_)
         rintro e w11 ⟨rfl, hb11⟩
         have hB11 : Below W2.heap.size W2 w11 := hB10d.trans (hb11.mono hB10d.size)
         have S11 := six_held hB11 hS
         clear hc11 hb11)
      | (go_at_call 19
         have hc12 := size_any _ t k2 n2 A2 m2 c2 w11 (HU.out.below (TWO.out.trans (hB11.mono TWO.out.size))) (by have := (light_small HLT.out).1; omega)
         rw [HX.out] at hc12
         (with_reducible refine hc12.mono ?_)
         rintro e w12 ⟨rfl, hb12⟩
         have hB12 : Below W2.heap.size W2 w12 := hB11.trans (hb12.mono hB11.size)
         have S12 := six_held hB12 hS
         clear hc12 hb12)
      | (go_at_call 21
         have hc13 := depth_any _ t k n A m c w12 (HT.out.below (TWO.out.trans (hB12.mono TWO.out.size))) (by have := (light_small HLT.out).2; omega)
         rw [HY.out] at hc13
         (with_reducible refine hc13.mono ?_)
         rintro e w13 ⟨rfl, hb13⟩
         have hB13 : Below W2.heap.size W2 w13 := hB12.trans (hb13.mono hB12.size)
         have S13 := six_held hB13 hS
         clear hc13 hb13)
      | (go_at_call 21
         have hc14 := depth_any _ t k2 n2 A2 m2 c2 w13 (HU.out.below (TWO.out.trans (hB13.mono TWO.out.size))) (by have := (light_small HLT.out).2; omega)
         rw [HY.out] at hc14
         (with_reducible refine hc14.mono ?_)
         rintro e w14 ⟨rfl, hb14⟩
         have hB14 : Below W2.heap.size W2 w14 := hB13.trans (hb14.mono hB13.size)
         have S14 := six_held hB14 hS
         clear hc14 hb14)
      | (go_at_call 23
         have hc15 := may_any _ t k n A m c w14 (HT.out.below (TWO.out.trans (hB14.mono TWO.out.size)))
         rw [HZ.out] at hc15
         (with_reducible refine hc15.mono ?_)
         rintro e w15 ⟨rfl, hb15⟩
         have hB15 : Below W2.heap.size W2 w15 := hB14.trans (hb15.mono hB14.size)
         have S15 := six_held hB15 hS
         clear hc15 hb15)
      | (go_at_call 23
         have hc16 := may_any _ t k2 n2 A2 m2 c2 w15 (HU.out.below (TWO.out.trans (hB15.mono TWO.out.size)))
         rw [HZ.out] at hc16
         (with_reducible refine hc16.mono ?_)
         rintro e w16 ⟨rfl, hb16⟩
         have hB16 : Below W2.heap.size W2 w16 := hB15.trans (hb16.mono hB15.size)
         have S16 := six_held hB16 hS
         clear hc16 hb16))
    go_wp2
    go_ret
    exact ⟨rfl, TWO.out.trans (hB16.mono TWO.out.size)⟩
end Go.Proofs.Ytgldbjlifcfjlaa
