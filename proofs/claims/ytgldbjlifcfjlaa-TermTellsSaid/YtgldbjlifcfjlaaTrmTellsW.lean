/- The walk over the law TermTells. -/
import Derived.Test.YtgldbjlifcfjlaaTrmSameW
namespace Go.Proofs.Ytgldbjlifcfjlaa
set_option linter.unusedVariables false
set_option linter.unusedSimpArgs false
open Go.RowKit

theorem un_agree {t : Te} {b1 b2 : Bool} {l1 l2 : List Int} (h1 : b1 = true → rowB l1 = true ∧ t = rowT l1) (g1 : b1 = false → l1 = [] ∧ ∀ l', rowB l' = true → t ≠ rowT l') (h2 : b2 = true → rowB l2 = true ∧ t = rowT l2) (g2 : b2 = false → l2 = [] ∧ ∀ l', rowB l' = true → t ≠ rowT l') : b1 = b2 ∧ l1 = l2 := by
  cases b1 <;> cases b2
  · exact ⟨rfl, (g1 rfl).1.trans (g2 rfl).1.symm⟩
  · exact absurd (h2 rfl).2 ((g1 rfl).2 _ (h2 rfl).1)
  · exact absurd (h1 rfl).2 ((g2 rfl).2 _ (h1 rfl).1)
  · obtain ⟨a1, a2⟩ := h1 rfl
    obtain ⟨a3, a4⟩ := h2 rfl
    exact ⟨rfl, rowT_inj _ _ ((rowB_is _).1 a1).1 ((rowB_is _).1 a3).1 (a2.symm.trans a4)⟩

set_option maxRecDepth 100000 in
set_option maxHeartbeats 8000000 in
theorem tells_any (t u : Te) (k n k2 n2 : Int) (A A2 : Option Addr) (m c m2 c2 : Nat) (B : Option Addr) (N d : Nat) (l : List Int) (w : World) (hI : Is (· < w.heap.size) w t k n A m c) (hJ : Is (· < w.heap.size) w u k2 n2 A2 m2 c2) (hl : Its .i64 w B N d l) :
    Calls Try.prog 3 #[.agg #[.int .i64 k, .int .i64 n, .slice A m c], .agg #[.int .i64 k2, .int .i64 n2, .slice A2 m2 c2], .slice B N d] w (GivesB true w) := by
  have two := two_below w (.cells #[.int .i64 k, .int .i64 n, .slice A m c] 24) (.cells #[.int .i64 k2, .int .i64 n2, .slice A2 m2 c2] 24)
  obtain ⟨W2, hW2⟩ : ∃ W2, (w.alloc (.cells #[.int .i64 k, .int .i64 n, .slice A m c] 24)).alloc (.cells #[.int .i64 k2, .int .i64 n2, .slice A2 m2 c2] 24) = W2 := ⟨_, rfl⟩
  have hS := boxes_six W2 hW2
  rw [hW2] at two
  have hN63 := hl.small
  have hlW := hl.below two
  have TWO := Lib.hid two
  have HW2 := Lib.hid hW2
  have HT := Lib.hid hI
  have HU := Lib.hid hJ
  have HL := Lib.hid hlW
  have hB2 := Below.refl W2.heap.size W2
  clear two hW2 hI hJ hl hlW
  obtain ⟨b20, h20⟩ : ∃ b, decide ((20 : Int) < N) = b := ⟨_, rfl⟩
  obtain ⟨x, hx⟩ : ∃ x : Int, (t.size : Int) = x := ⟨_, rfl⟩
  obtain ⟨y, hy⟩ : ∃ y : Int, (t.depth : Int) = y := ⟨_, rfl⟩
  obtain ⟨z, hz⟩ : ∃ z : Bool, t.may = z := ⟨_, rfl⟩
  obtain ⟨sm, hsm⟩ : ∃ b : Bool, t.same u = b := ⟨_, rfl⟩
  obtain ⟨rb, hrb⟩ : ∃ b : Bool, rowB l = b := ⟨_, rfl⟩
  have HX := Lib.hid hx
  have HY := Lib.hid hy
  have HZ := Lib.hid hz
  have HSM := Lib.hid hsm
  have HRB := Lib.hid hrb
  clear hx hy hz hsm hrb
  cases hlt : lightB t 150 20 <;> cases hlu : lightB u 150 20 <;> cases b20
  all_goals
    have HLT := Lib.hid hlt
    have HLU := Lib.hid hlu
    clear hlt hlu
    go_enter Try.func3, Try.ntmps3
    go_wp2_with (first
      | (go_at_call 9
         rw [HW2.out]
         have hc3 := tawake_any W2
         (with_reducible refine hc3.mono ?_)
         rintro e w3 ⟨rfl, hb3⟩
         have hB3 : Below W2.heap.size W2 w3 := hB2.trans (hb3.mono hB2.size)
         have S3 := six_held hB3 hS
         clear hc3 hb3)
      | (go_at_call 10
         have hc4 := light_any _ t k n A m c w3 (HT.out.below (TWO.out.trans (hB3.mono TWO.out.size)))
         rw [HLT.out] at hc4
         (with_reducible refine hc4.mono ?_)
         rintro e w4 ⟨rfl, hb4⟩
         have hB4 : Below W2.heap.size W2 w4 := hB3.trans (hb4.mono hB3.size)
         have S4 := six_held hB4 hS
         clear hc4 hb4)
      | (go_at_call 10
         have hc5 := light_any _ u k2 n2 A2 m2 c2 w4 (HU.out.below (TWO.out.trans (hB4.mono TWO.out.size)))
         rw [HLU.out] at hc5
         (with_reducible refine hc5.mono ?_)
         rintro e w5 ⟨rfl, hb5⟩
         have hB5 : Below W2.heap.size W2 w5 := hB4.trans (hb5.mono hB4.size)
         have S5 := six_held hB5 hS
         clear hc5 hb5)
      | (go_at_call 11
         have hc6 := row_any B N d l w5 (HL.out.below hB5)
         rw [HRB.out] at hc6
         (with_reducible refine hc6.mono ?_)
         rintro e w6 ⟨k6, n6, A6, m6, c6, rfl, hI6, hb6⟩
         have ho6 := one_alloc w6 (.cells #[.int .i64 k6, .int .i64 n6, .slice A6 m6 c6] 24)
         have hB6 : Below W2.heap.size W2 (w6.alloc (.cells #[.int .i64 k6, .int .i64 n6, .slice A6 m6 c6] 24)) := (hB5.trans (hb6.mono hB5.size)).trans (ho6.mono (Nat.le_trans hB5.size hb6.size))
         have HX6 := Lib.hid (Box3.new w6 k6 n6 A6 m6 c6)
         have HI6 := Lib.hid (hI6.later ho6)
         clear hc6 hb6 ho6 hI6)
      | (go_at_call 12
         have hc7 := rrow_any l B N d (w6.alloc (.cells #[.int .i64 k6, .int .i64 n6, .slice A6 m6 c6] 24)) (HL.out.below hB6)
         rw [HRB.out] at hc7
         (with_reducible refine hc7.mono ?_)
         rintro e w7 ⟨k7, n7, A7, m7, c7, rfl, hI7, hb7⟩
         have ho7 := one_alloc w7 (.cells #[.int .i64 k7, .int .i64 n7, .slice A7 m7 c7] 24)
         have hB7 : Below W2.heap.size W2 (w7.alloc (.cells #[.int .i64 k7, .int .i64 n7, .slice A7 m7 c7] 24)) := (hB6.trans (hb7.mono hB6.size)).trans (ho7.mono (Nat.le_trans hB6.size hb7.size))
         have HX7 := Lib.hid ((HX6.out.keep hb7).keep ho7)
         have HY7 := Lib.hid (Box3.new w7 k7 n7 A7 m7 c7)
         have HI67 := Lib.hid ((HI6.out.later hb7).later ho7)
         have HI7 := Lib.hid (hI7.later ho7)
         have S7 := six_held hB7 hS
         clear hc7 hb7 ho7 hI7)
      | (go_at_call 13
         have hc8 := unrow_any _ t k n A m c (w7.alloc (.cells #[.int .i64 k7, .int .i64 n7, .slice A7 m7 c7] 24)) (HT.out.below (TWO.out.trans (hB7.mono TWO.out.size)))
         (with_reducible refine hc8.mono ?_)
         rintro e w8 ⟨b8, l8, A8, m8, c8, rfl, hi8, hb8, h81, h82⟩
         have hB8 : Below W2.heap.size W2 w8 := hB7.trans (hb8.mono hB7.size)
         have S8 := six_held hB8 hS
         have HX8 := Lib.hid (HX7.out.keep hb8)
         have HY8 := Lib.hid (HY7.out.keep hb8)
         have HI68 := Lib.hid (HI67.out.later hb8)
         have HI78 := Lib.hid (HI7.out.later hb8)
         have HI8 := Lib.hid hi8
         have H81 := Lib.hid h81
         have H82 := Lib.hid h82
         clear hc8 hb8 hi8 h81 h82)
      | (go_at_call 14
         have hc9 := runrow_any _ t k n A m c w8 (HT.out.below (TWO.out.trans (hB8.mono TWO.out.size))) (by have := (light_small HLT.out).2; omega)
         (with_reducible refine hc9.mono ?_)
         rintro e w9 ⟨b9, l9, A9, m9, c9, rfl, hi9, hb9, h91, h92⟩
         obtain ⟨rfl, rfl⟩ := un_agree H81.out H82.out h91 h92
         have hB9 : Below W2.heap.size W2 w9 := hB8.trans (hb9.mono hB8.size)
         have S9 := six_held hB9 hS
         obtain ⟨a0, a1, a2⟩ := (HX8.out.keep hb9).cells
         obtain ⟨d0, d1, d2⟩ := (HY8.out.keep hb9).cells
         have HI69 := Lib.hid (HI68.out.later hb9)
         have HI79 := Lib.hid (HI78.out.later hb9)
         have HIT8 := Lib.hid (HI8.out.below hb9)
         have HIT9 := Lib.hid hi9
         clear hc9 hb9 hi9 h91 h92)
      | (go_at_call 15
         have hc10 := rsame_any _ _ (rowR l) (rowR l) k6 n6 k7 n7 A6 A7 m6 c6 m7 c7 w9 HI69.out HI79.out
         rw [Te.same_refl] at hc10
         (with_reducible refine hc10.mono ?_)
         rintro e w10 ⟨rfl, hb10⟩
         have hB10 : Below W2.heap.size W2 w10 := hB9.trans (hb10.mono hB9.size)
         have S10 := six_held hB10 hS
         have HIT8a := Lib.hid (HIT8.out.below hb10)
         have HIT9a := Lib.hid (HIT9.out.below hb10)
         clear hc10 hb10)
      | (go_at_call 15
         have hc11 := rsame_any _ _ t u k n k2 n2 A A2 m c m2 c2 w10 (HT.out.below (TWO.out.trans (hB10.mono TWO.out.size))) (HU.out.below (TWO.out.trans (hB10.mono TWO.out.size)))
         rw [HSM.out] at hc11
         (with_reducible refine hc11.mono ?_)
         rintro e w11 ⟨rfl, hb11⟩
         have hB11 : Below W2.heap.size W2 w11 := hB10.trans (hb11.mono hB10.size)
         have S11 := six_held hB11 hS
         have HIT8c := Lib.hid (HIT8a.out.below hb11)
         have HIT9c := Lib.hid (HIT9a.out.below hb11)
         clear hc11 hb11))
  all_goals first
    | (go_ret; exact ⟨rfl, TWO.out.trans (hB5.mono TWO.out.size)⟩)
    | skip
  have hB11d : Below W2.heap.size W2 w11.drew := hB11.drew
  have S11d := six_held hB11d hS
  go_region_held3 (fun w' => w'.cell? ⟨w.heap.size, 0, none⟩ = some (.int .i64 k) ∧ w'.cell? ⟨w.heap.size, 1, none⟩ = some (.int .i64 n) ∧ w'.cell? ⟨w.heap.size, 2, none⟩ = some (.slice A m c) ∧ w'.cell? ⟨w.heap.size + 1, 0, none⟩ = some (.int .i64 k2) ∧ w'.cell? ⟨w.heap.size + 1, 1, none⟩ = some (.int .i64 n2) ∧ w'.cell? ⟨w.heap.size + 1, 2, none⟩ = some (.slice A2 m2 c2)) (first | with_reducible exact S11d | with_reducible exact S12 | with_reducible exact S13) (first
    | (go_at_call 16
       have hc12 := own_any _ t k n A m c w11.drew (HT.out.below (TWO.out.trans (hB11d.mono TWO.out.size))) (by have := (light_small HLT.out).1; omega)
       (with_reducible refine hc12.mono ?_)
       rintro e w12 ⟨k5, n5, A5, m5, c5, rfl, hI5, hb12⟩
       have hB12 : Below W2.heap.size W2 w12 := hB11d.trans (hb12.mono hB11d.size)
       have S12 := six_held hB12 hS
       have HI5 := Lib.hid hI5
       have HIT8d := Lib.hid ((HIT8c.out.draw1).below hb12)
       have HIT9d := Lib.hid ((HIT9c.out.draw1).below hb12)
       clear hI5 hb12 hc12)
    | (go_at_call 15
       have hc13 := rsame_any _ _ t t k5 n5 k n A5 A m5 c5 m c w12 HI5.out (HT.out.below (TWO.out.trans (hB12.mono TWO.out.size)))
       rw [Te.same_refl] at hc13
       (with_reducible refine hc13.mono ?_)
       rintro e w13 ⟨rfl, hb13⟩
       have hB13 : Below W2.heap.size W2 w13 := hB12.trans (hb13.mono hB12.size)
       have S13 := six_held hB13 hS
       have HIT8e := Lib.hid (HIT8d.out.below hb13)
       have HIT9e := Lib.hid (HIT9d.out.below hb13)
       clear hc13 hb13))
  go_wp2_with (first
    | (go_at_call 17
       have hc14 := rmay_any _ t k n A m c w13 (HT.out.below (TWO.out.trans (hB13.mono TWO.out.size))) (by rw [HX.out]; have := (light_small HLT.out).1; have := HX.out; omega)
       rw [HZ.out] at hc14
       (with_reducible refine hc14.mono ?_)
       rintro e w14 ⟨rfl, hb14⟩
       have hB14 : Below W2.heap.size W2 w14 := hB13.trans (hb14.mono hB13.size)
       have S14 := six_held hB14 hS
       have HIT8f := Lib.hid (HIT8e.out.below hb14)
       have HIT9f := Lib.hid (HIT9e.out.below hb14)
       clear hc14 hb14)
    | (go_at_call 18
       have hc15 := ints_any _ _ _ _ _ _ l8 l8 w14 HIT8f.out HIT9f.out
       rw [beq_self_eq_true] at hc15
       (with_reducible refine hc15.mono ?_)
       rintro e w15 ⟨rfl, j, hj⟩
       have hB15 : Below W2.heap.size W2 w15 := by rw [hj]; exact below_drewN hB14 j
       have S15 := six_held hB15 hS
       clear hc15 hj))
  have hB15d : Below W2.heap.size W2 w15.drew := hB15.drew
  have S15d := six_held hB15d hS
  go_region_held3 (fun w' => w'.cell? ⟨w.heap.size, 0, none⟩ = some (.int .i64 k) ∧ w'.cell? ⟨w.heap.size, 1, none⟩ = some (.int .i64 n) ∧ w'.cell? ⟨w.heap.size, 2, none⟩ = some (.slice A m c) ∧ w'.cell? ⟨w.heap.size + 1, 0, none⟩ = some (.int .i64 k2) ∧ w'.cell? ⟨w.heap.size + 1, 1, none⟩ = some (.int .i64 n2) ∧ w'.cell? ⟨w.heap.size + 1, 2, none⟩ = some (.slice A2 m2 c2)) (first | with_reducible exact S15d | with_reducible exact S16 | with_reducible exact S17 | with_reducible exact S18 | with_reducible exact S19 | with_reducible exact S20 | with_reducible exact S21) (first
    | (go_at_call 19
       have hc16 := size_any _ t k n A m c w15.drew (HT.out.below (TWO.out.trans (hB15d.mono TWO.out.size))) (by rw [HX.out]; have := (light_small HLT.out).1; have := HX.out; omega)
       rw [HX.out] at hc16
       (with_reducible refine hc16.mono ?_)
       rintro e w16 ⟨rfl, hb16⟩
       have hB16 : Below W2.heap.size W2 w16 := hB15d.trans (hb16.mono hB15d.size)
       have S16 := six_held hB16 hS
       clear hc16 hb16)
    | (go_at_call 20
       have hc17 := rsize_any _ t k n A m c w16 (HT.out.below (TWO.out.trans (hB16.mono TWO.out.size))) (by rw [HX.out]; have := (light_small HLT.out).1; have := HX.out; omega)
       rw [HX.out] at hc17
       (with_reducible refine hc17.mono ?_)
       rintro e w17 ⟨rfl, hb17⟩
       have hB17 : Below W2.heap.size W2 w17 := hB16.trans (hb17.mono hB16.size)
       have S17 := six_held hB17 hS
       clear hc17 hb17)
    | (go_at_call 21
       have hc18 := depth_any _ t k n A m c w17 (HT.out.below (TWO.out.trans (hB17.mono TWO.out.size))) (by rw [HY.out]; have := (light_small HLT.out).2; have := HY.out; omega)
       rw [HY.out] at hc18
       (with_reducible refine hc18.mono ?_)
       rintro e w18 ⟨rfl, hb18⟩
       have hB18 : Below W2.heap.size W2 w18 := hB17.trans (hb18.mono hB17.size)
       have S18 := six_held hB18 hS
       clear hc18 hb18)
    | (go_at_call 22
       have hc19 := rdepth_any _ t k n A m c w18 (HT.out.below (TWO.out.trans (hB18.mono TWO.out.size))) (by rw [HY.out]; have := (light_small HLT.out).2; have := HY.out; omega)
       rw [HY.out] at hc19
       (with_reducible refine hc19.mono ?_)
       rintro e w19 ⟨rfl, hb19⟩
       have hB19 : Below W2.heap.size W2 w19 := hB18.trans (hb19.mono hB18.size)
       have S19 := six_held hB19 hS
       clear hc19 hb19)
    | (go_at_call 23
       have hc20 := may_any _ t k n A m c w19 (HT.out.below (TWO.out.trans (hB19.mono TWO.out.size)))
       rw [HZ.out] at hc20
       (with_reducible refine hc20.mono ?_)
       rintro e w20 ⟨rfl, hb20⟩
       have hB20 : Below W2.heap.size W2 w20 := hB19.trans (hb20.mono hB19.size)
       have S20 := six_held hB20 hS
       clear hc20 hb20)
    | (go_at_call 24
       have hc21 := psame_any _ _ t u k n k2 n2 A A2 m c m2 c2 w20 (HT.out.below (TWO.out.trans (hB20.mono TWO.out.size))) (HU.out.below (TWO.out.trans (hB20.mono TWO.out.size)))
       rw [HSM.out] at hc21
       (with_reducible refine hc21.mono ?_)
       rintro e w21 ⟨rfl, hb21⟩
       have hB21 : Below W2.heap.size W2 w21 := hB20.trans (hb21.mono hB20.size)
       have S21 := six_held hB21 hS
       clear hc21 hb21))
  go_wp2
  go_ret
  exact ⟨rfl, TWO.out.trans (hB21.mono TWO.out.size)⟩
end Go.Proofs.Ytgldbjlifcfjlaa
