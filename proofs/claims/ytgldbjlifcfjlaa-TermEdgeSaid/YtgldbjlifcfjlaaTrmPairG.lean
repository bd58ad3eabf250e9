/- The walk over the law TermPair, the second one is not the deeper one. -/
import Derived.Test.YtgldbjlifcfjlaaTrmPairW
import Derived.IntWalk
import Derived.Test.YtgldbjlifcfjlaaBasTake
namespace Go.Proofs.Ytgldbjlifcfjlaa
set_option linter.unusedVariables false
set_option linter.unusedSimpArgs false
open Go.RowKit

set_option maxRecDepth 100000 in
set_option maxHeartbeats 8000000 in
theorem pair_ge (t u : Te) (k n k2 n2 : Int) (A A2 : Option Addr) (m c m2 c2 : Nat) (w : World) (hI : Is (· < w.heap.size) w t k n A m c) (hJ : Is (· < w.heap.size) w u k2 n2 A2 m2 c2)
    (x1 x2 y1 y2 : Int) (hx1 : (t.size : Int) = x1) (hx2 : (u.size : Int) = x2) (hy1 : (t.depth : Int) = y1) (hy2 : (u.depth : Int) = y2) (lx1 : 0 ≤ x1 ∧ x1 ≤ 60) (lx2 : 0 ≤ x2 ∧ x2 ≤ 60) (ly1 : 0 ≤ y1 ∧ y1 ≤ 15) (ly2 : 0 ≤ y2 ∧ y2 ≤ 15)
    (hlt : lightN t 60 15 = x1) (hlu : lightN u 60 15 = x2) (hyy : ¬ y1 < y2) (D : Int) (hD : D = y1) (N E : Int) (hN : x1 + x2 + 1 = N) (hE : 1 + D = E) (m1 m2' : Bool) (hm1 : t.may = m1) (hm2 : u.may = m2') :
    Calls Try.prog 6 #[.agg #[.int .i64 k, .int .i64 n, .slice A m c], .agg #[.int .i64 k2, .int .i64 n2, .slice A2 m2 c2]] w (GivesB true w) := by
  have hDm : max y1 y2 = D := by rw [hD]; omega
  have hD0 : 0 ≤ D ∧ D ≤ 15 := by omega
  have two := two_below w (.cells #[.int .i64 k, .int .i64 n, .slice A m c] 24) (.cells #[.int .i64 k2, .int .i64 n2, .slice A2 m2 c2] 24)
  obtain ⟨W2, hW2⟩ : ∃ W2, (w.alloc (.cells #[.int .i64 k, .int .i64 n, .slice A m c] 24)).alloc (.cells #[.int .i64 k2, .int .i64 n2, .slice A2 m2 c2] 24) = W2 := ⟨_, rfl⟩
  have hS := boxes_six W2 hW2
  rw [hW2] at two
  have TWO := Lib.hid two
  have HW2 := Lib.hid hW2
  have HT := Lib.hid hI
  have HU := Lib.hid hJ
  have HX1 := Lib.hid hx1
  have HX2 := Lib.hid hx2
  have HY1 := Lib.hid hy1
  have HY2 := Lib.hid hy2
  have HLT := Lib.hid hlt
  have HLU := Lib.hid hlu
  have hB2 := Below.refl W2.heap.size W2
  have hps : ∀ kk, ((Te.node kk 0 [t, u]).size : Int) = N := fun kk => by rw [pair_size, hx1, hx2, hN]
  have hpd : ∀ kk, ((Te.node kk 0 [t, u]).depth : Int) = E := fun kk => by rw [pair_depth, hy1, hy2, hDm, hE]
  have hpm : ∀ kk, kk = 2 ∨ kk = 3 → (Te.node kk 0 [t, u]).may = (m1 && m2' && decide (N ≤ 60) && decide (E ≤ 12)) := fun kk hk => by rw [pair_may kk hk, hx1, hx2, hy1, hy2, hDm, hN, hE, hm1, hm2]
  have HPS := Lib.hid hps
  have HPD := Lib.hid hpd
  have HPM := Lib.hid hpm
  have w1 : IntKind.i64.wrap (x1 + x2) = x1 + x2 := IntWalk.i64_in _ (by omega)
  have w2 : IntKind.i64.wrap (x1 + x2 + 1) = N := (IntWalk.i64_in _ (by omega)).trans hN
  have w3 : IntKind.i64.wrap (1 + D) = E := (IntWalk.i64_in _ (by omega)).trans hE
  have hN0 : 0 ≤ N ∧ N ≤ 121 := by omega
  have hE0 : 0 ≤ E ∧ E ≤ 16 := by omega
  have WW1 := Lib.hid w1
  have WW2 := Lib.hid w2
  have WW3 := Lib.hid w3
  have HM1 := Lib.hid hm1
  have HM2 := Lib.hid hm2
  clear w1 w2 w3 hN hE hm1 hm2
  clear two hW2 hI hJ hx1 hx2 hy1 hy2 hlt hlu hps hpd hpm hDm
  have hDD := hD
  subst hDD
  have lt1 : decide (60 < x1) = false := decide_eq_false (by omega)
  have lt2 : decide (60 < x2) = false := decide_eq_false (by omega)
  go_enter Try.func6, Try.ntmps6
  go_wp2_with (first
    | (go_at_call 9
       rw [HW2.out]
       have hc3 := tawake_any W2
       (with_reducible refine hc3.mono ?_)
       rintro e w3 ⟨rfl, hb3⟩
       have hB3 : Below W2.heap.size W2 w3 := hB2.trans (hb3.mono hB2.size)
       have S3 := six_held hB3 hS
       clear hc3 hb3)
    | (go_at_call 25
       have hc4 := nodes_any _ t k n A m c w3 (HT.out.below (TWO.out.trans (hB3.mono TWO.out.size))) 60 15 (by omega) (by omega) (by omega) (by omega)
       rw [HLT.out] at hc4
       (with_reducible refine hc4.mono ?_)
       rintro e w4 ⟨rfl, hb4⟩
       have hB4 : Below W2.heap.size W2 w4 := hB3.trans (hb4.mono hB3.size)
       have S4 := six_held hB4 hS
       clear hc4 hb4)
    | (go_at_call 25
       have hc5 := nodes_any _ u k2 n2 A2 m2 c2 w4 (HU.out.below (TWO.out.trans (hB4.mono TWO.out.size))) 60 15 (by omega) (by omega) (by omega) (by omega)
       rw [HLU.out] at hc5
       (with_reducible refine hc5.mono ?_)
       rintro e w5 ⟨rfl, hb5⟩
       have hB5 : Below W2.heap.size W2 w5 := hB4.trans (hb5.mono hB4.size)
       have S5 := six_held hB5 hS
       clear hc5 hb5))
  have hB5d : Below W2.heap.size W2 w5.drew := hB5.drew
  have S5d := six_held hB5d hS
  go_region_held3 (fun w' => w'.cell? ⟨w.heap.size, 0, none⟩ = some (.int .i64 k) ∧ w'.cell? ⟨w.heap.size, 1, none⟩ = some (.int .i64 n) ∧ w'.cell? ⟨w.heap.size, 2, none⟩ = some (.slice A m c) ∧ w'.cell? ⟨w.heap.size + 1, 0, none⟩ = some (.int .i64 k2) ∧ w'.cell? ⟨w.heap.size + 1, 1, none⟩ = some (.int .i64 n2) ∧ w'.cell? ⟨w.heap.size + 1, 2, none⟩ = some (.slice A2 m2 c2)) (first | with_reducible exact S5d | with_reducible exact S6 | with_reducible exact S7) (first
    | (go_at_call 19
       have hc6 := size_any _ t k n A m c w5.drew (HT.out.below (TWO.out.trans (hB5d.mono TWO.out.size))) (by rw [HX1.out]; omega)
       rw [HX1.out] at hc6
       (with_reducible refine hc6.mono ?_)
       rintro e w6 ⟨rfl, hb6⟩
       have hB6 : Below W2.heap.size W2 w6 := hB5d.trans (hb6.mono hB5d.size)
       have S6 := six_held hB6 hS
       clear hc6 hb6)
    | (go_at_call 19
       have hc7 := size_any _ u k2 n2 A2 m2 c2 w6 (HU.out.below (TWO.out.trans (hB6.mono TWO.out.size))) (by rw [HX2.out]; omega)
       rw [HX2.out] at hc7
       (with_reducible refine hc7.mono ?_)
       rintro e w7 ⟨rfl, hb7⟩
       have hB7 : Below W2.heap.size W2 w7 := hB6.trans (hb7.mono hB6.size)
       have S7 := six_held hB7 hS
       clear hc7 hb7))
  rw [WW1.out, WW2.out]
  go_wp2
  have hB7d : Below W2.heap.size W2 w7.drew := hB7.drew
  have S7d := six_held hB7d hS
  go_region_held3 (fun w' => w'.cell? ⟨w.heap.size, 0, none⟩ = some (.int .i64 k) ∧ w'.cell? ⟨w.heap.size, 1, none⟩ = some (.int .i64 n) ∧ w'.cell? ⟨w.heap.size, 2, none⟩ = some (.slice A m c) ∧ w'.cell? ⟨w.heap.size + 1, 0, none⟩ = some (.int .i64 k2) ∧ w'.cell? ⟨w.heap.size + 1, 1, none⟩ = some (.int .i64 n2) ∧ w'.cell? ⟨w.heap.size + 1, 2, none⟩ = some (.slice A2 m2 c2)) (first | with_reducible exact S7d | with_reducible exact S8 | with_reducible exact S9) (first
    | (go_at_call 21
       have hc8 := depth_any _ t k n A m c w7.drew (HT.out.below (TWO.out.trans (hB7d.mono TWO.out.size))) (by rw [HY1.out]; omega)
       rw [HY1.out] at hc8
       (with_reducible refine hc8.mono ?_)
       rintro e w8 ⟨rfl, hb8⟩
       have hB8 : Below W2.heap.size W2 w8 := hB7d.trans (hb8.mono hB7d.size)
       have S8 := six_held hB8 hS
       clear hc8 hb8)
    | (go_at_call 21
       have hc9 := depth_any _ u k2 n2 A2 m2 c2 w8 (HU.out.below (TWO.out.trans (hB8.mono TWO.out.size))) (by rw [HY2.out]; omega)
       rw [HY2.out] at hc9
       (with_reducible refine hc9.mono ?_)
       rintro e w9 ⟨rfl, hb9⟩
       have hB9 : Below W2.heap.size W2 w9 := hB8.trans (hb9.mono hB8.size)
       have S9 := six_held hB9 hS
       clear hc9 hb9))
  rw [if_neg (show ¬ D < y2 by omega), WW3.out]
  have hxy := S9
  obtain ⟨Wa, hWa⟩ : ∃ Wa, w9.alloc (.cells #[.int .i64 k, .int .i64 n, .slice A m c, .int .i64 k2, .int .i64 n2, .slice A2 m2 c2] 24) = Wa := ⟨_, rfl⟩
  have hza : Wa.heap.size = w9.heap.size + 1 := by rw [← hWa]; simp
  obtain ⟨Wb, hWb⟩ : ∃ Wb, Wa.alloc (.cells #[.int .i64 2, .int .i64 0, .slice (some ⟨w9.heap.size, 0, none⟩) 2 2] 24) = Wb := ⟨_, rfl⟩
  have hzb : Wb.heap.size = w9.heap.size + 1 + 1 := by rw [← hWb]; simp [hza]
  obtain ⟨Wc, hWc⟩ : ∃ Wc, Wb.alloc (.cells #[.int .i64 k, .int .i64 n, .slice A m c, .int .i64 k2, .int .i64 n2, .slice A2 m2 c2] 24) = Wc := ⟨_, rfl⟩
  have hzc : Wc.heap.size = w9.heap.size + 1 + 1 + 1 := by rw [← hWc]; simp [hzb]
  obtain ⟨Wd, hWd⟩ : ∃ Wd, Wc.alloc (.cells #[.int .i64 3, .int .i64 0, .slice (some ⟨w9.heap.size + 1 + 1, 0, none⟩) 2 2] 24) = Wd := ⟨_, rfl⟩
  have hba : Below w9.heap.size w9 Wa := by rw [← hWa]; exact one_alloc _ _
  have hbb : Below Wa.heap.size Wa Wb := by rw [← hWb]; exact one_alloc _ _
  have hbc : Below Wb.heap.size Wb Wc := by rw [← hWc]; exact one_alloc _ _
  have hbd : Below Wc.heap.size Wc Wd := by rw [← hWd]; exact one_alloc _ _
  have hIt := HT.out.below (TWO.out.trans (hB9.mono TWO.out.size))
  have hIu := HU.out.below (TWO.out.trans (hB9.mono TWO.out.size))
  have hP : Is (fun _ => True) Wd (.node 2 0 [t, u]) 2 0 (some ⟨w9.heap.size, 0, none⟩) 2 2 :=
    (((pair_is (hIt.mono fun _ _ => trivial) (hIu.mono fun _ _ => trivial) hWa trivial).later hbb).later hbc).later hbd
  have hG : Is (fun _ => True) Wd (.node 3 0 [t, u]) 3 0 (some ⟨w9.heap.size + 1 + 1, 0, none⟩) 2 2 := by
    have h9b : Below w9.heap.size w9 Wb := hba.trans (hbb.mono hba.size)
    have := (pair_is (kk := 3) (nn := 0) ((hIt.mono fun _ _ => trivial : Is (fun _ => True) _ _ _ _ _ _ _).later h9b) ((hIu.mono fun _ _ => trivial : Is (fun _ => True) _ _ _ _ _ _ _).later h9b) hWc trivial).later hbd
    rwa [hzb] at this
  have hX : Box3 Wd (w9.heap.size + 1) 2 0 (some ⟨w9.heap.size, 0, none⟩) 2 2 := by
    have h1 : Box3 Wb Wa.heap.size 2 0 (some ⟨w9.heap.size, 0, none⟩) 2 2 := by rw [← hWb]; exact Box3.new _ _ _ _ _ _
    rw [hza] at h1
    exact (h1.keep hbc).keep hbd
  have hY : Box3 Wd (w9.heap.size + 1 + 1 + 1) 3 0 (some ⟨w9.heap.size + 1 + 1, 0, none⟩) 2 2 := by
    have h1 : Box3 Wd Wc.heap.size 3 0 (some ⟨w9.heap.size + 1 + 1, 0, none⟩) 2 2 := by rw [← hWd]; exact Box3.new _ _ _ _ _ _
    rwa [hzc] at h1
  have hS9 : Below W2.heap.size W2 Wd := hB9.trans ((((hba.trans (hbb.mono hba.size)).trans (hbc.mono (Nat.le_trans hba.size hbb.size))).trans (hbd.mono (Nat.le_trans hba.size (Nat.le_trans hbb.size hbc.size)))).mono hB9.size)
  have hSd := six_held hS9 hS
  have hV : Wd.cell? ⟨w9.heap.size + 1, 0, none⟩ = some (.int .i64 2) ∧ Wd.cell? ⟨w9.heap.size + 1, 1, none⟩ = some (.int .i64 0) ∧ Wd.cell? ⟨w9.heap.size + 1, 2, none⟩ = some (.slice (some ⟨w9.heap.size, 0, none⟩) 2 2) ∧ Wd.cell? ⟨w9.heap.size + 1 + 1 + 1, 0, none⟩ = some (.int .i64 3) ∧ Wd.cell? ⟨w9.heap.size + 1 + 1 + 1, 1, none⟩ = some (.int .i64 0) ∧ Wd.cell? ⟨w9.heap.size + 1 + 1 + 1, 2, none⟩ = some (.slice (some ⟨w9.heap.size + 1 + 1, 0, none⟩) 2 2) :=
    ⟨hX.cells.1, hX.cells.2.1, hX.cells.2.2, hY.cells.1, hY.cells.2.1, hY.cells.2.2⟩
  have hbB : Below w9.heap.size w9 Wb := hba.trans (hbb.mono hba.size)
  have Sb9 := six_held (hB9.trans (hbB.mono hB9.size)) hS
  have HP := Lib.hid hP
  have HG := Lib.hid hG
  have HT9 := Lib.hid hIt
  have HU9 := Lib.hid hIu
  have HWD := Lib.hid (show ((((w9.alloc (.cells #[.int .i64 k, .int .i64 n, .slice A m c, .int .i64 k2, .int .i64 n2, .slice A2 m2 c2] 24)).alloc (.cells #[.int .i64 2, .int .i64 0, .slice (some ⟨w9.heap.size, 0, none⟩) 2 2] 24)).alloc (.cells #[.int .i64 k, .int .i64 n, .slice A m c, .int .i64 k2, .int .i64 n2, .slice A2 m2 c2] 24)).alloc (.cells #[.int .i64 3, .int .i64 0, .slice (some ⟨w9.heap.size + 1 + 1, 0, none⟩) 2 2] 24)) = Wd by rw [hWa, hWb, hWc, hWd])
  have hE4 : ((((w9.alloc (.cells #[.int .i64 k, .int .i64 n, .slice A m c, .int .i64 k2, .int .i64 n2, .slice A2 m2 c2] 24)).alloc (.cells #[.int .i64 2, .int .i64 0, .slice (some ⟨w9.heap.size, 0, none⟩) 2 2] 24)).alloc (.cells #[.int .i64 k, .int .i64 n, .slice A m c, .int .i64 k2, .int .i64 n2, .slice A2 m2 c2] 24)).alloc (.cells #[.int .i64 3, .int .i64 0, .slice (some ⟨w9.heap.size + 1 + 1, 0, none⟩) 2 2] 24)).cell? ⟨w.heap.size, 0, none⟩ = some (.int .i64 k) ∧ ((((w9.alloc (.cells #[.int .i64 k, .int .i64 n, .slice A m c, .int .i64 k2, .int .i64 n2, .slice A2 m2 c2] 24)).alloc (.cells #[.int .i64 2, .int .i64 0, .slice (some ⟨w9.heap.size, 0, none⟩) 2 2] 24)).alloc (.cells #[.int .i64 k, .int .i64 n, .slice A m c, .int .i64 k2, .int .i64 n2, .slice A2 m2 c2] 24)).alloc (.cells #[.int .i64 3, .int .i64 0, .slice (some ⟨w9.heap.size + 1 + 1, 0, none⟩) 2 2] 24)).cell? ⟨w.heap.size, 1, none⟩ = some (.int .i64 n) ∧ ((((w9.alloc (.cells #[.int .i64 k, .int .i64 n, .slice A m c, .int .i64 k2, .int .i64 n2, .slice A2 m2 c2] 24)).alloc (.cells #[.int .i64 2, .int .i64 0, .slice (some ⟨w9.heap.size, 0, none⟩) 2 2] 24)).alloc (.cells #[.int .i64 k, .int .i64 n, .slice A m c, .int .i64 k2, .int .i64 n2, .slice A2 m2 c2] 24)).alloc (.cells #[.int .i64 3, .int .i64 0, .slice (some ⟨w9.heap.size + 1 + 1, 0, none⟩) 2 2] 24)).cell? ⟨w.heap.size, 2, none⟩ = some (.slice A m c) := by rw [HWD.out]; exact ⟨hSd.1, hSd.2.1, hSd.2.2.1⟩
  have HS9 := Lib.hid hS9
  have HSD := Lib.hid hSd
  have HV := Lib.hid hV
  have hlt1 : w.heap.size < w9.heap.size := block_lt_of_cell S9.1
  have hlt2 : w.heap.size + 1 < w9.heap.size := block_lt_of_cell S9.2.2.2.1
  clear hWa hWb hWc hWd hza hzb hzc hba hbb hbc hbd hP hG hX hY hIt hIu hS9 hSd hV hbB Sb9 hxy
  cases m1 with
  | false =>
    go_wp2_with (first
      | (go_at_call 23
         rw [HWD.out]
         have hc10 := may_any _ t k n A m c Wd (HT.out.below (TWO.out.trans (HS9.out.mono TWO.out.size)))
         rw [HM1.out] at hc10
         (with_reducible refine hc10.mono ?_)
         rintro e w10 ⟨rfl, hb10⟩
         have S10 := six_held (HS9.out.trans (hb10.mono HS9.out.size)) hS
         have V10 := six_held hb10 HV.out
         have HB10 := Lib.hid hb10
         clear hc10 hb10)
      | (go_at_call 23
         have hc11 := may_any _ u k2 n2 A2 m2 c2 w10 (HU.out.below (TWO.out.trans ((HS9.out.trans (HB10.out.mono HS9.out.size)).mono TWO.out.size)))
         rw [HM2.out] at hc11
         (with_reducible refine hc11.mono ?_)
         rintro e w11 ⟨rfl, hb11⟩
         have HB11 := Lib.hid (HB10.out.trans (hb11.mono HB10.out.size))
         have V11 := six_held HB11.out HV.out
         clear hc11 hb11))
    have HQ2 : (Te.node 2 0 [t, u]).may = false := (HPM.out 2 (by omega)).trans rfl
    have HQ3 : (Te.node 3 0 [t, u]).may = false := (HPM.out 3 (by omega)).trans rfl
    have HM2q := Lib.hid HQ2
    have HM3q := Lib.hid HQ3
    clear HQ2 HQ3
    have hV0 : Below Wd.heap.size Wd w10.drew := HB10.out.drew
    have V0 := six_held hV0 HV.out
    refine wp_region_held_drew (S := (fun w' => w'.cell? ⟨w9.heap.size + 1, 0, none⟩ = some (.int .i64 2) ∧ w'.cell? ⟨w9.heap.size + 1, 1, none⟩ = some (.int .i64 0) ∧ w'.cell? ⟨w9.heap.size + 1, 2, none⟩ = some (.slice (some ⟨w9.heap.size, 0, none⟩) 2 2) ∧ w'.cell? ⟨w9.heap.size + 1 + 1 + 1, 0, none⟩ = some (.int .i64 3) ∧ w'.cell? ⟨w9.heap.size + 1 + 1 + 1, 1, none⟩ = some (.int .i64 0) ∧ w'.cell? ⟨w9.heap.size + 1 + 1 + 1, 2, none⟩ = some (.slice (some ⟨w9.heap.size + 1 + 1, 0, none⟩) 2 2))) (by kernel_rfl) V0 (fun hHeld => ?_)
    refine take_if 0 (.agg #[.int .i64 2, .int .i64 0, .slice (some ⟨w9.heap.size, 0, none⟩) 2 2]) rfl (by kernel_rfl) (by kernel_rfl) (by kernel_rfl) (fun _ _ _ h => h) rfl hHeld (fun w' hw' => ?_) ?_
    · obtain ⟨q0, q1, q2, q3, q4, q5⟩ := hw'
      go_simp
    simp only [Act.put, List.setIfInBounds_toArray, List.set_cons_zero, List.set_cons_succ]
    refine take_move 2 (.tmp 6) (.int .i64 N) rfl rfl rfl (by kernel_rfl) (by kernel_rfl) (by kernel_rfl) (fun _ _ _ h => h) rfl hHeld ?_
    simp only [Act.put, List.setIfInBounds_toArray, List.set_cons_zero, List.set_cons_succ]
    refine one_step 1 (by kernel_rfl) rfl (fun K hK => ?_)
    go_simp
    go_at_call 19
    have hc1 := size_any _ (.node 2 0 [t, u]) 2 0 (some ⟨w9.heap.size, 0, none⟩) 2 2 w10.drew (HP.out.later hV0) (by rw [HPS.out 2]; omega)
    rw [HPS.out 2] at hc1
    (with_reducible refine hc1.mono ?_)
    rintro e v1 ⟨rfl, hb1⟩
    have hV1 : Below Wd.heap.size Wd v1 := hV0.trans (hb1.mono hV0.size)
    have V1 := six_held hV1 HV.out
    refine hK.out _ _ V1 (fun hHeld0 => ?_)
    clear hK K hHeld hc1 hb1 V0
    have hHeld := hHeld0
    clear hHeld0
    try simp only [Act.put, List.setIfInBounds_toArray, List.set_cons_zero, List.set_cons_succ]
    refine take_run 3 (.bool true) rfl (by kernel_rfl) (by kernel_rfl) (by kernel_rfl) (fun _ _ _ h => h) rfl hHeld (fun w => ?_) ?_
    · go_simp
    simp only [Act.put, List.setIfInBounds_toArray, List.set_cons_zero, List.set_cons_succ]
    refine take_move 4 (.tmp 54) (.bool true) rfl rfl rfl (by kernel_rfl) (by kernel_rfl) (by kernel_rfl) (fun _ _ _ h => h) rfl hHeld ?_
    simp only [Act.put, List.setIfInBounds_toArray, List.set_cons_zero, List.set_cons_succ]
    refine take_if 5 (.agg #[.int .i64 3, .int .i64 0, .slice (some ⟨w9.heap.size + 1 + 1, 0, none⟩) 2 2]) rfl (by kernel_rfl) (by kernel_rfl) (by kernel_rfl) (fun _ _ _ h => h) rfl hHeld (fun w' hw' => ?_) ?_
    · obtain ⟨q0, q1, q2, q3, q4, q5⟩ := hw'
      go_simp
    simp only [Act.put, List.setIfInBounds_toArray, List.set_cons_zero, List.set_cons_succ]
    refine take_move 7 (.tmp 7) (.int .i64 E) rfl rfl rfl (by kernel_rfl) (by kernel_rfl) (by kernel_rfl) (fun _ _ _ h => h) rfl hHeld ?_
    simp only [Act.put, List.setIfInBounds_toArray, List.set_cons_zero, List.set_cons_succ]
    refine one_step 6 (by kernel_rfl) rfl (fun K hK => ?_)
    go_simp
    go_at_call 21
    have hc2 := depth_any _ (.node 3 0 [t, u]) 3 0 (some ⟨w9.heap.size + 1 + 1, 0, none⟩) 2 2 v1 (HG.out.later hV1) (by rw [HPD.out 3]; omega)
    rw [HPD.out 3] at hc2
    (with_reducible refine hc2.mono ?_)
    rintro e v2 ⟨rfl, hb2⟩
    have hV2 : Below Wd.heap.size Wd v2 := hV1.trans (hb2.mono hV1.size)
    have V2 := six_held hV2 HV.out
    refine hK.out _ _ V2 (fun hHeld0 => ?_)
    clear hK K hHeld hc2 hb2 V1
    have hHeld := hHeld0
    clear hHeld0
    try simp only [Act.put, List.setIfInBounds_toArray, List.set_cons_zero, List.set_cons_succ]
    refine take_run 8 (.bool true) rfl (by kernel_rfl) (by kernel_rfl) (by kernel_rfl) (fun _ _ _ h => h) rfl hHeld (fun w => ?_) ?_
    · go_simp
    simp only [Act.put, List.setIfInBounds_toArray, List.set_cons_zero, List.set_cons_succ]
    refine take_run 9 (.bool true) rfl (by kernel_rfl) (by kernel_rfl) (by kernel_rfl) (fun _ _ _ h => h) rfl hHeld (fun w => ?_) ?_
    · go_simp
    simp only [Act.put, List.setIfInBounds_toArray, List.set_cons_zero, List.set_cons_succ]
    refine take_move 10 (.tmp 60) (.bool true) rfl rfl rfl (by kernel_rfl) (by kernel_rfl) (by kernel_rfl) (fun _ _ _ h => h) rfl hHeld ?_
    simp only [Act.put, List.setIfInBounds_toArray, List.set_cons_zero, List.set_cons_succ]
    refine take_if 11 (.agg #[.int .i64 2, .int .i64 0, .slice (some ⟨w9.heap.size, 0, none⟩) 2 2]) rfl (by kernel_rfl) (by kernel_rfl) (by kernel_rfl) (fun _ _ _ h => h) rfl hHeld (fun w' hw' => ?_) ?_
    · obtain ⟨q0, q1, q2, q3, q4, q5⟩ := hw'
      go_simp
    simp only [Act.put, List.setIfInBounds_toArray, List.set_cons_zero, List.set_cons_succ]
    refine take_move 13 (.tmp 10) (.bool false) rfl rfl rfl (by kernel_rfl) (by kernel_rfl) (by kernel_rfl) (fun _ _ _ h => h) rfl hHeld ?_
    simp only [Act.put, List.setIfInBounds_toArray, List.set_cons_zero, List.set_cons_succ]
    refine one_step 12 (by kernel_rfl) rfl (fun K hK => ?_)
    go_simp
    go_at_call 23
    have hc3 := may_any _ (.node 2 0 [t, u]) 2 0 (some ⟨w9.heap.size, 0, none⟩) 2 2 v2 (HP.out.later hV2)
    rw [HM2q.out] at hc3
    (with_reducible refine hc3.mono ?_)
    rintro e v3 ⟨rfl, hb3⟩
    have hV3 : Below Wd.heap.size Wd v3 := hV2.trans (hb3.mono hV2.size)
    have V3 := six_held hV3 HV.out
    refine hK.out _ _ V3 (fun hHeld0 => ?_)
    clear hK K hHeld hc3 hb3 V2
    have hHeld := hHeld0
    clear hHeld0
    try simp only [Act.put, List.setIfInBounds_toArray, List.set_cons_zero, List.set_cons_succ]
    refine take_move 14 (.tmp 64) (.bool false) rfl rfl rfl (by kernel_rfl) (by kernel_rfl) (by kernel_rfl) (fun _ _ _ h => h) rfl hHeld ?_
    simp only [Act.put, List.setIfInBounds_toArray, List.set_cons_zero, List.set_cons_succ]
    refine take_off 15 rfl (by kernel_rfl) (by kernel_rfl) (by kernel_rfl) (fun _ _ _ h => h) rfl hHeld ?_
    simp only [Act.put, List.setIfInBounds_toArray, List.set_cons_zero, List.set_cons_succ]
    refine take_off 16 rfl (by kernel_rfl) (by kernel_rfl) (by kernel_rfl) (fun _ _ _ h => h) rfl hHeld ?_
    simp only [Act.put, List.setIfInBounds_toArray, List.set_cons_zero, List.set_cons_succ]
    refine take_run 17 (.bool false) rfl (by kernel_rfl) (by kernel_rfl) (by kernel_rfl) (fun _ _ _ h => h) rfl hHeld (fun w => ?_) ?_
    · go_simp
    simp only [Act.put, List.setIfInBounds_toArray, List.set_cons_zero, List.set_cons_succ]
    refine take_move 18 (.tmp 68) (.bool false) rfl rfl rfl (by kernel_rfl) (by kernel_rfl) (by kernel_rfl) (fun _ _ _ h => h) rfl hHeld ?_
    simp only [Act.put, List.setIfInBounds_toArray, List.set_cons_zero, List.set_cons_succ]
    refine take_off 19 rfl (by kernel_rfl) (by kernel_rfl) (by kernel_rfl) (fun _ _ _ h => h) rfl hHeld ?_
    simp only [Act.put, List.setIfInBounds_toArray, List.set_cons_zero, List.set_cons_succ]
    refine take_off 20 rfl (by kernel_rfl) (by kernel_rfl) (by kernel_rfl) (fun _ _ _ h => h) rfl hHeld ?_
    simp only [Act.put, List.setIfInBounds_toArray, List.set_cons_zero, List.set_cons_succ]
    refine take_run 21 (.bool false) rfl (by kernel_rfl) (by kernel_rfl) (by kernel_rfl) (fun _ _ _ h => h) rfl hHeld (fun w => ?_) ?_
    · go_simp
    simp only [Act.put, List.setIfInBounds_toArray, List.set_cons_zero, List.set_cons_succ]
    refine take_run 22 (.bool true) rfl (by kernel_rfl) (by kernel_rfl) (by kernel_rfl) (fun _ _ _ h => h) rfl hHeld (fun w => ?_) ?_
    · go_simp
    simp only [Act.put, List.setIfInBounds_toArray, List.set_cons_zero, List.set_cons_succ]
    refine take_run 23 (.bool true) rfl (by kernel_rfl) (by kernel_rfl) (by kernel_rfl) (fun _ _ _ h => h) rfl hHeld (fun w => ?_) ?_
    · go_simp
    simp only [Act.put, List.setIfInBounds_toArray, List.set_cons_zero, List.set_cons_succ]
    refine take_move 24 (.tmp 74) (.bool true) rfl rfl rfl (by kernel_rfl) (by kernel_rfl) (by kernel_rfl) (fun _ _ _ h => h) rfl hHeld ?_
    simp only [Act.put, List.setIfInBounds_toArray, List.set_cons_zero, List.set_cons_succ]
    refine take_if 25 (.agg #[.int .i64 2, .int .i64 0, .slice (some ⟨w9.heap.size, 0, none⟩) 2 2]) rfl (by kernel_rfl) (by kernel_rfl) (by kernel_rfl) (fun _ _ _ h => h) rfl hHeld (fun w' hw' => ?_) ?_
    · obtain ⟨q0, q1, q2, q3, q4, q5⟩ := hw'
      go_simp
    simp only [Act.put, List.setIfInBounds_toArray, List.set_cons_zero, List.set_cons_succ]
    refine take_if 27 (.agg #[.int .i64 3, .int .i64 0, .slice (some ⟨w9.heap.size + 1 + 1, 0, none⟩) 2 2]) rfl (by kernel_rfl) (by kernel_rfl) (by kernel_rfl) (fun _ _ _ h => h) rfl hHeld (fun w' hw' => ?_) ?_
    · obtain ⟨q0, q1, q2, q3, q4, q5⟩ := hw'
      go_simp
    simp only [Act.put, List.setIfInBounds_toArray, List.set_cons_zero, List.set_cons_succ]
    refine one_step 26 (by kernel_rfl) rfl (fun K hK => ?_)
    go_simp
    go_at_call 23
    have hc4 := may_any _ (.node 2 0 [t, u]) 2 0 (some ⟨w9.heap.size, 0, none⟩) 2 2 v3 (HP.out.later hV3)
    rw [HM2q.out] at hc4
    (with_reducible refine hc4.mono ?_)
    rintro e v4 ⟨rfl, hb4⟩
    have hV4 : Below Wd.heap.size Wd v4 := hV3.trans (hb4.mono hV3.size)
    have V4 := six_held hV4 HV.out
    refine hK.out _ _ V4 (fun hHeld0 => ?_)
    clear hK K hHeld hc4 hb4 V3
    have hHeld := hHeld0
    clear hHeld0
    try simp only [Act.put, List.setIfInBounds_toArray, List.set_cons_zero, List.set_cons_succ]
    refine one_step 28 (by kernel_rfl) rfl (fun K hK => ?_)
    go_simp
    go_at_call 23
    have hc5 := may_any _ (.node 3 0 [t, u]) 3 0 (some ⟨w9.heap.size + 1 + 1, 0, none⟩) 2 2 v4 (HG.out.later hV4)
    rw [HM3q.out] at hc5
    (with_reducible refine hc5.mono ?_)
    rintro e v5 ⟨rfl, hb5⟩
    have hV5 : Below Wd.heap.size Wd v5 := hV4.trans (hb5.mono hV4.size)
    have V5 := six_held hV5 HV.out
    refine hK.out _ _ V5 (fun hHeld0 => ?_)
    clear hK K hHeld hc5 hb5 V4
    have hHeld := hHeld0
    clear hHeld0
    try simp only [Act.put, List.setIfInBounds_toArray, List.set_cons_zero, List.set_cons_succ]
    refine take_run 29 (.bool true) rfl (by kernel_rfl) (by kernel_rfl) (by kernel_rfl) (fun _ _ _ h => h) rfl hHeld (fun w => ?_) ?_
    · go_simp
    simp only [Act.put, List.setIfInBounds_toArray, List.set_cons_zero, List.set_cons_succ]
    refine take_run 30 (.bool true) rfl (by kernel_rfl) (by kernel_rfl) (by kernel_rfl) (fun _ _ _ h => h) rfl hHeld (fun w => ?_) ?_
    · go_simp
    simp only [Act.put, List.setIfInBounds_toArray, List.set_cons_zero, List.set_cons_succ]
    refine take_move 31 (.tmp 81) (.bool true) rfl rfl rfl (by kernel_rfl) (by kernel_rfl) (by kernel_rfl) (fun _ _ _ h => h) rfl hHeld ?_
    simp only [Act.put, List.setIfInBounds_toArray, List.set_cons_zero, List.set_cons_succ]
    refine take_if 32 (.agg #[.int .i64 2, .int .i64 0, .slice (some ⟨w9.heap.size, 0, none⟩) 2 2]) rfl (by kernel_rfl) (by kernel_rfl) (by kernel_rfl) (fun _ _ _ h => h) rfl hHeld (fun w' hw' => ?_) ?_
    · obtain ⟨q0, q1, q2, q3, q4, q5⟩ := hw'
      go_simp
    simp only [Act.put, List.setIfInBounds_toArray, List.set_cons_zero, List.set_cons_succ]
    refine take_if 33 (.agg #[.int .i64 3, .int .i64 0, .slice (some ⟨w9.heap.size + 1 + 1, 0, none⟩) 2 2]) rfl (by kernel_rfl) (by kernel_rfl) (by kernel_rfl) (fun _ _ _ h => h) rfl hHeld (fun w' hw' => ?_) ?_
    · obtain ⟨q0, q1, q2, q3, q4, q5⟩ := hw'
      go_simp
    simp only [Act.put, List.setIfInBounds_toArray, List.set_cons_zero, List.set_cons_succ]
    refine one_step 34 (by kernel_rfl) rfl (fun K hK => ?_)
    go_simp
    go_at_call 24
    have hc6 := psame_any _ _ (.node 2 0 [t, u]) (.node 3 0 [t, u]) 2 0 3 0 (some ⟨w9.heap.size, 0, none⟩) (some ⟨w9.heap.size + 1 + 1, 0, none⟩) 2 2 2 2 v5 (HP.out.later hV5) (HG.out.later hV5)
    rw [pair_other] at hc6
    (with_reducible refine hc6.mono ?_)
    rintro e v6 ⟨rfl, hb6⟩
    have hV6 : Below Wd.heap.size Wd v6 := hV5.trans (hb6.mono hV5.size)
    have V6 := six_held hV6 HV.out
    refine hK.out _ _ V6 (fun hHeld0 => ?_)
    clear hK K hHeld hc6 hb6 V5
    have hHeld := hHeld0
    clear hHeld0
    try simp only [Act.put, List.setIfInBounds_toArray, List.set_cons_zero, List.set_cons_succ]
    refine take_run 35 (.bool true) rfl (by kernel_rfl) (by kernel_rfl) (by kernel_rfl) (fun _ _ _ h => h) rfl hHeld (fun w => ?_) ?_
    · go_simp
    simp only [Act.put, List.setIfInBounds_toArray, List.set_cons_zero, List.set_cons_succ]
    refine take_run 36 (.bool true) rfl (by kernel_rfl) (by kernel_rfl) (by kernel_rfl) (fun _ _ _ h => h) rfl hHeld (fun w => ?_) ?_
    · go_simp
    simp only [Act.put, List.setIfInBounds_toArray, List.set_cons_zero, List.set_cons_succ]
    refine take_run 37 (.bool true) rfl (by kernel_rfl) (by kernel_rfl) (by kernel_rfl) (fun _ _ _ h => h) rfl hHeld (fun w => ?_) ?_
    · go_simp
    simp only [Act.put, List.setIfInBounds_toArray, List.set_cons_zero, List.set_cons_succ]
    refine wpAnyH_done (by kernel_rfl) ?_ _
    go_wp2
    go_ret
    exact ⟨rfl, TWO.out.trans ((HS9.out.trans (hV6.mono HS9.out.size)).mono TWO.out.size)⟩
  | true =>
    cases m2' with
    | false =>
      go_wp2_with (first
        | (go_at_call 23
           rw [HWD.out]
           have hc10 := may_any _ t k n A m c Wd (HT.out.below (TWO.out.trans (HS9.out.mono TWO.out.size)))
           rw [HM1.out] at hc10
           (with_reducible refine hc10.mono ?_)
           rintro e w10 ⟨rfl, hb10⟩
           have S10 := six_held (HS9.out.trans (hb10.mono HS9.out.size)) hS
           have V10 := six_held hb10 HV.out
           have HB10 := Lib.hid hb10
           clear hc10 hb10)
        | (go_at_call 23
           have hc11 := may_any _ u k2 n2 A2 m2 c2 w10 (HU.out.below (TWO.out.trans ((HS9.out.trans (HB10.out.mono HS9.out.size)).mono TWO.out.size)))
           rw [HM2.out] at hc11
           (with_reducible refine hc11.mono ?_)
           rintro e w11 ⟨rfl, hb11⟩
           have HB11 := Lib.hid (HB10.out.trans (hb11.mono HB10.out.size))
           have V11 := six_held HB11.out HV.out
           clear hc11 hb11))
      have HQ2 : (Te.node 2 0 [t, u]).may = false := (HPM.out 2 (by omega)).trans rfl
      have HQ3 : (Te.node 3 0 [t, u]).may = false := (HPM.out 3 (by omega)).trans rfl
      have HM2q := Lib.hid HQ2
      have HM3q := Lib.hid HQ3
      clear HQ2 HQ3
      have hV0 : Below Wd.heap.size Wd w11.drew := HB11.out.drew
      have V0 := six_held hV0 HV.out
      refine wp_region_held_drew (S := (fun w' => w'.cell? ⟨w9.heap.size + 1, 0, none⟩ = some (.int .i64 2) ∧ w'.cell? ⟨w9.heap.size + 1, 1, none⟩ = some (.int .i64 0) ∧ w'.cell? ⟨w9.heap.size + 1, 2, none⟩ = some (.slice (some ⟨w9.heap.size, 0, none⟩) 2 2) ∧ w'.cell? ⟨w9.heap.size + 1 + 1 + 1, 0, none⟩ = some (.int .i64 3) ∧ w'.cell? ⟨w9.heap.size + 1 + 1 + 1, 1, none⟩ = some (.int .i64 0) ∧ w'.cell? ⟨w9.heap.size + 1 + 1 + 1, 2, none⟩ = some (.slice (some ⟨w9.heap.size + 1 + 1, 0, none⟩) 2 2))) (by kernel_rfl) V0 (fun hHeld => ?_)
      refine take_if 0 (.agg #[.int .i64 2, .int .i64 0, .slice (some ⟨w9.heap.size, 0, none⟩) 2 2]) rfl (by kernel_rfl) (by kernel_rfl) (by kernel_rfl) (fun _ _ _ h => h) rfl hHeld (fun w' hw' => ?_) ?_
      · obtain ⟨q0, q1, q2, q3, q4, q5⟩ := hw'
        go_simp
      simp only [Act.put, List.setIfInBounds_toArray, List.set_cons_zero, List.set_cons_succ]
      refine take_move 2 (.tmp 6) (.int .i64 N) rfl rfl rfl (by kernel_rfl) (by kernel_rfl) (by kernel_rfl) (fun _ _ _ h => h) rfl hHeld ?_
      simp only [Act.put, List.setIfInBounds_toArray, List.set_cons_zero, List.set_cons_succ]
      refine one_step 1 (by kernel_rfl) rfl (fun K hK => ?_)
      go_simp
      go_at_call 19
      have hc1 := size_any _ (.node 2 0 [t, u]) 2 0 (some ⟨w9.heap.size, 0, none⟩) 2 2 w11.drew (HP.out.later hV0) (by rw [HPS.out 2]; omega)
      rw [HPS.out 2] at hc1
      (with_reducible refine hc1.mono ?_)
      rintro e v1 ⟨rfl, hb1⟩
      have hV1 : Below Wd.heap.size Wd v1 := hV0.trans (hb1.mono hV0.size)
      have V1 := six_held hV1 HV.out
      refine hK.out _ _ V1 (fun hHeld0 => ?_)
      clear hK K hHeld hc1 hb1 V0
      have hHeld := hHeld0
      clear hHeld0
      try simp only [Act.put, List.setIfInBounds_toArray, List.set_cons_zero, List.set_cons_succ]
      refine take_run 3 (.bool true) rfl (by kernel_rfl) (by kernel_rfl) (by kernel_rfl) (fun _ _ _ h => h) rfl hHeld (fun w => ?_) ?_
      · go_simp
      simp only [Act.put, List.setIfInBounds_toArray, List.set_cons_zero, List.set_cons_succ]
      refine take_move 4 (.tmp 54) (.bool true) rfl rfl rfl (by kernel_rfl) (by kernel_rfl) (by kernel_rfl) (fun _ _ _ h => h) rfl hHeld ?_
      simp only [Act.put, List.setIfInBounds_toArray, List.set_cons_zero, List.set_cons_succ]
      refine take_if 5 (.agg #[.int .i64 3, .int .i64 0, .slice (some ⟨w9.heap.size + 1 + 1, 0, none⟩) 2 2]) rfl (by kernel_rfl) (by kernel_rfl) (by kernel_rfl) (fun _ _ _ h => h) rfl hHeld (fun w' hw' => ?_) ?_
      · obtain ⟨q0, q1, q2, q3, q4, q5⟩ := hw'
        go_simp
      simp only [Act.put, List.setIfInBounds_toArray, List.set_cons_zero, List.set_cons_succ]
      refine take_move 7 (.tmp 7) (.int .i64 E) rfl rfl rfl (by kernel_rfl) (by kernel_rfl) (by kernel_rfl) (fun _ _ _ h => h) rfl hHeld ?_
      simp only [Act.put, List.setIfInBounds_toArray, List.set_cons_zero, List.set_cons_succ]
      refine one_step 6 (by kernel_rfl) rfl (fun K hK => ?_)
      go_simp
      go_at_call 21
      have hc2 := depth_any _ (.node 3 0 [t, u]) 3 0 (some ⟨w9.heap.size + 1 + 1, 0, none⟩) 2 2 v1 (HG.out.later hV1) (by rw [HPD.out 3]; omega)
      rw [HPD.out 3] at hc2
      (with_reducible refine hc2.mono ?_)
      rintro e v2 ⟨rfl, hb2⟩
      have hV2 : Below Wd.heap.size Wd v2 := hV1.trans (hb2.mono hV1.size)
      have V2 := six_held hV2 HV.out
      refine hK.out _ _ V2 (fun hHeld0 => ?_)
      clear hK K hHeld hc2 hb2 V1
      have hHeld := hHeld0
      clear hHeld0
      try simp only [Act.put, List.setIfInBounds_toArray, List.set_cons_zero, List.set_cons_succ]
      refine take_run 8 (.bool true) rfl (by kernel_rfl) (by kernel_rfl) (by kernel_rfl) (fun _ _ _ h => h) rfl hHeld (fun w => ?_) ?_
      · go_simp
      simp only [Act.put, List.setIfInBounds_toArray, List.set_cons_zero, List.set_cons_succ]
      refine take_run 9 (.bool true) rfl (by kernel_rfl) (by kernel_rfl) (by kernel_rfl) (fun _ _ _ h => h) rfl hHeld (fun w => ?_) ?_
      · go_simp
      simp only [Act.put, List.setIfInBounds_toArray, List.set_cons_zero, List.set_cons_succ]
      refine take_move 10 (.tmp 60) (.bool true) rfl rfl rfl (by kernel_rfl) (by kernel_rfl) (by kernel_rfl) (fun _ _ _ h => h) rfl hHeld ?_
      simp only [Act.put, List.setIfInBounds_toArray, List.set_cons_zero, List.set_cons_succ]
      refine take_if 11 (.agg #[.int .i64 2, .int .i64 0, .slice (some ⟨w9.heap.size, 0, none⟩) 2 2]) rfl (by kernel_rfl) (by kernel_rfl) (by kernel_rfl) (fun _ _ _ h => h) rfl hHeld (fun w' hw' => ?_) ?_
      · obtain ⟨q0, q1, q2, q3, q4, q5⟩ := hw'
        go_simp
      simp only [Act.put, List.setIfInBounds_toArray, List.set_cons_zero, List.set_cons_succ]
      refine take_move 13 (.tmp 10) (.bool false) rfl rfl rfl (by kernel_rfl) (by kernel_rfl) (by kernel_rfl) (fun _ _ _ h => h) rfl hHeld ?_
      simp only [Act.put, List.setIfInBounds_toArray, List.set_cons_zero, List.set_cons_succ]
      refine one_step 12 (by kernel_rfl) rfl (fun K hK => ?_)
      go_simp
      go_at_call 23
      have hc3 := may_any _ (.node 2 0 [t, u]) 2 0 (some ⟨w9.heap.size, 0, none⟩) 2 2 v2 (HP.out.later hV2)
      rw [HM2q.out] at hc3
      (with_reducible refine hc3.mono ?_)
      rintro e v3 ⟨rfl, hb3⟩
      have hV3 : Below Wd.heap.size Wd v3 := hV2.trans (hb3.mono hV2.size)
      have V3 := six_held hV3 HV.out
      refine hK.out _ _ V3 (fun hHeld0 => ?_)
      clear hK K hHeld hc3 hb3 V2
      have hHeld := hHeld0
      clear hHeld0
      try simp only [Act.put, List.setIfInBounds_toArray, List.set_cons_zero, List.set_cons_succ]
      refine take_move 14 (.tmp 64) (.bool false) rfl rfl rfl (by kernel_rfl) (by kernel_rfl) (by kernel_rfl) (fun _ _ _ h => h) rfl hHeld ?_
      simp only [Act.put, List.setIfInBounds_toArray, List.set_cons_zero, List.set_cons_succ]
      refine take_off 15 rfl (by kernel_rfl) (by kernel_rfl) (by kernel_rfl) (fun _ _ _ h => h) rfl hHeld ?_
      simp only [Act.put, List.setIfInBounds_toArray, List.set_cons_zero, List.set_cons_succ]
      refine take_off 16 rfl (by kernel_rfl) (by kernel_rfl) (by kernel_rfl) (fun _ _ _ h => h) rfl hHeld ?_
      simp only [Act.put, List.setIfInBounds_toArray, List.set_cons_zero, List.set_cons_succ]
      refine take_run 17 (.bool false) rfl (by kernel_rfl) (by kernel_rfl) (by kernel_rfl) (fun _ _ _ h => h) rfl hHeld (fun w => ?_) ?_
      · go_simp
      simp only [Act.put, List.setIfInBounds_toArray, List.set_cons_zero, List.set_cons_succ]
      refine take_move 18 (.tmp 68) (.bool false) rfl rfl rfl (by kernel_rfl) (by kernel_rfl) (by kernel_rfl) (fun _ _ _ h => h) rfl hHeld ?_
      simp only [Act.put, List.setIfInBounds_toArray, List.set_cons_zero, List.set_cons_succ]
      refine take_off 19 rfl (by kernel_rfl) (by kernel_rfl) (by kernel_rfl) (fun _ _ _ h => h) rfl hHeld ?_
      simp only [Act.put, List.setIfInBounds_toArray, List.set_cons_zero, List.set_cons_succ]
      refine take_off 20 rfl (by kernel_rfl) (by kernel_rfl) (by kernel_rfl) (fun _ _ _ h => h) rfl hHeld ?_
      simp only [Act.put, List.setIfInBounds_toArray, List.set_cons_zero, List.set_cons_succ]
      refine take_run 21 (.bool false) rfl (by kernel_rfl) (by kernel_rfl) (by kernel_rfl) (fun _ _ _ h => h) rfl hHeld (fun w => ?_) ?_
      · go_simp
      simp only [Act.put, List.setIfInBounds_toArray, List.set_cons_zero, List.set_cons_succ]
      refine take_run 22 (.bool true) rfl (by kernel_rfl) (by kernel_rfl) (by kernel_rfl) (fun _ _ _ h => h) rfl hHeld (fun w => ?_) ?_
      · go_simp
      simp only [Act.put, List.setIfInBounds_toArray, List.set_cons_zero, List.set_cons_succ]
      refine take_run 23 (.bool true) rfl (by kernel_rfl) (by kernel_rfl) (by kernel_rfl) (fun _ _ _ h => h) rfl hHeld (fun w => ?_) ?_
      · go_simp
      simp only [Act.put, List.setIfInBounds_toArray, List.set_cons_zero, List.set_cons_succ]
      refine take_move 24 (.tmp 74) (.bool true) rfl rfl rfl (by kernel_rfl) (by kernel_rfl) (by kernel_rfl) (fun _ _ _ h => h) rfl hHeld ?_
      simp only [Act.put, List.setIfInBounds_toArray, List.set_cons_zero, List.set_cons_succ]
      refine take_if 25 (.agg #[.int .i64 2, .int .i64 0, .slice (some ⟨w9.heap.size, 0, none⟩) 2 2]) rfl (by kernel_rfl) (by kernel_rfl) (by kernel_rfl) (fun _ _ _ h => h) rfl hHeld (fun w' hw' => ?_) ?_
      · obtain ⟨q0, q1, q2, q3, q4, q5⟩ := hw'
        go_simp
      simp only [Act.put, List.setIfInBounds_toArray, List.set_cons_zero, List.set_cons_succ]
      refine take_if 27 (.agg #[.int .i64 3, .int .i64 0, .slice (some ⟨w9.heap.size + 1 + 1, 0, none⟩) 2 2]) rfl (by kernel_rfl) (by kernel_rfl) (by kernel_rfl) (fun _ _ _ h => h) rfl hHeld (fun w' hw' => ?_) ?_
      · obtain ⟨q0, q1, q2, q3, q4, q5⟩ := hw'
        go_simp
      simp only [Act.put, List.setIfInBounds_toArray, List.set_cons_zero, List.set_cons_succ]
      refine one_step 26 (by kernel_rfl) rfl (fun K hK => ?_)
      go_simp
      go_at_call 23
      have hc4 := may_any _ (.node 2 0 [t, u]) 2 0 (some ⟨w9.heap.size, 0, none⟩) 2 2 v3 (HP.out.later hV3)
      rw [HM2q.out] at hc4
      (with_reducible refine hc4.mono ?_)
      rintro e v4 ⟨rfl, hb4⟩
      have hV4 : Below Wd.heap.size Wd v4 := hV3.trans (hb4.mono hV3.size)
      have V4 := six_held hV4 HV.out
      refine hK.out _ _ V4 (fun hHeld0 => ?_)
      clear hK K hHeld hc4 hb4 V3
      have hHeld := hHeld0
      clear hHeld0
      try simp only [Act.put, List.setIfInBounds_toArray, List.set_cons_zero, List.set_cons_succ]
      refine one_step 28 (by kernel_rfl) rfl (fun K hK => ?_)
      go_simp
      go_at_call 23
      have hc5 := may_any _ (.node 3 0 [t, u]) 3 0 (some ⟨w9.heap.size + 1 + 1, 0, none⟩) 2 2 v4 (HG.out.later hV4)
      rw [HM3q.out] at hc5
      (with_reducible refine hc5.mono ?_)
      rintro e v5 ⟨rfl, hb5⟩
      have hV5 : Below Wd.heap.size Wd v5 := hV4.trans (hb5.mono hV4.size)
      have V5 := six_held hV5 HV.out
      refine hK.out _ _ V5 (fun hHeld0 => ?_)
      clear hK K hHeld hc5 hb5 V4
      have hHeld := hHeld0
      clear hHeld0
      try simp only [Act.put, List.setIfInBounds_toArray, List.set_cons_zero, List.set_cons_succ]
      refine take_run 29 (.bool true) rfl (by kernel_rfl) (by kernel_rfl) (by kernel_rfl) (fun _ _ _ h => h) rfl hHeld (fun w => ?_) ?_
      · go_simp
      simp only [Act.put, List.setIfInBounds_toArray, List.set_cons_zero, List.set_cons_succ]
      refine take_run 30 (.bool true) rfl (by kernel_rfl) (by kernel_rfl) (by kernel_rfl) (fun _ _ _ h => h) rfl hHeld (fun w => ?_) ?_
      · go_simp
      simp only [Act.put, List.setIfInBounds_toArray, List.set_cons_zero, List.set_cons_succ]
      refine take_move 31 (.tmp 81) (.bool true) rfl rfl rfl (by kernel_rfl) (by kernel_rfl) (by kernel_rfl) (fun _ _ _ h => h) rfl hHeld ?_
      simp only [Act.put, List.setIfInBounds_toArray, List.set_cons_zero, List.set_cons_succ]
      refine take_if 32 (.agg #[.int .i64 2, .int .i64 0, .slice (some ⟨w9.heap.size, 0, none⟩) 2 2]) rfl (by kernel_rfl) (by kernel_rfl) (by kernel_rfl) (fun _ _ _ h => h) rfl hHeld (fun w' hw' => ?_) ?_
      · obtain ⟨q0, q1, q2, q3, q4, q5⟩ := hw'
        go_simp
      simp only [Act.put, List.setIfInBounds_toArray, List.set_cons_zero, List.set_cons_succ]
      refine take_if 33 (.agg #[.int .i64 3, .int .i64 0, .slice (some ⟨w9.heap.size + 1 + 1, 0, none⟩) 2 2]) rfl (by kernel_rfl) (by kernel_rfl) (by kernel_rfl) (fun _ _ _ h => h) rfl hHeld (fun w' hw' => ?_) ?_
      · obtain ⟨q0, q1, q2, q3, q4, q5⟩ := hw'
        go_simp
      simp only [Act.put, List.setIfInBounds_toArray, List.set_cons_zero, List.set_cons_succ]
      refine one_step 34 (by kernel_rfl) rfl (fun K hK => ?_)
      go_simp
      go_at_call 24
      have hc6 := psame_any _ _ (.node 2 0 [t, u]) (.node 3 0 [t, u]) 2 0 3 0 (some ⟨w9.heap.size, 0, none⟩) (some ⟨w9.heap.size + 1 + 1, 0, none⟩) 2 2 2 2 v5 (HP.out.later hV5) (HG.out.later hV5)
      rw [pair_other] at hc6
      (with_reducible refine hc6.mono ?_)
      rintro e v6 ⟨rfl, hb6⟩
      have hV6 : Below Wd.heap.size Wd v6 := hV5.trans (hb6.mono hV5.size)
      have V6 := six_held hV6 HV.out
      refine hK.out _ _ V6 (fun hHeld0 => ?_)
      clear hK K hHeld hc6 hb6 V5
      have hHeld := hHeld0
      clear hHeld0
      try simp only [Act.put, List.setIfInBounds_toArray, List.set_cons_zero, List.set_cons_succ]
      refine take_run 35 (.bool true) rfl (by kernel_rfl) (by kernel_rfl) (by kernel_rfl) (fun _ _ _ h => h) rfl hHeld (fun w => ?_) ?_
      · go_simp
      simp only [Act.put, List.setIfInBounds_toArray, List.set_cons_zero, List.set_cons_succ]
      refine take_run 36 (.bool true) rfl (by kernel_rfl) (by kernel_rfl) (by kernel_rfl) (fun _ _ _ h => h) rfl hHeld (fun w => ?_) ?_
      · go_simp
      simp only [Act.put, List.setIfInBounds_toArray, List.set_cons_zero, List.set_cons_succ]
      refine take_run 37 (.bool true) rfl (by kernel_rfl) (by kernel_rfl) (by kernel_rfl) (fun _ _ _ h => h) rfl hHeld (fun w => ?_) ?_
      · go_simp
      simp only [Act.put, List.setIfInBounds_toArray, List.set_cons_zero, List.set_cons_succ]
      refine wpAnyH_done (by kernel_rfl) ?_ _
      go_wp2
      go_ret
      exact ⟨rfl, TWO.out.trans ((HS9.out.trans (hV6.mono HS9.out.size)).mono TWO.out.size)⟩
    | true =>
      go_wp2_with (first
        | (go_at_call 23
           rw [HWD.out]
           have hc10 := may_any _ t k n A m c Wd (HT.out.below (TWO.out.trans (HS9.out.mono TWO.out.size)))
           rw [HM1.out] at hc10
           (with_reducible refine hc10.mono ?_)
           rintro e w10 ⟨rfl, hb10⟩
           have S10 := six_held (HS9.out.trans (hb10.mono HS9.out.size)) hS
           have V10 := six_held hb10 HV.out
           have HB10 := Lib.hid hb10
           clear hc10 hb10)
        | (go_at_call 23
           have hc11 := may_any _ u k2 n2 A2 m2 c2 w10 (HU.out.below (TWO.out.trans ((HS9.out.trans (HB10.out.mono HS9.out.size)).mono TWO.out.size)))
           rw [HM2.out] at hc11
           (with_reducible refine hc11.mono ?_)
           rintro e w11 ⟨rfl, hb11⟩
           have HB11 := Lib.hid (HB10.out.trans (hb11.mono HB10.out.size))
           have V11 := six_held HB11.out HV.out
           clear hc11 hb11))
      cases hN60 : decide (N ≤ 60) with
      | false =>
        have hval : (true && true && decide (N ≤ 60) && decide (E ≤ 12)) = false := by rw [hN60]; rfl
        have HQ2 : (Te.node 2 0 [t, u]).may = false := (HPM.out 2 (by omega)).trans hval
        have HQ3 : (Te.node 3 0 [t, u]).may = false := (HPM.out 3 (by omega)).trans hval
        have HM2q := Lib.hid HQ2
        have HM3q := Lib.hid HQ3
        clear HQ2 HQ3
        have hV0 : Below Wd.heap.size Wd w11.drew := HB11.out.drew
        have V0 := six_held hV0 HV.out
        refine wp_region_held_drew (S := (fun w' => w'.cell? ⟨w9.heap.size + 1, 0, none⟩ = some (.int .i64 2) ∧ w'.cell? ⟨w9.heap.size + 1, 1, none⟩ = some (.int .i64 0) ∧ w'.cell? ⟨w9.heap.size + 1, 2, none⟩ = some (.slice (some ⟨w9.heap.size, 0, none⟩) 2 2) ∧ w'.cell? ⟨w9.heap.size + 1 + 1 + 1, 0, none⟩ = some (.int .i64 3) ∧ w'.cell? ⟨w9.heap.size + 1 + 1 + 1, 1, none⟩ = some (.int .i64 0) ∧ w'.cell? ⟨w9.heap.size + 1 + 1 + 1, 2, none⟩ = some (.slice (some ⟨w9.heap.size + 1 + 1, 0, none⟩) 2 2))) (by kernel_rfl) V0 (fun hHeld => ?_)
        refine take_if 0 (.agg #[.int .i64 2, .int .i64 0, .slice (some ⟨w9.heap.size, 0, none⟩) 2 2]) rfl (by kernel_rfl) (by kernel_rfl) (by kernel_rfl) (fun _ _ _ h => h) rfl hHeld (fun w' hw' => ?_) ?_
        · obtain ⟨q0, q1, q2, q3, q4, q5⟩ := hw'
          go_simp
        simp only [Act.put, List.setIfInBounds_toArray, List.set_cons_zero, List.set_cons_succ]
        refine take_move 2 (.tmp 6) (.int .i64 N) rfl rfl rfl (by kernel_rfl) (by kernel_rfl) (by kernel_rfl) (fun _ _ _ h => h) rfl hHeld ?_
        simp only [Act.put, List.setIfInBounds_toArray, List.set_cons_zero, List.set_cons_succ]
        refine one_step 1 (by kernel_rfl) rfl (fun K hK => ?_)
        go_simp
        go_at_call 19
        have hc1 := size_any _ (.node 2 0 [t, u]) 2 0 (some ⟨w9.heap.size, 0, none⟩) 2 2 w11.drew (HP.out.later hV0) (by rw [HPS.out 2]; omega)
        rw [HPS.out 2] at hc1
        (with_reducible refine hc1.mono ?_)
        rintro e v1 ⟨rfl, hb1⟩
        have hV1 : Below Wd.heap.size Wd v1 := hV0.trans (hb1.mono hV0.size)
        have V1 := six_held hV1 HV.out
        refine hK.out _ _ V1 (fun hHeld0 => ?_)
        clear hK K hHeld hc1 hb1 V0
        have hHeld := hHeld0
        clear hHeld0
        try simp only [Act.put, List.setIfInBounds_toArray, List.set_cons_zero, List.set_cons_succ]
        refine take_run 3 (.bool true) rfl (by kernel_rfl) (by kernel_rfl) (by kernel_rfl) (fun _ _ _ h => h) rfl hHeld (fun w => ?_) ?_
        · go_simp
        simp only [Act.put, List.setIfInBounds_toArray, List.set_cons_zero, List.set_cons_succ]
        refine take_move 4 (.tmp 54) (.bool true) rfl rfl rfl (by kernel_rfl) (by kernel_rfl) (by kernel_rfl) (fun _ _ _ h => h) rfl hHeld ?_
        simp only [Act.put, List.setIfInBounds_toArray, List.set_cons_zero, List.set_cons_succ]
        refine take_if 5 (.agg #[.int .i64 3, .int .i64 0, .slice (some ⟨w9.heap.size + 1 + 1, 0, none⟩) 2 2]) rfl (by kernel_rfl) (by kernel_rfl) (by kernel_rfl) (fun _ _ _ h => h) rfl hHeld (fun w' hw' => ?_) ?_
        · obtain ⟨q0, q1, q2, q3, q4, q5⟩ := hw'
          go_simp
        simp only [Act.put, List.setIfInBounds_toArray, List.set_cons_zero, List.set_cons_succ]
        refine take_move 7 (.tmp 7) (.int .i64 E) rfl rfl rfl (by kernel_rfl) (by kernel_rfl) (by kernel_rfl) (fun _ _ _ h => h) rfl hHeld ?_
        simp only [Act.put, List.setIfInBounds_toArray, List.set_cons_zero, List.set_cons_succ]
        refine one_step 6 (by kernel_rfl) rfl (fun K hK => ?_)
        go_simp
        go_at_call 21
        have hc2 := depth_any _ (.node 3 0 [t, u]) 3 0 (some ⟨w9.heap.size + 1 + 1, 0, none⟩) 2 2 v1 (HG.out.later hV1) (by rw [HPD.out 3]; omega)
        rw [HPD.out 3] at hc2
        (with_reducible refine hc2.mono ?_)
        rintro e v2 ⟨rfl, hb2⟩
        have hV2 : Below Wd.heap.size Wd v2 := hV1.trans (hb2.mono hV1.size)
        have V2 := six_held hV2 HV.out
        refine hK.out _ _ V2 (fun hHeld0 => ?_)
        clear hK K hHeld hc2 hb2 V1
        have hHeld := hHeld0
        clear hHeld0
        try simp only [Act.put, List.setIfInBounds_toArray, List.set_cons_zero, List.set_cons_succ]
        refine take_run 8 (.bool true) rfl (by kernel_rfl) (by kernel_rfl) (by kernel_rfl) (fun _ _ _ h => h) rfl hHeld (fun w => ?_) ?_
        · go_simp
        simp only [Act.put, List.setIfInBounds_toArray, List.set_cons_zero, List.set_cons_succ]
        refine take_run 9 (.bool true) rfl (by kernel_rfl) (by kernel_rfl) (by kernel_rfl) (fun _ _ _ h => h) rfl hHeld (fun w => ?_) ?_
        · go_simp
        simp only [Act.put, List.setIfInBounds_toArray, List.set_cons_zero, List.set_cons_succ]
        refine take_move 10 (.tmp 60) (.bool true) rfl rfl rfl (by kernel_rfl) (by kernel_rfl) (by kernel_rfl) (fun _ _ _ h => h) rfl hHeld ?_
        simp only [Act.put, List.setIfInBounds_toArray, List.set_cons_zero, List.set_cons_succ]
        refine take_if 11 (.agg #[.int .i64 2, .int .i64 0, .slice (some ⟨w9.heap.size, 0, none⟩) 2 2]) rfl (by kernel_rfl) (by kernel_rfl) (by kernel_rfl) (fun _ _ _ h => h) rfl hHeld (fun w' hw' => ?_) ?_
        · obtain ⟨q0, q1, q2, q3, q4, q5⟩ := hw'
          go_simp
        simp only [Act.put, List.setIfInBounds_toArray, List.set_cons_zero, List.set_cons_succ]
        refine take_move 13 (.tmp 10) (.bool true) rfl rfl rfl (by kernel_rfl) (by kernel_rfl) (by kernel_rfl) (fun _ _ _ h => h) rfl hHeld ?_
        simp only [Act.put, List.setIfInBounds_toArray, List.set_cons_zero, List.set_cons_succ]
        refine one_step 12 (by kernel_rfl) rfl (fun K hK => ?_)
        go_simp
        go_at_call 23
        have hc3 := may_any _ (.node 2 0 [t, u]) 2 0 (some ⟨w9.heap.size, 0, none⟩) 2 2 v2 (HP.out.later hV2)
        rw [HM2q.out] at hc3
        (with_reducible refine hc3.mono ?_)
        rintro e v3 ⟨rfl, hb3⟩
        have hV3 : Below Wd.heap.size Wd v3 := hV2.trans (hb3.mono hV2.size)
        have V3 := six_held hV3 HV.out
        refine hK.out _ _ V3 (fun hHeld0 => ?_)
        clear hK K hHeld hc3 hb3 V2
        have hHeld := hHeld0
        clear hHeld0
        try simp only [Act.put, List.setIfInBounds_toArray, List.set_cons_zero, List.set_cons_succ]
        refine take_move 14 (.tmp 64) (.bool true) rfl rfl rfl (by kernel_rfl) (by kernel_rfl) (by kernel_rfl) (fun _ _ _ h => h) rfl hHeld ?_
        simp only [Act.put, List.setIfInBounds_toArray, List.set_cons_zero, List.set_cons_succ]
        refine take_move 15 (.tmp 6) (.int .i64 N) rfl rfl rfl (by kernel_rfl) (by kernel_rfl) (by kernel_rfl) (fun _ _ _ h => h) rfl hHeld ?_
        simp only [Act.put, List.setIfInBounds_toArray, List.set_cons_zero, List.set_cons_succ]
        refine take_run 16 (.bool false) rfl (by kernel_rfl) (by kernel_rfl) (by kernel_rfl) (fun _ _ _ h => h) rfl hHeld (fun w => ?_) ?_
        · go_simp
        simp only [Act.put, List.setIfInBounds_toArray, List.set_cons_zero, List.set_cons_succ]
        refine take_run 17 (.bool false) rfl (by kernel_rfl) (by kernel_rfl) (by kernel_rfl) (fun _ _ _ h => h) rfl hHeld (fun w => ?_) ?_
        · go_simp
        simp only [Act.put, List.setIfInBounds_toArray, List.set_cons_zero, List.set_cons_succ]
        refine take_move 18 (.tmp 68) (.bool false) rfl rfl rfl (by kernel_rfl) (by kernel_rfl) (by kernel_rfl) (fun _ _ _ h => h) rfl hHeld ?_
        simp only [Act.put, List.setIfInBounds_toArray, List.set_cons_zero, List.set_cons_succ]
        refine take_off 19 rfl (by kernel_rfl) (by kernel_rfl) (by kernel_rfl) (fun _ _ _ h => h) rfl hHeld ?_
        simp only [Act.put, List.setIfInBounds_toArray, List.set_cons_zero, List.set_cons_succ]
        refine take_off 20 rfl (by kernel_rfl) (by kernel_rfl) (by kernel_rfl) (fun _ _ _ h => h) rfl hHeld ?_
        simp only [Act.put, List.setIfInBounds_toArray, List.set_cons_zero, List.set_cons_succ]
        refine take_run 21 (.bool false) rfl (by kernel_rfl) (by kernel_rfl) (by kernel_rfl) (fun _ _ _ h => h) rfl hHeld (fun w => ?_) ?_
        · go_simp
        simp only [Act.put, List.setIfInBounds_toArray, List.set_cons_zero, List.set_cons_succ]
        refine take_run 22 (.bool true) rfl (by kernel_rfl) (by kernel_rfl) (by kernel_rfl) (fun _ _ _ h => h) rfl hHeld (fun w => ?_) ?_
        · go_simp
        simp only [Act.put, List.setIfInBounds_toArray, List.set_cons_zero, List.set_cons_succ]
        refine take_run 23 (.bool true) rfl (by kernel_rfl) (by kernel_rfl) (by kernel_rfl) (fun _ _ _ h => h) rfl hHeld (fun w => ?_) ?_
        · go_simp
        simp only [Act.put, List.setIfInBounds_toArray, List.set_cons_zero, List.set_cons_succ]
        refine take_move 24 (.tmp 74) (.bool true) rfl rfl rfl (by kernel_rfl) (by kernel_rfl) (by kernel_rfl) (fun _ _ _ h => h) rfl hHeld ?_
        simp only [Act.put, List.setIfInBounds_toArray, List.set_cons_zero, List.set_cons_succ]
        refine take_if 25 (.agg #[.int .i64 2, .int .i64 0, .slice (some ⟨w9.heap.size, 0, none⟩) 2 2]) rfl (by kernel_rfl) (by kernel_rfl) (by kernel_rfl) (fun _ _ _ h => h) rfl hHeld (fun w' hw' => ?_) ?_
        · obtain ⟨q0, q1, q2, q3, q4, q5⟩ := hw'
          go_simp
        simp only [Act.put, List.setIfInBounds_toArray, List.set_cons_zero, List.set_cons_succ]
        refine take_if 27 (.agg #[.int .i64 3, .int .i64 0, .slice (some ⟨w9.heap.size + 1 + 1, 0, none⟩) 2 2]) rfl (by kernel_rfl) (by kernel_rfl) (by kernel_rfl) (fun _ _ _ h => h) rfl hHeld (fun w' hw' => ?_) ?_
        · obtain ⟨q0, q1, q2, q3, q4, q5⟩ := hw'
          go_simp
        simp only [Act.put, List.setIfInBounds_toArray, List.set_cons_zero, List.set_cons_succ]
        refine one_step 26 (by kernel_rfl) rfl (fun K hK => ?_)
        go_simp
        go_at_call 23
        have hc4 := may_any _ (.node 2 0 [t, u]) 2 0 (some ⟨w9.heap.size, 0, none⟩) 2 2 v3 (HP.out.later hV3)
        rw [HM2q.out] at hc4
        (with_reducible refine hc4.mono ?_)
        rintro e v4 ⟨rfl, hb4⟩
        have hV4 : Below Wd.heap.size Wd v4 := hV3.trans (hb4.mono hV3.size)
        have V4 := six_held hV4 HV.out
        refine hK.out _ _ V4 (fun hHeld0 => ?_)
        clear hK K hHeld hc4 hb4 V3
        have hHeld := hHeld0
        clear hHeld0
        try simp only [Act.put, List.setIfInBounds_toArray, List.set_cons_zero, List.set_cons_succ]
        refine one_step 28 (by kernel_rfl) rfl (fun K hK => ?_)
        go_simp
        go_at_call 23
        have hc5 := may_any _ (.node 3 0 [t, u]) 3 0 (some ⟨w9.heap.size + 1 + 1, 0, none⟩) 2 2 v4 (HG.out.later hV4)
        rw [HM3q.out] at hc5
        (with_reducible refine hc5.mono ?_)
        rintro e v5 ⟨rfl, hb5⟩
        have hV5 : Below Wd.heap.size Wd v5 := hV4.trans (hb5.mono hV4.size)
        have V5 := six_held hV5 HV.out
        refine hK.out _ _ V5 (fun hHeld0 => ?_)
        clear hK K hHeld hc5 hb5 V4
        have hHeld := hHeld0
        clear hHeld0
        try simp only [Act.put, List.setIfInBounds_toArray, List.set_cons_zero, List.set_cons_succ]
        refine take_run 29 (.bool true) rfl (by kernel_rfl) (by kernel_rfl) (by kernel_rfl) (fun _ _ _ h => h) rfl hHeld (fun w => ?_) ?_
        · go_simp
        simp only [Act.put, List.setIfInBounds_toArray, List.set_cons_zero, List.set_cons_succ]
        refine take_run 30 (.bool true) rfl (by kernel_rfl) (by kernel_rfl) (by kernel_rfl) (fun _ _ _ h => h) rfl hHeld (fun w => ?_) ?_
        · go_simp
        simp only [Act.put, List.setIfInBounds_toArray, List.set_cons_zero, List.set_cons_succ]
        refine take_move 31 (.tmp 81) (.bool true) rfl rfl rfl (by kernel_rfl) (by kernel_rfl) (by kernel_rfl) (fun _ _ _ h => h) rfl hHeld ?_
        simp only [Act.put, List.setIfInBounds_toArray, List.set_cons_zero, List.set_cons_succ]
        refine take_if 32 (.agg #[.int .i64 2, .int .i64 0, .slice (some ⟨w9.heap.size, 0, none⟩) 2 2]) rfl (by kernel_rfl) (by kernel_rfl) (by kernel_rfl) (fun _ _ _ h => h) rfl hHeld (fun w' hw' => ?_) ?_
        · obtain ⟨q0, q1, q2, q3, q4, q5⟩ := hw'
          go_simp
        simp only [Act.put, List.setIfInBounds_toArray, List.set_cons_zero, List.set_cons_succ]
        refine take_if 33 (.agg #[.int .i64 3, .int .i64 0, .slice (some ⟨w9.heap.size + 1 + 1, 0, none⟩) 2 2]) rfl (by kernel_rfl) (by kernel_rfl) (by kernel_rfl) (fun _ _ _ h => h) rfl hHeld (fun w' hw' => ?_) ?_
        · obtain ⟨q0, q1, q2, q3, q4, q5⟩ := hw'
          go_simp
        simp only [Act.put, List.setIfInBounds_toArray, List.set_cons_zero, List.set_cons_succ]
        refine one_step 34 (by kernel_rfl) rfl (fun K hK => ?_)
        go_simp
        go_at_call 24
        have hc6 := psame_any _ _ (.node 2 0 [t, u]) (.node 3 0 [t, u]) 2 0 3 0 (some ⟨w9.heap.size, 0, none⟩) (some ⟨w9.heap.size + 1 + 1, 0, none⟩) 2 2 2 2 v5 (HP.out.later hV5) (HG.out.later hV5)
        rw [pair_other] at hc6
        (with_reducible refine hc6.mono ?_)
        rintro e v6 ⟨rfl, hb6⟩
        have hV6 : Below Wd.heap.size Wd v6 := hV5.trans (hb6.mono hV5.size)
        have V6 := six_held hV6 HV.out
        refine hK.out _ _ V6 (fun hHeld0 => ?_)
        clear hK K hHeld hc6 hb6 V5
        have hHeld := hHeld0
        clear hHeld0
        try simp only [Act.put, List.setIfInBounds_toArray, List.set_cons_zero, List.set_cons_succ]
        refine take_run 35 (.bool true) rfl (by kernel_rfl) (by kernel_rfl) (by kernel_rfl) (fun _ _ _ h => h) rfl hHeld (fun w => ?_) ?_
        · go_simp
        simp only [Act.put, List.setIfInBounds_toArray, List.set_cons_zero, List.set_cons_succ]
        refine take_run 36 (.bool true) rfl (by kernel_rfl) (by kernel_rfl) (by kernel_rfl) (fun _ _ _ h => h) rfl hHeld (fun w => ?_) ?_
        · go_simp
        simp only [Act.put, List.setIfInBounds_toArray, List.set_cons_zero, List.set_cons_succ]
        refine take_run 37 (.bool true) rfl (by kernel_rfl) (by kernel_rfl) (by kernel_rfl) (fun _ _ _ h => h) rfl hHeld (fun w => ?_) ?_
        · go_simp
        simp only [Act.put, List.setIfInBounds_toArray, List.set_cons_zero, List.set_cons_succ]
        refine wpAnyH_done (by kernel_rfl) ?_ _
        go_wp2
        go_ret
        exact ⟨rfl, TWO.out.trans ((HS9.out.trans (hV6.mono HS9.out.size)).mono TWO.out.size)⟩
      | true =>
        cases hE12 : decide (E ≤ 12) with
        | false =>
          have hval : (true && true && decide (N ≤ 60) && decide (E ≤ 12)) = false := by rw [hN60, hE12]; rfl
          have HQ2 : (Te.node 2 0 [t, u]).may = false := (HPM.out 2 (by omega)).trans hval
          have HQ3 : (Te.node 3 0 [t, u]).may = false := (HPM.out 3 (by omega)).trans hval
          have HM2q := Lib.hid HQ2
          have HM3q := Lib.hid HQ3
          clear HQ2 HQ3
          have hV0 : Below Wd.heap.size Wd w11.drew := HB11.out.drew
          have V0 := six_held hV0 HV.out
          refine wp_region_held_drew (S := (fun w' => w'.cell? ⟨w9.heap.size + 1, 0, none⟩ = some (.int .i64 2) ∧ w'.cell? ⟨w9.heap.size + 1, 1, none⟩ = some (.int .i64 0) ∧ w'.cell? ⟨w9.heap.size + 1, 2, none⟩ = some (.slice (some ⟨w9.heap.size, 0, none⟩) 2 2) ∧ w'.cell? ⟨w9.heap.size + 1 + 1 + 1, 0, none⟩ = some (.int .i64 3) ∧ w'.cell? ⟨w9.heap.size + 1 + 1 + 1, 1, none⟩ = some (.int .i64 0) ∧ w'.cell? ⟨w9.heap.size + 1 + 1 + 1, 2, none⟩ = some (.slice (some ⟨w9.heap.size + 1 + 1, 0, none⟩) 2 2))) (by kernel_rfl) V0 (fun hHeld => ?_)
          refine take_if 0 (.agg #[.int .i64 2, .int .i64 0, .slice (some ⟨w9.heap.size, 0, none⟩) 2 2]) rfl (by kernel_rfl) (by kernel_rfl) (by kernel_rfl) (fun _ _ _ h => h) rfl hHeld (fun w' hw' => ?_) ?_
          · obtain ⟨q0, q1, q2, q3, q4, q5⟩ := hw'
            go_simp
          simp only [Act.put, List.setIfInBounds_toArray, List.set_cons_zero, List.set_cons_succ]
          refine take_move 2 (.tmp 6) (.int .i64 N) rfl rfl rfl (by kernel_rfl) (by kernel_rfl) (by kernel_rfl) (fun _ _ _ h => h) rfl hHeld ?_
          simp only [Act.put, List.setIfInBounds_toArray, List.set_cons_zero, List.set_cons_succ]
          refine one_step 1 (by kernel_rfl) rfl (fun K hK => ?_)
          go_simp
          go_at_call 19
          have hc1 := size_any _ (.node 2 0 [t, u]) 2 0 (some ⟨w9.heap.size, 0, none⟩) 2 2 w11.drew (HP.out.later hV0) (by rw [HPS.out 2]; omega)
          rw [HPS.out 2] at hc1
          (with_reducible refine hc1.mono ?_)
          rintro e v1 ⟨rfl, hb1⟩
          have hV1 : Below Wd.heap.size Wd v1 := hV0.trans (hb1.mono hV0.size)
          have V1 := six_held hV1 HV.out
          refine hK.out _ _ V1 (fun hHeld0 => ?_)
          clear hK K hHeld hc1 hb1 V0
          have hHeld := hHeld0
          clear hHeld0
          try simp only [Act.put, List.setIfInBounds_toArray, List.set_cons_zero, List.set_cons_succ]
          refine take_run 3 (.bool true) rfl (by kernel_rfl) (by kernel_rfl) (by kernel_rfl) (fun _ _ _ h => h) rfl hHeld (fun w => ?_) ?_
          · go_simp
          simp only [Act.put, List.setIfInBounds_toArray, List.set_cons_zero, List.set_cons_succ]
          refine take_move 4 (.tmp 54) (.bool true) rfl rfl rfl (by kernel_rfl) (by kernel_rfl) (by kernel_rfl) (fun _ _ _ h => h) rfl hHeld ?_
          simp only [Act.put, List.setIfInBounds_toArray, List.set_cons_zero, List.set_cons_succ]
          refine take_if 5 (.agg #[.int .i64 3, .int .i64 0, .slice (some ⟨w9.heap.size + 1 + 1, 0, none⟩) 2 2]) rfl (by kernel_rfl) (by kernel_rfl) (by kernel_rfl) (fun _ _ _ h => h) rfl hHeld (fun w' hw' => ?_) ?_
          · obtain ⟨q0, q1, q2, q3, q4, q5⟩ := hw'
            go_simp
          simp only [Act.put, List.setIfInBounds_toArray, List.set_cons_zero, List.set_cons_succ]
          refine take_move 7 (.tmp 7) (.int .i64 E) rfl rfl rfl (by kernel_rfl) (by kernel_rfl) (by kernel_rfl) (fun _ _ _ h => h) rfl hHeld ?_
          simp only [Act.put, List.setIfInBounds_toArray, List.set_cons_zero, List.set_cons_succ]
          refine one_step 6 (by kernel_rfl) rfl (fun K hK => ?_)
          go_simp
          go_at_call 21
          have hc2 := depth_any _ (.node 3 0 [t, u]) 3 0 (some ⟨w9.heap.size + 1 + 1, 0, none⟩) 2 2 v1 (HG.out.later hV1) (by rw [HPD.out 3]; omega)
          rw [HPD.out 3] at hc2
          (with_reducible refine hc2.mono ?_)
          rintro e v2 ⟨rfl, hb2⟩
          have hV2 : Below Wd.heap.size Wd v2 := hV1.trans (hb2.mono hV1.size)
          have V2 := six_held hV2 HV.out
          refine hK.out _ _ V2 (fun hHeld0 => ?_)
          clear hK K hHeld hc2 hb2 V1
          have hHeld := hHeld0
          clear hHeld0
          try simp only [Act.put, List.setIfInBounds_toArray, List.set_cons_zero, List.set_cons_succ]
          refine take_run 8 (.bool true) rfl (by kernel_rfl) (by kernel_rfl) (by kernel_rfl) (fun _ _ _ h => h) rfl hHeld (fun w => ?_) ?_
          · go_simp
          simp only [Act.put, List.setIfInBounds_toArray, List.set_cons_zero, List.set_cons_succ]
          refine take_run 9 (.bool true) rfl (by kernel_rfl) (by kernel_rfl) (by kernel_rfl) (fun _ _ _ h => h) rfl hHeld (fun w => ?_) ?_
          · go_simp
          simp only [Act.put, List.setIfInBounds_toArray, List.set_cons_zero, List.set_cons_succ]
          refine take_move 10 (.tmp 60) (.bool true) rfl rfl rfl (by kernel_rfl) (by kernel_rfl) (by kernel_rfl) (fun _ _ _ h => h) rfl hHeld ?_
          simp only [Act.put, List.setIfInBounds_toArray, List.set_cons_zero, List.set_cons_succ]
          refine take_if 11 (.agg #[.int .i64 2, .int .i64 0, .slice (some ⟨w9.heap.size, 0, none⟩) 2 2]) rfl (by kernel_rfl) (by kernel_rfl) (by kernel_rfl) (fun _ _ _ h => h) rfl hHeld (fun w' hw' => ?_) ?_
          · obtain ⟨q0, q1, q2, q3, q4, q5⟩ := hw'
            go_simp
          simp only [Act.put, List.setIfInBounds_toArray, List.set_cons_zero, List.set_cons_succ]
          refine take_move 13 (.tmp 10) (.bool true) rfl rfl rfl (by kernel_rfl) (by kernel_rfl) (by kernel_rfl) (fun _ _ _ h => h) rfl hHeld ?_
          simp only [Act.put, List.setIfInBounds_toArray, List.set_cons_zero, List.set_cons_succ]
          refine one_step 12 (by kernel_rfl) rfl (fun K hK => ?_)
          go_simp
          go_at_call 23
          have hc3 := may_any _ (.node 2 0 [t, u]) 2 0 (some ⟨w9.heap.size, 0, none⟩) 2 2 v2 (HP.out.later hV2)
          rw [HM2q.out] at hc3
          (with_reducible refine hc3.mono ?_)
          rintro e v3 ⟨rfl, hb3⟩
          have hV3 : Below Wd.heap.size Wd v3 := hV2.trans (hb3.mono hV2.size)
          have V3 := six_held hV3 HV.out
          refine hK.out _ _ V3 (fun hHeld0 => ?_)
          clear hK K hHeld hc3 hb3 V2
          have hHeld := hHeld0
          clear hHeld0
          try simp only [Act.put, List.setIfInBounds_toArray, List.set_cons_zero, List.set_cons_succ]
          refine take_move 14 (.tmp 64) (.bool true) rfl rfl rfl (by kernel_rfl) (by kernel_rfl) (by kernel_rfl) (fun _ _ _ h => h) rfl hHeld ?_
          simp only [Act.put, List.setIfInBounds_toArray, List.set_cons_zero, List.set_cons_succ]
          refine take_move 15 (.tmp 6) (.int .i64 N) rfl rfl rfl (by kernel_rfl) (by kernel_rfl) (by kernel_rfl) (fun _ _ _ h => h) rfl hHeld ?_
          simp only [Act.put, List.setIfInBounds_toArray, List.set_cons_zero, List.set_cons_succ]
          refine take_run 16 (.bool true) rfl (by kernel_rfl) (by kernel_rfl) (by kernel_rfl) (fun _ _ _ h => h) rfl hHeld (fun w => ?_) ?_
          · go_simp
          simp only [Act.put, List.setIfInBounds_toArray, List.set_cons_zero, List.set_cons_succ]
          refine take_run 17 (.bool true) rfl (by kernel_rfl) (by kernel_rfl) (by kernel_rfl) (fun _ _ _ h => h) rfl hHeld (fun w => ?_) ?_
          · go_simp
          simp only [Act.put, List.setIfInBounds_toArray, List.set_cons_zero, List.set_cons_succ]
          refine take_move 18 (.tmp 68) (.bool true) rfl rfl rfl (by kernel_rfl) (by kernel_rfl) (by kernel_rfl) (fun _ _ _ h => h) rfl hHeld ?_
          simp only [Act.put, List.setIfInBounds_toArray, List.set_cons_zero, List.set_cons_succ]
          refine take_move 19 (.tmp 7) (.int .i64 E) rfl rfl rfl (by kernel_rfl) (by kernel_rfl) (by kernel_rfl) (fun _ _ _ h => h) rfl hHeld ?_
          simp only [Act.put, List.setIfInBounds_toArray, List.set_cons_zero, List.set_cons_succ]
          refine take_run 20 (.bool false) rfl (by kernel_rfl) (by kernel_rfl) (by kernel_rfl) (fun _ _ _ h => h) rfl hHeld (fun w => ?_) ?_
          · go_simp
          simp only [Act.put, List.setIfInBounds_toArray, List.set_cons_zero, List.set_cons_succ]
          refine take_run 21 (.bool false) rfl (by kernel_rfl) (by kernel_rfl) (by kernel_rfl) (fun _ _ _ h => h) rfl hHeld (fun w => ?_) ?_
          · go_simp
          simp only [Act.put, List.setIfInBounds_toArray, List.set_cons_zero, List.set_cons_succ]
          refine take_run 22 (.bool true) rfl (by kernel_rfl) (by kernel_rfl) (by kernel_rfl) (fun _ _ _ h => h) rfl hHeld (fun w => ?_) ?_
          · go_simp
          simp only [Act.put, List.setIfInBounds_toArray, List.set_cons_zero, List.set_cons_succ]
          refine take_run 23 (.bool true) rfl (by kernel_rfl) (by kernel_rfl) (by kernel_rfl) (fun _ _ _ h => h) rfl hHeld (fun w => ?_) ?_
          · go_simp
          simp only [Act.put, List.setIfInBounds_toArray, List.set_cons_zero, List.set_cons_succ]
          refine take_move 24 (.tmp 74) (.bool true) rfl rfl rfl (by kernel_rfl) (by kernel_rfl) (by kernel_rfl) (fun _ _ _ h => h) rfl hHeld ?_
          simp only [Act.put, List.setIfInBounds_toArray, List.set_cons_zero, List.set_cons_succ]
          refine take_if 25 (.agg #[.int .i64 2, .int .i64 0, .slice (some ⟨w9.heap.size, 0, none⟩) 2 2]) rfl (by kernel_rfl) (by kernel_rfl) (by kernel_rfl) (fun _ _ _ h => h) rfl hHeld (fun w' hw' => ?_) ?_
          · obtain ⟨q0, q1, q2, q3, q4, q5⟩ := hw'
            go_simp
          simp only [Act.put, List.setIfInBounds_toArray, List.set_cons_zero, List.set_cons_succ]
          refine take_if 27 (.agg #[.int .i64 3, .int .i64 0, .slice (some ⟨w9.heap.size + 1 + 1, 0, none⟩) 2 2]) rfl (by kernel_rfl) (by kernel_rfl) (by kernel_rfl) (fun _ _ _ h => h) rfl hHeld (fun w' hw' => ?_) ?_
          · obtain ⟨q0, q1, q2, q3, q4, q5⟩ := hw'
            go_simp
          simp only [Act.put, List.setIfInBounds_toArray, List.set_cons_zero, List.set_cons_succ]
          refine one_step 26 (by kernel_rfl) rfl (fun K hK => ?_)
          go_simp
          go_at_call 23
          have hc4 := may_any _ (.node 2 0 [t, u]) 2 0 (some ⟨w9.heap.size, 0, none⟩) 2 2 v3 (HP.out.later hV3)
          rw [HM2q.out] at hc4
          (with_reducible refine hc4.mono ?_)
          rintro e v4 ⟨rfl, hb4⟩
          have hV4 : Below Wd.heap.size Wd v4 := hV3.trans (hb4.mono hV3.size)
          have V4 := six_held hV4 HV.out
          refine hK.out _ _ V4 (fun hHeld0 => ?_)
          clear hK K hHeld hc4 hb4 V3
          have hHeld := hHeld0
          clear hHeld0
          try simp only [Act.put, List.setIfInBounds_toArray, List.set_cons_zero, List.set_cons_succ]
          refine one_step 28 (by kernel_rfl) rfl (fun K hK => ?_)
          go_simp
          go_at_call 23
          have hc5 := may_any _ (.node 3 0 [t, u]) 3 0 (some ⟨w9.heap.size + 1 + 1, 0, none⟩) 2 2 v4 (HG.out.later hV4)
          rw [HM3q.out] at hc5
          (with_reducible refine hc5.mono ?_)
          rintro e v5 ⟨rfl, hb5⟩
          have hV5 : Below Wd.heap.size Wd v5 := hV4.trans (hb5.mono hV4.size)
          have V5 := six_held hV5 HV.out
          refine hK.out _ _ V5 (fun hHeld0 => ?_)
          clear hK K hHeld hc5 hb5 V4
          have hHeld := hHeld0
          clear hHeld0
          try simp only [Act.put, List.setIfInBounds_toArray, List.set_cons_zero, List.set_cons_succ]
          refine take_run 29 (.bool true) rfl (by kernel_rfl) (by kernel_rfl) (by kernel_rfl) (fun _ _ _ h => h) rfl hHeld (fun w => ?_) ?_
          · go_simp
          simp only [Act.put, List.setIfInBounds_toArray, List.set_cons_zero, List.set_cons_succ]
          refine take_run 30 (.bool true) rfl (by kernel_rfl) (by kernel_rfl) (by kernel_rfl) (fun _ _ _ h => h) rfl hHeld (fun w => ?_) ?_
          · go_simp
          simp only [Act.put, List.setIfInBounds_toArray, List.set_cons_zero, List.set_cons_succ]
          refine take_move 31 (.tmp 81) (.bool true) rfl rfl rfl (by kernel_rfl) (by kernel_rfl) (by kernel_rfl) (fun _ _ _ h => h) rfl hHeld ?_
          simp only [Act.put, List.setIfInBounds_toArray, List.set_cons_zero, List.set_cons_succ]
          refine take_if 32 (.agg #[.int .i64 2, .int .i64 0, .slice (some ⟨w9.heap.size, 0, none⟩) 2 2]) rfl (by kernel_rfl) (by kernel_rfl) (by kernel_rfl) (fun _ _ _ h => h) rfl hHeld (fun w' hw' => ?_) ?_
          · obtain ⟨q0, q1, q2, q3, q4, q5⟩ := hw'
            go_simp
          simp only [Act.put, List.setIfInBounds_toArray, List.set_cons_zero, List.set_cons_succ]
          refine take_if 33 (.agg #[.int .i64 3, .int .i64 0, .slice (some ⟨w9.heap.size + 1 + 1, 0, none⟩) 2 2]) rfl (by kernel_rfl) (by kernel_rfl) (by kernel_rfl) (fun _ _ _ h => h) rfl hHeld (fun w' hw' => ?_) ?_
          · obtain ⟨q0, q1, q2, q3, q4, q5⟩ := hw'
            go_simp
          simp only [Act.put, List.setIfInBounds_toArray, List.set_cons_zero, List.set_cons_succ]
          refine one_step 34 (by kernel_rfl) rfl (fun K hK => ?_)
          go_simp
          go_at_call 24
          have hc6 := psame_any _ _ (.node 2 0 [t, u]) (.node 3 0 [t, u]) 2 0 3 0 (some ⟨w9.heap.size, 0, none⟩) (some ⟨w9.heap.size + 1 + 1, 0, none⟩) 2 2 2 2 v5 (HP.out.later hV5) (HG.out.later hV5)
          rw [pair_other] at hc6
          (with_reducible refine hc6.mono ?_)
          rintro e v6 ⟨rfl, hb6⟩
          have hV6 : Below Wd.heap.size Wd v6 := hV5.trans (hb6.mono hV5.size)
          have V6 := six_held hV6 HV.out
          refine hK.out _ _ V6 (fun hHeld0 => ?_)
          clear hK K hHeld hc6 hb6 V5
          have hHeld := hHeld0
          clear hHeld0
          try simp only [Act.put, List.setIfInBounds_toArray, List.set_cons_zero, List.set_cons_succ]
          refine take_run 35 (.bool true) rfl (by kernel_rfl) (by kernel_rfl) (by kernel_rfl) (fun _ _ _ h => h) rfl hHeld (fun w => ?_) ?_
          · go_simp
          simp only [Act.put, List.setIfInBounds_toArray, List.set_cons_zero, List.set_cons_succ]
          refine take_run 36 (.bool true) rfl (by kernel_rfl) (by kernel_rfl) (by kernel_rfl) (fun _ _ _ h => h) rfl hHeld (fun w => ?_) ?_
          · go_simp
          simp only [Act.put, List.setIfInBounds_toArray, List.set_cons_zero, List.set_cons_succ]
          refine take_run 37 (.bool true) rfl (by kernel_rfl) (by kernel_rfl) (by kernel_rfl) (fun _ _ _ h => h) rfl hHeld (fun w => ?_) ?_
          · go_simp
          simp only [Act.put, List.setIfInBounds_toArray, List.set_cons_zero, List.set_cons_succ]
          refine wpAnyH_done (by kernel_rfl) ?_ _
          go_wp2
          go_ret
          exact ⟨rfl, TWO.out.trans ((HS9.out.trans (hV6.mono HS9.out.size)).mono TWO.out.size)⟩
        | true =>
          have hval : (true && true && decide (N ≤ 60) && decide (E ≤ 12)) = true := by rw [hN60, hE12]; rfl
          have HQ2 : (Te.node 2 0 [t, u]).may = true := (HPM.out 2 (by omega)).trans hval
          have HQ3 : (Te.node 3 0 [t, u]).may = true := (HPM.out 3 (by omega)).trans hval
          have HM2q := Lib.hid HQ2
          have HM3q := Lib.hid HQ3
          clear HQ2 HQ3
          have hV0 : Below Wd.heap.size Wd w11.drew := HB11.out.drew
          have V0 := six_held hV0 HV.out
          refine wp_region_held_drew (S := (fun w' => w'.cell? ⟨w9.heap.size + 1, 0, none⟩ = some (.int .i64 2) ∧ w'.cell? ⟨w9.heap.size + 1, 1, none⟩ = some (.int .i64 0) ∧ w'.cell? ⟨w9.heap.size + 1, 2, none⟩ = some (.slice (some ⟨w9.heap.size, 0, none⟩) 2 2) ∧ w'.cell? ⟨w9.heap.size + 1 + 1 + 1, 0, none⟩ = some (.int .i64 3) ∧ w'.cell? ⟨w9.heap.size + 1 + 1 + 1, 1, none⟩ = some (.int .i64 0) ∧ w'.cell? ⟨w9.heap.size + 1 + 1 + 1, 2, none⟩ = some (.slice (some ⟨w9.heap.size + 1 + 1, 0, none⟩) 2 2))) (by kernel_rfl) V0 (fun hHeld => ?_)
          refine take_if 0 (.agg #[.int .i64 2, .int .i64 0, .slice (some ⟨w9.heap.size, 0, none⟩) 2 2]) rfl (by kernel_rfl) (by kernel_rfl) (by kernel_rfl) (fun _ _ _ h => h) rfl hHeld (fun w' hw' => ?_) ?_
          · obtain ⟨q0, q1, q2, q3, q4, q5⟩ := hw'
            go_simp
          simp only [Act.put, List.setIfInBounds_toArray, List.set_cons_zero, List.set_cons_succ]
          refine take_move 2 (.tmp 6) (.int .i64 N) rfl rfl rfl (by kernel_rfl) (by kernel_rfl) (by kernel_rfl) (fun _ _ _ h => h) rfl hHeld ?_
          simp only [Act.put, List.setIfInBounds_toArray, List.set_cons_zero, List.set_cons_succ]
          refine one_step 1 (by kernel_rfl) rfl (fun K hK => ?_)
          go_simp
          go_at_call 19
          have hc1 := size_any _ (.node 2 0 [t, u]) 2 0 (some ⟨w9.heap.size, 0, none⟩) 2 2 w11.drew (HP.out.later hV0) (by rw [HPS.out 2]; omega)
          rw [HPS.out 2] at hc1
          (with_reducible refine hc1.mono ?_)
          rintro e v1 ⟨rfl, hb1⟩
          have hV1 : Below Wd.heap.size Wd v1 := hV0.trans (hb1.mono hV0.size)
          have V1 := six_held hV1 HV.out
          refine hK.out _ _ V1 (fun hHeld0 => ?_)
          clear hK K hHeld hc1 hb1 V0
          have hHeld := hHeld0
          clear hHeld0
          try simp only [Act.put, List.setIfInBounds_toArray, List.set_cons_zero, List.set_cons_succ]
          refine take_run 3 (.bool true) rfl (by kernel_rfl) (by kernel_rfl) (by kernel_rfl) (fun _ _ _ h => h) rfl hHeld (fun w => ?_) ?_
          · go_simp
          simp only [Act.put, List.setIfInBounds_toArray, List.set_cons_zero, List.set_cons_succ]
          refine take_move 4 (.tmp 54) (.bool true) rfl rfl rfl (by kernel_rfl) (by kernel_rfl) (by kernel_rfl) (fun _ _ _ h => h) rfl hHeld ?_
          simp only [Act.put, List.setIfInBounds_toArray, List.set_cons_zero, List.set_cons_succ]
          refine take_if 5 (.agg #[.int .i64 3, .int .i64 0, .slice (some ⟨w9.heap.size + 1 + 1, 0, none⟩) 2 2]) rfl (by kernel_rfl) (by kernel_rfl) (by kernel_rfl) (fun _ _ _ h => h) rfl hHeld (fun w' hw' => ?_) ?_
          · obtain ⟨q0, q1, q2, q3, q4, q5⟩ := hw'
            go_simp
          simp only [Act.put, List.setIfInBounds_toArray, List.set_cons_zero, List.set_cons_succ]
          refine take_move 7 (.tmp 7) (.int .i64 E) rfl rfl rfl (by kernel_rfl) (by kernel_rfl) (by kernel_rfl) (fun _ _ _ h => h) rfl hHeld ?_
          simp only [Act.put, List.setIfInBounds_toArray, List.set_cons_zero, List.set_cons_succ]
          refine one_step 6 (by kernel_rfl) rfl (fun K hK => ?_)
          go_simp
          go_at_call 21
          have hc2 := depth_any _ (.node 3 0 [t, u]) 3 0 (some ⟨w9.heap.size + 1 + 1, 0, none⟩) 2 2 v1 (HG.out.later hV1) (by rw [HPD.out 3]; omega)
          rw [HPD.out 3] at hc2
          (with_reducible refine hc2.mono ?_)
          rintro e v2 ⟨rfl, hb2⟩
          have hV2 : Below Wd.heap.size Wd v2 := hV1.trans (hb2.mono hV1.size)
          have V2 := six_held hV2 HV.out
          refine hK.out _ _ V2 (fun hHeld0 => ?_)
          clear hK K hHeld hc2 hb2 V1
          have hHeld := hHeld0
          clear hHeld0
          try simp only [Act.put, List.setIfInBounds_toArray, List.set_cons_zero, List.set_cons_succ]
          refine take_run 8 (.bool true) rfl (by kernel_rfl) (by kernel_rfl) (by kernel_rfl) (fun _ _ _ h => h) rfl hHeld (fun w => ?_) ?_
          · go_simp
          simp only [Act.put, List.setIfInBounds_toArray, List.set_cons_zero, List.set_cons_succ]
          refine take_run 9 (.bool true) rfl (by kernel_rfl) (by kernel_rfl) (by kernel_rfl) (fun _ _ _ h => h) rfl hHeld (fun w => ?_) ?_
          · go_simp
          simp only [Act.put, List.setIfInBounds_toArray, List.set_cons_zero, List.set_cons_succ]
          refine take_move 10 (.tmp 60) (.bool true) rfl rfl rfl (by kernel_rfl) (by kernel_rfl) (by kernel_rfl) (fun _ _ _ h => h) rfl hHeld ?_
          simp only [Act.put, List.setIfInBounds_toArray, List.set_cons_zero, List.set_cons_succ]
          refine take_if 11 (.agg #[.int .i64 2, .int .i64 0, .slice (some ⟨w9.heap.size, 0, none⟩) 2 2]) rfl (by kernel_rfl) (by kernel_rfl) (by kernel_rfl) (fun _ _ _ h => h) rfl hHeld (fun w' hw' => ?_) ?_
          · obtain ⟨q0, q1, q2, q3, q4, q5⟩ := hw'
            go_simp
          simp only [Act.put, List.setIfInBounds_toArray, List.set_cons_zero, List.set_cons_succ]
          refine take_move 13 (.tmp 10) (.bool true) rfl rfl rfl (by kernel_rfl) (by kernel_rfl) (by kernel_rfl) (fun _ _ _ h => h) rfl hHeld ?_
          simp only [Act.put, List.setIfInBounds_toArray, List.set_cons_zero, List.set_cons_succ]
          refine one_step 12 (by kernel_rfl) rfl (fun K hK => ?_)
          go_simp
          go_at_call 23
          have hc3 := may_any _ (.node 2 0 [t, u]) 2 0 (some ⟨w9.heap.size, 0, none⟩) 2 2 v2 (HP.out.later hV2)
          rw [HM2q.out] at hc3
          (with_reducible refine hc3.mono ?_)
          rintro e v3 ⟨rfl, hb3⟩
          have hV3 : Below Wd.heap.size Wd v3 := hV2.trans (hb3.mono hV2.size)
          have V3 := six_held hV3 HV.out
          refine hK.out _ _ V3 (fun hHeld0 => ?_)
          clear hK K hHeld hc3 hb3 V2
          have hHeld := hHeld0
          clear hHeld0
          try simp only [Act.put, List.setIfInBounds_toArray, List.set_cons_zero, List.set_cons_succ]
          refine take_move 14 (.tmp 64) (.bool true) rfl rfl rfl (by kernel_rfl) (by kernel_rfl) (by kernel_rfl) (fun _ _ _ h => h) rfl hHeld ?_
          simp only [Act.put, List.setIfInBounds_toArray, List.set_cons_zero, List.set_cons_succ]
          refine take_move 15 (.tmp 6) (.int .i64 N) rfl rfl rfl (by kernel_rfl) (by kernel_rfl) (by kernel_rfl) (fun _ _ _ h => h) rfl hHeld ?_
          simp only [Act.put, List.setIfInBounds_toArray, List.set_cons_zero, List.set_cons_succ]
          refine take_run 16 (.bool true) rfl (by kernel_rfl) (by kernel_rfl) (by kernel_rfl) (fun _ _ _ h => h) rfl hHeld (fun w => ?_) ?_
          · go_simp
          simp only [Act.put, List.setIfInBounds_toArray, List.set_cons_zero, List.set_cons_succ]
          refine take_run 17 (.bool true) rfl (by kernel_rfl) (by kernel_rfl) (by kernel_rfl) (fun _ _ _ h => h) rfl hHeld (fun w => ?_) ?_
          · go_simp
          simp only [Act.put, List.setIfInBounds_toArray, List.set_cons_zero, List.set_cons_succ]
          refine take_move 18 (.tmp 68) (.bool true) rfl rfl rfl (by kernel_rfl) (by kernel_rfl) (by kernel_rfl) (fun _ _ _ h => h) rfl hHeld ?_
          simp only [Act.put, List.setIfInBounds_toArray, List.set_cons_zero, List.set_cons_succ]
          refine take_move 19 (.tmp 7) (.int .i64 E) rfl rfl rfl (by kernel_rfl) (by kernel_rfl) (by kernel_rfl) (fun _ _ _ h => h) rfl hHeld ?_
          simp only [Act.put, List.setIfInBounds_toArray, List.set_cons_zero, List.set_cons_succ]
          refine take_run 20 (.bool true) rfl (by kernel_rfl) (by kernel_rfl) (by kernel_rfl) (fun _ _ _ h => h) rfl hHeld (fun w => ?_) ?_
          · go_simp
          simp only [Act.put, List.setIfInBounds_toArray, List.set_cons_zero, List.set_cons_succ]
          refine take_run 21 (.bool true) rfl (by kernel_rfl) (by kernel_rfl) (by kernel_rfl) (fun _ _ _ h => h) rfl hHeld (fun w => ?_) ?_
          · go_simp
          simp only [Act.put, List.setIfInBounds_toArray, List.set_cons_zero, List.set_cons_succ]
          refine take_run 22 (.bool true) rfl (by kernel_rfl) (by kernel_rfl) (by kernel_rfl) (fun _ _ _ h => h) rfl hHeld (fun w => ?_) ?_
          · go_simp
          simp only [Act.put, List.setIfInBounds_toArray, List.set_cons_zero, List.set_cons_succ]
          refine take_run 23 (.bool true) rfl (by kernel_rfl) (by kernel_rfl) (by kernel_rfl) (fun _ _ _ h => h) rfl hHeld (fun w => ?_) ?_
          · go_simp
          simp only [Act.put, List.setIfInBounds_toArray, List.set_cons_zero, List.set_cons_succ]
          refine take_move 24 (.tmp 74) (.bool true) rfl rfl rfl (by kernel_rfl) (by kernel_rfl) (by kernel_rfl) (fun _ _ _ h => h) rfl hHeld ?_
          simp only [Act.put, List.setIfInBounds_toArray, List.set_cons_zero, List.set_cons_succ]
          refine take_if 25 (.agg #[.int .i64 2, .int .i64 0, .slice (some ⟨w9.heap.size, 0, none⟩) 2 2]) rfl (by kernel_rfl) (by kernel_rfl) (by kernel_rfl) (fun _ _ _ h => h) rfl hHeld (fun w' hw' => ?_) ?_
          · obtain ⟨q0, q1, q2, q3, q4, q5⟩ := hw'
            go_simp
          simp only [Act.put, List.setIfInBounds_toArray, List.set_cons_zero, List.set_cons_succ]
          refine take_if 27 (.agg #[.int .i64 3, .int .i64 0, .slice (some ⟨w9.heap.size + 1 + 1, 0, none⟩) 2 2]) rfl (by kernel_rfl) (by kernel_rfl) (by kernel_rfl) (fun _ _ _ h => h) rfl hHeld (fun w' hw' => ?_) ?_
          · obtain ⟨q0, q1, q2, q3, q4, q5⟩ := hw'
            go_simp
          simp only [Act.put, List.setIfInBounds_toArray, List.set_cons_zero, List.set_cons_succ]
          refine one_step 26 (by kernel_rfl) rfl (fun K hK => ?_)
          go_simp
          go_at_call 23
          have hc4 := may_any _ (.node 2 0 [t, u]) 2 0 (some ⟨w9.heap.size, 0, none⟩) 2 2 v3 (HP.out.later hV3)
          rw [HM2q.out] at hc4
          (with_reducible refine hc4.mono ?_)
          rintro e v4 ⟨rfl, hb4⟩
          have hV4 : Below Wd.heap.size Wd v4 := hV3.trans (hb4.mono hV3.size)
          have V4 := six_held hV4 HV.out
          refine hK.out _ _ V4 (fun hHeld0 => ?_)
          clear hK K hHeld hc4 hb4 V3
          have hHeld := hHeld0
          clear hHeld0
          try simp only [Act.put, List.setIfInBounds_toArray, List.set_cons_zero, List.set_cons_succ]
          refine one_step 28 (by kernel_rfl) rfl (fun K hK => ?_)
          go_simp
          go_at_call 23
          have hc5 := may_any _ (.node 3 0 [t, u]) 3 0 (some ⟨w9.heap.size + 1 + 1, 0, none⟩) 2 2 v4 (HG.out.later hV4)
          rw [HM3q.out] at hc5
          (with_reducible refine hc5.mono ?_)
          rintro e v5 ⟨rfl, hb5⟩
          have hV5 : Below Wd.heap.size Wd v5 := hV4.trans (hb5.mono hV4.size)
          have V5 := six_held hV5 HV.out
          refine hK.out _ _ V5 (fun hHeld0 => ?_)
          clear hK K hHeld hc5 hb5 V4
          have hHeld := hHeld0
          clear hHeld0
          try simp only [Act.put, List.setIfInBounds_toArray, List.set_cons_zero, List.set_cons_succ]
          refine take_run 29 (.bool true) rfl (by kernel_rfl) (by kernel_rfl) (by kernel_rfl) (fun _ _ _ h => h) rfl hHeld (fun w => ?_) ?_
          · go_simp
          simp only [Act.put, List.setIfInBounds_toArray, List.set_cons_zero, List.set_cons_succ]
          refine take_run 30 (.bool true) rfl (by kernel_rfl) (by kernel_rfl) (by kernel_rfl) (fun _ _ _ h => h) rfl hHeld (fun w => ?_) ?_
          · go_simp
          simp only [Act.put, List.setIfInBounds_toArray, List.set_cons_zero, List.set_cons_succ]
          refine take_move 31 (.tmp 81) (.bool true) rfl rfl rfl (by kernel_rfl) (by kernel_rfl) (by kernel_rfl) (fun _ _ _ h => h) rfl hHeld ?_
          simp only [Act.put, List.setIfInBounds_toArray, List.set_cons_zero, List.set_cons_succ]
          refine take_if 32 (.agg #[.int .i64 2, .int .i64 0, .slice (some ⟨w9.heap.size, 0, none⟩) 2 2]) rfl (by kernel_rfl) (by kernel_rfl) (by kernel_rfl) (fun _ _ _ h => h) rfl hHeld (fun w' hw' => ?_) ?_
          · obtain ⟨q0, q1, q2, q3, q4, q5⟩ := hw'
            go_simp
          simp only [Act.put, List.setIfInBounds_toArray, List.set_cons_zero, List.set_cons_succ]
          refine take_if 33 (.agg #[.int .i64 3, .int .i64 0, .slice (some ⟨w9.heap.size + 1 + 1, 0, none⟩) 2 2]) rfl (by kernel_rfl) (by kernel_rfl) (by kernel_rfl) (fun _ _ _ h => h) rfl hHeld (fun w' hw' => ?_) ?_
          · obtain ⟨q0, q1, q2, q3, q4, q5⟩ := hw'
            go_simp
          simp only [Act.put, List.setIfInBounds_toArray, List.set_cons_zero, List.set_cons_succ]
          refine one_step 34 (by kernel_rfl) rfl (fun K hK => ?_)
          go_simp
          go_at_call 24
          have hc6 := psame_any _ _ (.node 2 0 [t, u]) (.node 3 0 [t, u]) 2 0 3 0 (some ⟨w9.heap.size, 0, none⟩) (some ⟨w9.heap.size + 1 + 1, 0, none⟩) 2 2 2 2 v5 (HP.out.later hV5) (HG.out.later hV5)
          rw [pair_other] at hc6
          (with_reducible refine hc6.mono ?_)
          rintro e v6 ⟨rfl, hb6⟩
          have hV6 : Below Wd.heap.size Wd v6 := hV5.trans (hb6.mono hV5.size)
          have V6 := six_held hV6 HV.out
          refine hK.out _ _ V6 (fun hHeld0 => ?_)
          clear hK K hHeld hc6 hb6 V5
          have hHeld := hHeld0
          clear hHeld0
          try simp only [Act.put, List.setIfInBounds_toArray, List.set_cons_zero, List.set_cons_succ]
          refine take_run 35 (.bool true) rfl (by kernel_rfl) (by kernel_rfl) (by kernel_rfl) (fun _ _ _ h => h) rfl hHeld (fun w => ?_) ?_
          · go_simp
          simp only [Act.put, List.setIfInBounds_toArray, List.set_cons_zero, List.set_cons_succ]
          refine take_run 36 (.bool true) rfl (by kernel_rfl) (by kernel_rfl) (by kernel_rfl) (fun _ _ _ h => h) rfl hHeld (fun w => ?_) ?_
          · go_simp
          simp only [Act.put, List.setIfInBounds_toArray, List.set_cons_zero, List.set_cons_succ]
          refine take_run 37 (.bool true) rfl (by kernel_rfl) (by kernel_rfl) (by kernel_rfl) (fun _ _ _ h => h) rfl hHeld (fun w => ?_) ?_
          · go_simp
          simp only [Act.put, List.setIfInBounds_toArray, List.set_cons_zero, List.set_cons_succ]
          refine wpAnyH_done (by kernel_rfl) ?_ _
          go_wp2
          go_ret
          exact ⟨rfl, TWO.out.trans ((HS9.out.trans (hV6.mono HS9.out.size)).mono TWO.out.size)⟩
end Go.Proofs.Ytgldbjlifcfjlaa
