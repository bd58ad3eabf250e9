/- The walk over the law KnowTells. -/
import Derived.Test.YtcpeaeefphgbaaaKnwAwake
namespace Go.Proofs.Ytcpeaeefphgbaaa
set_option linter.unusedVariables false
set_option linter.unusedSimpArgs false
open Go.RowKit

set_option maxRecDepth 100000 in
set_option maxHeartbeats 8000000 in
theorem ktells_any (P Q R : Nat → Prop) (l l2 : List Te) (t : Te) (A : Option Addr) (m c : Nat) (A2 : Option Addr) (m2 c2 : Nat) (k n : Int) (A3 : Option Addr) (m3 c3 : Nat) (w : World) (hI : Is P w (.node 0 0 l) 0 0 A m c) (hJ : Is Q w (.node 0 0 l2) 0 0 A2 m2 c2) (hT : Is R w t k n A3 m3 c3) :
    Calls Try.prog 3 #[.slice A m c, .slice A2 m2 c2, .agg #[.int .i64 k, .int .i64 n, .slice A3 m3 c3]] w (GivesB true w) := by
  have hone := one_alloc w (.cells #[.int .i64 k, .int .i64 n, .slice A3 m3 c3] 24)
  have hcup := Cup.new w k n A3 m3 c3
  obtain ⟨W, hW⟩ : ∃ W, w.alloc (.cells #[.int .i64 k, .int .i64 n, .slice A3 m3 c3] 24) = W := ⟨_, rfl⟩
  rw [hW] at hone hcup
  have HW := Lib.hid hW
  have HC := Lib.hid hcup
  have HO := Lib.hid hone
  have hB0 := Below.refl W.heap.size W
  have HL := Lib.hid (hI.later hone)
  have HK := Lib.hid (hJ.later hone)
  have HT := Lib.hid (hT.later hone)
  have hm := hI.len.2.2.2
  have hm2 := hJ.len.2.2.2
  clear hI hJ hT hone hcup hW
  obtain ⟨my, hmy⟩ : ∃ b, mayL l = b := ⟨_, rfl⟩
  obtain ⟨mk, hmk⟩ : ∃ b, makes l t = b := ⟨_, rfl⟩
  obtain ⟨sm, hsm⟩ : ∃ b, Te.sames l l2 = b := ⟨_, rfl⟩
  have HMY := Lib.hid hmy
  have HMK := Lib.hid hmk
  have HSM := Lib.hid hsm
  clear hmy hmk hsm
  cases ha : lightsB l <;> cases hb : lightsB l2 <;> cases hc : lightB t 150 20
  all_goals
    have HA := Lib.hid ha
    have HB2 := Lib.hid hb
    have HC2 := Lib.hid hc
    clear ha hb hc
    go_enter Try.func3, Try.ntmps3
    go_wp2_with (first
      | (go_at_call 10
         rw [HW.out]
         have hc1 := kawake_any W
         (with_reducible refine hc1.mono ?_)
         rintro e w1 ⟨rfl, hb1⟩
         have hB1 : Below W.heap.size W w1 := hB0.trans (hb1.mono hB0.size)
         clear hc1 hb1)
      | (go_at_call 11
         have hc2 := lightAll_any _ l A m c w1 (HL.out.later hB1)
         rw [HA.out] at hc2
         (with_reducible refine hc2.mono ?_)
         rintro e w2 ⟨rfl, hb2⟩
         have hB2 : Below W.heap.size W w2 := hB1.trans (hb2.mono hB1.size)
         clear hc2 hb2)
      | (go_at_call 11
         have hc3 := lightAll_any _ l2 A2 m2 c2 w2 (HK.out.later hB2)
         rw [HB2.out] at hc3
         (with_reducible refine hc3.mono ?_)
         rintro e w3 ⟨rfl, hb3⟩
         have hB3 : Below W.heap.size W w3 := hB2.trans (hb3.mono hB2.size)
         have S_w3 := (HC.out.below hB3).cells
         clear hc3 hb3)
      | (go_at_call 12
         have hc4 := light_any _ t k n A3 m3 c3 w3 (HT.out.later hB3)
         rw [HC2.out] at hc4
         (with_reducible refine hc4.mono ?_)
         rintro e w4 ⟨rfl, hb4⟩
         have hB4 : Below W.heap.size W w4 := hB3.trans (hb4.mono hB3.size)
         clear hc4 hb4)
      | (go_at_call 14
         have hc5 := kparts_any _ l A m c w4 (HL.out.later hB4)
         (with_reducible refine hc5.mono ?_)
         rintro e w5 ⟨A5, m5, c5, rfl, hI5, hb5⟩
         have hB5 : Below W.heap.size W w5 := hB4.trans (hb5.mono hB4.size)
         have HI5 := Lib.hid hI5
         clear hI5
         clear hc5 hb5)
      | (go_at_call 15
         have hc6 := rparts_any _ l A m c w5 (HL.out.later hB5) (lights_small HA.out) (by have := lights_sizes HA.out; omega)
         (with_reducible refine hc6.mono ?_)
         rintro e w6 ⟨A6, m6, c6, rfl, hI6, hb6⟩
         have hB6 : Below W.heap.size W w6 := hB5.trans (hb6.mono hB5.size)
         have HI6 := Lib.hid hI6
         have HI5a := Lib.hid (HI5.out.later hb6)
         clear hI6
         clear hc6 hb6)
      | (go_at_call 13
         have hc7 := lists_any _ _ (partsOf l) (partsOf l) A5 m5 c5 A6 m6 c6 w6 HI5a.out HI6.out
         rw [sames_refl] at hc7
         (with_reducible refine hc7.mono ?_)
         rintro e w7 ⟨rfl, hb7⟩
         have hB7 : Below W.heap.size W w7 := hB6.trans (hb7.mono hB6.size)
         clear hc7 hb7))
  all_goals first
    | (go_ret; exact ⟨rfl, HO.out.trans (hB4.mono HO.out.size)⟩)
    | skip
  have hBd : Below W.heap.size W w7.drew := hB7.drew
  have Sd := (HC.out.below hBd).cells
  go_region_held3 (fun w' => w'.cell? ⟨w.heap.size, 0, none⟩ = some (.int .i64 k) ∧ w'.cell? ⟨w.heap.size, 1, none⟩ = some (.int .i64 n) ∧ w'.cell? ⟨w.heap.size, 2, none⟩ = some (.slice A3 m3 c3)) (first | with_reducible exact Sd | with_reducible exact S_w8 | with_reducible exact S_w9 | with_reducible exact S_w10) (first
    | (go_at_call 16
       have hc8 := klacks_any _ _ l t A m c k n A3 m3 c3 w7.drew (HL.out.later hBd) (HT.out.later hBd)
       (with_reducible refine hc8.mono ?_)
       rintro e w8 ⟨A8, m8, c8, rfl, hI8, hb8⟩
       have hB8 : Below W.heap.size W w8 := hBd.trans (hb8.mono hBd.size)
       have S_w8 := (HC.out.below hB8).cells
       have HI8 := Lib.hid hI8
       clear hI8
       clear hc8 hb8)
    | (go_at_call 17
       have hc9 := rlacks_any _ _ l t A m c k n A3 m3 c3 w8 (HL.out.later hB8) (HT.out.later hB8) (lights_small HA.out) (by have := lights_sizes HA.out; omega) (by have := (light_small HC2.out).1; omega)
       (with_reducible refine hc9.mono ?_)
       rintro e w9 ⟨A9, m9, c9, rfl, hI9, hb9⟩
       have hB9 : Below W.heap.size W w9 := hB8.trans (hb9.mono hB8.size)
       have S_w9 := (HC.out.below hB9).cells
       have HI9 := Lib.hid hI9
       have HI8a := Lib.hid (HI8.out.later hb9)
       clear hI9
       clear hc9 hb9)
    | (go_at_call 13
       have hc10 := lists_any _ _ (lacking l t) (lacking l t) A8 m8 c8 A9 m9 c9 w9 HI8a.out HI9.out
       rw [sames_refl] at hc10
       (with_reducible refine hc10.mono ?_)
       rintro e w10 ⟨rfl, hb10⟩
       have hB10 : Below W.heap.size W w10 := hB9.trans (hb10.mono hB9.size)
       have S_w10 := (HC.out.below hB10).cells
       clear hc10 hb10))
  clear S_w8 S_w9
  go_wp2_with (first
    | (go_at_call 18
       have hc11 := rmayL_any _ l A m c w10 (HL.out.later hB10) (lights_small HA.out)
       rw [HMY.out] at hc11
       (with_reducible refine hc11.mono ?_)
       rintro e w11 ⟨rfl, hb11⟩
       have hB11 : Below W.heap.size W w11 := hB10.trans (hb11.mono hB10.size)
       have S_w11 := (HC.out.below hB11).cells
       clear hc11 hb11)
    | (go_at_call 19
       have hc12 := rmakes_any _ _ l t A m c k n A3 m3 c3 w11 (HL.out.later hB11) (HT.out.later hB11) (lights_small HA.out) (by have := lights_sizes HA.out; omega) (by have := (light_small HC2.out).1; omega)
       rw [HMK.out] at hc12
       (with_reducible refine hc12.mono ?_)
       rintro e w12 ⟨rfl, hb12⟩
       have hB12 : Below W.heap.size W w12 := hB11.trans (hb12.mono hB11.size)
       clear hc12 hb12)
    | (go_at_call 13
       have hc13 := lists_any _ _ l l2 A m c A2 m2 c2 w12 (HL.out.later hB12) (HK.out.later hB12)
       rw [HSM.out] at hc13
       (with_reducible refine hc13.mono ?_)
       rintro e w13 ⟨rfl, hb13⟩
       have hB13 : Below W.heap.size W w13 := hB12.trans (hb13.mono hB12.size)
       clear hc13 hb13)
    | (go_at_call 20
       have hc14 := kmay_any _ l A m c w13 (HL.out.later hB13)
       rw [HMY.out] at hc14
       (with_reducible refine hc14.mono ?_)
       rintro e w14 ⟨rfl, hb14⟩
       have hB14 : Below W.heap.size W w14 := hB13.trans (hb14.mono hB13.size)
       have S_w14 := (HC.out.below hB14).cells
       clear hc14 hb14)
    | (go_at_call 21
       have hc15 := kmakes_any _ _ l t A m c k n A3 m3 c3 w14 (HL.out.later hB14) (HT.out.later hB14)
       rw [HMK.out] at hc15
       (with_reducible refine hc15.mono ?_)
       rintro e w15 ⟨rfl, hb15⟩
       have hB15 : Below W.heap.size W w15 := hB14.trans (hb15.mono hB14.size)
       clear hc15 hb15)
    | (go_at_call 22
       have hc16 := ksame_any _ _ l l2 A m c A2 m2 c2 w15 (HL.out.later hB15) (HK.out.later hB15)
       rw [HSM.out] at hc16
       (with_reducible refine hc16.mono ?_)
       rintro e w16 ⟨rfl, hb16⟩
       have hB16 : Below W.heap.size W w16 := hB15.trans (hb16.mono hB15.size)
       clear hc16 hb16))
  go_ret
  exact ⟨rfl, HO.out.trans (hB16.mono HO.out.size)⟩
end Go.Proofs.Ytcpeaeefphgbaaa
