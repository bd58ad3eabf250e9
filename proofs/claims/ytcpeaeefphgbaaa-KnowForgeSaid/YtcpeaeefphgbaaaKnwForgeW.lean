/- The walk over the law KnowForge. -/
import Derived.Test.YtcpeaeefphgbaaaKnwCutW
namespace Go.Proofs.Ytcpeaeefphgbaaa
set_option linter.unusedVariables false
set_option linter.unusedSimpArgs false
open Go.RowKit

set_option maxRecDepth 100000 in
set_option maxHeartbeats 16000000 in
theorem kforge_any (P Q R : Nat → Prop) (l : List Te) (u t : Te) (A : Option Addr) (m c : Nat) (k n : Int) (A2 : Option Addr) (m2 c2 : Nat) (k3 n3 : Int) (A3 : Option Addr) (m3 c3 : Nat) (w : World) (hI : Is P w (.node 0 0 l) 0 0 A m c) (hU : Is Q w u k n A2 m2 c2) (hT : Is R w t k3 n3 A3 m3 c3) :
    Calls Try.prog 6 #[.slice A m c, .agg #[.int .i64 k, .int .i64 n, .slice A2 m2 c2], .agg #[.int .i64 k3, .int .i64 n3, .slice A3 m3 c3]] w (GivesB true w) := by
  obtain ⟨hone, hcup1, hcup2⟩ := two_cups w k n A2 m2 c2 k3 n3 A3 m3 c3
  obtain ⟨W, hW⟩ : ∃ W, (w.alloc (.cells #[.int .i64 k, .int .i64 n, .slice A2 m2 c2] 24)).alloc (.cells #[.int .i64 k3, .int .i64 n3, .slice A3 m3 c3] 24) = W := ⟨_, rfl⟩
  rw [hW] at hone hcup1 hcup2
  have HW := Lib.hid hW
  have HC1 := Lib.hid hcup1
  have HC2 := Lib.hid hcup2
  have HO := Lib.hid hone
  have hB0 := Below.refl W.heap.size W
  have HL := Lib.hid (hI.later hone)
  have HU := Lib.hid (hU.later hone)
  have HT := Lib.hid (hT.later hone)
  obtain ⟨xa, hxa⟩ : ∃ b, lightsB l = b := ⟨_, rfl⟩
  obtain ⟨xb, hxb⟩ : ∃ b, lightB u 150 20 = b := ⟨_, rfl⟩
  obtain ⟨xc, hxc⟩ : ∃ b, lightB t 150 20 = b := ⟨_, rfl⟩
  obtain ⟨xl, hxl⟩ : ∃ b, mayL l = b := ⟨_, rfl⟩
  obtain ⟨xt, hxt⟩ : ∃ b, (Te.node 3 0 [u, t]).may = b := ⟨_, rfl⟩
  obtain ⟨xi, hxi⟩ : ∃ b, isIn (partsOf l) (.node 3 0 [u, t]) = b := ⟨_, rfl⟩
  obtain ⟨x1, hx1⟩ : ∃ b, makes l u = b := ⟨_, rfl⟩
  obtain ⟨x2, hx2⟩ : ∃ b, makes l t = b := ⟨_, rfl⟩
  have HMK := Lib.hid (show xl = true → xt = true → makes l (.node 3 0 [u, t]) = (xi || (x1 && x2)) from fun h1 h2 => by
    subst hxl hxt hxi hx1 hx2
    rw [makes_tag h1 h2, partsOf_is h1])
  have HXA := Lib.hid hxa
  have HXB := Lib.hid hxb
  have HXC := Lib.hid hxc
  have HXL := Lib.hid hxl
  have HXT := Lib.hid hxt
  have HXI := Lib.hid hxi
  have HX1 := Lib.hid hx1
  have HX2 := Lib.hid hx2
  clear hI hU hT hone hcup1 hcup2 hW hxa hxb hxc hxl hxt hxi hx1 hx2
  cases xa
  case' true =>
    cases xb
    case' true =>
      cases xc
      case' true =>
        cases xl
        case' true =>
          cases xt
          case' true =>
            cases xi
            case' false =>
              cases x1
              case' true => cases x2
  all_goals
    have HMKT := HMK
    clear HMK
    go_enter Try.func6, Try.ntmps6
    go_wp2_with (first
      | (go_at_call 10
         rw [HW.out]
         have hc1 := kawake_any W
         (with_reducible refine hc1.mono ?_)
         rintro e w1 ⟨rfl, hb1⟩
         have hB1 : Below W.heap.size W w1 := hB0.trans (hb1.mono hB0.size)
         clear hc1 hb1)
      | (go_at_call 11
         have hc2 := lightAll_any _ l A m c w1 (HL.out.later hB1)
         rw [HXA.out] at hc2
         (with_reducible refine hc2.mono ?_)
         rintro e w2 ⟨rfl, hb2⟩
         have hB2 : Below W.heap.size W w2 := hB1.trans (hb2.mono hB1.size)
         have S_w2 := And.intro (HC1.out.below hB2).cells (HC2.out.below hB2).cells
         clear hc2 hb2)
      | (go_at_call 12
         have hc3 := light_any _ u k n A2 m2 c2 w2 (HU.out.later hB2)
         rw [HXB.out] at hc3
         (with_reducible refine hc3.mono ?_)
         rintro e w3 ⟨rfl, hb3⟩
         have hB3 : Below W.heap.size W w3 := hB2.trans (hb3.mono hB2.size)
         have S_w3 := And.intro (HC1.out.below hB3).cells (HC2.out.below hB3).cells
         clear hc3 hb3)
      | (go_at_call 12
         have hc4 := light_any _ t k3 n3 A3 m3 c3 w3 (HT.out.later hB3)
         rw [HXC.out] at hc4
         (with_reducible refine hc4.mono ?_)
         rintro e w4 ⟨rfl, hb4⟩
         have hB4 : Below W.heap.size W w4 := hB3.trans (hb4.mono hB3.size)
         have S_w4 := And.intro (HC1.out.below hB4).cells (HC2.out.below hB4).cells
         clear hc4 hb4)
      | (go_at_call 24
         have hc5 := tag_any _ _ u t k n k3 n3 A2 A3 m2 c2 m3 c3 w4 (HU.out.later hB4) (HT.out.later hB4)
         (with_reducible refine hc5.mono ?_)
         rintro e w5 ⟨A5, rfl, hI5, hb5⟩
         have hB5 : Below W.heap.size W w5 := hB4.trans (hb5.mono hB4.size)
         have ho5 := one_alloc w5 (.cells #[.int .i64 3, .int .i64 0, .slice A5 2 2] 24)
         have hc5 := Cup.new w5 3 0 A5 2 2
         obtain ⟨V, hV⟩ : ∃ V, w5.alloc (.cells #[.int .i64 3, .int .i64 0, .slice A5 2 2] 24) = V := ⟨_, rfl⟩
         rw [hV] at ho5 hc5
         have hBV := hB5.trans (ho5.mono hB5.size)
         have HV := Lib.hid hV
         have HC5 := Lib.hid hc5
         have HI5 := Lib.hid (hI5.later ho5)
         have HLV := Lib.hid (HL.out.later hBV)
         have HUV := Lib.hid (HU.out.later hBV)
         have HTV := Lib.hid (HT.out.later hBV)
         have HC1V := Lib.hid (HC1.out.below hBV)
         have HC2V := Lib.hid (HC2.out.below hBV)
         have HOV := Lib.hid (HO.out.trans (hBV.mono HO.out.size))
         have hV0 := Below.refl V.heap.size V
         clear ho5 hc5 hV hI5 hBV
         clear hc5 hb5)
      | (go_at_call 20
         rw [HV.out]
         have hc6 := kmay_any _ l A m c V (HLV.out.later hV0)
         rw [HXL.out] at hc6
         (with_reducible refine hc6.mono ?_)
         rintro e w6 ⟨rfl, hb6⟩
         have hB6 : Below V.heap.size V w6 := hV0.trans (hb6.mono hV0.size)
         have S_w6 := And.intro (HC5.out.below hB6).cells (And.intro (HC1V.out.below hB6).cells (HC2V.out.below hB6).cells)
         clear hc6 hb6)
      | (go_at_call 23
         have hc7 := may_any _ (.node 3 0 [u, t]) 3 0 A5 2 2 w6 (HI5.out.later hB6)
         rw [HXT.out] at hc7
         (with_reducible refine hc7.mono ?_)
         rintro e w7 ⟨rfl, hb7⟩
         have hB7 : Below V.heap.size V w7 := hB6.trans (hb7.mono hB6.size)
         have S_w7 := And.intro (HC5.out.below hB7).cells (And.intro (HC1V.out.below hB7).cells (HC2V.out.below hB7).cells)
         clear hc7 hb7))
  all_goals first
    | (go_ret; exact ⟨rfl, HOV.out.trans (hB7.mono HOV.out.size)⟩)
    | (go_ret; exact ⟨rfl, HOV.out.trans (hB6.mono HOV.out.size)⟩)
    | (go_ret; rw [HV.out]; exact ⟨rfl, HOV.out⟩)
    | skip
  all_goals
    have HMK := Lib.hid (HMKT.out (by first | rfl | trivial) (by first | rfl | trivial))
    have hBd : Below V.heap.size V w7.drew := hB7.drew
    have Sd := (HC5.out.below hBd).cells
    clear S_w2 S_w3 S_w4 S_w6 S_w7
    go_region_held3 (fun w' => w'.cell? ⟨w5.heap.size, 0, none⟩ = some (.int .i64 3) ∧ w'.cell? ⟨w5.heap.size, 1, none⟩ = some (.int .i64 0) ∧ w'.cell? ⟨w5.heap.size, 2, none⟩ = some (.slice A5 2 2)) (first | with_reducible exact Sd | with_reducible exact S_w8 | with_reducible exact S_w9) (first
      | (go_at_call 14
         have hc8 := kparts_any _ l A m c w7.drew (HLV.out.later hBd)
         (with_reducible refine hc8.mono ?_)
         rintro e w8 ⟨A14, m14, c14, rfl, hI14, hb8⟩
         have hB8 : Below V.heap.size V w8 := hBd.trans (hb8.mono hBd.size)
         have S_w8 := (HC5.out.below hB8).cells
         have HI14 := Lib.hid hI14
         clear hI14
         clear hc8 hb8)
      | (go_at_call 25
         have hc9 := in_any _ _ (partsOf l) (.node 3 0 [u, t]) A14 m14 c14 3 0 A5 2 2 w8 HI14.out (HI5.out.later hB8)
         rw [HXI.out] at hc9
         (with_reducible refine hc9.mono ?_)
         rintro e w9 ⟨rfl, hb9⟩
         have hB9 : Below V.heap.size V w9 := hB8.trans (hb9.mono hB8.size)
         have S_w9 := (HC5.out.below hB9).cells
         clear hc9 hb9))
    clear S_w8 S_w9 Sd
    have S_w9 := And.intro (HC5.out.below hB9).cells (And.intro (HC1V.out.below hB9).cells (HC2V.out.below hB9).cells)
    go_wp2_with (first
      | (go_at_call 21
         have hc10 := kmakes_any _ _ l (.node 3 0 [u, t]) A m c 3 0 A5 2 2 w9 (HLV.out.later hB9) (HI5.out.later hB9)
         rw [HMK.out] at hc10
         (with_reducible refine hc10.mono ?_)
         rintro e w10 ⟨rfl, hb10⟩
         have hB10 : Below V.heap.size V w10 := hB9.trans (hb10.mono hB9.size)
         have S_w10 := And.intro (HC5.out.below hB10).cells (And.intro (HC1V.out.below hB10).cells (HC2V.out.below hB10).cells)
         clear hc10 hb10)
      | (go_at_call 21
         have hc11 := kmakes_any _ _ l u A m c k n A2 m2 c2 w10 (HLV.out.later hB10) (HUV.out.later hB10)
         rw [HX1.out] at hc11
         (with_reducible refine hc11.mono ?_)
         rintro e w11 ⟨rfl, hb11⟩
         have hB11 : Below V.heap.size V w11 := hB10.trans (hb11.mono hB10.size)
         have S_w11 := And.intro (HC5.out.below hB11).cells (And.intro (HC1V.out.below hB11).cells (HC2V.out.below hB11).cells)
         clear hc11 hb11)
      | (go_at_call 21
         have hc12 := kmakes_any _ _ l t A m c k3 n3 A3 m3 c3 w11 (HLV.out.later hB11) (HTV.out.later hB11)
         rw [HX2.out] at hc12
         (with_reducible refine hc12.mono ?_)
         rintro e w12 ⟨rfl, hb12⟩
         have hB12 : Below V.heap.size V w12 := hB11.trans (hb12.mono hB11.size)
         have S_w12 := And.intro (HC5.out.below hB12).cells (And.intro (HC1V.out.below hB12).cells (HC2V.out.below hB12).cells)
         clear hc12 hb12))
    go_ret
    first
      | exact ⟨rfl, HOV.out.trans (hB12.mono HOV.out.size)⟩
      | exact ⟨rfl, HOV.out.trans (hB11.mono HOV.out.size)⟩
      | exact ⟨rfl, HOV.out.trans (hB10.mono HOV.out.size)⟩
end Go.Proofs.Ytcpeaeefphgbaaa
