/- The walk over the law KnowLacks. -/
import Derived.Test.YtcpeaeefphgbaaaKnwKeysW
namespace Go.Proofs.Ytcpeaeefphgbaaa
set_option linter.unusedVariables false
set_option linter.unusedSimpArgs false
open Go.RowKit

set_option maxRecDepth 100000 in
set_option maxHeartbeats 16000000 in
theorem klaw_lacks_any (P R : Nat → Prop) (l : List Te) (t : Te) (A : Option Addr) (m c : Nat) (k n : Int) (A3 : Option Addr) (m3 c3 : Nat) (w : World) (hI : Is P w (.node 0 0 l) 0 0 A m c) (hT : Is R w t k n A3 m3 c3) :
    Calls Try.prog 8 #[.slice A m c, .agg #[.int .i64 k, .int .i64 n, .slice A3 m3 c3]] w (GivesB true w) := by
  have hone := one_alloc w (.cells #[.int .i64 k, .int .i64 n, .slice A3 m3 c3] 24)
  have hcup := Cup.new w k n A3 m3 c3
  obtain ⟨W, hW⟩ : ∃ W, w.alloc (.cells #[.int .i64 k, .int .i64 n, .slice A3 m3 c3] 24) = W := ⟨_, rfl⟩
  rw [hW] at hone hcup
  have HW := Lib.hid hW
  have HC := Lib.hid hcup
  have HO := Lib.hid hone
  have hB0 := Below.refl W.heap.size W
  obtain ⟨l0, rowsL, e0, hl0, hle0, hmx0, hr0, hP0, hL0⟩ := (hI.later hone).inv
  injection e0 with _ _ e0
  subst e0
  have HRL := Lib.hid hr0
  have hrn : rowsL.length = m := hr0.len
  have HRLN := Lib.hid hrn
  have HLW := Lib.hid hL0
  have HLL := Lib.hid hl0
  have HL := Lib.hid (hI.later hone)
  have HT := Lib.hid (hT.later hone)
  have hm63 := hI.len.2.2.2
  have HLEN := Lib.hid hI.len.1
  obtain ⟨xa, hxa⟩ : ∃ b, lightsB l = b := ⟨_, rfl⟩
  obtain ⟨xb, hxb⟩ : ∃ b, lightB t 150 20 = b := ⟨_, rfl⟩
  obtain ⟨b9, h9⟩ : ∃ b, decide ((9 : Int) < m) = b := ⟨_, rfl⟩
  obtain ⟨xl, hxl⟩ : ∃ b, mayL l = b := ⟨_, rfl⟩
  obtain ⟨xt, hxt⟩ : ∃ b, t.may = b := ⟨_, rfl⟩
  have HALL := Lib.hid (show xl = true → m ≤ 9 → xt = true → _ from fun h1 h2 h3 => lacking_all (l := l) (t := t) (hxl.trans h1) (by rw [hI.len.1]; exact h2) (hxt.trans h3))
  have HXA := Lib.hid hxa
  have HXB := Lib.hid hxb
  have HXL := Lib.hid hxl
  have HXT := Lib.hid hxt
  obtain ⟨X, hX⟩ : ∃ X, lacking l t = X := ⟨_, rfl⟩
  rw [hX] at HALL
  have HX := Lib.hid hX
  clear hI hT hone hcup hW hxa hxb hxl hxt hX hr0 hrn hl0 hle0 hmx0 hP0 hL0
  cases xa
  case' true =>
    cases xb
    case' true =>
      cases b9
      case' false =>
        cases xl
        case' true => cases xt
  all_goals
    have HALLT := HALL
    clear HALL
    go_enter Try.func8, Try.ntmps8
    go_wp2_with (first
      | (go_at_call 10
         rw [HW.out]
         have hc1 := kawake_any W
         (with_reducible refine hc1.mono ?_)
         rintro e w1 ⟨rfl, hb1⟩
         have hB1 : Below W.heap.size W w1 := hB0.trans (hb1.mono hB0.size)
         clear hc1 hb1)
      | (go_at_call 11
         have hc2 := lightAll_any _ l A m c w1 (HL.out.later hB1)
         rw [HXA.out] at hc2
         (with_reducible refine hc2.mono ?_)
         rintro e w2 ⟨rfl, hb2⟩
         have hB2 : Below W.heap.size W w2 := hB1.trans (hb2.mono hB1.size)
         have S_w2 := (HC.out.below hB2).cells
         clear hc2 hb2)
      | (go_at_call 12
         have hc3 := light_any _ t k n A3 m3 c3 w2 (HT.out.later hB2)
         rw [HXB.out] at hc3
         (with_reducible refine hc3.mono ?_)
         rintro e w3 ⟨rfl, hb3⟩
         have hB3 : Below W.heap.size W w3 := hB2.trans (hb3.mono hB2.size)
         have S_w3 := (HC.out.below hB3).cells
         clear hc3 hb3)
      | (go_at_call 20
         have hc4 := kmay_any _ l A m c w3 (HL.out.later hB3)
         rw [HXL.out] at hc4
         (with_reducible refine hc4.mono ?_)
         rintro e w4 ⟨rfl, hb4⟩
         have hB4 : Below W.heap.size W w4 := hB3.trans (hb4.mono hB3.size)
         have S_w4 := (HC.out.below hB4).cells
         clear hc4 hb4)
      | (go_at_call 23
         have hc5 := may_any _ t k n A3 m3 c3 w4 (HT.out.later hB4)
         rw [HXT.out] at hc5
         (with_reducible refine hc5.mono ?_)
         rintro e w5 ⟨rfl, hb5⟩
         have hB5 : Below W.heap.size W w5 := hB4.trans (hb5.mono hB4.size)
         have S_w5 := (HC.out.below hB5).cells
         clear hc5 hb5)
      | (go_at_call 16
         have hc6 := klacks_any _ _ l t A m c k n A3 m3 c3 w5 (HL.out.later hB5) (HT.out.later hB5)
         (with_reducible refine hc6.mono ?_)
         rintro e w6 ⟨A8, m8, c8, rfl, hI8, hb6⟩
         have hB6 : Below W.heap.size W w6 := hB5.trans (hb6.mono hB5.size)
         rw [HX.out] at hI8
         have hm8 := hI8.len.1
         have hm863 := hI8.len.2.2.2
         have HI8 := Lib.hid hI8
         clear hI8
         clear hc6 hb6))
  all_goals first
    | (go_ret; exact ⟨rfl, HO.out.trans (hB5.mono HO.out.size)⟩)
    | (go_ret; exact ⟨rfl, HO.out.trans (hB4.mono HO.out.size)⟩)
    | (go_ret; exact ⟨rfl, HO.out.trans (hB3.mono HO.out.size)⟩)
    | skip
  have h9' : m ≤ 9 := by rw [decide_eq_false_iff_not] at h9; omega
  obtain ⟨h30, heach, hmk, hmore⟩ := HALLT.out (by first | rfl | trivial) h9' (by first | rfl | trivial)
  have HEACH := Lib.hid heach
  have HMK := Lib.hid hmk
  have HMORE := Lib.hid hmore
  have HX8 := Lib.hid hm8
  rw [hm8] at h30
  clear HALLT heach hmk hmore hm8 S_w2 S_w3 S_w4 S_w5
  go_loopw [9] (fun v wr => ∃ j : Nat, j ≤ m8 ∧ v = .int .i64 j ∧ Below W.heap.size W wr ∧ Below w6.heap.size w6 wr) (fun v _ => m8 - (intOf v).toNat)
  case atStart => exact ⟨0, Nat.zero_le _, rfl, hB6, Below.refl _ _⟩
  case round =>
    obtain ⟨j, hj, rfl, hbw, hb8⟩ := hrel
    have HBW := Lib.hid hbw
    have HB8 := Lib.hid hb8
    by_cases hlt : j < m8
    · have hjl : j < X.length := by rw [HX8.out]; exact hlt
      obtain ⟨b, off, k', n', A', m', c', rfl, hI', z0, z1, z2⟩ := HI8.out.at_ hb8 j hlt hjl
      obtain ⟨⟨nn, hxe⟩, hno⟩ := HEACH.out X[j] (List.getElem_mem hjl)
      have hk1 : k' = 1 := by have := hI'.kind; rw [hxe] at this; exact this.symm
      subst hk1
      have HC1 := Lib.hid (kmakes_any _ _ l X[j] A m c 1 n' A' m' c' wr (HL.out.later hbw) hI')
      rw [hno] at HC1
      have q0 : 0 ≤ (j : Int) := by omega
      have q1 : (j : Int) < m8 := by omega
      clear hbw hb8 hI' hxe hno
      go_wp2_with (go_at_call 21; (with_reducible refine HC1.out.mono ?_); rintro e w20 ⟨rfl, hb20⟩)
      go_roundw
      case rel => exact ⟨j + 1, by omega, by go_num, HBW.out.trans (hb20.mono HBW.out.size), HB8.out.trans (hb20.mono HB8.out.size)⟩
      case measure => simp [intOf]; omega
    · obtain rfl : j = m8 := by omega
      obtain ⟨_, rowsX, e5, hl5, _, _, hr5, _, hL5⟩ := (HI8.out.later hb8).inv
      injection e5 with _ _ e5
      subst e5
      have HR5 := Lib.hid hr5
      have hrn5 : rowsX.length = j := hr5.len
      have HRN5 := Lib.hid hrn5
      have HBOTH := Lib.hid (show ∀ w' v, OwnR 24 3 w' wr.heap.size v (rowsL ++ rowsX) → Below wr.heap.size wr w' → ∃ A' m' c', v = .slice A' m' c' ∧ Is (fun b => True ∨ wr.heap.size ≤ b) w' (.node 0 0 (l ++ X)) 0 0 A' m' c' from fun w' v h hb => is_both (P := fun _ => True) (HLL.out.trans HRLN.out.symm) (hl5.trans hrn5.symm) (fun i hi => ((HLW.out i hi).both.keep (fun b hh => hbw.block b hh.2)).mono fun _ _ => trivial) (fun i hi => (hL5 i hi).mono fun _ _ => trivial) h hb)
      have hrw := HRL.out.below hbw
      have HRW := Lib.hid hrw
      clear hr5 hL5 hl5 hrw
      have hx8 := HX8.out
      have hmk := HMK.out
      obtain ⟨b0, h0⟩ : ∃ b, decide (X.length = 0) = b := ⟨_, rfl⟩
      rw [h0] at hmk
      rw [hx8] at h0
      have h0i : ((j : Int) == 0) = b0 := by
        rw [← h0]
        by_cases hz : j = 0
        · subst hz; rfl
        · rw [decide_eq_false hz, beq_eq_false_iff_ne]; omega
      have q30 : (j : Int) ≤ 30 := by omega
      have HMK2 := Lib.hid hmk
      have hcr := (HC.out.below hbw).cells
      clear hbw hb8 hx8 hmk h0
      go_wp2_with (first
        | (at_builtin
           refine wpList_append_r rfl 22 24 3 40 _ _ rfl Try.underlying22 info_term (by omega) wr.heap.size (.slice none 0 0) [] rfl (OwnR.nil _ _ _ _) A m c rowsL rfl HRW.out (by simp; omega) (by simp; omega) (Nat.le_refl _) ?_
           intro v21 w21 hown21 hg21
           have hbr21 : Below wr.heap.size wr w21 := (Below.refl _ _).grown hg21 (Nat.le_refl _) (fun g hg => by simp [Value.ownBlock] at hg)
           clear hg21)
        | (at_builtin
           refine wpList_append_r rfl 22 24 3 40 _ _ rfl Try.underlying22 info_term (by omega) wr.heap.size v21 ([] ++ rowsL) rfl hown21 A8 j c8 rowsX rfl (HR5.out.below hbr21) (by have := HRLN.out; simp; omega) (by have := HRLN.out; simp; omega) hbr21.size ?_
           intro v22 w22 hown22 hg22
           rw [List.nil_append] at hown22
           have hbr22 : Below wr.heap.size wr w22 := hbr21.grown hg22 hbr21.size (fun g hg => (hown21.size g hg).1)
           obtain ⟨A13, m13, c13, rfl, hI13⟩ := HBOTH.out _ _ hown22 hbr22
           have HM := Lib.hid hI13
           have hB22 : Below W.heap.size W w22 := HBW.out.trans (hbr22.mono HBW.out.size)
           have S_w22 := (HC.out.below hB22).cells
           clear hown22 hg22 hI13 hown21)
        | (go_at_call 21
           have hc23 := kmakes_any _ _ l t A m c k n A3 m3 c3 w22 (HL.out.later hB22) (HT.out.later hB22)
           rw [HMK2.out] at hc23
           (with_reducible refine hc23.mono ?_)
           rintro e w23 ⟨rfl, hb23⟩
           have hB23 : Below W.heap.size W w23 := hB22.trans (hb23.mono hB22.size)
           have S_w23 := (HC.out.below hB23).cells
           have HMa := Lib.hid (HM.out.later hb23)
           clear hc23 hb23)
        | (go_at_call 21
           have hc24 := kmakes_any _ _ (l ++ X) t A13 m13 c13 k n A3 m3 c3 w23 HMa.out (HT.out.later hB23)
           rw [HMORE.out] at hc24
           (with_reducible refine hc24.mono ?_)
           rintro e w24 ⟨rfl, hb24⟩
           have hB24 : Below W.heap.size W w24 := hB23.trans (hb24.mono hB23.size)
           clear hc24 hb24))
      go_ret
      exact ⟨by simp, HO.out.trans (hB24.mono HO.out.size)⟩
end Go.Proofs.Ytcpeaeefphgbaaa
