/- The walk over the law KnowKeys. -/
import Derived.Test.YtcpeaeefphgbaaaKnwCutW
namespace Go.Proofs.Ytcpeaeefphgbaaa
set_option linter.unusedVariables false
set_option linter.unusedSimpArgs false
open Go.RowKit

def plainB (t : Te) : Bool := decide (t.kind = 0 ∨ t.kind = 3)
theorem Is.kind {P : Nat → Prop} {w : World} {t : Te} {k n : Int} {A : Option Addr} {m c : Nat} (h : Is P w t k n A m c) : t.kind = k := by
  obtain ⟨l, rows, rfl, _⟩ := h.inv
  rfl
theorem plain_of {t : Te} {k : Int} {e0 e3 : Bool} (hk : t.kind = k) (h0 : (k == 0) = e0) (h3 : (k == 3) = e3) : plainB t = (e0 || e3) := by
  subst hk
  rw [plainB, ← h0, ← h3]
  by_cases h : t.kind = 0 <;> by_cases g : t.kind = 3 <;> simp [h, g]
set_option maxRecDepth 100000 in
set_option maxHeartbeats 16000000 in
theorem kkeys_any (P : Nat → Prop) (l : List Te) (A : Option Addr) (m c : Nat) (n : Int) (W : World) (hI : Is P W (.node 0 0 l) 0 0 A m c) :
    Calls Try.prog 7 #[.slice A m c, .int .i64 n] W (GivesB true W) := by
  have HL := Lib.hid hI
  have hm63 := hI.len.2.2.2
  have HLEN := Lib.hid hI.len.1
  have hB0 := Below.refl W.heap.size W
  obtain ⟨xa, hxa⟩ : ∃ b, lightsB l = b := ⟨_, rfl⟩
  obtain ⟨bn, hbn⟩ : ∃ b, decide (n < 0) = b := ⟨_, rfl⟩
  obtain ⟨xl, hxl⟩ : ∃ b, mayL l = b := ⟨_, rfl⟩
  obtain ⟨xi, hxi⟩ : ∃ b, isIn (partsOf l) (.node 1 n []) = b := ⟨_, rfl⟩
  obtain ⟨xp, hxp⟩ : ∃ b, l.all plainB = b := ⟨_, rfl⟩
  have HMK := Lib.hid (show xl = true → bn = false → makes l (.node 1 n []) = xi from fun h1 h2 => by
    subst hxl hxi hbn
    rw [decide_eq_false_iff_not] at h2
    rw [makes_key h1 (by omega), partsOf_is h1])
  have HPL := Lib.hid (show xl = true → xp = true → xi = false from fun h1 h2 => by
    subst hxl hxi hxp
    rw [partsOf_is h1]
    exact known_plain (fun t ht => by have := List.all_eq_true.1 h2 t ht; simpa [plainB] using this) n)
  have HXA := Lib.hid hxa
  have HXL := Lib.hid hxl
  have HXI := Lib.hid hxi
  have HXP := Lib.hid hxp
  clear hI hxa hxl hxi hxp
  cases xa
  case' true =>
    cases bn
    case' false => cases xl
  all_goals
    have HMKT := HMK
    have HPLT := HPL
    clear HMK HPL
    go_enter Try.func7, Try.ntmps7
    go_wp2_with (first
      | (go_at_call 10
         have hc1 := kawake_any W
         (with_reducible refine hc1.mono ?_)
         rintro e w1 ⟨rfl, hb1⟩
         have hB1 : Below W.heap.size W w1 := hB0.trans (hb1.mono hB0.size)
         clear hc1 hb1)
      | (go_at_call 11
         have hc2 := lightAll_any _ l A m c w1 (HL.out.later hB1)
         rw [HXA.out] at hc2
         (with_reducible refine hc2.mono ?_)
         rintro e w2 ⟨rfl, hb2⟩
         have hB2 : Below W.heap.size W w2 := hB1.trans (hb2.mono hB1.size)
         clear hc2 hb2)
      | (go_at_call 20
         have hc3 := kmay_any _ l A m c w2 (HL.out.later hB2)
         rw [HXL.out] at hc3
         (with_reducible refine hc3.mono ?_)
         rintro e w3 ⟨rfl, hb3⟩
         have hB3 : Below W.heap.size W w3 := hB2.trans (hb3.mono hB2.size)
         clear hc3 hb3))
  all_goals first
    | (go_ret; exact ⟨rfl, hB3⟩)
    | (go_ret; exact ⟨rfl, hB2⟩)
    | skip
  have HMK := Lib.hid (HMKT.out (by first | rfl | trivial) (by first | rfl | trivial))
  have HPL := Lib.hid (show xp = true → xi = false from fun h => HPLT.out (by first | rfl | trivial) h)
  clear HMKT HPLT
  go_loopw [7, 8] (fun p v wr => ∃ j : Nat, j ≤ m ∧ v = .int .i64 j ∧ p = .bool ((l.take j).all plainB) ∧ Below W.heap.size W wr) (fun _ v _ => m - (intOf v).toNat)
  case atStart => exact ⟨0, Nat.zero_le _, rfl, by simp, hB3⟩
  case round =>
    obtain ⟨j, hj, rfl, rfl, hbw⟩ := hrel
    have HBW := Lib.hid hbw
    by_cases hlt : j < m
    · have hjl : j < l.length := by rw [HLEN.out]; exact hlt
      have hst := all_take (p := plainB) j hjl
      obtain ⟨b, off, k', n', A', m', c', rfl, hI', z0, z1, z2⟩ := HL.out.at_ hbw j hlt hjl
      have q0 : 0 ≤ (j : Int) := by omega
      have q1 : (j : Int) < m := by omega
      obtain ⟨e0, he0⟩ : ∃ b, (k' == 0) = b := ⟨_, rfl⟩
      obtain ⟨e3, he3⟩ : ∃ b, (k' == 3) = b := ⟨_, rfl⟩
      rw [plain_of hI'.kind he0 he3] at hst
      obtain ⟨pj, hpj⟩ : ∃ b, (l.take j).all plainB = b := ⟨_, rfl⟩
      rw [hpj] at hst ⊢
      have HST := Lib.hid hst
      clear hst hpj hI' hbw
      cases pj <;> cases e0 <;> cases e3
      all_goals
        go_wp2
        go_roundw
        case rel => exact ⟨j + 1, by omega, by go_num, by rw [HST.out]; rfl, HBW.out⟩
        case measure => simp [intOf]; omega
    · obtain rfl : j = m := by omega
      rw [List.take_of_length_le (by rw [HLEN.out]; exact Nat.le_refl _), HXP.out]
      clear hbw
      have hpl := HPL.out
      cases xp
      case' true =>
        have hxi := hpl rfl
        subst hxi
      case' false => cases xi
      all_goals
        clear hpl
        go_wp2_with (first
          | (go_at_call 14
             have hc21 := kparts_any _ l A j c wr (HL.out.later HBW.out)
             (with_reducible refine hc21.mono ?_)
             rintro e w21 ⟨A14, m14, c14, rfl, hI14, hb21⟩
             have hB21 : Below W.heap.size W w21 := HBW.out.trans (hb21.mono HBW.out.size)
             have HI14 := Lib.hid hI14
             clear hI14
             clear hc21 hb21)
          | (go_at_call 26
             have hc22 := key_any n w21
             (with_reducible refine hc22.mono ?_)
             rintro e w22 ⟨rfl, hb22⟩
             have hB22 : Below W.heap.size W w22 := hB21.trans (hb22.mono hB21.size)
             have HI14a := Lib.hid (HI14.out.later hb22)
             clear hc22 hb22)
          | (go_at_call 25
             have hc23 := in_any _ _ (partsOf l) (.node 1 n []) A14 m14 c14 1 n none 0 0 w22 HI14a.out (is_leaf (fun _ => True) _ 1 n)
             rw [HXI.out] at hc23
             (with_reducible refine hc23.mono ?_)
             rintro e w23 ⟨rfl, hb23⟩
             have hB23 : Below W.heap.size W w23 := hB22.trans (hb23.mono hB22.size)
             clear hc23 hb23)
          | (go_at_call 26
             have hc24 := key_any n w23
             (with_reducible refine hc24.mono ?_)
             rintro e w24 ⟨rfl, hb24⟩
             have hB24 : Below W.heap.size W w24 := hB23.trans (hb24.mono hB23.size)
             clear hc24 hb24)
          | (go_at_call 21
             have hc25 := kmakes_any _ _ l (.node 1 n []) A j c 1 n none 0 0 w24 (HL.out.later hB24) (is_leaf (fun _ => True) _ 1 n)
             rw [HMK.out] at hc25
             (with_reducible refine hc25.mono ?_)
             rintro e w25 ⟨rfl, hb25⟩
             have hB25 : Below W.heap.size W w25 := hB24.trans (hb25.mono hB24.size)
             clear hc25 hb25))
        go_ret
        exact ⟨rfl, hB25⟩
end Go.Proofs.Ytcpeaeefphgbaaa
