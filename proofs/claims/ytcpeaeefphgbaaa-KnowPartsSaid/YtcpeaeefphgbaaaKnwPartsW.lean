/- The walk over the law KnowParts. -/
import Derived.Test.YtcpeaeefphgbaaaKnwLacksW
namespace Go.Proofs.Ytcpeaeefphgbaaa
set_option linter.unusedVariables false
set_option linter.unusedSimpArgs false
open Go.RowKit

/-- the first ones of a slice of terms -/
theorem tms_to {P : Nat → Prop} {w : World} {l : List Te} {A : Option Addr} {m c : Nat} (h : Is P w (.node 0 0 l) 0 0 A m c) (i : Nat) (hi : i ≤ m) : Is P w (.node 0 0 (l.take i)) 0 0 A i c := by
  obtain ⟨l', rows, e, hl, hle, hmx, hr, hP, hx⟩ := h.inv
  injection e with _ _ e
  subst e
  refine ⟨.mk (rows := rows.take i) ⟨by rw [List.length_take, hr.len]; omega, fun r h => hr.wid r (List.mem_of_mem_take h), fun r h => hr.one r (List.mem_of_mem_take h), by omega, hmx, hr.bare, fun hn => ?_⟩ (fun h0 a ha => hP (by omega) a ha) (by rw [List.length_take, hl]; omega) fun j hj => ?_⟩
  · obtain ⟨b, off, hA, hc⟩ := hr.at_ (by omega)
    refine ⟨b, off, hA, fun j hj q hq => ?_⟩
    rw [hc j (by omega) q hq]
    simp [List.getD_eq_getElem?_getD, List.getElem?_take, hj]
  · rw [List.length_take] at hj
    have e1 : (l.take i)[j]'(by rw [List.length_take]; exact hj) = l[j]'(by omega) := List.getElem_take
    have e2 : (rows.take i).getD j [] = rows.getD j [] := by simp [List.getD_eq_getElem?_getD, List.getElem?_take, show j < i by omega]
    rw [e1, e2]
    exact hx j (by omega)
theorem Is.node {P : Nat → Prop} {w : World} {t : Te} {k n : Int} {A : Option Addr} {m c : Nat} (h : Is P w t k n A m c) : ∃ l, t = .node k n l := by
  obtain ⟨l, rows, e, _⟩ := h.inv
  exact ⟨l, e⟩
theorem opened_in {k n : Int} {l : List Te} {t : Te} {e2 xi : Bool} (h2 : (k == 2) = e2) (hx : isIn l t = xi) : isIn (Te.node k n l).opened t = (e2 && xi) := by
  subst h2 hx
  by_cases h : k = 2
  · subst h
    rw [opened_two]
    rfl
  · rw [opened_no h]
    have : (k == 2) = false := by rw [beq_eq_false_iff_ne]; exact h
    rw [this]
    rfl
theorem any_take {p : Te → Bool} {l : List Te} (j : Nat) (hj : j < l.length) : (l.take (j + 1)).any p = ((l.take j).any p || p l[j]) := by
  rw [List.take_succ_eq_append_getElem hj, List.any_append, List.any_cons, List.any_nil, Bool.or_false]
theorem from_all {l : List Te} {i : Nat} (hi : i < (known l).length) : (isIn l (known l)[i] || ((known l).take i).any fun y => isIn y.opened (known l)[i]) = true := by
  rw [Bool.or_eq_true]
  rcases known_froms l i hi with h | ⟨j, hj, h⟩
  · exact .inl (isIn_iff.2 h)
  · right
    rw [List.any_eq_true]
    refine ⟨(known l)[j], ?_, isIn_iff.2 h⟩
    rw [List.mem_take_iff_getElem]
    exact ⟨j, by omega, rfl⟩
set_option maxRecDepth 100000 in
set_option maxHeartbeats 16000000 in
theorem klaw_parts_any (P : Nat → Prop) (l : List Te) (A : Option Addr) (m c : Nat) (i k : Int) (W : World) (hI : Is P W (.node 0 0 l) 0 0 A m c) :
    Calls Try.prog 9 #[.slice A m c, .int .i64 i, .int .i64 k] W (GivesB true W) := by
  have HL := Lib.hid hI
  have hm63 := hI.len.2.2.2
  have HLEN := Lib.hid hI.len.1
  have hB0 := Below.refl W.heap.size W
  obtain ⟨xa, hxa⟩ : ∃ b, lightsB l = b := ⟨_, rfl⟩
  obtain ⟨xl, hxl⟩ : ∃ b, mayL l = b := ⟨_, rfl⟩
  obtain ⟨K, hK⟩ : ∃ K, partsOf l = K := ⟨_, rfl⟩
  obtain ⟨mk, hmk⟩ : ∃ x, K.length = x := ⟨_, rfl⟩
  have hik : decide (0 ≤ k) = false ∨ decide (0 ≤ k) = true ∧ decide (k < (m : Int)) = false ∨ ∃ j : Nat, k = j ∧ 0 ≤ (j : Int) ∧ (j : Int) < (m : Int) ∧ j < m := by
    by_cases h0 : 0 ≤ k
    · by_cases h1 : k < m
      · exact .inr (.inr ⟨k.toNat, by omega, by omega, by omega, by omega⟩)
      · exact .inr (.inl ⟨decide_eq_true h0, decide_eq_false h1⟩)
    · exact .inl (decide_eq_false h0)
  have hii : decide (i < 0) = true ∨ decide (i < 0) = false ∧ decide ((mk : Int) ≤ i) = true ∨ ∃ j : Nat, i = j ∧ decide ((j : Int) < 0) = false ∧ decide ((mk : Int) ≤ (j : Int)) = false ∧ j < mk := by
    by_cases h0 : i < 0
    · exact .inl (decide_eq_true h0)
    · by_cases h1 : (mk : Int) ≤ i
      · exact .inr (.inl ⟨decide_eq_false h0, decide_eq_true h1⟩)
      · exact .inr (.inr ⟨i.toNat, by omega, decide_eq_false (by omega), decide_eq_false (by omega), by omega⟩)
  have HIN := Lib.hid (show xl = true → ∀ (j : Nat) (hj : j < l.length), isIn K l[j] = true from fun h1 j hj => by
    subst hxl hK
    rw [partsOf_is h1]
    exact in_known (List.getElem_mem hj))
  have HTW := Lib.hid (show xl = true → ∀ (j : Nat) (hj : j < K.length), isIn (K.take j) K[j] = false from fun h1 j hj => by
    subst hxl hK
    have e := partsOf_is h1
    revert hj
    rw [e]
    exact fun hj => known_twice l hj)
  have HFR := Lib.hid (show xl = true → ∀ (j : Nat) (hj : j < K.length), (isIn l K[j] || (K.take j).any fun y => isIn y.opened K[j]) = true from fun h1 j hj => by
    subst hxl hK
    have e := partsOf_is h1
    revert hj
    rw [e]
    exact fun hj => from_all hj)
  have HXA := Lib.hid hxa
  have HXL := Lib.hid hxl
  have HK := Lib.hid hK
  have HMK := Lib.hid hmk
  clear hI hxa hxl hK hmk
  cases xa
  case' true =>
    cases xl
    case' true => rcases hik with h0 | ⟨h0, h1⟩ | ⟨jk, rfl, q0, q1, q2⟩ <;> rcases hii with g0 | ⟨g0, g1⟩ | ⟨ji, rfl, g0, g1, g2⟩
  all_goals
    have HINT := HIN
    have HTWT := HTW
    have HFRT := HFR
    clear HIN HTW HFR
    go_enter Try.func9, Try.ntmps9
    go_wp2_with (first
      | (go_at_call 10
         have hc1 := kawake_any W
         (with_reducible refine hc1.mono ?_)
         rintro e w1 ⟨rfl, hb1⟩
         have hB1 : Below W.heap.size W w1 := hB0.trans (hb1.mono hB0.size)
         clear hc1 hb1)
      | (go_at_call 11
         have hc2 := lightAll_any _ l A m c w1 (HL.out.later hB1)
         rw [HXA.out] at hc2
         (with_reducible refine hc2.mono ?_)
         rintro e w2 ⟨rfl, hb2⟩
         have hB2 : Below W.heap.size W w2 := hB1.trans (hb2.mono hB1.size)
         clear hc2 hb2)
      | (go_at_call 20
         have hc3 := kmay_any _ l A m c w2 (HL.out.later hB2)
         rw [HXL.out] at hc3
         (with_reducible refine hc3.mono ?_)
         rintro e w3 ⟨rfl, hb3⟩
         have hB3 : Below W.heap.size W w3 := hB2.trans (hb3.mono hB2.size)
         clear hc3 hb3)
      | (go_at_call 14
         have hc4 := kparts_any _ l A m c w3 (HL.out.later hB3)
         (with_reducible refine hc4.mono ?_)
         rintro e w4 ⟨A9, m9, c9, rfl, hI9, hb4⟩
         have hB4 : Below W.heap.size W w4 := hB3.trans (hb4.mono hB3.size)
         rw [HK.out] at hI9
         have hm9 := hI9.len.1
         rw [HMK.out] at hm9
         obtain rfl := hm9.symm
         have HP := Lib.hid hI9
         try (have hjj := q2; obtain ⟨b14, o14, k14, n14, A15, m15, c15, rfl, hx14, z0, z1, z2⟩ := HL.out.at_ hB4 jk q2 (by rw [HLEN.out]; exact q2); have HX14 := Lib.hid hx14; clear hx14)
         clear hI9
         clear hc4 hb4)
      | (go_at_call 25
         have hc5 := in_any _ _ K (l[jk]'(by rw [HLEN.out]; exact q2)) A9 m9 c9 k14 n14 A15 m15 c15 w4 HP.out HX14.out
         rw [HINT.out (by first | rfl | trivial)] at hc5
         (with_reducible refine hc5.mono ?_)
         rintro e w5 ⟨rfl, hb5⟩
         have hB5 : Below W.heap.size W w5 := hB4.trans (hb5.mono hB4.size)
         have HPa := Lib.hid (HP.out.later hb5)
         clear hc5 hb5))
  all_goals first
    | (go_ret; exact ⟨rfl, hB5⟩)
    | (go_ret; exact ⟨rfl, hB4⟩)
    | (go_ret; exact ⟨rfl, hB3⟩)
    | (go_ret; exact ⟨rfl, hB2⟩)
    | skip
  all_goals
    first
      | (have hBD := hB5; have HPD := HPa; obtain ⟨wD, hwD⟩ : ∃ x, x = w5 := ⟨_, rfl⟩; subst hwD)
      | (have hBD := hB4; have HPD := HP; obtain ⟨wD, hwD⟩ : ∃ x, x = w4 := ⟨_, rfl⟩; subst hwD)
    have hjl : ji < K.length := by rw [HMK.out]; exact g2
    have HTW := Lib.hid (HTWT.out (by first | rfl | trivial) ji hjl)
    have HFR := Lib.hid (HFRT.out (by first | rfl | trivial) ji hjl)
    have hs := run_to_t A9 m9 c9 ji (ji : Int) rfl (by omega) (by obtain ⟨_, _, _, _, h, _⟩ := HPD.out.inv; exact h)
    have hmk63 := HPD.out.len.2.2.2
    obtain ⟨b9, o9, k9, n9, A10, m10, c10, hA9, hK9, y0, y1, y2⟩ := HPD.out.at_ (Below.refl _ wD) ji g2 hjl
    subst hA9
    have HK9 := Lib.hid hK9
    have r0 : 0 ≤ (ji : Int) := by omega
    have r1 : (ji : Int) < (m9 : Int) := by omega
    have HY := Lib.hid (And.intro y0 (And.intro y1 y2))
    have HC := Lib.hid (in_any _ _ (K.take ji) K[ji] (some ⟨b9, o9, none⟩) ji c9 k9 n9 A10 m10 c10 wD.drew ((tms_to HPD.out ji (by omega)).keep fun _ _ => rfl) (hK9.keep fun _ _ => rfl))
    clear hK9 HINT HTWT HFRT
    go_wp2
    go_still_tail 7, (by kernel_rfl)
    go_wp2_with (first
      | (go_at_call 25
         have hc20 := HC.out
         rw [HTW.out] at hc20
         (with_reducible refine hc20.mono ?_)
         rintro e w20 ⟨rfl, hb20⟩
         have hd20 : Below wD.heap.size wD w20 := below_draw hb20
         have hB20 : Below W.heap.size W w20 := hBD.trans (hd20.mono hBD.size)
         obtain ⟨v0, v1, v2⟩ := HY.out
         have x0 := (hd20.cell (block_lt_of_cell v0)).trans v0
         have x1 := (hd20.cell (block_lt_of_cell v1)).trans v1
         have x2 := (hd20.cell (block_lt_of_cell v2)).trans v2
         clear hc20 hb20 v0 v1 v2)
      | (go_at_call 25
         have hc21 := in_any _ _ l K[ji] _ m c k9 n9 A10 m10 c10 w20 (HL.out.later hB20) (HK9.out.later hd20)
         (with_reducible refine hc21.mono ?_)
         rintro e w21 ⟨rfl, hb21⟩
         have hd21 : Below wD.heap.size wD w21 := hd20.trans (hb21.mono hd20.size)
         have hB21 : Below W.heap.size W w21 := hB20.trans (hb21.mono hB20.size)
         clear hc21 hb21 x0 x1 x2))
    clear y0 y1 y2
    obtain ⟨xf, hxf⟩ : ∃ b, isIn l K[ji] = b := ⟨_, rfl⟩
    rw [hxf] at HFR ⊢
    clear hxf
    go_loopw [12, 13] (fun f v wr => ∃ j : Nat, j ≤ ji ∧ v = .int .i64 j ∧ f = .bool (xf || (K.take j).any fun y => isIn y.opened K[ji]) ∧ Below W.heap.size W wr ∧ Below wD.heap.size wD wr) (fun _ v _ => ji - (intOf v).toNat)
    case atStart => exact ⟨0, Nat.zero_le _, rfl, by simp, hB21, hd21⟩
    case round =>
      obtain ⟨j, hj, rfl, rfl, hbw, hdw⟩ := hrel
      have HBW := Lib.hid hbw
      have HDW := Lib.hid hdw
      by_cases hlt : j < ji
      · have hjj : j < K.length := by omega
        have hst := any_take (p := fun y => isIn y.opened K[ji]) j hjj
        obtain ⟨b5, o5, k5, n5, A5, m5, c5, hA5, hK5, u0, u1, u2⟩ := HPD.out.at_ hdw j (by omega) hjj
        injection hA5 with hA5
        injection hA5 with hA51 hA52 _
        subst hA51 hA52
        obtain ⟨v0, v1, v2⟩ := HY.out
        have x0 := (hdw.cell (block_lt_of_cell v0)).trans v0
        have x1 := (hdw.cell (block_lt_of_cell v1)).trans v1
        have x2 := (hdw.cell (block_lt_of_cell v2)).trans v2
        obtain ⟨la, hla⟩ := hK5.node
        rw [hla] at hK5
        obtain ⟨xi, hxi⟩ : ∃ b, isIn la K[ji] = b := ⟨_, rfl⟩
        obtain ⟨e2, he2⟩ : ∃ b, (k5 == 2) = b := ⟨_, rfl⟩
        have hop : isIn K[j].opened K[ji] = (e2 && xi) := by rw [hla]; exact opened_in he2 hxi
        rw [hop] at hst
        have hcc := in_any _ _ la K[ji] A5 m5 c5 k9 n9 A10 m10 c10 wr.drew (hK5.args.keep fun _ _ => rfl) ((HK9.out.later hdw).keep fun _ _ => rfl)
        rw [hxi] at hcc
        have HCC := Lib.hid hcc
        obtain ⟨xf2, hxf2⟩ : ∃ b, (xf || (K.take j).any fun y => isIn y.opened K[ji]) = b := ⟨_, rfl⟩
        have hst2 : (xf || (K.take (j + 1)).any fun y => isIn y.opened K[ji]) = (xf2 || (e2 && xi)) := by rw [hst, ← hxf2, Bool.or_assoc]
        rw [hxf2]
        have HST := Lib.hid hst2
        have HU := Lib.hid (And.intro u0 (And.intro u1 u2))
        have t0 : 0 ≤ (j : Int) := by omega
        have t1 : (j : Int) < (ji : Int) := by omega
        have t2 : (j : Int) < (m9 : Int) := by omega
        clear hst hst2 hop hcc hla hK5 hxi hxf2 v0 v1 v2 hbw hdw
        cases xf2 <;> cases e2 <;> cases xi
        all_goals
          go_wp2
          go_still_tail 9, (by kernel_rfl)
          go_wp2_with (go_at_call 25
                       (with_reducible refine HCC.out.mono ?_)
                       rintro e w30 ⟨rfl, hb30⟩
                       have hd30 := below_draw hb30
                       obtain ⟨s0, s1, s2⟩ := HU.out
                       have p0 := (hd30.cell (block_lt_of_cell s0)).trans s0
                       clear s0 s1 s2 hb30)
          go_roundw
          case rel => exact ⟨j + 1, by omega, by go_num, by rw [HST.out]; rfl, HBW.out.trans (hd30.mono HBW.out.size), HDW.out.trans (hd30.mono HDW.out.size)⟩
          case measure => simp [intOf]; omega
      · obtain rfl : j = ji := by omega
        rw [HFR.out]
        clear hbw hdw
        go_wp2
        go_ret
        exact ⟨rfl, HBW.out⟩
end Go.Proofs.Ytcpeaeefphgbaaa
