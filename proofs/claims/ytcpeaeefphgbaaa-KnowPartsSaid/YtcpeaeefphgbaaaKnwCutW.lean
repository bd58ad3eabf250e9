/- The walk over the law KnowCut. -/
import Derived.Test.YtcpeaeefphgbaaaKnwAwake
namespace Go.Proofs.Ytcpeaeefphgbaaa
set_option linter.unusedVariables false
set_option linter.unusedSimpArgs false
open Go.RowKit

theorem two_cups (w : World) (k n : Int) (A : Option Addr) (m c : Nat) (k2 n2 : Int) (A2 : Option Addr) (m2 c2 : Nat) : Below w.heap.size w ((w.alloc (.cells #[.int .i64 k, .int .i64 n, .slice A m c] 24)).alloc (.cells #[.int .i64 k2, .int .i64 n2, .slice A2 m2 c2] 24)) ∧
    Cup ((w.alloc (.cells #[.int .i64 k, .int .i64 n, .slice A m c] 24)).alloc (.cells #[.int .i64 k2, .int .i64 n2, .slice A2 m2 c2] 24)) w.heap.size k n A m c ∧ Cup ((w.alloc (.cells #[.int .i64 k, .int .i64 n, .slice A m c] 24)).alloc (.cells #[.int .i64 k2, .int .i64 n2, .slice A2 m2 c2] 24)) (w.heap.size + 1) k2 n2 A2 m2 c2 :=
  ⟨two_below w _ _, heap_alloc2_old w _ _, heap_alloc2_new w _ _⟩
set_option maxRecDepth 100000 in
set_option maxHeartbeats 8000000 in
theorem kcut_any (P Q R : Nat → Prop) (l : List Te) (u t : Te) (A : Option Addr) (m c : Nat) (k n : Int) (A2 : Option Addr) (m2 c2 : Nat) (k3 n3 : Int) (A3 : Option Addr) (m3 c3 : Nat) (w : World) (hI : Is P w (.node 0 0 l) 0 0 A m c) (hU : Is Q w u k n A2 m2 c2) (hT : Is R w t k3 n3 A3 m3 c3) :
    Calls Try.prog 5 #[.slice A m c, .agg #[.int .i64 k, .int .i64 n, .slice A2 m2 c2], .agg #[.int .i64 k3, .int .i64 n3, .slice A3 m3 c3]] w (GivesB true w) := by
  obtain ⟨hone, hcup1, hcup2⟩ := two_cups w k n A2 m2 c2 k3 n3 A3 m3 c3
  obtain ⟨W, hW⟩ : ∃ W, (w.alloc (.cells #[.int .i64 k, .int .i64 n, .slice A2 m2 c2] 24)).alloc (.cells #[.int .i64 k3, .int .i64 n3, .slice A3 m3 c3] 24) = W := ⟨_, rfl⟩
  rw [hW] at hone hcup1 hcup2
  have HW := Lib.hid hW
  have HC1 := Lib.hid hcup1
  have HC2 := Lib.hid hcup2
  have HO := Lib.hid hone
  have hB0 := Below.refl W.heap.size W
  obtain ⟨l0, rowsL, e0, hl0, hle0, hmx0, hr0, hP0, hL0⟩ := (hI.later hone).inv
  injection e0 with _ _ e0
  subst e0
  have HRL := Lib.hid hr0
  have hrn : rowsL.length = m := hr0.len
  have HRLN := Lib.hid hrn
  have HBOTH := Lib.hid (show ∀ w' v, OwnR 24 3 w' W.heap.size v (rowsL ++ [[.int .i64 k, .int .i64 n, .slice A2 m2 c2]]) → Below W.heap.size W w' → ∃ A' m' c', v = .slice A' m' c' ∧ Is (fun b => True ∨ W.heap.size ≤ b) w' (.node 0 0 (l ++ [u])) 0 0 A' m' c' from fun w' v h hb => is_both (P := fun _ => True) (hl0.trans hrn.symm) rfl (fun i hi => (hL0 i hi).mono fun _ _ => trivial) (fun i hi => by
    have hi2 : i = 0 := by simp at hi; omega
    subst hi2
    exact ((hU.later hone).mono fun _ _ => trivial).lies) h hb)
  have HL := Lib.hid (hI.later hone)
  have HU := Lib.hid (hU.later hone)
  have HT := Lib.hid (hT.later hone)
  have hm63 := hI.len.2.2.2
  have hlm : l.length = m := hI.len.1
  obtain ⟨xa, hxa⟩ : ∃ b, lightsB l = b := ⟨_, rfl⟩
  obtain ⟨xb, hxb⟩ : ∃ b, lightB u 150 20 = b := ⟨_, rfl⟩
  obtain ⟨xc, hxc⟩ : ∃ b, lightB t 150 20 = b := ⟨_, rfl⟩
  obtain ⟨b20, h20⟩ : ∃ b, decide ((20 : Int) < m) = b := ⟨_, rfl⟩
  obtain ⟨xu, hxu⟩ : ∃ b, makes l u = b := ⟨_, rfl⟩
  obtain ⟨xt, hxt⟩ : ∃ b, makes l t = b := ⟨_, rfl⟩
  have HCUT := Lib.hid (show m ≤ 20 → xu = true → makes (l ++ [u]) t = xt from fun h1 h2 => by rw [← hxt]; exact makes_cut (by omega) (hxu.trans h2))
  have HXA := Lib.hid hxa
  have HXB := Lib.hid hxb
  have HXC := Lib.hid hxc
  have HXU := Lib.hid hxu
  have HXT := Lib.hid hxt
  clear hI hU hT hone hcup1 hcup2 hW hxa hxb hxc hxu hxt hr0 hrn hl0 hle0 hmx0 hP0 hL0 hlm
  cases xa
  case' true =>
    cases xb
    case' true =>
      cases xc
      case' true =>
        cases b20
        case' false => cases xu
  all_goals
    go_enter Try.func5, Try.ntmps5
    go_wp2_with (first
      | (go_at_call 10
         rw [HW.out]
         have hc1 := kawake_any W
         (with_reducible refine hc1.mono ?_)
         rintro e w1 ⟨rfl, hb1⟩
         have hB1 : Below W.heap.size W w1 := hB0.trans (hb1.mono hB0.size)
         clear hc1 hb1)
      | (go_at_call 11
         have hc2 := lightAll_any _ l A m c w1 (HL.out.later hB1)
         rw [HXA.out] at hc2
         (with_reducible refine hc2.mono ?_)
         rintro e w2 ⟨rfl, hb2⟩
         have hB2 : Below W.heap.size W w2 := hB1.trans (hb2.mono hB1.size)
         have S_w2 := And.intro (HC1.out.below hB2).cells (HC2.out.below hB2).cells
         clear hc2 hb2)
      | (go_at_call 12
         have hc3 := light_any _ u k n A2 m2 c2 w2 (HU.out.later hB2)
         rw [HXB.out] at hc3
         (with_reducible refine hc3.mono ?_)
         rintro e w3 ⟨rfl, hb3⟩
         have hB3 : Below W.heap.size W w3 := hB2.trans (hb3.mono hB2.size)
         have S_w3 := And.intro (HC1.out.below hB3).cells (HC2.out.below hB3).cells
         clear hc3 hb3)
      | (go_at_call 12
         have hc4 := light_any _ t k3 n3 A3 m3 c3 w3 (HT.out.later hB3)
         rw [HXC.out] at hc4
         (with_reducible refine hc4.mono ?_)
         rintro e w4 ⟨rfl, hb4⟩
         have hB4 : Below W.heap.size W w4 := hB3.trans (hb4.mono hB3.size)
         have S_w4 := And.intro (HC1.out.below hB4).cells (HC2.out.below hB4).cells
         clear hc4 hb4)
      | (go_at_call 21
         have hc5 := kmakes_any _ _ l u A m c k n A2 m2 c2 w4 (HL.out.later hB4) (HU.out.later hB4)
         rw [HXU.out] at hc5
         (with_reducible refine hc5.mono ?_)
         rintro e w5 ⟨rfl, hb5⟩
         have hB5 : Below W.heap.size W w5 := hB4.trans (hb5.mono hB4.size)
         clear hc5 hb5))
  all_goals first
    | (go_ret; exact ⟨rfl, HO.out.trans (hB5.mono HO.out.size)⟩)
    | (go_ret; exact ⟨rfl, HO.out.trans (hB4.mono HO.out.size)⟩)
    | skip
  have h20' : m ≤ 20 := by rw [decide_eq_false_iff_not] at h20; omega
  have HCT := Lib.hid (HCUT.out h20' (by first | rfl | trivial))
  clear S_w2 S_w3 S_w4
  obtain ⟨Y0, hY0⟩ : ∃ Y, w5.drew = Y := ⟨_, rfl⟩
  have hBd : Below W.heap.size W Y0 := by rw [← hY0]; exact hB5.drew
  have Sd := And.intro (HC1.out.below hBd).cells (HC2.out.below hBd).cells
  refine wp_region_held_drew (S := fun w' => (w'.cell? ⟨w.heap.size, 0, none⟩ = some (.int .i64 k) ∧ w'.cell? ⟨w.heap.size, 1, none⟩ = some (.int .i64 n) ∧ w'.cell? ⟨w.heap.size, 2, none⟩ = some (.slice A2 m2 c2)) ∧ (w'.cell? ⟨(w.heap.size + 1), 0, none⟩ = some (.int .i64 k3) ∧ w'.cell? ⟨(w.heap.size + 1), 1, none⟩ = some (.int .i64 n3) ∧ w'.cell? ⟨(w.heap.size + 1), 2, none⟩ = some (.slice A3 m3 c3))) (by kernel_rfl) (by rw [hY0]; exact Sd) (fun hHeld => ?_)
  rw [hY0] at hHeld ⊢
  clear hY0 Sd
  refine take_move 0 (.tmp 0) (.slice A m c) rfl rfl rfl (by kernel_rfl) (by kernel_rfl) (by kernel_rfl) (fun _ _ _ h => h) rfl hHeld ?_
  simp only [Act.put, List.setIfInBounds_toArray, List.set_cons_zero, List.set_cons_succ]
  refine take_if 2 (.agg #[.int .i64 k, .int .i64 n, .slice A2 m2 c2]) rfl (by kernel_rfl) (by kernel_rfl) (by kernel_rfl) (fun _ _ _ h => h) rfl hHeld (fun w' hw' => ?_) ?_
  · obtain ⟨⟨q0, q1, q2⟩, ⟨q3, q4, q5⟩⟩ := hw'
    go_simp
  simp only [Act.put, List.setIfInBounds_toArray, List.set_cons_zero, List.set_cons_succ]
  refine two_steps 1 3 (by kernel_rfl) rfl rfl (fun Kq hKq => ?_) (fun Kq hKq => ?_)
  refine step_append_r 22 24 3 40 _ _ rfl Try.underlying22 info_term (by omega) W.heap.size (.slice none 0 0) [] rfl (OwnR.nil _ _ _ _) A m c rowsL rfl (HRL.out.below hBd) (by simp; omega) (by simp; omega) hBd.size rfl ?_
  intro v1 y1 hown1 hg1
  have hBy1 : Below W.heap.size W y1 := hBd.grown hg1 hBd.size (fun g hg => by simp [Value.ownBlock] at hg)
  have Sy1 := And.intro (HC1.out.below hBy1).cells (HC2.out.below hBy1).cells
  refine hKq.out _ _ Sy1 (fun hHeld0 => ?_)
  clear hKq Kq hHeld Sy1 hg1
  have hHeld := hHeld0
  clear hHeld0
  try simp only [Act.put, List.setIfInBounds_toArray, List.set_cons_zero, List.set_cons_succ]
  refine one_step 3 (by kernel_rfl) rfl (fun Kq hKq => ?_)
  have hBz := hBy1.trans ((one_alloc y1 (.cells #[.int .i64 k, .int .i64 n, .slice A2 m2 c2] 24)).mono hBy1.size)
  have Sz := And.intro (HC1.out.below hBz).cells (HC2.out.below hBz).cells
  have hz := one_rws 3 24 y1 [.int .i64 k, .int .i64 n, .slice A2 m2 c2] rfl (row_one k n A2 m2 c2)
  have hown1 := hown1.more (.cells #[.int .i64 k, .int .i64 n, .slice A2 m2 c2] 24)
  go_simp
  refine hKq.out _ _ Sz (fun hHeld0 => ?_)
  clear hKq Kq hHeld Sz
  have hHeld := hHeld0
  clear hHeld0
  try simp only [Act.put, List.setIfInBounds_toArray, List.set_cons_zero, List.set_cons_succ]
  refine one_step 4 (by kernel_rfl) rfl (fun Kq hKq => ?_)
  refine step_append_r 22 24 3 40 _ _ rfl Try.underlying22 info_term (by omega) W.heap.size v1 ([] ++ rowsL) rfl hown1 _ 1 1 [[.int .i64 k, .int .i64 n, .slice A2 m2 c2]] rfl hz (by have := HRLN.out; simp; omega) (by have := HRLN.out; simp; omega) hBz.size rfl ?_
  intro v2 wM hown2 hg2
  have hBM : Below W.heap.size W wM := hBz.grown hg2 hBz.size (fun g hg => (hown1.size g hg).1)
  have SM := And.intro (HC1.out.below hBM).cells (HC2.out.below hBM).cells
  rw [List.nil_append] at hown2
  obtain ⟨A13, m13, c13, rfl, hI13⟩ := HBOTH.out _ _ hown2 hBM
  have HM := Lib.hid hI13
  refine hKq.out _ _ SM (fun hHeld0 => ?_)
  clear hKq Kq hHeld SM hown1 hown2 hg2 hz hI13
  have hHeld := hHeld0
  clear hHeld0
  try simp only [Act.put, List.setIfInBounds_toArray, List.set_cons_zero, List.set_cons_succ]
  refine take_run 5 (.slice A13 m13 c13) rfl (by kernel_rfl) (by kernel_rfl) (by kernel_rfl) (fun _ _ _ h => h) rfl hHeld (fun w => ?_) ?_
  · go_simp
  simp only [Act.put, List.setIfInBounds_toArray, List.set_cons_zero, List.set_cons_succ]
  refine wpAnyH_done (by kernel_rfl) ?_ _
  go_wp2
  rotate_left
  have hBz := hBd.trans ((one_alloc Y0 (.cells #[.int .i64 k, .int .i64 n, .slice A2 m2 c2] 24)).mono hBd.size)
  have Sz := And.intro (HC1.out.below hBz).cells (HC2.out.below hBz).cells
  have hz := one_rws 3 24 Y0 [.int .i64 k, .int .i64 n, .slice A2 m2 c2] rfl (row_one k n A2 m2 c2)
  go_simp
  refine hKq.out _ _ Sz (fun hHeld0 => ?_)
  clear hKq Kq hHeld Sz
  have hHeld := hHeld0
  clear hHeld0
  try simp only [Act.put, List.setIfInBounds_toArray, List.set_cons_zero, List.set_cons_succ]
  refine one_step 1 (by kernel_rfl) rfl (fun Kq hKq => ?_)
  refine step_append_r 22 24 3 40 _ _ rfl Try.underlying22 info_term (by omega) W.heap.size (.slice none 0 0) [] rfl (OwnR.nil _ _ _ _) A m c rowsL rfl (HRL.out.below hBz) (by simp; omega) (by simp; omega) hBz.size rfl ?_
  intro v1 y1 hown1 hg1
  have hBy1 : Below W.heap.size W y1 := hBz.grown hg1 hBz.size (fun g hg => by simp [Value.ownBlock] at hg)
  have Sy1 := And.intro (HC1.out.below hBy1).cells (HC2.out.below hBy1).cells
  have hz := hz.grown hg1 (fun b off e => by intro e2; simp [Value.ownBlock] at e2)
  refine hKq.out _ _ Sy1 (fun hHeld0 => ?_)
  clear hKq Kq hHeld Sy1 hg1
  have hHeld := hHeld0
  clear hHeld0
  try simp only [Act.put, List.setIfInBounds_toArray, List.set_cons_zero, List.set_cons_succ]
  refine one_step 4 (by kernel_rfl) rfl (fun Kq hKq => ?_)
  refine step_append_r 22 24 3 40 _ _ rfl Try.underlying22 info_term (by omega) W.heap.size v1 ([] ++ rowsL) rfl hown1 _ 1 1 [[.int .i64 k, .int .i64 n, .slice A2 m2 c2]] rfl hz (by have := HRLN.out; simp; omega) (by have := HRLN.out; simp; omega) hBy1.size rfl ?_
  intro v2 wM hown2 hg2
  have hBM : Below W.heap.size W wM := hBy1.grown hg2 hBy1.size (fun g hg => (hown1.size g hg).1)
  have SM := And.intro (HC1.out.below hBM).cells (HC2.out.below hBM).cells
  rw [List.nil_append] at hown2
  obtain ⟨A13, m13, c13, rfl, hI13⟩ := HBOTH.out _ _ hown2 hBM
  have HM := Lib.hid hI13
  refine hKq.out _ _ SM (fun hHeld0 => ?_)
  clear hKq Kq hHeld SM hown1 hown2 hg2 hz hI13
  have hHeld := hHeld0
  clear hHeld0
  try simp only [Act.put, List.setIfInBounds_toArray, List.set_cons_zero, List.set_cons_succ]
  refine take_run 5 (.slice A13 m13 c13) rfl (by kernel_rfl) (by kernel_rfl) (by kernel_rfl) (fun _ _ _ h => h) rfl hHeld (fun w => ?_) ?_
  · go_simp
  simp only [Act.put, List.setIfInBounds_toArray, List.set_cons_zero, List.set_cons_succ]
  refine wpAnyH_done (by kernel_rfl) ?_ _
  go_wp2
  all_goals
    have hBe : Below W.heap.size W wM.drew := hBM.drew
    have Se := (HC2.out.below hBe).cells
    clear hHeld
    go_region_held3 (fun w' => w'.cell? ⟨(w.heap.size + 1), 0, none⟩ = some (.int .i64 k3) ∧ w'.cell? ⟨(w.heap.size + 1), 1, none⟩ = some (.int .i64 n3) ∧ w'.cell? ⟨(w.heap.size + 1), 2, none⟩ = some (.slice A3 m3 c3)) (first | with_reducible exact Se | with_reducible exact S_w21 | with_reducible exact S_w22) (first
      | (go_at_call 21
         have hc21 := kmakes_any _ _ (l ++ [u]) t A13 m13 c13 k3 n3 A3 m3 c3 wM.drew (HM.out.later ((Below.refl _ wM).drew)) (HT.out.later hBe)
         rw [HCT.out] at hc21
         (with_reducible refine hc21.mono ?_)
         rintro e w21 ⟨rfl, hb21⟩
         have hB21 : Below W.heap.size W w21 := hBe.trans (hb21.mono hBe.size)
         have S_w21 := (HC2.out.below hB21).cells
         clear hc21 hb21)
      | (go_at_call 21
         have hc22 := kmakes_any _ _ l t A m c k3 n3 A3 m3 c3 w21 (HL.out.later hB21) (HT.out.later hB21)
         rw [HXT.out] at hc22
         (with_reducible refine hc22.mono ?_)
         rintro e w22 ⟨rfl, hb22⟩
         have hB22 : Below W.heap.size W w22 := hB21.trans (hb22.mono hB21.size)
         have S_w22 := (HC2.out.below hB22).cells
         clear hc22 hb22))
    go_wp2
    go_ret
    exact ⟨by simp, HO.out.trans (hB22.mono HO.out.size)⟩
end Go.Proofs.Ytcpeaeefphgbaaa
