/- Joined texts: Whether a machine of package stage fits. -/
import Derived.Test.YtgnhmdfajnnkhaaSbJK
/- Whether a machine of package stage fits. -/
namespace Go.Proofs.Ytgnhmdfajnnkhaa
set_option maxRecDepth 100000
set_option linter.unusedVariables false
set_option linter.unusedSimpArgs false
open Go.RowKit

theorem may_is {l : List Pl} {s : Sg} {n : Nat} (ha : allP l = true) (h0 : 0 ≤ s.pl) (h1 : s.pl < n) (hn : l.length = n) : mayS l s = (rangeB (planAt l s.pl) n s && (heldB (planAt l s.pl) s && timeB (planAt l s.pl) s)) := by
  subst hn
  rw [mayS, ha, decide_eq_true ⟨h0, h1⟩, Bool.true_and, Bool.true_and]
set_option maxHeartbeats 8000000 in
theorem fits_no (A : Option Addr) (n c : Nat) (l : List Pl) (s : Sg) (w : World) (hl : Pls w A n c l) (ha : allP l = true) (h0 : 0 ≤ s.pl) (h1 : s.pl < n) (hs : SmG s) (hno : (placedB (planAt l s.pl) n s && heldB (planAt l s.pl) s) = false) : Calls Try.prog 44 #[mcV A n c s] w fun e w' => e = .returned (.bool (mayS l s)) ∧ Below w.heap.size w w' := by
  obtain ⟨W1, hW1⟩ : ∃ W1, w.alloc (.cells #[.slice A n c, .int .i64 s.pl, .int .i64 s.st, .int .i64 s.nx, .int .i64 s.ph, .int .i64 s.t, .int .i64 s.hd, .int .i64 s.hl, .int .i64 s.ak, .int .i64 s.wt, .bool s.sp] 66) = W1 := ⟨_, rfl⟩
  have hB1 : Below w.heap.size w W1 := by rw [← hW1]; exact one_alloc w _
  have hbm : BoxM W1 w.heap.size A n c s := by rw [← hW1]; exact BoxM.new w A n c s
  have HW := Lib.hid hW1
  clear hW1
  have HB1 := Lib.hid hB1
  have HMC := Lib.hid (show ∀ X, Below W1.heap.size W1 X → X.cell? ⟨w.heap.size, 0, none⟩ = some (.slice A n c) ∧ X.cell? ⟨w.heap.size, 1, none⟩ = some (.int .i64 s.pl) ∧ X.cell? ⟨w.heap.size, 2, none⟩ = some (.int .i64 s.st) ∧ X.cell? ⟨w.heap.size, 3, none⟩ = some (.int .i64 s.nx) ∧ X.cell? ⟨w.heap.size, 4, none⟩ = some (.int .i64 s.ph) ∧ X.cell? ⟨w.heap.size, 5, none⟩ = some (.int .i64 s.t) ∧ X.cell? ⟨w.heap.size, 6, none⟩ = some (.int .i64 s.hd) ∧ X.cell? ⟨w.heap.size, 7, none⟩ = some (.int .i64 s.hl) ∧ X.cell? ⟨w.heap.size, 8, none⟩ = some (.int .i64 s.ak) ∧ X.cell? ⟨w.heap.size, 9, none⟩ = some (.int .i64 s.wt) ∧ X.cell? ⟨w.heap.size, 10, none⟩ = some (.bool s.sp) from fun X hX => by
    obtain ⟨cm, c0, c1, c2, c3, c4, c5, c6, c7, c8, c9⟩ := (hbm.below hX).cells
    exact ⟨cm, c0, c1, c2, c3, c4, c5, c6, c7, c8, c9⟩)
  have HOW := Lib.hid (fun X (hX : Below W1.heap.size W1 X) => own_plan A n c l s X ((hl.below hB1).below hX) h0 h1)
  have HQI := Lib.hid (show ∀ X, Below W1.heap.size W1 X → PlIn X (planAt l s.pl) from fun X hX => plan_lies ((hl.below hB1).below hX) h0 h1)
  have hff : fitP (planAt l s.pl) = true := by
    obtain ⟨j, hj⟩ := Int.eq_ofNat_of_zero_le h0
    rw [hj]
    exact all_fit ha (plan_of hl (by omega)).2
  have HPL := Lib.hid (fun X (hX : Below W1.heap.size W1 X) => placed_any A n c l s X ((hl.below hB1).below hX) h0 h1)
  have HSP := Lib.hid (fun X (hX : Below W1.heap.size W1 X) => spared_any A n c l s X ((hl.below hB1).below hX) h0 h1 hff hs.2)
  have hM := may_is ha h0 h1 hl.len
  have hqk0 := (HQI.out W1 (Below.refl _ _)).s.len
  have HIS := Lib.hid (fun (s0 : 0 ≤ s.st) (s1 : s.st < (planAt l s.pl).k) X (hX : Below W1.heap.size W1 X) => stage_own A n c l s X ((hl.below hB1).below hX) h0 h1 s0 s1)
  have HID := Lib.hid (fun X => idle_any A n c s X)
  rw [range_placed hqk0] at hM
  unfold mcV at HOW HPL HSP HIS HID ⊢
  clear hbm hB1 hl
  have hst0 := hs.1
  have HR : mayS l s = false := by
    rw [hM]
    cases e1 : placedB (planAt l s.pl) n s
    · rfl
    · rw [e1, Bool.true_and] at hno
      rw [hno, Bool.false_and, Bool.and_false]
  rw [HR]
  obtain ⟨P1, e1⟩ : ∃ b, placedB (planAt l s.pl) n s = b := ⟨_, rfl⟩
  obtain ⟨P2, e2⟩ : ∃ b, heldB (planAt l s.pl) s = b := ⟨_, rfl⟩
  rw [e1] at HPL
  rw [e2] at HSP
  rw [e1, e2] at hno
  clear e1 e2 HR hM hff hs hst0 HOW HQI HIS HID ha
  obtain ⟨pl, st, nx, ph, t, hd, hh, ak, wt, sp⟩ := s
  simp only at *
  cases P1
  · go_enter Try.func44, Try.ntmps44
    go_wp2_with (first
      | (go_at_call 60
         rw [HW.out]
         (with_reducible refine (HPL.out _ (Below.refl _ _)).mono ?_)
         rintro e w1 ⟨rfl, hbx⟩
         have hS1 : Below W1.heap.size W1 w1 := hbx
         obtain ⟨cm, c0, c1, c2, c3, c4, c5, c6, c7, c8, c9⟩ := HMC.out w1 hS1
         clear hbx)
      | (go_at_call 61
         (with_reducible refine (HSP.out _ hS1).mono ?_)
         rintro e w2 ⟨rfl, hbx⟩
         have hS2 : Below W1.heap.size W1 w2 := hS1.trans (hbx.mono hS1.size)
         obtain ⟨dm, d0, d1, d2, d3, d4, d5, d6, d7, d8, d9⟩ := HMC.out w2 hS2
         clear hbx))
    try rw [Exit.noGoto_ret]
    go_ret
    exact ⟨rfl, HB1.out.trans (hS1.mono HB1.out.size)⟩
  · rw [Bool.true_and] at hno
    subst hno
    go_enter Try.func44, Try.ntmps44
    go_wp2_with (first
      | (go_at_call 60
         rw [HW.out]
         (with_reducible refine (HPL.out _ (Below.refl _ _)).mono ?_)
         rintro e w1 ⟨rfl, hbx⟩
         have hS1 : Below W1.heap.size W1 w1 := hbx
         obtain ⟨cm, c0, c1, c2, c3, c4, c5, c6, c7, c8, c9⟩ := HMC.out w1 hS1
         clear hbx)
      | (go_at_call 61
         (with_reducible refine (HSP.out _ hS1).mono ?_)
         rintro e w2 ⟨rfl, hbx⟩
         have hS2 : Below W1.heap.size W1 w2 := hS1.trans (hbx.mono hS1.size)
         obtain ⟨dm, d0, d1, d2, d3, d4, d5, d6, d7, d8, d9⟩ := HMC.out w2 hS2
         clear hbx))
    try rw [Exit.noGoto_ret]
    go_ret
    exact ⟨rfl, HB1.out.trans (hS2.mono HB1.out.size)⟩
set_option maxHeartbeats 8000000 in
theorem fits_oth (A : Option Addr) (n c : Nat) (l : List Pl) (s : Sg) (w : World) (hl : Pls w A n c l) (ha : allP l = true) (h0 : 0 ≤ s.pl) (h1 : s.pl < n) (hs : SmG s) (hp : placedB (planAt l s.pl) n s = true) (hh : heldB (planAt l s.pl) s = true) (h0p : s.ph ≠ 0) (h1p : s.ph ≠ 1) (h2p : s.ph ≠ 2) : Calls Try.prog 44 #[mcV A n c s] w fun e w' => e = .returned (.bool (mayS l s)) ∧ Below w.heap.size w w' := by
  obtain ⟨W1, hW1⟩ : ∃ W1, w.alloc (.cells #[.slice A n c, .int .i64 s.pl, .int .i64 s.st, .int .i64 s.nx, .int .i64 s.ph, .int .i64 s.t, .int .i64 s.hd, .int .i64 s.hl, .int .i64 s.ak, .int .i64 s.wt, .bool s.sp] 66) = W1 := ⟨_, rfl⟩
  have hB1 : Below w.heap.size w W1 := by rw [← hW1]; exact one_alloc w _
  have hbm : BoxM W1 w.heap.size A n c s := by rw [← hW1]; exact BoxM.new w A n c s
  have HW := Lib.hid hW1
  clear hW1
  have HB1 := Lib.hid hB1
  have HMC := Lib.hid (show ∀ X, Below W1.heap.size W1 X → X.cell? ⟨w.heap.size, 0, none⟩ = some (.slice A n c) ∧ X.cell? ⟨w.heap.size, 1, none⟩ = some (.int .i64 s.pl) ∧ X.cell? ⟨w.heap.size, 2, none⟩ = some (.int .i64 s.st) ∧ X.cell? ⟨w.heap.size, 3, none⟩ = some (.int .i64 s.nx) ∧ X.cell? ⟨w.heap.size, 4, none⟩ = some (.int .i64 s.ph) ∧ X.cell? ⟨w.heap.size, 5, none⟩ = some (.int .i64 s.t) ∧ X.cell? ⟨w.heap.size, 6, none⟩ = some (.int .i64 s.hd) ∧ X.cell? ⟨w.heap.size, 7, none⟩ = some (.int .i64 s.hl) ∧ X.cell? ⟨w.heap.size, 8, none⟩ = some (.int .i64 s.ak) ∧ X.cell? ⟨w.heap.size, 9, none⟩ = some (.int .i64 s.wt) ∧ X.cell? ⟨w.heap.size, 10, none⟩ = some (.bool s.sp) from fun X hX => by
    obtain ⟨cm, c0, c1, c2, c3, c4, c5, c6, c7, c8, c9⟩ := (hbm.below hX).cells
    exact ⟨cm, c0, c1, c2, c3, c4, c5, c6, c7, c8, c9⟩)
  have HOW := Lib.hid (fun X (hX : Below W1.heap.size W1 X) => own_plan A n c l s X ((hl.below hB1).below hX) h0 h1)
  have HQI := Lib.hid (show ∀ X, Below W1.heap.size W1 X → PlIn X (planAt l s.pl) from fun X hX => plan_lies ((hl.below hB1).below hX) h0 h1)
  have hff : fitP (planAt l s.pl) = true := by
    obtain ⟨j, hj⟩ := Int.eq_ofNat_of_zero_le h0
    rw [hj]
    exact all_fit ha (plan_of hl (by omega)).2
  have HPL := Lib.hid (fun X (hX : Below W1.heap.size W1 X) => placed_any A n c l s X ((hl.below hB1).below hX) h0 h1)
  have HSP := Lib.hid (fun X (hX : Below W1.heap.size W1 X) => spared_any A n c l s X ((hl.below hB1).below hX) h0 h1 hff hs.2)
  have hM := may_is ha h0 h1 hl.len
  have hqk0 := (HQI.out W1 (Below.refl _ _)).s.len
  have HIS := Lib.hid (fun (s0 : 0 ≤ s.st) (s1 : s.st < (planAt l s.pl).k) X (hX : Below W1.heap.size W1 X) => stage_own A n c l s X ((hl.below hB1).below hX) h0 h1 s0 s1)
  have HID := Lib.hid (fun X => idle_any A n c s X)
  rw [range_placed hqk0] at hM
  unfold mcV at HOW HPL HSP HIS HID ⊢
  clear hbm hB1 hl
  have hst0 := hs.1
  rw [hp, hh, Bool.true_and, Bool.true_and] at hM
  rw [hp] at HPL
  rw [hh] at HSP
  have hhe := held_iff.1 hh
  have hh0 := hhe.h0
  have hh1 := hhe.h1
  clear hhe
  have HR := Lib.hid (show mayS l s = false by
    rw [hM, decide_eq_false (by omega)]; rfl)
  obtain ⟨R, hR⟩ : ∃ R, mayS l s = R := ⟨_, rfl⟩
  rw [hR] at HR ⊢
  have q0 : (s.ph == 0) = false := by rw [beq_eq_false_iff_ne]; exact h0p
  have q1 : (s.ph == 1) = false := by rw [beq_eq_false_iff_ne]; exact h1p
  have q2 : (s.ph == 2) = false := by rw [beq_eq_false_iff_ne]; exact h2p
  clear hR hM hp hh hs hst0 h0p h1p h2p HOW HQI HIS HID ha hff
  obtain ⟨pl, st, nx, ph, t, hd, hh, ak, wt, sp⟩ := s
  simp only at *
  go_enter Try.func44, Try.ntmps44
  go_wp2_with (first
    | (go_at_call 60
       rw [HW.out]
       (with_reducible refine (HPL.out _ (Below.refl _ _)).mono ?_)
       rintro e w1 ⟨rfl, hbx⟩
       have hS1 : Below W1.heap.size W1 w1 := hbx
       obtain ⟨cm, c0, c1, c2, c3, c4, c5, c6, c7, c8, c9⟩ := HMC.out w1 hS1
       clear hbx)
    | (go_at_call 61
       (with_reducible refine (HSP.out _ hS1).mono ?_)
       rintro e w2 ⟨rfl, hbx⟩
       have hS2 : Below W1.heap.size W1 w2 := hS1.trans (hbx.mono hS1.size)
       obtain ⟨dm, d0, d1, d2, d3, d4, d5, d6, d7, d8, d9⟩ := HMC.out w2 hS2
       clear hbx))
  go_ret
  exact ⟨by rw [HR.out]; rfl, HB1.out.trans (hS2.mono HB1.out.size)⟩
set_option maxHeartbeats 8000000 in
theorem fits_1a (A : Option Addr) (n c : Nat) (l : List Pl) (s : Sg) (w : World) (hl : Pls w A n c l) (ha : allP l = true) (h0 : 0 ≤ s.pl) (h1 : s.pl < n) (hs : SmG s) (hp : placedB (planAt l s.pl) n s = true) (hh : heldB (planAt l s.pl) s = true) (hph : s.ph = 1) (hi : (decide (s.hd = 0) && (decide (s.hl = 0) && decide (s.ak = -1))) = false) : Calls Try.prog 44 #[mcV A n c s] w fun e w' => e = .returned (.bool (mayS l s)) ∧ Below w.heap.size w w' := by
  obtain ⟨W1, hW1⟩ : ∃ W1, w.alloc (.cells #[.slice A n c, .int .i64 s.pl, .int .i64 s.st, .int .i64 s.nx, .int .i64 s.ph, .int .i64 s.t, .int .i64 s.hd, .int .i64 s.hl, .int .i64 s.ak, .int .i64 s.wt, .bool s.sp] 66) = W1 := ⟨_, rfl⟩
  have hB1 : Below w.heap.size w W1 := by rw [← hW1]; exact one_alloc w _
  have hbm : BoxM W1 w.heap.size A n c s := by rw [← hW1]; exact BoxM.new w A n c s
  have HW := Lib.hid hW1
  clear hW1
  have HB1 := Lib.hid hB1
  have HMC := Lib.hid (show ∀ X, Below W1.heap.size W1 X → X.cell? ⟨w.heap.size, 0, none⟩ = some (.slice A n c) ∧ X.cell? ⟨w.heap.size, 1, none⟩ = some (.int .i64 s.pl) ∧ X.cell? ⟨w.heap.size, 2, none⟩ = some (.int .i64 s.st) ∧ X.cell? ⟨w.heap.size, 3, none⟩ = some (.int .i64 s.nx) ∧ X.cell? ⟨w.heap.size, 4, none⟩ = some (.int .i64 s.ph) ∧ X.cell? ⟨w.heap.size, 5, none⟩ = some (.int .i64 s.t) ∧ X.cell? ⟨w.heap.size, 6, none⟩ = some (.int .i64 s.hd) ∧ X.cell? ⟨w.heap.size, 7, none⟩ = some (.int .i64 s.hl) ∧ X.cell? ⟨w.heap.size, 8, none⟩ = some (.int .i64 s.ak) ∧ X.cell? ⟨w.heap.size, 9, none⟩ = some (.int .i64 s.wt) ∧ X.cell? ⟨w.heap.size, 10, none⟩ = some (.bool s.sp) from fun X hX => by
    obtain ⟨cm, c0, c1, c2, c3, c4, c5, c6, c7, c8, c9⟩ := (hbm.below hX).cells
    exact ⟨cm, c0, c1, c2, c3, c4, c5, c6, c7, c8, c9⟩)
  have HOW := Lib.hid (fun X (hX : Below W1.heap.size W1 X) => own_plan A n c l s X ((hl.below hB1).below hX) h0 h1)
  have HQI := Lib.hid (show ∀ X, Below W1.heap.size W1 X → PlIn X (planAt l s.pl) from fun X hX => plan_lies ((hl.below hB1).below hX) h0 h1)
  have hff : fitP (planAt l s.pl) = true := by
    obtain ⟨j, hj⟩ := Int.eq_ofNat_of_zero_le h0
    rw [hj]
    exact all_fit ha (plan_of hl (by omega)).2
  have HPL := Lib.hid (fun X (hX : Below W1.heap.size W1 X) => placed_any A n c l s X ((hl.below hB1).below hX) h0 h1)
  have HSP := Lib.hid (fun X (hX : Below W1.heap.size W1 X) => spared_any A n c l s X ((hl.below hB1).below hX) h0 h1 hff hs.2)
  have hM := may_is ha h0 h1 hl.len
  have hqk0 := (HQI.out W1 (Below.refl _ _)).s.len
  have HIS := Lib.hid (fun (s0 : 0 ≤ s.st) (s1 : s.st < (planAt l s.pl).k) X (hX : Below W1.heap.size W1 X) => stage_own A n c l s X ((hl.below hB1).below hX) h0 h1 s0 s1)
  have HID := Lib.hid (fun X => idle_any A n c s X)
  rw [range_placed hqk0] at hM
  unfold mcV at HOW HPL HSP HIS HID ⊢
  clear hbm hB1 hl
  have hst0 := hs.1
  rw [hp, hh, Bool.true_and, Bool.true_and] at hM
  rw [hp] at HPL
  rw [hh] at HSP
  have hhe := held_iff.1 hh
  have hh0 := hhe.h0
  have hh1 := hhe.h1
  clear hhe
  have HR := Lib.hid (show mayS l s = false by
    rw [hM, timeB, if_neg (by omega), decide_eq_true (by omega), Bool.true_and]
    rw [← Bool.not_eq_true, Bool.and_eq_true, Bool.and_eq_true, decide_eq_true_eq, decide_eq_true_eq, decide_eq_true_eq] at hi
    exact decide_eq_false fun h => hi ⟨h.1, h.2.1, h.2.2.1⟩)
  rw [hi] at HID
  obtain ⟨q, hq⟩ : ∃ q, planAt l s.pl = q := ⟨_, rfl⟩
  rw [hq] at HOW
  try rw [hq] at HR
  unfold plV at HOW
  obtain ⟨R, hR⟩ : ∃ R, mayS l s = R := ⟨_, rfl⟩
  rw [hR] at HR ⊢
  clear hR hM hp hh hs hst0 HQI HIS hi hq hff ha hqk0
  obtain ⟨A', n', c', m, B, k, d, sl, am, rd, hd'⟩ := q
  obtain ⟨pl, st, nx, ph, t, hd, hh, ak, wt, sp⟩ := s
  simp only at *
  subst hph
  go_enter Try.func44, Try.ntmps44
  go_wp2_with (first
    | (go_at_call 60
       rw [HW.out]
       (with_reducible refine (HPL.out _ (Below.refl _ _)).mono ?_)
       rintro e w1 ⟨rfl, hbx⟩
       have hS1 : Below W1.heap.size W1 w1 := hbx
       obtain ⟨cm, c0, c1, c2, c3, c4, c5, c6, c7, c8, c9⟩ := HMC.out w1 hS1
       clear hbx)
    | (go_at_call 61
       (with_reducible refine (HSP.out _ hS1).mono ?_)
       rintro e w2 ⟨rfl, hbx⟩
       have hS2 : Below W1.heap.size W1 w2 := hS1.trans (hbx.mono hS1.size)
       obtain ⟨dm, d0, d1, d2, d3, d4, d5, d6, d7, d8, d9⟩ := HMC.out w2 hS2
       clear hbx))
  clear cm c0 c1 c2 c3 c4 c5 c6 c7 c8 c9 dm d0 d1 d2 d3 d4 d5 d6 d7 d8 d9
  have hSd : Below W1.heap.size W1 w2.drew := hS2.drew
  refine wp_region_held_drew (S := fun X => Below W1.heap.size W1 X) (by kernel_rfl) hSd (fun hHeld => ?_)
  obtain ⟨y0, hY0⟩ : ∃ Y, w2.drew = Y := ⟨_, rfl⟩
  rw [hY0] at hSd hHeld ⊢
  clear hY0
  refine tkS 0 (.agg #[.slice A n c, .int .i64 pl, .int .i64 st, .int .i64 nx, .int .i64 1, .int .i64 t, .int .i64 hd, .int .i64 hh, .int .i64 ak, .int .i64 wt, .bool sp]) hHeld (fun w hq => ?_) ?_
  · obtain ⟨cm, c0, c1, c2, c3, c4, c5, c6, c7, c8, c9⟩ := HMC.out w hq
    go_simp
  simp only [PT]
  refine one_step 1 (by kernel_rfl) rfl (fun Kq hKq => ?_)
  go_simp
  go_at_call 63
  (with_reducible refine (HID.out _).mono ?_)
  rintro e y1 ⟨rfl, hbx⟩
  have hS1 : Below W1.heap.size W1 y1 := hSd.trans (hbx.mono hSd.size)
  clear hbx
  refine hKq.out _ _ hS1 (fun hHeld0 => ?_)
  clear hKq Kq hHeld
  have hHeld := hHeld0
  clear hHeld0
  try simp only [PT]
  refine tk 2 (.bool false) hHeld (fun w => ?_) ?_
  · go_simp
  simp only [PT]
  refine tkO 3 hHeld ?_
  simp only [PT]
  refine tkO 4 hHeld ?_
  simp only [PT]
  refine tkO 5 hHeld ?_
  simp only [PT]
  refine tkO 6 hHeld ?_
  simp only [PT]
  refine tk 7 (.bool false) hHeld (fun w => ?_) ?_
  · go_simp
  simp only [PT]
  refine tk 8 (.bool false) hHeld (fun w => ?_) ?_
  · go_simp
  simp only [PT]
  refine tkO 9 hHeld ?_
  simp only [PT]
  refine tkO 10 hHeld ?_
  simp only [PT]
  refine tkO 11 hHeld ?_
  simp only [PT]
  refine tkO 12 hHeld ?_
  simp only [PT]
  refine tkO 13 hHeld ?_
  simp only [PT]
  refine tkO 14 hHeld ?_
  simp only [PT]
  refine tkO 15 hHeld ?_
  simp only [PT]
  refine tk 16 (.bool false) hHeld (fun w => ?_) ?_
  · go_simp
  simp only [PT]
  refine tk 17 (.bool false) hHeld (fun w => ?_) ?_
  · go_simp
  simp only [PT]
  refine wpAnyH_done (by kernel_rfl) ?_ _
  clear hHeld
  go_wp2
  go_ret
  exact ⟨by rw [HR.out]; rfl, HB1.out.trans (hS1.mono HB1.out.size)⟩
set_option maxHeartbeats 8000000 in
theorem fits_1b (A : Option Addr) (n c : Nat) (l : List Pl) (s : Sg) (w : World) (hl : Pls w A n c l) (ha : allP l = true) (h0 : 0 ≤ s.pl) (h1 : s.pl < n) (hs : SmG s) (hp : placedB (planAt l s.pl) n s = true) (hh : heldB (planAt l s.pl) s = true) (hph : s.ph = 1) (hi : (decide (s.hd = 0) && (decide (s.hl = 0) && decide (s.ak = -1))) = true) (ht : s.t < 0) : Calls Try.prog 44 #[mcV A n c s] w fun e w' => e = .returned (.bool (mayS l s)) ∧ Below w.heap.size w w' := by
  obtain ⟨W1, hW1⟩ : ∃ W1, w.alloc (.cells #[.slice A n c, .int .i64 s.pl, .int .i64 s.st, .int .i64 s.nx, .int .i64 s.ph, .int .i64 s.t, .int .i64 s.hd, .int .i64 s.hl, .int .i64 s.ak, .int .i64 s.wt, .bool s.sp] 66) = W1 := ⟨_, rfl⟩
  have hB1 : Below w.heap.size w W1 := by rw [← hW1]; exact one_alloc w _
  have hbm : BoxM W1 w.heap.size A n c s := by rw [← hW1]; exact BoxM.new w A n c s
  have HW := Lib.hid hW1
  clear hW1
  have HB1 := Lib.hid hB1
  have HMC := Lib.hid (show ∀ X, Below W1.heap.size W1 X → X.cell? ⟨w.heap.size, 0, none⟩ = some (.slice A n c) ∧ X.cell? ⟨w.heap.size, 1, none⟩ = some (.int .i64 s.pl) ∧ X.cell? ⟨w.heap.size, 2, none⟩ = some (.int .i64 s.st) ∧ X.cell? ⟨w.heap.size, 3, none⟩ = some (.int .i64 s.nx) ∧ X.cell? ⟨w.heap.size, 4, none⟩ = some (.int .i64 s.ph) ∧ X.cell? ⟨w.heap.size, 5, none⟩ = some (.int .i64 s.t) ∧ X.cell? ⟨w.heap.size, 6, none⟩ = some (.int .i64 s.hd) ∧ X.cell? ⟨w.heap.size, 7, none⟩ = some (.int .i64 s.hl) ∧ X.cell? ⟨w.heap.size, 8, none⟩ = some (.int .i64 s.ak) ∧ X.cell? ⟨w.heap.size, 9, none⟩ = some (.int .i64 s.wt) ∧ X.cell? ⟨w.heap.size, 10, none⟩ = some (.bool s.sp) from fun X hX => by
    obtain ⟨cm, c0, c1, c2, c3, c4, c5, c6, c7, c8, c9⟩ := (hbm.below hX).cells
    exact ⟨cm, c0, c1, c2, c3, c4, c5, c6, c7, c8, c9⟩)
  have HOW := Lib.hid (fun X (hX : Below W1.heap.size W1 X) => own_plan A n c l s X ((hl.below hB1).below hX) h0 h1)
  have HQI := Lib.hid (show ∀ X, Below W1.heap.size W1 X → PlIn X (planAt l s.pl) from fun X hX => plan_lies ((hl.below hB1).below hX) h0 h1)
  have hff : fitP (planAt l s.pl) = true := by
    obtain ⟨j, hj⟩ := Int.eq_ofNat_of_zero_le h0
    rw [hj]
    exact all_fit ha (plan_of hl (by omega)).2
  have HPL := Lib.hid (fun X (hX : Below W1.heap.size W1 X) => placed_any A n c l s X ((hl.below hB1).below hX) h0 h1)
  have HSP := Lib.hid (fun X (hX : Below W1.heap.size W1 X) => spared_any A n c l s X ((hl.below hB1).below hX) h0 h1 hff hs.2)
  have hM := may_is ha h0 h1 hl.len
  have hqk0 := (HQI.out W1 (Below.refl _ _)).s.len
  have HIS := Lib.hid (fun (s0 : 0 ≤ s.st) (s1 : s.st < (planAt l s.pl).k) X (hX : Below W1.heap.size W1 X) => stage_own A n c l s X ((hl.below hB1).below hX) h0 h1 s0 s1)
  have HID := Lib.hid (fun X => idle_any A n c s X)
  rw [range_placed hqk0] at hM
  unfold mcV at HOW HPL HSP HIS HID ⊢
  clear hbm hB1 hl
  have hst0 := hs.1
  rw [hp, hh, Bool.true_and, Bool.true_and] at hM
  rw [hp] at HPL
  rw [hh] at HSP
  have hhe := held_iff.1 hh
  have hh0 := hhe.h0
  have hh1 := hhe.h1
  clear hhe
  have HR := Lib.hid (show mayS l s = false by
    rw [hM, timeB, if_neg (by omega), decide_eq_true (by omega), Bool.true_and]
    exact decide_eq_false fun h => by omega)
  rw [hi] at HID
  obtain ⟨q, hq⟩ : ∃ q, planAt l s.pl = q := ⟨_, rfl⟩
  rw [hq] at HOW
  try rw [hq] at HR
  unfold plV at HOW
  obtain ⟨R, hR⟩ : ∃ R, mayS l s = R := ⟨_, rfl⟩
  rw [hR] at HR ⊢
  clear hR hM hp hh hs hst0 HQI HIS hi hq hff ha hqk0
  have hb : decide (0 ≤ s.t) = false := decide_eq_false (by omega)
  obtain ⟨A', n', c', m, B, k, d, sl, am, rd, hd'⟩ := q
  obtain ⟨pl, st, nx, ph, t, hd, hh, ak, wt, sp⟩ := s
  simp only at *
  subst hph
  go_enter Try.func44, Try.ntmps44
  go_wp2_with (first
    | (go_at_call 60
       rw [HW.out]
       (with_reducible refine (HPL.out _ (Below.refl _ _)).mono ?_)
       rintro e w1 ⟨rfl, hbx⟩
       have hS1 : Below W1.heap.size W1 w1 := hbx
       obtain ⟨cm, c0, c1, c2, c3, c4, c5, c6, c7, c8, c9⟩ := HMC.out w1 hS1
       clear hbx)
    | (go_at_call 61
       (with_reducible refine (HSP.out _ hS1).mono ?_)
       rintro e w2 ⟨rfl, hbx⟩
       have hS2 : Below W1.heap.size W1 w2 := hS1.trans (hbx.mono hS1.size)
       obtain ⟨dm, d0, d1, d2, d3, d4, d5, d6, d7, d8, d9⟩ := HMC.out w2 hS2
       clear hbx))
  clear cm c0 c1 c2 c3 c4 c5 c6 c7 c8 c9 dm d0 d1 d2 d3 d4 d5 d6 d7 d8 d9
  have hSd : Below W1.heap.size W1 w2.drew := hS2.drew
  refine wp_region_held_drew (S := fun X => Below W1.heap.size W1 X) (by kernel_rfl) hSd (fun hHeld => ?_)
  obtain ⟨y0, hY0⟩ : ∃ Y, w2.drew = Y := ⟨_, rfl⟩
  rw [hY0] at hSd hHeld ⊢
  clear hY0
  refine tkS 0 (.agg #[.slice A n c, .int .i64 pl, .int .i64 st, .int .i64 nx, .int .i64 1, .int .i64 t, .int .i64 hd, .int .i64 hh, .int .i64 ak, .int .i64 wt, .bool sp]) hHeld (fun w hq => ?_) ?_
  · obtain ⟨cm, c0, c1, c2, c3, c4, c5, c6, c7, c8, c9⟩ := HMC.out w hq
    go_simp
  simp only [PT]
  refine one_step 1 (by kernel_rfl) rfl (fun Kq hKq => ?_)
  go_simp
  go_at_call 63
  (with_reducible refine (HID.out _).mono ?_)
  rintro e y1 ⟨rfl, hbx⟩
  have hS1 : Below W1.heap.size W1 y1 := hSd.trans (hbx.mono hSd.size)
  clear hbx
  refine hKq.out _ _ hS1 (fun hHeld0 => ?_)
  clear hKq Kq hHeld
  have hHeld := hHeld0
  clear hHeld0
  try simp only [PT]
  refine tk 2 (.bool true) hHeld (fun w => ?_) ?_
  · go_simp
  simp only [PT]
  refine tk 3 (.pointer (some ⟨w.heap.size, 1, none⟩)) hHeld (fun w => ?_) ?_
  · go_simp
  simp only [PT]
  refine tk 4 (.pointer (some ⟨w.heap.size, 5, none⟩)) hHeld (fun w => ?_) ?_
  · go_simp
  simp only [PT]
  refine tkS 5 (.int .i64 t) hHeld (fun w hq => ?_) ?_
  · obtain ⟨cm, c0, c1, c2, c3, c4, c5, c6, c7, c8, c9⟩ := HMC.out w hq
    go_simp
  simp only [PT]
  refine tk 6 (.bool false) hHeld (fun w => ?_) ?_
  · go_simp
  simp only [PT]
  refine tk 7 (.bool false) hHeld (fun w => ?_) ?_
  · go_simp
  simp only [PT]
  refine tk 8 (.bool false) hHeld (fun w => ?_) ?_
  · go_simp
  simp only [PT]
  refine tkO 9 hHeld ?_
  simp only [PT]
  refine tkO 10 hHeld ?_
  simp only [PT]
  refine tkO 11 hHeld ?_
  simp only [PT]
  refine tkO 12 hHeld ?_
  simp only [PT]
  refine tkO 13 hHeld ?_
  simp only [PT]
  refine tkO 14 hHeld ?_
  simp only [PT]
  refine tkO 15 hHeld ?_
  simp only [PT]
  refine tk 16 (.bool false) hHeld (fun w => ?_) ?_
  · go_simp
  simp only [PT]
  refine tk 17 (.bool false) hHeld (fun w => ?_) ?_
  · go_simp
  simp only [PT]
  refine wpAnyH_done (by kernel_rfl) ?_ _
  clear hHeld
  go_wp2
  go_ret
  exact ⟨by rw [HR.out]; rfl, HB1.out.trans (hS1.mono HB1.out.size)⟩
set_option maxHeartbeats 8000000 in
theorem fits_1c (A : Option Addr) (n c : Nat) (l : List Pl) (s : Sg) (w : World) (hl : Pls w A n c l) (ha : allP l = true) (h0 : 0 ≤ s.pl) (h1 : s.pl < n) (hs : SmG s) (hp : placedB (planAt l s.pl) n s = true) (hh : heldB (planAt l s.pl) s = true) (hph : s.ph = 1) (hi : (decide (s.hd = 0) && (decide (s.hl = 0) && decide (s.ak = -1))) = true) (ht : 0 ≤ s.t) : Calls Try.prog 44 #[mcV A n c s] w fun e w' => e = .returned (.bool (mayS l s)) ∧ Below w.heap.size w w' := by
  obtain ⟨W1, hW1⟩ : ∃ W1, w.alloc (.cells #[.slice A n c, .int .i64 s.pl, .int .i64 s.st, .int .i64 s.nx, .int .i64 s.ph, .int .i64 s.t, .int .i64 s.hd, .int .i64 s.hl, .int .i64 s.ak, .int .i64 s.wt, .bool s.sp] 66) = W1 := ⟨_, rfl⟩
  have hB1 : Below w.heap.size w W1 := by rw [← hW1]; exact one_alloc w _
  have hbm : BoxM W1 w.heap.size A n c s := by rw [← hW1]; exact BoxM.new w A n c s
  have HW := Lib.hid hW1
  clear hW1
  have HB1 := Lib.hid hB1
  have HMC := Lib.hid (show ∀ X, Below W1.heap.size W1 X → X.cell? ⟨w.heap.size, 0, none⟩ = some (.slice A n c) ∧ X.cell? ⟨w.heap.size, 1, none⟩ = some (.int .i64 s.pl) ∧ X.cell? ⟨w.heap.size, 2, none⟩ = some (.int .i64 s.st) ∧ X.cell? ⟨w.heap.size, 3, none⟩ = some (.int .i64 s.nx) ∧ X.cell? ⟨w.heap.size, 4, none⟩ = some (.int .i64 s.ph) ∧ X.cell? ⟨w.heap.size, 5, none⟩ = some (.int .i64 s.t) ∧ X.cell? ⟨w.heap.size, 6, none⟩ = some (.int .i64 s.hd) ∧ X.cell? ⟨w.heap.size, 7, none⟩ = some (.int .i64 s.hl) ∧ X.cell? ⟨w.heap.size, 8, none⟩ = some (.int .i64 s.ak) ∧ X.cell? ⟨w.heap.size, 9, none⟩ = some (.int .i64 s.wt) ∧ X.cell? ⟨w.heap.size, 10, none⟩ = some (.bool s.sp) from fun X hX => by
    obtain ⟨cm, c0, c1, c2, c3, c4, c5, c6, c7, c8, c9⟩ := (hbm.below hX).cells
    exact ⟨cm, c0, c1, c2, c3, c4, c5, c6, c7, c8, c9⟩)
  have HOW := Lib.hid (fun X (hX : Below W1.heap.size W1 X) => own_plan A n c l s X ((hl.below hB1).below hX) h0 h1)
  have HQI := Lib.hid (show ∀ X, Below W1.heap.size W1 X → PlIn X (planAt l s.pl) from fun X hX => plan_lies ((hl.below hB1).below hX) h0 h1)
  have hff : fitP (planAt l s.pl) = true := by
    obtain ⟨j, hj⟩ := Int.eq_ofNat_of_zero_le h0
    rw [hj]
    exact all_fit ha (plan_of hl (by omega)).2
  have HPL := Lib.hid (fun X (hX : Below W1.heap.size W1 X) => placed_any A n c l s X ((hl.below hB1).below hX) h0 h1)
  have HSP := Lib.hid (fun X (hX : Below W1.heap.size W1 X) => spared_any A n c l s X ((hl.below hB1).below hX) h0 h1 hff hs.2)
  have hM := may_is ha h0 h1 hl.len
  have hqk0 := (HQI.out W1 (Below.refl _ _)).s.len
  have HIS := Lib.hid (fun (s0 : 0 ≤ s.st) (s1 : s.st < (planAt l s.pl).k) X (hX : Below W1.heap.size W1 X) => stage_own A n c l s X ((hl.below hB1).below hX) h0 h1 s0 s1)
  have HID := Lib.hid (fun X => idle_any A n c s X)
  rw [range_placed hqk0] at hM
  unfold mcV at HOW HPL HSP HIS HID ⊢
  clear hbm hB1 hl
  have hst0 := hs.1
  rw [hp, hh, Bool.true_and, Bool.true_and] at hM
  rw [hp] at HPL
  rw [hh] at HSP
  have hhe := held_iff.1 hh
  have hh0 := hhe.h0
  have hh1 := hhe.h1
  clear hhe
  have HR := Lib.hid (show mayS l s = decide (s.t < (planAt l s.pl).am) by
    rw [hM, timeB, if_neg (by omega), decide_eq_true (by omega), Bool.true_and]
    rw [Bool.and_eq_true, Bool.and_eq_true, decide_eq_true_eq, decide_eq_true_eq, decide_eq_true_eq] at hi
    exact decide_eq_decide.2 ⟨fun h => by exact h.2.2.2.2.1 hph, fun h => ⟨hi.1, hi.2.1, hi.2.2, ht, fun e => by exact h, fun e => by exact (e hph).elim⟩⟩)
  rw [hi] at HID
  obtain ⟨q, hq⟩ : ∃ q, planAt l s.pl = q := ⟨_, rfl⟩
  rw [hq] at HOW
  try rw [hq] at HR
  unfold plV at HOW
  obtain ⟨R, hR⟩ : ∃ R, mayS l s = R := ⟨_, rfl⟩
  rw [hR] at HR ⊢
  clear hR hM hp hh hs hst0 HQI HIS hi hq hff ha hqk0
  have hb : decide (0 ≤ s.t) = true := decide_eq_true ht
  obtain ⟨A', n', c', m, B, k, d, sl, am, rd, hd'⟩ := q
  obtain ⟨pl, st, nx, ph, t, hd, hh, ak, wt, sp⟩ := s
  simp only at *
  subst hph
  go_enter Try.func44, Try.ntmps44
  go_wp2_with (first
    | (go_at_call 60
       rw [HW.out]
       (with_reducible refine (HPL.out _ (Below.refl _ _)).mono ?_)
       rintro e w1 ⟨rfl, hbx⟩
       have hS1 : Below W1.heap.size W1 w1 := hbx
       obtain ⟨cm, c0, c1, c2, c3, c4, c5, c6, c7, c8, c9⟩ := HMC.out w1 hS1
       clear hbx)
    | (go_at_call 61
       (with_reducible refine (HSP.out _ hS1).mono ?_)
       rintro e w2 ⟨rfl, hbx⟩
       have hS2 : Below W1.heap.size W1 w2 := hS1.trans (hbx.mono hS1.size)
       obtain ⟨dm, d0, d1, d2, d3, d4, d5, d6, d7, d8, d9⟩ := HMC.out w2 hS2
       clear hbx))
  clear cm c0 c1 c2 c3 c4 c5 c6 c7 c8 c9 dm d0 d1 d2 d3 d4 d5 d6 d7 d8 d9
  have hSd : Below W1.heap.size W1 w2.drew := hS2.drew
  refine wp_region_held_drew (S := fun X => Below W1.heap.size W1 X) (by kernel_rfl) hSd (fun hHeld => ?_)
  obtain ⟨y0, hY0⟩ : ∃ Y, w2.drew = Y := ⟨_, rfl⟩
  rw [hY0] at hSd hHeld ⊢
  clear hY0
  refine tkS 0 (.agg #[.slice A n c, .int .i64 pl, .int .i64 st, .int .i64 nx, .int .i64 1, .int .i64 t, .int .i64 hd, .int .i64 hh, .int .i64 ak, .int .i64 wt, .bool sp]) hHeld (fun w hq => ?_) ?_
  · obtain ⟨cm, c0, c1, c2, c3, c4, c5, c6, c7, c8, c9⟩ := HMC.out w hq
    go_simp
  simp only [PT]
  refine one_step 1 (by kernel_rfl) rfl (fun Kq hKq => ?_)
  go_simp
  go_at_call 63
  (with_reducible refine (HID.out _).mono ?_)
  rintro e y1 ⟨rfl, hbx⟩
  have hS1 : Below W1.heap.size W1 y1 := hSd.trans (hbx.mono hSd.size)
  clear hbx
  refine hKq.out _ _ hS1 (fun hHeld0 => ?_)
  clear hKq Kq hHeld
  have hHeld := hHeld0
  clear hHeld0
  try simp only [PT]
  refine tk 2 (.bool true) hHeld (fun w => ?_) ?_
  · go_simp
  simp only [PT]
  refine tk 3 (.pointer (some ⟨w.heap.size, 1, none⟩)) hHeld (fun w => ?_) ?_
  · go_simp
  simp only [PT]
  refine tk 4 (.pointer (some ⟨w.heap.size, 5, none⟩)) hHeld (fun w => ?_) ?_
  · go_simp
  simp only [PT]
  refine tkS 5 (.int .i64 t) hHeld (fun w hq => ?_) ?_
  · obtain ⟨cm, c0, c1, c2, c3, c4, c5, c6, c7, c8, c9⟩ := HMC.out w hq
    go_simp
  simp only [PT]
  refine tk 6 (.bool true) hHeld (fun w => ?_) ?_
  · go_simp
  simp only [PT]
  refine tk 7 (.bool true) hHeld (fun w => ?_) ?_
  · go_simp
  simp only [PT]
  refine tk 8 (.bool true) hHeld (fun w => ?_) ?_
  · go_simp
  simp only [PT]
  refine tk 9 (.pointer (some ⟨w.heap.size, 1, none⟩)) hHeld (fun w => ?_) ?_
  · go_simp
  simp only [PT]
  refine tk 10 (.pointer (some ⟨w.heap.size, 5, none⟩)) hHeld (fun w => ?_) ?_
  · go_simp
  simp only [PT]
  refine tkS 11 (.int .i64 t) hHeld (fun w hq => ?_) ?_
  · obtain ⟨cm, c0, c1, c2, c3, c4, c5, c6, c7, c8, c9⟩ := HMC.out w hq
    go_simp
  simp only [PT]
  refine tkS 12 (.agg #[.slice A n c, .int .i64 pl, .int .i64 st, .int .i64 nx, .int .i64 1, .int .i64 t, .int .i64 hd, .int .i64 hh, .int .i64 ak, .int .i64 wt, .bool sp]) hHeld (fun w hq => ?_) ?_
  · obtain ⟨cm, c0, c1, c2, c3, c4, c5, c6, c7, c8, c9⟩ := HMC.out w hq
    go_simp
  simp only [PT]
  refine one_step 13 (by kernel_rfl) rfl (fun Kq hKq => ?_)
  go_simp
  go_at_call 58
  (with_reducible refine (HOW.out _ hS1).mono ?_)
  rintro e y2 ⟨rfl, hbx⟩
  try simp only [plV]
  have hS2 : Below W1.heap.size W1 y2 := hS1.trans (hbx.mono hS1.size)
  clear hbx
  refine hKq.out _ _ hS2 (fun hHeld0 => ?_)
  clear hKq Kq hHeld
  have hHeld := hHeld0
  clear hHeld0
  try simp only [PT]
  refine tk 14 (.int .i64 am) hHeld (fun w => ?_) ?_
  · (go_simp; try rfl)
  simp only [PT]
  refine tk 15 (.bool (decide (t < am))) hHeld (fun w => ?_) ?_
  · go_simp
  simp only [PT]
  refine tk 16 (.bool (decide (t < am))) hHeld (fun w => ?_) ?_
  · go_simp
  simp only [PT]
  refine tk 17 (.bool (decide (t < am))) hHeld (fun w => ?_) ?_
  · go_simp
  simp only [PT]
  refine wpAnyH_done (by kernel_rfl) ?_ _
  clear hHeld
  go_wp2
  go_ret
  exact ⟨by rw [HR.out]; rfl, HB1.out.trans (hS2.mono HB1.out.size)⟩
set_option maxHeartbeats 8000000 in
theorem fits_2a (A : Option Addr) (n c : Nat) (l : List Pl) (s : Sg) (w : World) (hl : Pls w A n c l) (ha : allP l = true) (h0 : 0 ≤ s.pl) (h1 : s.pl < n) (hs : SmG s) (hp : placedB (planAt l s.pl) n s = true) (hh : heldB (planAt l s.pl) s = true) (hph : s.ph = 2) (hi : (decide (s.hd = 0) && (decide (s.hl = 0) && decide (s.ak = -1))) = false) : Calls Try.prog 44 #[mcV A n c s] w fun e w' => e = .returned (.bool (mayS l s)) ∧ Below w.heap.size w w' := by
  obtain ⟨W1, hW1⟩ : ∃ W1, w.alloc (.cells #[.slice A n c, .int .i64 s.pl, .int .i64 s.st, .int .i64 s.nx, .int .i64 s.ph, .int .i64 s.t, .int .i64 s.hd, .int .i64 s.hl, .int .i64 s.ak, .int .i64 s.wt, .bool s.sp] 66) = W1 := ⟨_, rfl⟩
  have hB1 : Below w.heap.size w W1 := by rw [← hW1]; exact one_alloc w _
  have hbm : BoxM W1 w.heap.size A n c s := by rw [← hW1]; exact BoxM.new w A n c s
  have HW := Lib.hid hW1
  clear hW1
  have HB1 := Lib.hid hB1
  have HMC := Lib.hid (show ∀ X, Below W1.heap.size W1 X → X.cell? ⟨w.heap.size, 0, none⟩ = some (.slice A n c) ∧ X.cell? ⟨w.heap.size, 1, none⟩ = some (.int .i64 s.pl) ∧ X.cell? ⟨w.heap.size, 2, none⟩ = some (.int .i64 s.st) ∧ X.cell? ⟨w.heap.size, 3, none⟩ = some (.int .i64 s.nx) ∧ X.cell? ⟨w.heap.size, 4, none⟩ = some (.int .i64 s.ph) ∧ X.cell? ⟨w.heap.size, 5, none⟩ = some (.int .i64 s.t) ∧ X.cell? ⟨w.heap.size, 6, none⟩ = some (.int .i64 s.hd) ∧ X.cell? ⟨w.heap.size, 7, none⟩ = some (.int .i64 s.hl) ∧ X.cell? ⟨w.heap.size, 8, none⟩ = some (.int .i64 s.ak) ∧ X.cell? ⟨w.heap.size, 9, none⟩ = some (.int .i64 s.wt) ∧ X.cell? ⟨w.heap.size, 10, none⟩ = some (.bool s.sp) from fun X hX => by
    obtain ⟨cm, c0, c1, c2, c3, c4, c5, c6, c7, c8, c9⟩ := (hbm.below hX).cells
    exact ⟨cm, c0, c1, c2, c3, c4, c5, c6, c7, c8, c9⟩)
  have HOW := Lib.hid (fun X (hX : Below W1.heap.size W1 X) => own_plan A n c l s X ((hl.below hB1).below hX) h0 h1)
  have HQI := Lib.hid (show ∀ X, Below W1.heap.size W1 X → PlIn X (planAt l s.pl) from fun X hX => plan_lies ((hl.below hB1).below hX) h0 h1)
  have hff : fitP (planAt l s.pl) = true := by
    obtain ⟨j, hj⟩ := Int.eq_ofNat_of_zero_le h0
    rw [hj]
    exact all_fit ha (plan_of hl (by omega)).2
  have HPL := Lib.hid (fun X (hX : Below W1.heap.size W1 X) => placed_any A n c l s X ((hl.below hB1).below hX) h0 h1)
  have HSP := Lib.hid (fun X (hX : Below W1.heap.size W1 X) => spared_any A n c l s X ((hl.below hB1).below hX) h0 h1 hff hs.2)
  have hM := may_is ha h0 h1 hl.len
  have hqk0 := (HQI.out W1 (Below.refl _ _)).s.len
  have HIS := Lib.hid (fun (s0 : 0 ≤ s.st) (s1 : s.st < (planAt l s.pl).k) X (hX : Below W1.heap.size W1 X) => stage_own A n c l s X ((hl.below hB1).below hX) h0 h1 s0 s1)
  have HID := Lib.hid (fun X => idle_any A n c s X)
  rw [range_placed hqk0] at hM
  unfold mcV at HOW HPL HSP HIS HID ⊢
  clear hbm hB1 hl
  have hst0 := hs.1
  rw [hp, hh, Bool.true_and, Bool.true_and] at hM
  rw [hp] at HPL
  rw [hh] at HSP
  have hhe := held_iff.1 hh
  have hh0 := hhe.h0
  have hh1 := hhe.h1
  clear hhe
  have HR := Lib.hid (show mayS l s = false by
    rw [hM, timeB, if_neg (by omega), decide_eq_true (by omega), Bool.true_and]
    rw [← Bool.not_eq_true, Bool.and_eq_true, Bool.and_eq_true, decide_eq_true_eq, decide_eq_true_eq, decide_eq_true_eq] at hi
    exact decide_eq_false fun h => hi ⟨h.1, h.2.1, h.2.2.1⟩)
  rw [hi] at HID
  obtain ⟨q, hq⟩ : ∃ q, planAt l s.pl = q := ⟨_, rfl⟩
  rw [hq] at HOW
  try rw [hq] at HR
  unfold plV at HOW
  obtain ⟨R, hR⟩ : ∃ R, mayS l s = R := ⟨_, rfl⟩
  rw [hR] at HR ⊢
  clear hR hM hp hh hs hst0 HQI HIS hi hq hff ha hqk0
  obtain ⟨A', n', c', m, B, k, d, sl, am, rd, hd'⟩ := q
  obtain ⟨pl, st, nx, ph, t, hd, hh, ak, wt, sp⟩ := s
  simp only at *
  subst hph
  go_enter Try.func44, Try.ntmps44
  go_wp2_with (first
    | (go_at_call 60
       rw [HW.out]
       (with_reducible refine (HPL.out _ (Below.refl _ _)).mono ?_)
       rintro e w1 ⟨rfl, hbx⟩
       have hS1 : Below W1.heap.size W1 w1 := hbx
       obtain ⟨cm, c0, c1, c2, c3, c4, c5, c6, c7, c8, c9⟩ := HMC.out w1 hS1
       clear hbx)
    | (go_at_call 61
       (with_reducible refine (HSP.out _ hS1).mono ?_)
       rintro e w2 ⟨rfl, hbx⟩
       have hS2 : Below W1.heap.size W1 w2 := hS1.trans (hbx.mono hS1.size)
       obtain ⟨dm, d0, d1, d2, d3, d4, d5, d6, d7, d8, d9⟩ := HMC.out w2 hS2
       clear hbx))
  clear cm c0 c1 c2 c3 c4 c5 c6 c7 c8 c9 dm d0 d1 d2 d3 d4 d5 d6 d7 d8 d9
  have hSd : Below W1.heap.size W1 w2.drew := hS2.drew
  refine wp_region_held_drew (S := fun X => Below W1.heap.size W1 X) (by kernel_rfl) hSd (fun hHeld => ?_)
  obtain ⟨y0, hY0⟩ : ∃ Y, w2.drew = Y := ⟨_, rfl⟩
  rw [hY0] at hSd hHeld ⊢
  clear hY0
  refine tkS 0 (.agg #[.slice A n c, .int .i64 pl, .int .i64 st, .int .i64 nx, .int .i64 2, .int .i64 t, .int .i64 hd, .int .i64 hh, .int .i64 ak, .int .i64 wt, .bool sp]) hHeld (fun w hq => ?_) ?_
  · obtain ⟨cm, c0, c1, c2, c3, c4, c5, c6, c7, c8, c9⟩ := HMC.out w hq
    go_simp
  simp only [PT]
  refine one_step 1 (by kernel_rfl) rfl (fun Kq hKq => ?_)
  go_simp
  go_at_call 63
  (with_reducible refine (HID.out _).mono ?_)
  rintro e y1 ⟨rfl, hbx⟩
  have hS1 : Below W1.heap.size W1 y1 := hSd.trans (hbx.mono hSd.size)
  clear hbx
  refine hKq.out _ _ hS1 (fun hHeld0 => ?_)
  clear hKq Kq hHeld
  have hHeld := hHeld0
  clear hHeld0
  try simp only [PT]
  refine tk 2 (.bool false) hHeld (fun w => ?_) ?_
  · go_simp
  simp only [PT]
  refine tkO 3 hHeld ?_
  simp only [PT]
  refine tkO 4 hHeld ?_
  simp only [PT]
  refine tkO 5 hHeld ?_
  simp only [PT]
  refine tkO 6 hHeld ?_
  simp only [PT]
  refine tk 7 (.bool false) hHeld (fun w => ?_) ?_
  · go_simp
  simp only [PT]
  refine tk 8 (.bool false) hHeld (fun w => ?_) ?_
  · go_simp
  simp only [PT]
  refine tkO 9 hHeld ?_
  simp only [PT]
  refine tkO 10 hHeld ?_
  simp only [PT]
  refine tkO 11 hHeld ?_
  simp only [PT]
  refine tkO 12 hHeld ?_
  simp only [PT]
  refine tkO 13 hHeld ?_
  simp only [PT]
  refine tkO 14 hHeld ?_
  simp only [PT]
  refine tkO 15 hHeld ?_
  simp only [PT]
  refine tk 16 (.bool false) hHeld (fun w => ?_) ?_
  · go_simp
  simp only [PT]
  refine tk 17 (.bool false) hHeld (fun w => ?_) ?_
  · go_simp
  simp only [PT]
  refine wpAnyH_done (by kernel_rfl) ?_ _
  clear hHeld
  go_wp2
  go_ret
  exact ⟨by rw [HR.out]; rfl, HB1.out.trans (hS1.mono HB1.out.size)⟩
set_option maxHeartbeats 8000000 in
theorem fits_2b (A : Option Addr) (n c : Nat) (l : List Pl) (s : Sg) (w : World) (hl : Pls w A n c l) (ha : allP l = true) (h0 : 0 ≤ s.pl) (h1 : s.pl < n) (hs : SmG s) (hp : placedB (planAt l s.pl) n s = true) (hh : heldB (planAt l s.pl) s = true) (hph : s.ph = 2) (hi : (decide (s.hd = 0) && (decide (s.hl = 0) && decide (s.ak = -1))) = true) (ht : s.t < 0) : Calls Try.prog 44 #[mcV A n c s] w fun e w' => e = .returned (.bool (mayS l s)) ∧ Below w.heap.size w w' := by
  obtain ⟨W1, hW1⟩ : ∃ W1, w.alloc (.cells #[.slice A n c, .int .i64 s.pl, .int .i64 s.st, .int .i64 s.nx, .int .i64 s.ph, .int .i64 s.t, .int .i64 s.hd, .int .i64 s.hl, .int .i64 s.ak, .int .i64 s.wt, .bool s.sp] 66) = W1 := ⟨_, rfl⟩
  have hB1 : Below w.heap.size w W1 := by rw [← hW1]; exact one_alloc w _
  have hbm : BoxM W1 w.heap.size A n c s := by rw [← hW1]; exact BoxM.new w A n c s
  have HW := Lib.hid hW1
  clear hW1
  have HB1 := Lib.hid hB1
  have HMC := Lib.hid (show ∀ X, Below W1.heap.size W1 X → X.cell? ⟨w.heap.size, 0, none⟩ = some (.slice A n c) ∧ X.cell? ⟨w.heap.size, 1, none⟩ = some (.int .i64 s.pl) ∧ X.cell? ⟨w.heap.size, 2, none⟩ = some (.int .i64 s.st) ∧ X.cell? ⟨w.heap.size, 3, none⟩ = some (.int .i64 s.nx) ∧ X.cell? ⟨w.heap.size, 4, none⟩ = some (.int .i64 s.ph) ∧ X.cell? ⟨w.heap.size, 5, none⟩ = some (.int .i64 s.t) ∧ X.cell? ⟨w.heap.size, 6, none⟩ = some (.int .i64 s.hd) ∧ X.cell? ⟨w.heap.size, 7, none⟩ = some (.int .i64 s.hl) ∧ X.cell? ⟨w.heap.size, 8, none⟩ = some (.int .i64 s.ak) ∧ X.cell? ⟨w.heap.size, 9, none⟩ = some (.int .i64 s.wt) ∧ X.cell? ⟨w.heap.size, 10, none⟩ = some (.bool s.sp) from fun X hX => by
    obtain ⟨cm, c0, c1, c2, c3, c4, c5, c6, c7, c8, c9⟩ := (hbm.below hX).cells
    exact ⟨cm, c0, c1, c2, c3, c4, c5, c6, c7, c8, c9⟩)
  have HOW := Lib.hid (fun X (hX : Below W1.heap.size W1 X) => own_plan A n c l s X ((hl.below hB1).below hX) h0 h1)
  have HQI := Lib.hid (show ∀ X, Below W1.heap.size W1 X → PlIn X (planAt l s.pl) from fun X hX => plan_lies ((hl.below hB1).below hX) h0 h1)
  have hff : fitP (planAt l s.pl) = true := by
    obtain ⟨j, hj⟩ := Int.eq_ofNat_of_zero_le h0
    rw [hj]
    exact all_fit ha (plan_of hl (by omega)).2
  have HPL := Lib.hid (fun X (hX : Below W1.heap.size W1 X) => placed_any A n c l s X ((hl.below hB1).below hX) h0 h1)
  have HSP := Lib.hid (fun X (hX : Below W1.heap.size W1 X) => spared_any A n c l s X ((hl.below hB1).below hX) h0 h1 hff hs.2)
  have hM := may_is ha h0 h1 hl.len
  have hqk0 := (HQI.out W1 (Below.refl _ _)).s.len
  have HIS := Lib.hid (fun (s0 : 0 ≤ s.st) (s1 : s.st < (planAt l s.pl).k) X (hX : Below W1.heap.size W1 X) => stage_own A n c l s X ((hl.below hB1).below hX) h0 h1 s0 s1)
  have HID := Lib.hid (fun X => idle_any A n c s X)
  rw [range_placed hqk0] at hM
  unfold mcV at HOW HPL HSP HIS HID ⊢
  clear hbm hB1 hl
  have hst0 := hs.1
  rw [hp, hh, Bool.true_and, Bool.true_and] at hM
  rw [hp] at HPL
  rw [hh] at HSP
  have hhe := held_iff.1 hh
  have hh0 := hhe.h0
  have hh1 := hhe.h1
  clear hhe
  have HR := Lib.hid (show mayS l s = false by
    rw [hM, timeB, if_neg (by omega), decide_eq_true (by omega), Bool.true_and]
    exact decide_eq_false fun h => by omega)
  rw [hi] at HID
  obtain ⟨q, hq⟩ : ∃ q, planAt l s.pl = q := ⟨_, rfl⟩
  rw [hq] at HOW
  try rw [hq] at HR
  unfold plV at HOW
  obtain ⟨R, hR⟩ : ∃ R, mayS l s = R := ⟨_, rfl⟩
  rw [hR] at HR ⊢
  clear hR hM hp hh hs hst0 HQI HIS hi hq hff ha hqk0
  have hb : decide (0 ≤ s.t) = false := decide_eq_false (by omega)
  obtain ⟨A', n', c', m, B, k, d, sl, am, rd, hd'⟩ := q
  obtain ⟨pl, st, nx, ph, t, hd, hh, ak, wt, sp⟩ := s
  simp only at *
  subst hph
  go_enter Try.func44, Try.ntmps44
  go_wp2_with (first
    | (go_at_call 60
       rw [HW.out]
       (with_reducible refine (HPL.out _ (Below.refl _ _)).mono ?_)
       rintro e w1 ⟨rfl, hbx⟩
       have hS1 : Below W1.heap.size W1 w1 := hbx
       obtain ⟨cm, c0, c1, c2, c3, c4, c5, c6, c7, c8, c9⟩ := HMC.out w1 hS1
       clear hbx)
    | (go_at_call 61
       (with_reducible refine (HSP.out _ hS1).mono ?_)
       rintro e w2 ⟨rfl, hbx⟩
       have hS2 : Below W1.heap.size W1 w2 := hS1.trans (hbx.mono hS1.size)
       obtain ⟨dm, d0, d1, d2, d3, d4, d5, d6, d7, d8, d9⟩ := HMC.out w2 hS2
       clear hbx))
  clear cm c0 c1 c2 c3 c4 c5 c6 c7 c8 c9 dm d0 d1 d2 d3 d4 d5 d6 d7 d8 d9
  have hSd : Below W1.heap.size W1 w2.drew := hS2.drew
  refine wp_region_held_drew (S := fun X => Below W1.heap.size W1 X) (by kernel_rfl) hSd (fun hHeld => ?_)
  obtain ⟨y0, hY0⟩ : ∃ Y, w2.drew = Y := ⟨_, rfl⟩
  rw [hY0] at hSd hHeld ⊢
  clear hY0
  refine tkS 0 (.agg #[.slice A n c, .int .i64 pl, .int .i64 st, .int .i64 nx, .int .i64 2, .int .i64 t, .int .i64 hd, .int .i64 hh, .int .i64 ak, .int .i64 wt, .bool sp]) hHeld (fun w hq => ?_) ?_
  · obtain ⟨cm, c0, c1, c2, c3, c4, c5, c6, c7, c8, c9⟩ := HMC.out w hq
    go_simp
  simp only [PT]
  refine one_step 1 (by kernel_rfl) rfl (fun Kq hKq => ?_)
  go_simp
  go_at_call 63
  (with_reducible refine (HID.out _).mono ?_)
  rintro e y1 ⟨rfl, hbx⟩
  have hS1 : Below W1.heap.size W1 y1 := hSd.trans (hbx.mono hSd.size)
  clear hbx
  refine hKq.out _ _ hS1 (fun hHeld0 => ?_)
  clear hKq Kq hHeld
  have hHeld := hHeld0
  clear hHeld0
  try simp only [PT]
  refine tk 2 (.bool true) hHeld (fun w => ?_) ?_
  · go_simp
  simp only [PT]
  refine tk 3 (.pointer (some ⟨w.heap.size, 1, none⟩)) hHeld (fun w => ?_) ?_
  · go_simp
  simp only [PT]
  refine tk 4 (.pointer (some ⟨w.heap.size, 5, none⟩)) hHeld (fun w => ?_) ?_
  · go_simp
  simp only [PT]
  refine tkS 5 (.int .i64 t) hHeld (fun w hq => ?_) ?_
  · obtain ⟨cm, c0, c1, c2, c3, c4, c5, c6, c7, c8, c9⟩ := HMC.out w hq
    go_simp
  simp only [PT]
  refine tk 6 (.bool false) hHeld (fun w => ?_) ?_
  · go_simp
  simp only [PT]
  refine tk 7 (.bool false) hHeld (fun w => ?_) ?_
  · go_simp
  simp only [PT]
  refine tk 8 (.bool false) hHeld (fun w => ?_) ?_
  · go_simp
  simp only [PT]
  refine tkO 9 hHeld ?_
  simp only [PT]
  refine tkO 10 hHeld ?_
  simp only [PT]
  refine tkO 11 hHeld ?_
  simp only [PT]
  refine tkO 12 hHeld ?_
  simp only [PT]
  refine tkO 13 hHeld ?_
  simp only [PT]
  refine tkO 14 hHeld ?_
  simp only [PT]
  refine tkO 15 hHeld ?_
  simp only [PT]
  refine tk 16 (.bool false) hHeld (fun w => ?_) ?_
  · go_simp
  simp only [PT]
  refine tk 17 (.bool false) hHeld (fun w => ?_) ?_
  · go_simp
  simp only [PT]
  refine wpAnyH_done (by kernel_rfl) ?_ _
  clear hHeld
  go_wp2
  go_ret
  exact ⟨by rw [HR.out]; rfl, HB1.out.trans (hS1.mono HB1.out.size)⟩
set_option maxHeartbeats 8000000 in
theorem fits_2c (A : Option Addr) (n c : Nat) (l : List Pl) (s : Sg) (w : World) (hl : Pls w A n c l) (ha : allP l = true) (h0 : 0 ≤ s.pl) (h1 : s.pl < n) (hs : SmG s) (hp : placedB (planAt l s.pl) n s = true) (hh : heldB (planAt l s.pl) s = true) (hph : s.ph = 2) (hi : (decide (s.hd = 0) && (decide (s.hl = 0) && decide (s.ak = -1))) = true) (ht : 0 ≤ s.t) : Calls Try.prog 44 #[mcV A n c s] w fun e w' => e = .returned (.bool (mayS l s)) ∧ Below w.heap.size w w' := by
  obtain ⟨W1, hW1⟩ : ∃ W1, w.alloc (.cells #[.slice A n c, .int .i64 s.pl, .int .i64 s.st, .int .i64 s.nx, .int .i64 s.ph, .int .i64 s.t, .int .i64 s.hd, .int .i64 s.hl, .int .i64 s.ak, .int .i64 s.wt, .bool s.sp] 66) = W1 := ⟨_, rfl⟩
  have hB1 : Below w.heap.size w W1 := by rw [← hW1]; exact one_alloc w _
  have hbm : BoxM W1 w.heap.size A n c s := by rw [← hW1]; exact BoxM.new w A n c s
  have HW := Lib.hid hW1
  clear hW1
  have HB1 := Lib.hid hB1
  have HMC := Lib.hid (show ∀ X, Below W1.heap.size W1 X → X.cell? ⟨w.heap.size, 0, none⟩ = some (.slice A n c) ∧ X.cell? ⟨w.heap.size, 1, none⟩ = some (.int .i64 s.pl) ∧ X.cell? ⟨w.heap.size, 2, none⟩ = some (.int .i64 s.st) ∧ X.cell? ⟨w.heap.size, 3, none⟩ = some (.int .i64 s.nx) ∧ X.cell? ⟨w.heap.size, 4, none⟩ = some (.int .i64 s.ph) ∧ X.cell? ⟨w.heap.size, 5, none⟩ = some (.int .i64 s.t) ∧ X.cell? ⟨w.heap.size, 6, none⟩ = some (.int .i64 s.hd) ∧ X.cell? ⟨w.heap.size, 7, none⟩ = some (.int .i64 s.hl) ∧ X.cell? ⟨w.heap.size, 8, none⟩ = some (.int .i64 s.ak) ∧ X.cell? ⟨w.heap.size, 9, none⟩ = some (.int .i64 s.wt) ∧ X.cell? ⟨w.heap.size, 10, none⟩ = some (.bool s.sp) from fun X hX => by
    obtain ⟨cm, c0, c1, c2, c3, c4, c5, c6, c7, c8, c9⟩ := (hbm.below hX).cells
    exact ⟨cm, c0, c1, c2, c3, c4, c5, c6, c7, c8, c9⟩)
  have HOW := Lib.hid (fun X (hX : Below W1.heap.size W1 X) => own_plan A n c l s X ((hl.below hB1).below hX) h0 h1)
  have HQI := Lib.hid (show ∀ X, Below W1.heap.size W1 X → PlIn X (planAt l s.pl) from fun X hX => plan_lies ((hl.below hB1).below hX) h0 h1)
  have hff : fitP (planAt l s.pl) = true := by
    obtain ⟨j, hj⟩ := Int.eq_ofNat_of_zero_le h0
    rw [hj]
    exact all_fit ha (plan_of hl (by omega)).2
  have HPL := Lib.hid (fun X (hX : Below W1.heap.size W1 X) => placed_any A n c l s X ((hl.below hB1).below hX) h0 h1)
  have HSP := Lib.hid (fun X (hX : Below W1.heap.size W1 X) => spared_any A n c l s X ((hl.below hB1).below hX) h0 h1 hff hs.2)
  have hM := may_is ha h0 h1 hl.len
  have hqk0 := (HQI.out W1 (Below.refl _ _)).s.len
  have HIS := Lib.hid (fun (s0 : 0 ≤ s.st) (s1 : s.st < (planAt l s.pl).k) X (hX : Below W1.heap.size W1 X) => stage_own A n c l s X ((hl.below hB1).below hX) h0 h1 s0 s1)
  have HID := Lib.hid (fun X => idle_any A n c s X)
  rw [range_placed hqk0] at hM
  unfold mcV at HOW HPL HSP HIS HID ⊢
  clear hbm hB1 hl
  have hst0 := hs.1
  rw [hp, hh, Bool.true_and, Bool.true_and] at hM
  rw [hp] at HPL
  rw [hh] at HSP
  have hhe := held_iff.1 hh
  have hh0 := hhe.h0
  have hh1 := hhe.h1
  clear hhe
  have HR := Lib.hid (show mayS l s = decide (s.t ≤ (planAt l s.pl).rd) by
    rw [hM, timeB, if_neg (by omega), decide_eq_true (by omega), Bool.true_and]
    rw [Bool.and_eq_true, Bool.and_eq_true, decide_eq_true_eq, decide_eq_true_eq, decide_eq_true_eq] at hi
    exact decide_eq_decide.2 ⟨fun h => by exact h.2.2.2.2.2 (by omega), fun h => ⟨hi.1, hi.2.1, hi.2.2, ht, fun e => by omega, fun e => by exact h⟩⟩)
  rw [hi] at HID
  obtain ⟨q, hq⟩ : ∃ q, planAt l s.pl = q := ⟨_, rfl⟩
  rw [hq] at HOW
  try rw [hq] at HR
  unfold plV at HOW
  obtain ⟨R, hR⟩ : ∃ R, mayS l s = R := ⟨_, rfl⟩
  rw [hR] at HR ⊢
  clear hR hM hp hh hs hst0 HQI HIS hi hq hff ha hqk0
  have hb : decide (0 ≤ s.t) = true := decide_eq_true ht
  obtain ⟨A', n', c', m, B, k, d, sl, am, rd, hd'⟩ := q
  obtain ⟨pl, st, nx, ph, t, hd, hh, ak, wt, sp⟩ := s
  simp only at *
  subst hph
  go_enter Try.func44, Try.ntmps44
  go_wp2_with (first
    | (go_at_call 60
       rw [HW.out]
       (with_reducible refine (HPL.out _ (Below.refl _ _)).mono ?_)
       rintro e w1 ⟨rfl, hbx⟩
       have hS1 : Below W1.heap.size W1 w1 := hbx
       obtain ⟨cm, c0, c1, c2, c3, c4, c5, c6, c7, c8, c9⟩ := HMC.out w1 hS1
       clear hbx)
    | (go_at_call 61
       (with_reducible refine (HSP.out _ hS1).mono ?_)
       rintro e w2 ⟨rfl, hbx⟩
       have hS2 : Below W1.heap.size W1 w2 := hS1.trans (hbx.mono hS1.size)
       obtain ⟨dm, d0, d1, d2, d3, d4, d5, d6, d7, d8, d9⟩ := HMC.out w2 hS2
       clear hbx))
  clear cm c0 c1 c2 c3 c4 c5 c6 c7 c8 c9 dm d0 d1 d2 d3 d4 d5 d6 d7 d8 d9
  have hSd : Below W1.heap.size W1 w2.drew := hS2.drew
  refine wp_region_held_drew (S := fun X => Below W1.heap.size W1 X) (by kernel_rfl) hSd (fun hHeld => ?_)
  obtain ⟨y0, hY0⟩ : ∃ Y, w2.drew = Y := ⟨_, rfl⟩
  rw [hY0] at hSd hHeld ⊢
  clear hY0
  refine tkS 0 (.agg #[.slice A n c, .int .i64 pl, .int .i64 st, .int .i64 nx, .int .i64 2, .int .i64 t, .int .i64 hd, .int .i64 hh, .int .i64 ak, .int .i64 wt, .bool sp]) hHeld (fun w hq => ?_) ?_
  · obtain ⟨cm, c0, c1, c2, c3, c4, c5, c6, c7, c8, c9⟩ := HMC.out w hq
    go_simp
  simp only [PT]
  refine one_step 1 (by kernel_rfl) rfl (fun Kq hKq => ?_)
  go_simp
  go_at_call 63
  (with_reducible refine (HID.out _).mono ?_)
  rintro e y1 ⟨rfl, hbx⟩
  have hS1 : Below W1.heap.size W1 y1 := hSd.trans (hbx.mono hSd.size)
  clear hbx
  refine hKq.out _ _ hS1 (fun hHeld0 => ?_)
  clear hKq Kq hHeld
  have hHeld := hHeld0
  clear hHeld0
  try simp only [PT]
  refine tk 2 (.bool true) hHeld (fun w => ?_) ?_
  · go_simp
  simp only [PT]
  refine tk 3 (.pointer (some ⟨w.heap.size, 1, none⟩)) hHeld (fun w => ?_) ?_
  · go_simp
  simp only [PT]
  refine tk 4 (.pointer (some ⟨w.heap.size, 5, none⟩)) hHeld (fun w => ?_) ?_
  · go_simp
  simp only [PT]
  refine tkS 5 (.int .i64 t) hHeld (fun w hq => ?_) ?_
  · obtain ⟨cm, c0, c1, c2, c3, c4, c5, c6, c7, c8, c9⟩ := HMC.out w hq
    go_simp
  simp only [PT]
  refine tk 6 (.bool true) hHeld (fun w => ?_) ?_
  · go_simp
  simp only [PT]
  refine tk 7 (.bool true) hHeld (fun w => ?_) ?_
  · go_simp
  simp only [PT]
  refine tk 8 (.bool true) hHeld (fun w => ?_) ?_
  · go_simp
  simp only [PT]
  refine tk 9 (.pointer (some ⟨w.heap.size, 1, none⟩)) hHeld (fun w => ?_) ?_
  · go_simp
  simp only [PT]
  refine tk 10 (.pointer (some ⟨w.heap.size, 5, none⟩)) hHeld (fun w => ?_) ?_
  · go_simp
  simp only [PT]
  refine tkS 11 (.int .i64 t) hHeld (fun w hq => ?_) ?_
  · obtain ⟨cm, c0, c1, c2, c3, c4, c5, c6, c7, c8, c9⟩ := HMC.out w hq
    go_simp
  simp only [PT]
  refine tkS 12 (.agg #[.slice A n c, .int .i64 pl, .int .i64 st, .int .i64 nx, .int .i64 2, .int .i64 t, .int .i64 hd, .int .i64 hh, .int .i64 ak, .int .i64 wt, .bool sp]) hHeld (fun w hq => ?_) ?_
  · obtain ⟨cm, c0, c1, c2, c3, c4, c5, c6, c7, c8, c9⟩ := HMC.out w hq
    go_simp
  simp only [PT]
  refine one_step 13 (by kernel_rfl) rfl (fun Kq hKq => ?_)
  go_simp
  go_at_call 58
  (with_reducible refine (HOW.out _ hS1).mono ?_)
  rintro e y2 ⟨rfl, hbx⟩
  try simp only [plV]
  have hS2 : Below W1.heap.size W1 y2 := hS1.trans (hbx.mono hS1.size)
  clear hbx
  refine hKq.out _ _ hS2 (fun hHeld0 => ?_)
  clear hKq Kq hHeld
  have hHeld := hHeld0
  clear hHeld0
  try simp only [PT]
  refine tk 14 (.int .i64 rd) hHeld (fun w => ?_) ?_
  · (go_simp; try rfl)
  simp only [PT]
  refine tk 15 (.bool (decide (t ≤ rd))) hHeld (fun w => ?_) ?_
  · go_simp
  simp only [PT]
  refine tk 16 (.bool (decide (t ≤ rd))) hHeld (fun w => ?_) ?_
  · go_simp
  simp only [PT]
  refine tk 17 (.bool (decide (t ≤ rd))) hHeld (fun w => ?_) ?_
  · go_simp
  simp only [PT]
  refine wpAnyH_done (by kernel_rfl) ?_ _
  clear hHeld
  go_wp2
  go_ret
  exact ⟨by rw [HR.out]; rfl, HB1.out.trans (hS2.mono HB1.out.size)⟩
set_option maxHeartbeats 8000000 in
theorem fits_0a (A : Option Addr) (n c : Nat) (l : List Pl) (s : Sg) (w : World) (hl : Pls w A n c l) (ha : allP l = true) (h0 : 0 ≤ s.pl) (h1 : s.pl < n) (hs : SmG s) (hp : placedB (planAt l s.pl) n s = true) (hh : heldB (planAt l s.pl) s = true) (hph : s.ph = 0) (hc : s.t < s.hl) : Calls Try.prog 44 #[mcV A n c s] w fun e w' => e = .returned (.bool (mayS l s)) ∧ Below w.heap.size w w' := by
  obtain ⟨W1, hW1⟩ : ∃ W1, w.alloc (.cells #[.slice A n c, .int .i64 s.pl, .int .i64 s.st, .int .i64 s.nx, .int .i64 s.ph, .int .i64 s.t, .int .i64 s.hd, .int .i64 s.hl, .int .i64 s.ak, .int .i64 s.wt, .bool s.sp] 66) = W1 := ⟨_, rfl⟩
  have hB1 : Below w.heap.size w W1 := by rw [← hW1]; exact one_alloc w _
  have hbm : BoxM W1 w.heap.size A n c s := by rw [← hW1]; exact BoxM.new w A n c s
  have HW := Lib.hid hW1
  clear hW1
  have HB1 := Lib.hid hB1
  have HMC := Lib.hid (show ∀ X, Below W1.heap.size W1 X → X.cell? ⟨w.heap.size, 0, none⟩ = some (.slice A n c) ∧ X.cell? ⟨w.heap.size, 1, none⟩ = some (.int .i64 s.pl) ∧ X.cell? ⟨w.heap.size, 2, none⟩ = some (.int .i64 s.st) ∧ X.cell? ⟨w.heap.size, 3, none⟩ = some (.int .i64 s.nx) ∧ X.cell? ⟨w.heap.size, 4, none⟩ = some (.int .i64 s.ph) ∧ X.cell? ⟨w.heap.size, 5, none⟩ = some (.int .i64 s.t) ∧ X.cell? ⟨w.heap.size, 6, none⟩ = some (.int .i64 s.hd) ∧ X.cell? ⟨w.heap.size, 7, none⟩ = some (.int .i64 s.hl) ∧ X.cell? ⟨w.heap.size, 8, none⟩ = some (.int .i64 s.ak) ∧ X.cell? ⟨w.heap.size, 9, none⟩ = some (.int .i64 s.wt) ∧ X.cell? ⟨w.heap.size, 10, none⟩ = some (.bool s.sp) from fun X hX => by
    obtain ⟨cm, c0, c1, c2, c3, c4, c5, c6, c7, c8, c9⟩ := (hbm.below hX).cells
    exact ⟨cm, c0, c1, c2, c3, c4, c5, c6, c7, c8, c9⟩)
  have HOW := Lib.hid (fun X (hX : Below W1.heap.size W1 X) => own_plan A n c l s X ((hl.below hB1).below hX) h0 h1)
  have HQI := Lib.hid (show ∀ X, Below W1.heap.size W1 X → PlIn X (planAt l s.pl) from fun X hX => plan_lies ((hl.below hB1).below hX) h0 h1)
  have hff : fitP (planAt l s.pl) = true := by
    obtain ⟨j, hj⟩ := Int.eq_ofNat_of_zero_le h0
    rw [hj]
    exact all_fit ha (plan_of hl (by omega)).2
  have HPL := Lib.hid (fun X (hX : Below W1.heap.size W1 X) => placed_any A n c l s X ((hl.below hB1).below hX) h0 h1)
  have HSP := Lib.hid (fun X (hX : Below W1.heap.size W1 X) => spared_any A n c l s X ((hl.below hB1).below hX) h0 h1 hff hs.2)
  have hM := may_is ha h0 h1 hl.len
  have hqk0 := (HQI.out W1 (Below.refl _ _)).s.len
  have HIS := Lib.hid (fun (s0 : 0 ≤ s.st) (s1 : s.st < (planAt l s.pl).k) X (hX : Below W1.heap.size W1 X) => stage_own A n c l s X ((hl.below hB1).below hX) h0 h1 s0 s1)
  have HID := Lib.hid (fun X => idle_any A n c s X)
  rw [range_placed hqk0] at hM
  unfold mcV at HOW HPL HSP HIS HID ⊢
  clear hbm hB1 hl
  have hst0 := hs.1
  rw [hp, hh, Bool.true_and, Bool.true_and] at hM
  rw [hp] at HPL
  rw [hh] at HSP
  have hhe := held_iff.1 hh
  have hh0 := hhe.h0
  have hh1 := hhe.h1
  clear hhe
  have HR := Lib.hid (show mayS l s = false by
    rw [hM, timeB, if_pos hph, decide_eq_true (by omega), Bool.true_and]
    exact decide_eq_false fun h => by omega)
  have hpp := hp
  rw [placedB, Bool.and_eq_true, Bool.and_eq_true, Bool.and_eq_true, place_iff] at hpp
  have HST := Lib.hid (HIS.out hpp.1.1.1.1 hpp.1.1.1.2)
  clear hpp HIS
  obtain ⟨x, hx⟩ : ∃ x, stgAt (planAt l s.pl) s.st = x := ⟨_, rfl⟩
  rw [hx] at HST
  obtain ⟨R, hR⟩ : ∃ R, mayS l s = R := ⟨_, rfl⟩
  rw [hR] at HR ⊢
  clear hR hM hp hh HQI hx hff ha hqk0 HOW HID
  obtain ⟨g, mn, mx⟩ := x
  have hb1 : decide (s.hl ≤ s.t) = false := decide_eq_false (by omega)
  clear hs hst0
  obtain ⟨pl, st, nx, ph, t, hd, hh, ak, wt, sp⟩ := s
  simp only at *
  subst hph
  go_enter Try.func44, Try.ntmps44
  go_wp2_with (first
    | (go_at_call 60
       rw [HW.out]
       (with_reducible refine (HPL.out _ (Below.refl _ _)).mono ?_)
       rintro e w1 ⟨rfl, hbx⟩
       have hS1 : Below W1.heap.size W1 w1 := hbx
       obtain ⟨cm, c0, c1, c2, c3, c4, c5, c6, c7, c8, c9⟩ := HMC.out w1 hS1
       clear hbx)
    | (go_at_call 61
       (with_reducible refine (HSP.out _ hS1).mono ?_)
       rintro e w2 ⟨rfl, hbx⟩
       have hS2 : Below W1.heap.size W1 w2 := hS1.trans (hbx.mono hS1.size)
       obtain ⟨dm, d0, d1, d2, d3, d4, d5, d6, d7, d8, d9⟩ := HMC.out w2 hS2
       clear hbx))
  clear cm c0 c1 c2 c3 c4 c5 c6 c7 c8 c9 dm d0 d1 d2 d3 d4 d5 d6 d7 d8 d9
  have hSd : Below W1.heap.size W1 w2.drew := hS2.drew
  refine wp_region_held_drew (S := fun X => Below W1.heap.size W1 X) (by kernel_rfl) hSd (fun hHeld => ?_)
  obtain ⟨y0, hY0⟩ : ∃ Y, w2.drew = Y := ⟨_, rfl⟩
  rw [hY0] at hSd hHeld ⊢
  clear hY0
  refine tk 0 (.pointer (some ⟨w.heap.size, 1, none⟩)) hHeld (fun w => ?_) ?_
  · go_simp
  simp only [PT]
  refine tk 1 (.pointer (some ⟨w.heap.size, 5, none⟩)) hHeld (fun w => ?_) ?_
  · go_simp
  simp only [PT]
  refine tkS 2 (.int .i64 t) hHeld (fun w hq => ?_) ?_
  · obtain ⟨cm, c0, c1, c2, c3, c4, c5, c6, c7, c8, c9⟩ := HMC.out w hq
    go_simp
  simp only [PT]
  refine tk 3 (.pointer (some ⟨w.heap.size, 1, none⟩)) hHeld (fun w => ?_) ?_
  · go_simp
  simp only [PT]
  refine tk 4 (.pointer (some ⟨w.heap.size, 7, none⟩)) hHeld (fun w => ?_) ?_
  · go_simp
  simp only [PT]
  refine tkS 5 (.int .i64 hh) hHeld (fun w hq => ?_) ?_
  · obtain ⟨cm, c0, c1, c2, c3, c4, c5, c6, c7, c8, c9⟩ := HMC.out w hq
    go_simp
  simp only [PT]
  refine tk 6 (.bool false) hHeld (fun w => ?_) ?_
  · go_simp
  simp only [PT]
  refine tk 7 (.bool false) hHeld (fun w => ?_) ?_
  · go_simp
  simp only [PT]
  refine tkO 8 hHeld ?_
  simp only [PT]
  refine tkO 9 hHeld ?_
  simp only [PT]
  refine tkO 10 hHeld ?_
  simp only [PT]
  refine tkO 11 hHeld ?_
  simp only [PT]
  refine tkO 12 hHeld ?_
  simp only [PT]
  refine tkO 13 hHeld ?_
  simp only [PT]
  refine tkO 14 hHeld ?_
  simp only [PT]
  refine tkO 15 hHeld ?_
  simp only [PT]
  refine tkO 16 hHeld ?_
  simp only [PT]
  refine tkO 17 hHeld ?_
  simp only [PT]
  refine tkO 18 hHeld ?_
  simp only [PT]
  refine tk 19 (.bool false) hHeld (fun w => ?_) ?_
  · go_simp
  simp only [PT]
  refine tk 20 (.bool false) hHeld (fun w => ?_) ?_
  · go_simp
  simp only [PT]
  refine tkO 21 hHeld ?_
  simp only [PT]
  refine tkO 22 hHeld ?_
  simp only [PT]
  refine tkO 23 hHeld ?_
  simp only [PT]
  refine tkO 24 hHeld ?_
  simp only [PT]
  refine tkO 25 hHeld ?_
  simp only [PT]
  refine tkO 26 hHeld ?_
  simp only [PT]
  refine tkO 27 hHeld ?_
  simp only [PT]
  refine tkO 28 hHeld ?_
  simp only [PT]
  refine tkO 29 hHeld ?_
  simp only [PT]
  refine tkO 30 hHeld ?_
  simp only [PT]
  refine tk 31 (.bool false) hHeld (fun w => ?_) ?_
  · go_simp
  simp only [PT]
  refine tk 32 (.bool false) hHeld (fun w => ?_) ?_
  · go_simp
  simp only [PT]
  refine wpAnyH_done (by kernel_rfl) ?_ _
  clear hHeld
  go_wp2
  go_ret
  exact ⟨by rw [HR.out]; rfl, HB1.out.trans (hSd.mono HB1.out.size)⟩
set_option maxHeartbeats 8000000 in
theorem fits_0b (A : Option Addr) (n c : Nat) (l : List Pl) (s : Sg) (w : World) (hl : Pls w A n c l) (ha : allP l = true) (h0 : 0 ≤ s.pl) (h1 : s.pl < n) (hs : SmG s) (hp : placedB (planAt l s.pl) n s = true) (hh : heldB (planAt l s.pl) s = true) (hph : s.ph = 0) (hc1 : s.hl ≤ s.t) (hc : (stgAt (planAt l s.pl) s.st).mx ≤ s.t - s.hl) : Calls Try.prog 44 #[mcV A n c s] w fun e w' => e = .returned (.bool (mayS l s)) ∧ Below w.heap.size w w' := by
  obtain ⟨W1, hW1⟩ : ∃ W1, w.alloc (.cells #[.slice A n c, .int .i64 s.pl, .int .i64 s.st, .int .i64 s.nx, .int .i64 s.ph, .int .i64 s.t, .int .i64 s.hd, .int .i64 s.hl, .int .i64 s.ak, .int .i64 s.wt, .bool s.sp] 66) = W1 := ⟨_, rfl⟩
  have hB1 : Below w.heap.size w W1 := by rw [← hW1]; exact one_alloc w _
  have hbm : BoxM W1 w.heap.size A n c s := by rw [← hW1]; exact BoxM.new w A n c s
  have HW := Lib.hid hW1
  clear hW1
  have HB1 := Lib.hid hB1
  have HMC := Lib.hid (show ∀ X, Below W1.heap.size W1 X → X.cell? ⟨w.heap.size, 0, none⟩ = some (.slice A n c) ∧ X.cell? ⟨w.heap.size, 1, none⟩ = some (.int .i64 s.pl) ∧ X.cell? ⟨w.heap.size, 2, none⟩ = some (.int .i64 s.st) ∧ X.cell? ⟨w.heap.size, 3, none⟩ = some (.int .i64 s.nx) ∧ X.cell? ⟨w.heap.size, 4, none⟩ = some (.int .i64 s.ph) ∧ X.cell? ⟨w.heap.size, 5, none⟩ = some (.int .i64 s.t) ∧ X.cell? ⟨w.heap.size, 6, none⟩ = some (.int .i64 s.hd) ∧ X.cell? ⟨w.heap.size, 7, none⟩ = some (.int .i64 s.hl) ∧ X.cell? ⟨w.heap.size, 8, none⟩ = some (.int .i64 s.ak) ∧ X.cell? ⟨w.heap.size, 9, none⟩ = some (.int .i64 s.wt) ∧ X.cell? ⟨w.heap.size, 10, none⟩ = some (.bool s.sp) from fun X hX => by
    obtain ⟨cm, c0, c1, c2, c3, c4, c5, c6, c7, c8, c9⟩ := (hbm.below hX).cells
    exact ⟨cm, c0, c1, c2, c3, c4, c5, c6, c7, c8, c9⟩)
  have HOW := Lib.hid (fun X (hX : Below W1.heap.size W1 X) => own_plan A n c l s X ((hl.below hB1).below hX) h0 h1)
  have HQI := Lib.hid (show ∀ X, Below W1.heap.size W1 X → PlIn X (planAt l s.pl) from fun X hX => plan_lies ((hl.below hB1).below hX) h0 h1)
  have hff : fitP (planAt l s.pl) = true := by
    obtain ⟨j, hj⟩ := Int.eq_ofNat_of_zero_le h0
    rw [hj]
    exact all_fit ha (plan_of hl (by omega)).2
  have HPL := Lib.hid (fun X (hX : Below W1.heap.size W1 X) => placed_any A n c l s X ((hl.below hB1).below hX) h0 h1)
  have HSP := Lib.hid (fun X (hX : Below W1.heap.size W1 X) => spared_any A n c l s X ((hl.below hB1).below hX) h0 h1 hff hs.2)
  have hM := may_is ha h0 h1 hl.len
  have hqk0 := (HQI.out W1 (Below.refl _ _)).s.len
  have HIS := Lib.hid (fun (s0 : 0 ≤ s.st) (s1 : s.st < (planAt l s.pl).k) X (hX : Below W1.heap.size W1 X) => stage_own A n c l s X ((hl.below hB1).below hX) h0 h1 s0 s1)
  have HID := Lib.hid (fun X => idle_any A n c s X)
  rw [range_placed hqk0] at hM
  unfold mcV at HOW HPL HSP HIS HID ⊢
  clear hbm hB1 hl
  have hst0 := hs.1
  rw [hp, hh, Bool.true_and, Bool.true_and] at hM
  rw [hp] at HPL
  rw [hh] at HSP
  have hhe := held_iff.1 hh
  have hh0 := hhe.h0
  have hh1 := hhe.h1
  clear hhe
  have HR := Lib.hid (show mayS l s = false by
    rw [hM, timeB, if_pos hph, decide_eq_true (by omega), Bool.true_and]
    exact decide_eq_false fun h => by omega)
  have hpp := hp
  rw [placedB, Bool.and_eq_true, Bool.and_eq_true, Bool.and_eq_true, place_iff] at hpp
  have HST := Lib.hid (HIS.out hpp.1.1.1.1 hpp.1.1.1.2)
  clear hpp HIS
  obtain ⟨x, hx⟩ : ∃ x, stgAt (planAt l s.pl) s.st = x := ⟨_, rfl⟩
  rw [hx] at HST
  rw [hx] at hc
  obtain ⟨R, hR⟩ : ∃ R, mayS l s = R := ⟨_, rfl⟩
  rw [hR] at HR ⊢
  clear hR hM hp hh HQI hx hff ha hqk0 HOW HID
  obtain ⟨g, mn, mx⟩ := x
  have hwt : IntKind.i64.wrap (s.t - s.hl) = s.t - s.hl := by rw [IntKind.wrap_i64]; omega
  have hb1 : decide (s.hl ≤ s.t) = true := decide_eq_true hc1
  have hb2 : decide (s.t - s.hl < mx) = false := decide_eq_false (by simp only at hc; omega)
  clear hs hst0
  obtain ⟨pl, st, nx, ph, t, hd, hh, ak, wt, sp⟩ := s
  simp only at *
  subst hph
  go_enter Try.func44, Try.ntmps44
  go_wp2_with (first
    | (go_at_call 60
       rw [HW.out]
       (with_reducible refine (HPL.out _ (Below.refl _ _)).mono ?_)
       rintro e w1 ⟨rfl, hbx⟩
       have hS1 : Below W1.heap.size W1 w1 := hbx
       obtain ⟨cm, c0, c1, c2, c3, c4, c5, c6, c7, c8, c9⟩ := HMC.out w1 hS1
       clear hbx)
    | (go_at_call 61
       (with_reducible refine (HSP.out _ hS1).mono ?_)
       rintro e w2 ⟨rfl, hbx⟩
       have hS2 : Below W1.heap.size W1 w2 := hS1.trans (hbx.mono hS1.size)
       obtain ⟨dm, d0, d1, d2, d3, d4, d5, d6, d7, d8, d9⟩ := HMC.out w2 hS2
       clear hbx))
  clear cm c0 c1 c2 c3 c4 c5 c6 c7 c8 c9 dm d0 d1 d2 d3 d4 d5 d6 d7 d8 d9
  have hSd : Below W1.heap.size W1 w2.drew := hS2.drew
  refine wp_region_held_drew (S := fun X => Below W1.heap.size W1 X) (by kernel_rfl) hSd (fun hHeld => ?_)
  obtain ⟨y0, hY0⟩ : ∃ Y, w2.drew = Y := ⟨_, rfl⟩
  rw [hY0] at hSd hHeld ⊢
  clear hY0
  refine tk 0 (.pointer (some ⟨w.heap.size, 1, none⟩)) hHeld (fun w => ?_) ?_
  · go_simp
  simp only [PT]
  refine tk 1 (.pointer (some ⟨w.heap.size, 5, none⟩)) hHeld (fun w => ?_) ?_
  · go_simp
  simp only [PT]
  refine tkS 2 (.int .i64 t) hHeld (fun w hq => ?_) ?_
  · obtain ⟨cm, c0, c1, c2, c3, c4, c5, c6, c7, c8, c9⟩ := HMC.out w hq
    go_simp
  simp only [PT]
  refine tk 3 (.pointer (some ⟨w.heap.size, 1, none⟩)) hHeld (fun w => ?_) ?_
  · go_simp
  simp only [PT]
  refine tk 4 (.pointer (some ⟨w.heap.size, 7, none⟩)) hHeld (fun w => ?_) ?_
  · go_simp
  simp only [PT]
  refine tkS 5 (.int .i64 hh) hHeld (fun w hq => ?_) ?_
  · obtain ⟨cm, c0, c1, c2, c3, c4, c5, c6, c7, c8, c9⟩ := HMC.out w hq
    go_simp
  simp only [PT]
  refine tk 6 (.bool true) hHeld (fun w => ?_) ?_
  · go_simp
  simp only [PT]
  refine tk 7 (.bool true) hHeld (fun w => ?_) ?_
  · go_simp
  simp only [PT]
  refine tk 8 (.pointer (some ⟨w.heap.size, 1, none⟩)) hHeld (fun w => ?_) ?_
  · go_simp
  simp only [PT]
  refine tk 9 (.pointer (some ⟨w.heap.size, 5, none⟩)) hHeld (fun w => ?_) ?_
  · go_simp
  simp only [PT]
  refine tkS 10 (.int .i64 t) hHeld (fun w hq => ?_) ?_
  · obtain ⟨cm, c0, c1, c2, c3, c4, c5, c6, c7, c8, c9⟩ := HMC.out w hq
    go_simp
  simp only [PT]
  refine tk 11 (.pointer (some ⟨w.heap.size, 1, none⟩)) hHeld (fun w => ?_) ?_
  · go_simp
  simp only [PT]
  refine tk 12 (.pointer (some ⟨w.heap.size, 7, none⟩)) hHeld (fun w => ?_) ?_
  · go_simp
  simp only [PT]
  refine tkS 13 (.int .i64 hh) hHeld (fun w hq => ?_) ?_
  · obtain ⟨cm, c0, c1, c2, c3, c4, c5, c6, c7, c8, c9⟩ := HMC.out w hq
    go_simp
  simp only [PT]
  refine tk 14 (.int .i64 (t - hh)) hHeld (fun w => ?_) ?_
  · (go_simp; try exact hwt)
  simp only [PT]
  refine tkS 15 (.agg #[.slice A n c, .int .i64 pl, .int .i64 st, .int .i64 nx, .int .i64 0, .int .i64 t, .int .i64 hd, .int .i64 hh, .int .i64 ak, .int .i64 wt, .bool sp]) hHeld (fun w hq => ?_) ?_
  · obtain ⟨cm, c0, c1, c2, c3, c4, c5, c6, c7, c8, c9⟩ := HMC.out w hq
    go_simp
  simp only [PT]
  refine one_step 16 (by kernel_rfl) rfl (fun Kq hKq => ?_)
  go_simp
  go_at_call 62
  (with_reducible refine (HST.out _ hSd).mono ?_)
  rintro e y1 ⟨rfl, hbx⟩
  try simp only [plV]
  have hS1 : Below W1.heap.size W1 y1 := hSd.trans (hbx.mono hSd.size)
  clear hbx
  refine hKq.out _ _ hS1 (fun hHeld0 => ?_)
  clear hKq Kq hHeld
  have hHeld := hHeld0
  clear hHeld0
  try simp only [PT]
  refine tk 17 (.int .i64 mx) hHeld (fun w => ?_) ?_
  · (go_simp; try rfl)
  simp only [PT]
  refine tk 18 (.bool false) hHeld (fun w => ?_) ?_
  · go_simp
  simp only [PT]
  refine tk 19 (.bool false) hHeld (fun w => ?_) ?_
  · go_simp
  simp only [PT]
  refine tk 20 (.bool false) hHeld (fun w => ?_) ?_
  · go_simp
  simp only [PT]
  refine tkO 21 hHeld ?_
  simp only [PT]
  refine tkO 22 hHeld ?_
  simp only [PT]
  refine tkO 23 hHeld ?_
  simp only [PT]
  refine tkO 24 hHeld ?_
  simp only [PT]
  refine tkO 25 hHeld ?_
  simp only [PT]
  refine tkO 26 hHeld ?_
  simp only [PT]
  refine tkO 27 hHeld ?_
  simp only [PT]
  refine tkO 28 hHeld ?_
  simp only [PT]
  refine tkO 29 hHeld ?_
  simp only [PT]
  refine tkO 30 hHeld ?_
  simp only [PT]
  refine tk 31 (.bool false) hHeld (fun w => ?_) ?_
  · go_simp
  simp only [PT]
  refine tk 32 (.bool false) hHeld (fun w => ?_) ?_
  · go_simp
  simp only [PT]
  refine wpAnyH_done (by kernel_rfl) ?_ _
  clear hHeld
  go_wp2
  go_ret
  exact ⟨by rw [HR.out]; rfl, HB1.out.trans (hS1.mono HB1.out.size)⟩
set_option maxHeartbeats 8000000 in
theorem fits_0c (A : Option Addr) (n c : Nat) (l : List Pl) (s : Sg) (w : World) (hl : Pls w A n c l) (ha : allP l = true) (h0 : 0 ≤ s.pl) (h1 : s.pl < n) (hs : SmG s) (hp : placedB (planAt l s.pl) n s = true) (hh : heldB (planAt l s.pl) s = true) (hph : s.ph = 0) (hc1 : s.hl ≤ s.t) (hc : s.t - s.hl < (stgAt (planAt l s.pl) s.st).mx) (hsp : s.sp = false) : Calls Try.prog 44 #[mcV A n c s] w fun e w' => e = .returned (.bool (mayS l s)) ∧ Below w.heap.size w w' := by
  obtain ⟨W1, hW1⟩ : ∃ W1, w.alloc (.cells #[.slice A n c, .int .i64 s.pl, .int .i64 s.st, .int .i64 s.nx, .int .i64 s.ph, .int .i64 s.t, .int .i64 s.hd, .int .i64 s.hl, .int .i64 s.ak, .int .i64 s.wt, .bool s.sp] 66) = W1 := ⟨_, rfl⟩
  have hB1 : Below w.heap.size w W1 := by rw [← hW1]; exact one_alloc w _
  have hbm : BoxM W1 w.heap.size A n c s := by rw [← hW1]; exact BoxM.new w A n c s
  have HW := Lib.hid hW1
  clear hW1
  have HB1 := Lib.hid hB1
  have HMC := Lib.hid (show ∀ X, Below W1.heap.size W1 X → X.cell? ⟨w.heap.size, 0, none⟩ = some (.slice A n c) ∧ X.cell? ⟨w.heap.size, 1, none⟩ = some (.int .i64 s.pl) ∧ X.cell? ⟨w.heap.size, 2, none⟩ = some (.int .i64 s.st) ∧ X.cell? ⟨w.heap.size, 3, none⟩ = some (.int .i64 s.nx) ∧ X.cell? ⟨w.heap.size, 4, none⟩ = some (.int .i64 s.ph) ∧ X.cell? ⟨w.heap.size, 5, none⟩ = some (.int .i64 s.t) ∧ X.cell? ⟨w.heap.size, 6, none⟩ = some (.int .i64 s.hd) ∧ X.cell? ⟨w.heap.size, 7, none⟩ = some (.int .i64 s.hl) ∧ X.cell? ⟨w.heap.size, 8, none⟩ = some (.int .i64 s.ak) ∧ X.cell? ⟨w.heap.size, 9, none⟩ = some (.int .i64 s.wt) ∧ X.cell? ⟨w.heap.size, 10, none⟩ = some (.bool s.sp) from fun X hX => by
    obtain ⟨cm, c0, c1, c2, c3, c4, c5, c6, c7, c8, c9⟩ := (hbm.below hX).cells
    exact ⟨cm, c0, c1, c2, c3, c4, c5, c6, c7, c8, c9⟩)
  have HOW := Lib.hid (fun X (hX : Below W1.heap.size W1 X) => own_plan A n c l s X ((hl.below hB1).below hX) h0 h1)
  have HQI := Lib.hid (show ∀ X, Below W1.heap.size W1 X → PlIn X (planAt l s.pl) from fun X hX => plan_lies ((hl.below hB1).below hX) h0 h1)
  have hff : fitP (planAt l s.pl) = true := by
    obtain ⟨j, hj⟩ := Int.eq_ofNat_of_zero_le h0
    rw [hj]
    exact all_fit ha (plan_of hl (by omega)).2
  have HPL := Lib.hid (fun X (hX : Below W1.heap.size W1 X) => placed_any A n c l s X ((hl.below hB1).below hX) h0 h1)
  have HSP := Lib.hid (fun X (hX : Below W1.heap.size W1 X) => spared_any A n c l s X ((hl.below hB1).below hX) h0 h1 hff hs.2)
  have hM := may_is ha h0 h1 hl.len
  have hqk0 := (HQI.out W1 (Below.refl _ _)).s.len
  have HIS := Lib.hid (fun (s0 : 0 ≤ s.st) (s1 : s.st < (planAt l s.pl).k) X (hX : Below W1.heap.size W1 X) => stage_own A n c l s X ((hl.below hB1).below hX) h0 h1 s0 s1)
  have HID := Lib.hid (fun X => idle_any A n c s X)
  rw [range_placed hqk0] at hM
  unfold mcV at HOW HPL HSP HIS HID ⊢
  clear hbm hB1 hl
  have hst0 := hs.1
  rw [hp, hh, Bool.true_and, Bool.true_and] at hM
  rw [hp] at HPL
  rw [hh] at HSP
  have hhe := held_iff.1 hh
  have hh0 := hhe.h0
  have hh1 := hhe.h1
  clear hhe
  have HR := Lib.hid (show mayS l s = true by
    rw [hM, timeB, if_pos hph, decide_eq_true (by omega), Bool.true_and]
    exact decide_eq_true ⟨hc1, hc, fun h => by rw [hsp] at h; cases h⟩)
  have hpp := hp
  rw [placedB, Bool.and_eq_true, Bool.and_eq_true, Bool.and_eq_true, place_iff] at hpp
  have HST := Lib.hid (HIS.out hpp.1.1.1.1 hpp.1.1.1.2)
  clear hpp HIS
  obtain ⟨x, hx⟩ : ∃ x, stgAt (planAt l s.pl) s.st = x := ⟨_, rfl⟩
  rw [hx] at HST
  rw [hx] at hc
  obtain ⟨R, hR⟩ : ∃ R, mayS l s = R := ⟨_, rfl⟩
  rw [hR] at HR ⊢
  clear hR hM hp hh HQI hx hff ha hqk0 HOW HID
  obtain ⟨g, mn, mx⟩ := x
  have hwt : IntKind.i64.wrap (s.t - s.hl) = s.t - s.hl := by rw [IntKind.wrap_i64]; omega
  have hb1 : decide (s.hl ≤ s.t) = true := decide_eq_true hc1
  have hb2 : decide (s.t - s.hl < mx) = true := decide_eq_true (by simp only at hc; omega)
  clear hs hst0
  obtain ⟨pl, st, nx, ph, t, hd, hh, ak, wt, sp⟩ := s
  simp only at *
  subst hph
  subst hsp
  go_enter Try.func44, Try.ntmps44
  go_wp2_with (first
    | (go_at_call 60
       rw [HW.out]
       (with_reducible refine (HPL.out _ (Below.refl _ _)).mono ?_)
       rintro e w1 ⟨rfl, hbx⟩
       have hS1 : Below W1.heap.size W1 w1 := hbx
       obtain ⟨cm, c0, c1, c2, c3, c4, c5, c6, c7, c8, c9⟩ := HMC.out w1 hS1
       clear hbx)
    | (go_at_call 61
       (with_reducible refine (HSP.out _ hS1).mono ?_)
       rintro e w2 ⟨rfl, hbx⟩
       have hS2 : Below W1.heap.size W1 w2 := hS1.trans (hbx.mono hS1.size)
       obtain ⟨dm, d0, d1, d2, d3, d4, d5, d6, d7, d8, d9⟩ := HMC.out w2 hS2
       clear hbx))
  clear cm c0 c1 c2 c3 c4 c5 c6 c7 c8 c9 dm d0 d1 d2 d3 d4 d5 d6 d7 d8 d9
  have hSd : Below W1.heap.size W1 w2.drew := hS2.drew
  refine wp_region_held_drew (S := fun X => Below W1.heap.size W1 X) (by kernel_rfl) hSd (fun hHeld => ?_)
  obtain ⟨y0, hY0⟩ : ∃ Y, w2.drew = Y := ⟨_, rfl⟩
  rw [hY0] at hSd hHeld ⊢
  clear hY0
  refine tk 0 (.pointer (some ⟨w.heap.size, 1, none⟩)) hHeld (fun w => ?_) ?_
  · go_simp
  simp only [PT]
  refine tk 1 (.pointer (some ⟨w.heap.size, 5, none⟩)) hHeld (fun w => ?_) ?_
  · go_simp
  simp only [PT]
  refine tkS 2 (.int .i64 t) hHeld (fun w hq => ?_) ?_
  · obtain ⟨cm, c0, c1, c2, c3, c4, c5, c6, c7, c8, c9⟩ := HMC.out w hq
    go_simp
  simp only [PT]
  refine tk 3 (.pointer (some ⟨w.heap.size, 1, none⟩)) hHeld (fun w => ?_) ?_
  · go_simp
  simp only [PT]
  refine tk 4 (.pointer (some ⟨w.heap.size, 7, none⟩)) hHeld (fun w => ?_) ?_
  · go_simp
  simp only [PT]
  refine tkS 5 (.int .i64 hh) hHeld (fun w hq => ?_) ?_
  · obtain ⟨cm, c0, c1, c2, c3, c4, c5, c6, c7, c8, c9⟩ := HMC.out w hq
    go_simp
  simp only [PT]
  refine tk 6 (.bool true) hHeld (fun w => ?_) ?_
  · go_simp
  simp only [PT]
  refine tk 7 (.bool true) hHeld (fun w => ?_) ?_
  · go_simp
  simp only [PT]
  refine tk 8 (.pointer (some ⟨w.heap.size, 1, none⟩)) hHeld (fun w => ?_) ?_
  · go_simp
  simp only [PT]
  refine tk 9 (.pointer (some ⟨w.heap.size, 5, none⟩)) hHeld (fun w => ?_) ?_
  · go_simp
  simp only [PT]
  refine tkS 10 (.int .i64 t) hHeld (fun w hq => ?_) ?_
  · obtain ⟨cm, c0, c1, c2, c3, c4, c5, c6, c7, c8, c9⟩ := HMC.out w hq
    go_simp
  simp only [PT]
  refine tk 11 (.pointer (some ⟨w.heap.size, 1, none⟩)) hHeld (fun w => ?_) ?_
  · go_simp
  simp only [PT]
  refine tk 12 (.pointer (some ⟨w.heap.size, 7, none⟩)) hHeld (fun w => ?_) ?_
  · go_simp
  simp only [PT]
  refine tkS 13 (.int .i64 hh) hHeld (fun w hq => ?_) ?_
  · obtain ⟨cm, c0, c1, c2, c3, c4, c5, c6, c7, c8, c9⟩ := HMC.out w hq
    go_simp
  simp only [PT]
  refine tk 14 (.int .i64 (t - hh)) hHeld (fun w => ?_) ?_
  · (go_simp; try exact hwt)
  simp only [PT]
  refine tkS 15 (.agg #[.slice A n c, .int .i64 pl, .int .i64 st, .int .i64 nx, .int .i64 0, .int .i64 t, .int .i64 hd, .int .i64 hh, .int .i64 ak, .int .i64 wt, .bool false]) hHeld (fun w hq => ?_) ?_
  · obtain ⟨cm, c0, c1, c2, c3, c4, c5, c6, c7, c8, c9⟩ := HMC.out w hq
    go_simp
  simp only [PT]
  refine one_step 16 (by kernel_rfl) rfl (fun Kq hKq => ?_)
  go_simp
  go_at_call 62
  (with_reducible refine (HST.out _ hSd).mono ?_)
  rintro e y1 ⟨rfl, hbx⟩
  try simp only [plV]
  have hS1 : Below W1.heap.size W1 y1 := hSd.trans (hbx.mono hSd.size)
  clear hbx
  refine hKq.out _ _ hS1 (fun hHeld0 => ?_)
  clear hKq Kq hHeld
  have hHeld := hHeld0
  clear hHeld0
  try simp only [PT]
  refine tk 17 (.int .i64 mx) hHeld (fun w => ?_) ?_
  · (go_simp; try rfl)
  simp only [PT]
  refine tk 18 (.bool true) hHeld (fun w => ?_) ?_
  · go_simp
  simp only [PT]
  refine tk 19 (.bool true) hHeld (fun w => ?_) ?_
  · go_simp
  simp only [PT]
  refine tk 20 (.bool true) hHeld (fun w => ?_) ?_
  · go_simp
  simp only [PT]
  refine tk 21 (.pointer (some ⟨w.heap.size, 1, none⟩)) hHeld (fun w => ?_) ?_
  · go_simp
  simp only [PT]
  refine tk 22 (.pointer (some ⟨w.heap.size, 10, none⟩)) hHeld (fun w => ?_) ?_
  · go_simp
  simp only [PT]
  refine tkS 23 (.bool false) hHeld (fun w hq => ?_) ?_
  · obtain ⟨cm, c0, c1, c2, c3, c4, c5, c6, c7, c8, c9⟩ := HMC.out w hq
    go_simp
  simp only [PT]
  refine tk 24 (.bool false) hHeld (fun w => ?_) ?_
  · go_simp
  simp only [PT]
  refine tkO 25 hHeld ?_
  simp only [PT]
  refine tkO 26 hHeld ?_
  simp only [PT]
  refine tkO 27 hHeld ?_
  simp only [PT]
  refine tkO 28 hHeld ?_
  simp only [PT]
  refine tk 29 (.bool false) hHeld (fun w => ?_) ?_
  · go_simp
  simp only [PT]
  refine tk 30 (.bool true) hHeld (fun w => ?_) ?_
  · go_simp
  simp only [PT]
  refine tk 31 (.bool true) hHeld (fun w => ?_) ?_
  · go_simp
  simp only [PT]
  refine tk 32 (.bool true) hHeld (fun w => ?_) ?_
  · go_simp
  simp only [PT]
  refine wpAnyH_done (by kernel_rfl) ?_ _
  clear hHeld
  go_wp2
  go_ret
  exact ⟨by rw [HR.out]; rfl, HB1.out.trans (hS1.mono HB1.out.size)⟩
set_option maxHeartbeats 8000000 in
theorem fits_0d (A : Option Addr) (n c : Nat) (l : List Pl) (s : Sg) (w : World) (hl : Pls w A n c l) (ha : allP l = true) (h0 : 0 ≤ s.pl) (h1 : s.pl < n) (hs : SmG s) (hp : placedB (planAt l s.pl) n s = true) (hh : heldB (planAt l s.pl) s = true) (hph : s.ph = 0) (hc1 : s.hl ≤ s.t) (hc : s.t - s.hl < (stgAt (planAt l s.pl) s.st).mx) (hsp : s.sp = true) (hz : s.hd = 0) : Calls Try.prog 44 #[mcV A n c s] w fun e w' => e = .returned (.bool (mayS l s)) ∧ Below w.heap.size w w' := by
  obtain ⟨W1, hW1⟩ : ∃ W1, w.alloc (.cells #[.slice A n c, .int .i64 s.pl, .int .i64 s.st, .int .i64 s.nx, .int .i64 s.ph, .int .i64 s.t, .int .i64 s.hd, .int .i64 s.hl, .int .i64 s.ak, .int .i64 s.wt, .bool s.sp] 66) = W1 := ⟨_, rfl⟩
  have hB1 : Below w.heap.size w W1 := by rw [← hW1]; exact one_alloc w _
  have hbm : BoxM W1 w.heap.size A n c s := by rw [← hW1]; exact BoxM.new w A n c s
  have HW := Lib.hid hW1
  clear hW1
  have HB1 := Lib.hid hB1
  have HMC := Lib.hid (show ∀ X, Below W1.heap.size W1 X → X.cell? ⟨w.heap.size, 0, none⟩ = some (.slice A n c) ∧ X.cell? ⟨w.heap.size, 1, none⟩ = some (.int .i64 s.pl) ∧ X.cell? ⟨w.heap.size, 2, none⟩ = some (.int .i64 s.st) ∧ X.cell? ⟨w.heap.size, 3, none⟩ = some (.int .i64 s.nx) ∧ X.cell? ⟨w.heap.size, 4, none⟩ = some (.int .i64 s.ph) ∧ X.cell? ⟨w.heap.size, 5, none⟩ = some (.int .i64 s.t) ∧ X.cell? ⟨w.heap.size, 6, none⟩ = some (.int .i64 s.hd) ∧ X.cell? ⟨w.heap.size, 7, none⟩ = some (.int .i64 s.hl) ∧ X.cell? ⟨w.heap.size, 8, none⟩ = some (.int .i64 s.ak) ∧ X.cell? ⟨w.heap.size, 9, none⟩ = some (.int .i64 s.wt) ∧ X.cell? ⟨w.heap.size, 10, none⟩ = some (.bool s.sp) from fun X hX => by
    obtain ⟨cm, c0, c1, c2, c3, c4, c5, c6, c7, c8, c9⟩ := (hbm.below hX).cells
    exact ⟨cm, c0, c1, c2, c3, c4, c5, c6, c7, c8, c9⟩)
  have HOW := Lib.hid (fun X (hX : Below W1.heap.size W1 X) => own_plan A n c l s X ((hl.below hB1).below hX) h0 h1)
  have HQI := Lib.hid (show ∀ X, Below W1.heap.size W1 X → PlIn X (planAt l s.pl) from fun X hX => plan_lies ((hl.below hB1).below hX) h0 h1)
  have hff : fitP (planAt l s.pl) = true := by
    obtain ⟨j, hj⟩ := Int.eq_ofNat_of_zero_le h0
    rw [hj]
    exact all_fit ha (plan_of hl (by omega)).2
  have HPL := Lib.hid (fun X (hX : Below W1.heap.size W1 X) => placed_any A n c l s X ((hl.below hB1).below hX) h0 h1)
  have HSP := Lib.hid (fun X (hX : Below W1.heap.size W1 X) => spared_any A n c l s X ((hl.below hB1).below hX) h0 h1 hff hs.2)
  have hM := may_is ha h0 h1 hl.len
  have hqk0 := (HQI.out W1 (Below.refl _ _)).s.len
  have HIS := Lib.hid (fun (s0 : 0 ≤ s.st) (s1 : s.st < (planAt l s.pl).k) X (hX : Below W1.heap.size W1 X) => stage_own A n c l s X ((hl.below hB1).below hX) h0 h1 s0 s1)
  have HID := Lib.hid (fun X => idle_any A n c s X)
  rw [range_placed hqk0] at hM
  unfold mcV at HOW HPL HSP HIS HID ⊢
  clear hbm hB1 hl
  have hst0 := hs.1
  rw [hp, hh, Bool.true_and, Bool.true_and] at hM
  rw [hp] at HPL
  rw [hh] at HSP
  have hhe := held_iff.1 hh
  have hh0 := hhe.h0
  have hh1 := hhe.h1
  clear hhe
  have HR := Lib.hid (show mayS l s = true by
    rw [hM, timeB, if_pos hph, decide_eq_true (by omega), Bool.true_and]
    exact decide_eq_true ⟨hc1, hc, fun _ => hz⟩)
  have hpp := hp
  rw [placedB, Bool.and_eq_true, Bool.and_eq_true, Bool.and_eq_true, place_iff] at hpp
  have HST := Lib.hid (HIS.out hpp.1.1.1.1 hpp.1.1.1.2)
  clear hpp HIS
  obtain ⟨x, hx⟩ : ∃ x, stgAt (planAt l s.pl) s.st = x := ⟨_, rfl⟩
  rw [hx] at HST
  rw [hx] at hc
  obtain ⟨R, hR⟩ : ∃ R, mayS l s = R := ⟨_, rfl⟩
  rw [hR] at HR ⊢
  clear hR hM hp hh HQI hx hff ha hqk0 HOW HID
  obtain ⟨g, mn, mx⟩ := x
  have hwt : IntKind.i64.wrap (s.t - s.hl) = s.t - s.hl := by rw [IntKind.wrap_i64]; omega
  have hb1 : decide (s.hl ≤ s.t) = true := decide_eq_true hc1
  have hb2 : decide (s.t - s.hl < mx) = true := decide_eq_true (by simp only at hc; omega)
  have hb3 : decide (0 < s.hd) = false := decide_eq_false (by omega)
  have HZ := Lib.hid hz
  clear hz
  clear hs hst0
  obtain ⟨pl, st, nx, ph, t, hd, hh, ak, wt, sp⟩ := s
  simp only at *
  subst hph
  subst hsp
  go_enter Try.func44, Try.ntmps44
  go_wp2_with (first
    | (go_at_call 60
       rw [HW.out]
       (with_reducible refine (HPL.out _ (Below.refl _ _)).mono ?_)
       rintro e w1 ⟨rfl, hbx⟩
       have hS1 : Below W1.heap.size W1 w1 := hbx
       obtain ⟨cm, c0, c1, c2, c3, c4, c5, c6, c7, c8, c9⟩ := HMC.out w1 hS1
       clear hbx)
    | (go_at_call 61
       (with_reducible refine (HSP.out _ hS1).mono ?_)
       rintro e w2 ⟨rfl, hbx⟩
       have hS2 : Below W1.heap.size W1 w2 := hS1.trans (hbx.mono hS1.size)
       obtain ⟨dm, d0, d1, d2, d3, d4, d5, d6, d7, d8, d9⟩ := HMC.out w2 hS2
       clear hbx))
  clear cm c0 c1 c2 c3 c4 c5 c6 c7 c8 c9 dm d0 d1 d2 d3 d4 d5 d6 d7 d8 d9
  have hSd : Below W1.heap.size W1 w2.drew := hS2.drew
  refine wp_region_held_drew (S := fun X => Below W1.heap.size W1 X) (by kernel_rfl) hSd (fun hHeld => ?_)
  obtain ⟨y0, hY0⟩ : ∃ Y, w2.drew = Y := ⟨_, rfl⟩
  rw [hY0] at hSd hHeld ⊢
  clear hY0
  refine tk 0 (.pointer (some ⟨w.heap.size, 1, none⟩)) hHeld (fun w => ?_) ?_
  · go_simp
  simp only [PT]
  refine tk 1 (.pointer (some ⟨w.heap.size, 5, none⟩)) hHeld (fun w => ?_) ?_
  · go_simp
  simp only [PT]
  refine tkS 2 (.int .i64 t) hHeld (fun w hq => ?_) ?_
  · obtain ⟨cm, c0, c1, c2, c3, c4, c5, c6, c7, c8, c9⟩ := HMC.out w hq
    go_simp
  simp only [PT]
  refine tk 3 (.pointer (some ⟨w.heap.size, 1, none⟩)) hHeld (fun w => ?_) ?_
  · go_simp
  simp only [PT]
  refine tk 4 (.pointer (some ⟨w.heap.size, 7, none⟩)) hHeld (fun w => ?_) ?_
  · go_simp
  simp only [PT]
  refine tkS 5 (.int .i64 hh) hHeld (fun w hq => ?_) ?_
  · obtain ⟨cm, c0, c1, c2, c3, c4, c5, c6, c7, c8, c9⟩ := HMC.out w hq
    go_simp
  simp only [PT]
  refine tk 6 (.bool true) hHeld (fun w => ?_) ?_
  · go_simp
  simp only [PT]
  refine tk 7 (.bool true) hHeld (fun w => ?_) ?_
  · go_simp
  simp only [PT]
  refine tk 8 (.pointer (some ⟨w.heap.size, 1, none⟩)) hHeld (fun w => ?_) ?_
  · go_simp
  simp only [PT]
  refine tk 9 (.pointer (some ⟨w.heap.size, 5, none⟩)) hHeld (fun w => ?_) ?_
  · go_simp
  simp only [PT]
  refine tkS 10 (.int .i64 t) hHeld (fun w hq => ?_) ?_
  · obtain ⟨cm, c0, c1, c2, c3, c4, c5, c6, c7, c8, c9⟩ := HMC.out w hq
    go_simp
  simp only [PT]
  refine tk 11 (.pointer (some ⟨w.heap.size, 1, none⟩)) hHeld (fun w => ?_) ?_
  · go_simp
  simp only [PT]
  refine tk 12 (.pointer (some ⟨w.heap.size, 7, none⟩)) hHeld (fun w => ?_) ?_
  · go_simp
  simp only [PT]
  refine tkS 13 (.int .i64 hh) hHeld (fun w hq => ?_) ?_
  · obtain ⟨cm, c0, c1, c2, c3, c4, c5, c6, c7, c8, c9⟩ := HMC.out w hq
    go_simp
  simp only [PT]
  refine tk 14 (.int .i64 (t - hh)) hHeld (fun w => ?_) ?_
  · (go_simp; try exact hwt)
  simp only [PT]
  refine tkS 15 (.agg #[.slice A n c, .int .i64 pl, .int .i64 st, .int .i64 nx, .int .i64 0, .int .i64 t, .int .i64 hd, .int .i64 hh, .int .i64 ak, .int .i64 wt, .bool true]) hHeld (fun w hq => ?_) ?_
  · obtain ⟨cm, c0, c1, c2, c3, c4, c5, c6, c7, c8, c9⟩ := HMC.out w hq
    go_simp
  simp only [PT]
  refine one_step 16 (by kernel_rfl) rfl (fun Kq hKq => ?_)
  go_simp
  go_at_call 62
  (with_reducible refine (HST.out _ hSd).mono ?_)
  rintro e y1 ⟨rfl, hbx⟩
  try simp only [plV]
  have hS1 : Below W1.heap.size W1 y1 := hSd.trans (hbx.mono hSd.size)
  clear hbx
  refine hKq.out _ _ hS1 (fun hHeld0 => ?_)
  clear hKq Kq hHeld
  have hHeld := hHeld0
  clear hHeld0
  try simp only [PT]
  refine tk 17 (.int .i64 mx) hHeld (fun w => ?_) ?_
  · (go_simp; try rfl)
  simp only [PT]
  refine tk 18 (.bool true) hHeld (fun w => ?_) ?_
  · go_simp
  simp only [PT]
  refine tk 19 (.bool true) hHeld (fun w => ?_) ?_
  · go_simp
  simp only [PT]
  refine tk 20 (.bool true) hHeld (fun w => ?_) ?_
  · go_simp
  simp only [PT]
  refine tk 21 (.pointer (some ⟨w.heap.size, 1, none⟩)) hHeld (fun w => ?_) ?_
  · go_simp
  simp only [PT]
  refine tk 22 (.pointer (some ⟨w.heap.size, 10, none⟩)) hHeld (fun w => ?_) ?_
  · go_simp
  simp only [PT]
  refine tkS 23 (.bool true) hHeld (fun w hq => ?_) ?_
  · obtain ⟨cm, c0, c1, c2, c3, c4, c5, c6, c7, c8, c9⟩ := HMC.out w hq
    go_simp
  simp only [PT]
  refine tk 24 (.bool true) hHeld (fun w => ?_) ?_
  · go_simp
  simp only [PT]
  refine tk 25 (.pointer (some ⟨w.heap.size, 1, none⟩)) hHeld (fun w => ?_) ?_
  · go_simp
  simp only [PT]
  refine tk 26 (.pointer (some ⟨w.heap.size, 6, none⟩)) hHeld (fun w => ?_) ?_
  · go_simp
  simp only [PT]
  refine tkS 27 (.int .i64 hd) hHeld (fun w hq => ?_) ?_
  · obtain ⟨cm, c0, c1, c2, c3, c4, c5, c6, c7, c8, c9⟩ := HMC.out w hq
    go_simp
  simp only [PT]
  refine tk 28 (.bool false) hHeld (fun w => ?_) ?_
  · go_simp
  simp only [PT]
  refine tk 29 (.bool false) hHeld (fun w => ?_) ?_
  · go_simp
  simp only [PT]
  refine tk 30 (.bool true) hHeld (fun w => ?_) ?_
  · go_simp
  simp only [PT]
  refine tk 31 (.bool true) hHeld (fun w => ?_) ?_
  · go_simp
  simp only [PT]
  refine tk 32 (.bool true) hHeld (fun w => ?_) ?_
  · go_simp
  simp only [PT]
  refine wpAnyH_done (by kernel_rfl) ?_ _
  clear hHeld
  go_wp2
  go_ret
  exact ⟨by rw [HR.out]; rfl, HB1.out.trans (hS1.mono HB1.out.size)⟩
set_option maxHeartbeats 8000000 in
theorem fits_0e (A : Option Addr) (n c : Nat) (l : List Pl) (s : Sg) (w : World) (hl : Pls w A n c l) (ha : allP l = true) (h0 : 0 ≤ s.pl) (h1 : s.pl < n) (hs : SmG s) (hp : placedB (planAt l s.pl) n s = true) (hh : heldB (planAt l s.pl) s = true) (hph : s.ph = 0) (hc1 : s.hl ≤ s.t) (hc : s.t - s.hl < (stgAt (planAt l s.pl) s.st).mx) (hsp : s.sp = true) (hz : s.hd ≠ 0) : Calls Try.prog 44 #[mcV A n c s] w fun e w' => e = .returned (.bool (mayS l s)) ∧ Below w.heap.size w w' := by
  obtain ⟨W1, hW1⟩ : ∃ W1, w.alloc (.cells #[.slice A n c, .int .i64 s.pl, .int .i64 s.st, .int .i64 s.nx, .int .i64 s.ph, .int .i64 s.t, .int .i64 s.hd, .int .i64 s.hl, .int .i64 s.ak, .int .i64 s.wt, .bool s.sp] 66) = W1 := ⟨_, rfl⟩
  have hB1 : Below w.heap.size w W1 := by rw [← hW1]; exact one_alloc w _
  have hbm : BoxM W1 w.heap.size A n c s := by rw [← hW1]; exact BoxM.new w A n c s
  have HW := Lib.hid hW1
  clear hW1
  have HB1 := Lib.hid hB1
  have HMC := Lib.hid (show ∀ X, Below W1.heap.size W1 X → X.cell? ⟨w.heap.size, 0, none⟩ = some (.slice A n c) ∧ X.cell? ⟨w.heap.size, 1, none⟩ = some (.int .i64 s.pl) ∧ X.cell? ⟨w.heap.size, 2, none⟩ = some (.int .i64 s.st) ∧ X.cell? ⟨w.heap.size, 3, none⟩ = some (.int .i64 s.nx) ∧ X.cell? ⟨w.heap.size, 4, none⟩ = some (.int .i64 s.ph) ∧ X.cell? ⟨w.heap.size, 5, none⟩ = some (.int .i64 s.t) ∧ X.cell? ⟨w.heap.size, 6, none⟩ = some (.int .i64 s.hd) ∧ X.cell? ⟨w.heap.size, 7, none⟩ = some (.int .i64 s.hl) ∧ X.cell? ⟨w.heap.size, 8, none⟩ = some (.int .i64 s.ak) ∧ X.cell? ⟨w.heap.size, 9, none⟩ = some (.int .i64 s.wt) ∧ X.cell? ⟨w.heap.size, 10, none⟩ = some (.bool s.sp) from fun X hX => by
    obtain ⟨cm, c0, c1, c2, c3, c4, c5, c6, c7, c8, c9⟩ := (hbm.below hX).cells
    exact ⟨cm, c0, c1, c2, c3, c4, c5, c6, c7, c8, c9⟩)
  have HOW := Lib.hid (fun X (hX : Below W1.heap.size W1 X) => own_plan A n c l s X ((hl.below hB1).below hX) h0 h1)
  have HQI := Lib.hid (show ∀ X, Below W1.heap.size W1 X → PlIn X (planAt l s.pl) from fun X hX => plan_lies ((hl.below hB1).below hX) h0 h1)
  have hff : fitP (planAt l s.pl) = true := by
    obtain ⟨j, hj⟩ := Int.eq_ofNat_of_zero_le h0
    rw [hj]
    exact all_fit ha (plan_of hl (by omega)).2
  have HPL := Lib.hid (fun X (hX : Below W1.heap.size W1 X) => placed_any A n c l s X ((hl.below hB1).below hX) h0 h1)
  have HSP := Lib.hid (fun X (hX : Below W1.heap.size W1 X) => spared_any A n c l s X ((hl.below hB1).below hX) h0 h1 hff hs.2)
  have hM := may_is ha h0 h1 hl.len
  have hqk0 := (HQI.out W1 (Below.refl _ _)).s.len
  have HIS := Lib.hid (fun (s0 : 0 ≤ s.st) (s1 : s.st < (planAt l s.pl).k) X (hX : Below W1.heap.size W1 X) => stage_own A n c l s X ((hl.below hB1).below hX) h0 h1 s0 s1)
  have HID := Lib.hid (fun X => idle_any A n c s X)
  rw [range_placed hqk0] at hM
  unfold mcV at HOW HPL HSP HIS HID ⊢
  clear hbm hB1 hl
  have hst0 := hs.1
  rw [hp, hh, Bool.true_and, Bool.true_and] at hM
  rw [hp] at HPL
  rw [hh] at HSP
  have hhe := held_iff.1 hh
  have hh0 := hhe.h0
  have hh1 := hhe.h1
  clear hhe
  have HR := Lib.hid (show mayS l s = false by
    rw [hM, timeB, if_pos hph, decide_eq_true (by omega), Bool.true_and]
    exact decide_eq_false fun h => hz (h.2.2 hsp))
  have hpp := hp
  rw [placedB, Bool.and_eq_true, Bool.and_eq_true, Bool.and_eq_true, place_iff] at hpp
  have HST := Lib.hid (HIS.out hpp.1.1.1.1 hpp.1.1.1.2)
  clear hpp HIS
  obtain ⟨x, hx⟩ : ∃ x, stgAt (planAt l s.pl) s.st = x := ⟨_, rfl⟩
  rw [hx] at HST
  rw [hx] at hc
  obtain ⟨R, hR⟩ : ∃ R, mayS l s = R := ⟨_, rfl⟩
  rw [hR] at HR ⊢
  clear hR hM hp hh HQI hx hff ha hqk0 HOW HID
  obtain ⟨g, mn, mx⟩ := x
  have hwt : IntKind.i64.wrap (s.t - s.hl) = s.t - s.hl := by rw [IntKind.wrap_i64]; omega
  have hb1 : decide (s.hl ≤ s.t) = true := decide_eq_true hc1
  have hb2 : decide (s.t - s.hl < mx) = true := decide_eq_true (by simp only at hc; omega)
  have hb3 : decide (0 < s.hd) = true := decide_eq_true (by omega)
  clear hs hst0
  obtain ⟨pl, st, nx, ph, t, hd, hh, ak, wt, sp⟩ := s
  simp only at *
  subst hph
  subst hsp
  go_enter Try.func44, Try.ntmps44
  go_wp2_with (first
    | (go_at_call 60
       rw [HW.out]
       (with_reducible refine (HPL.out _ (Below.refl _ _)).mono ?_)
       rintro e w1 ⟨rfl, hbx⟩
       have hS1 : Below W1.heap.size W1 w1 := hbx
       obtain ⟨cm, c0, c1, c2, c3, c4, c5, c6, c7, c8, c9⟩ := HMC.out w1 hS1
       clear hbx)
    | (go_at_call 61
       (with_reducible refine (HSP.out _ hS1).mono ?_)
       rintro e w2 ⟨rfl, hbx⟩
       have hS2 : Below W1.heap.size W1 w2 := hS1.trans (hbx.mono hS1.size)
       obtain ⟨dm, d0, d1, d2, d3, d4, d5, d6, d7, d8, d9⟩ := HMC.out w2 hS2
       clear hbx))
  clear cm c0 c1 c2 c3 c4 c5 c6 c7 c8 c9 dm d0 d1 d2 d3 d4 d5 d6 d7 d8 d9
  have hSd : Below W1.heap.size W1 w2.drew := hS2.drew
  refine wp_region_held_drew (S := fun X => Below W1.heap.size W1 X) (by kernel_rfl) hSd (fun hHeld => ?_)
  obtain ⟨y0, hY0⟩ : ∃ Y, w2.drew = Y := ⟨_, rfl⟩
  rw [hY0] at hSd hHeld ⊢
  clear hY0
  refine tk 0 (.pointer (some ⟨w.heap.size, 1, none⟩)) hHeld (fun w => ?_) ?_
  · go_simp
  simp only [PT]
  refine tk 1 (.pointer (some ⟨w.heap.size, 5, none⟩)) hHeld (fun w => ?_) ?_
  · go_simp
  simp only [PT]
  refine tkS 2 (.int .i64 t) hHeld (fun w hq => ?_) ?_
  · obtain ⟨cm, c0, c1, c2, c3, c4, c5, c6, c7, c8, c9⟩ := HMC.out w hq
    go_simp
  simp only [PT]
  refine tk 3 (.pointer (some ⟨w.heap.size, 1, none⟩)) hHeld (fun w => ?_) ?_
  · go_simp
  simp only [PT]
  refine tk 4 (.pointer (some ⟨w.heap.size, 7, none⟩)) hHeld (fun w => ?_) ?_
  · go_simp
  simp only [PT]
  refine tkS 5 (.int .i64 hh) hHeld (fun w hq => ?_) ?_
  · obtain ⟨cm, c0, c1, c2, c3, c4, c5, c6, c7, c8, c9⟩ := HMC.out w hq
    go_simp
  simp only [PT]
  refine tk 6 (.bool true) hHeld (fun w => ?_) ?_
  · go_simp
  simp only [PT]
  refine tk 7 (.bool true) hHeld (fun w => ?_) ?_
  · go_simp
  simp only [PT]
  refine tk 8 (.pointer (some ⟨w.heap.size, 1, none⟩)) hHeld (fun w => ?_) ?_
  · go_simp
  simp only [PT]
  refine tk 9 (.pointer (some ⟨w.heap.size, 5, none⟩)) hHeld (fun w => ?_) ?_
  · go_simp
  simp only [PT]
  refine tkS 10 (.int .i64 t) hHeld (fun w hq => ?_) ?_
  · obtain ⟨cm, c0, c1, c2, c3, c4, c5, c6, c7, c8, c9⟩ := HMC.out w hq
    go_simp
  simp only [PT]
  refine tk 11 (.pointer (some ⟨w.heap.size, 1, none⟩)) hHeld (fun w => ?_) ?_
  · go_simp
  simp only [PT]
  refine tk 12 (.pointer (some ⟨w.heap.size, 7, none⟩)) hHeld (fun w => ?_) ?_
  · go_simp
  simp only [PT]
  refine tkS 13 (.int .i64 hh) hHeld (fun w hq => ?_) ?_
  · obtain ⟨cm, c0, c1, c2, c3, c4, c5, c6, c7, c8, c9⟩ := HMC.out w hq
    go_simp
  simp only [PT]
  refine tk 14 (.int .i64 (t - hh)) hHeld (fun w => ?_) ?_
  · (go_simp; try exact hwt)
  simp only [PT]
  refine tkS 15 (.agg #[.slice A n c, .int .i64 pl, .int .i64 st, .int .i64 nx, .int .i64 0, .int .i64 t, .int .i64 hd, .int .i64 hh, .int .i64 ak, .int .i64 wt, .bool true]) hHeld (fun w hq => ?_) ?_
  · obtain ⟨cm, c0, c1, c2, c3, c4, c5, c6, c7, c8, c9⟩ := HMC.out w hq
    go_simp
  simp only [PT]
  refine one_step 16 (by kernel_rfl) rfl (fun Kq hKq => ?_)
  go_simp
  go_at_call 62
  (with_reducible refine (HST.out _ hSd).mono ?_)
  rintro e y1 ⟨rfl, hbx⟩
  try simp only [plV]
  have hS1 : Below W1.heap.size W1 y1 := hSd.trans (hbx.mono hSd.size)
  clear hbx
  refine hKq.out _ _ hS1 (fun hHeld0 => ?_)
  clear hKq Kq hHeld
  have hHeld := hHeld0
  clear hHeld0
  try simp only [PT]
  refine tk 17 (.int .i64 mx) hHeld (fun w => ?_) ?_
  · (go_simp; try rfl)
  simp only [PT]
  refine tk 18 (.bool true) hHeld (fun w => ?_) ?_
  · go_simp
  simp only [PT]
  refine tk 19 (.bool true) hHeld (fun w => ?_) ?_
  · go_simp
  simp only [PT]
  refine tk 20 (.bool true) hHeld (fun w => ?_) ?_
  · go_simp
  simp only [PT]
  refine tk 21 (.pointer (some ⟨w.heap.size, 1, none⟩)) hHeld (fun w => ?_) ?_
  · go_simp
  simp only [PT]
  refine tk 22 (.pointer (some ⟨w.heap.size, 10, none⟩)) hHeld (fun w => ?_) ?_
  · go_simp
  simp only [PT]
  refine tkS 23 (.bool true) hHeld (fun w hq => ?_) ?_
  · obtain ⟨cm, c0, c1, c2, c3, c4, c5, c6, c7, c8, c9⟩ := HMC.out w hq
    go_simp
  simp only [PT]
  refine tk 24 (.bool true) hHeld (fun w => ?_) ?_
  · go_simp
  simp only [PT]
  refine tk 25 (.pointer (some ⟨w.heap.size, 1, none⟩)) hHeld (fun w => ?_) ?_
  · go_simp
  simp only [PT]
  refine tk 26 (.pointer (some ⟨w.heap.size, 6, none⟩)) hHeld (fun w => ?_) ?_
  · go_simp
  simp only [PT]
  refine tkS 27 (.int .i64 hd) hHeld (fun w hq => ?_) ?_
  · obtain ⟨cm, c0, c1, c2, c3, c4, c5, c6, c7, c8, c9⟩ := HMC.out w hq
    go_simp
  simp only [PT]
  refine tk 28 (.bool true) hHeld (fun w => ?_) ?_
  · go_simp
  simp only [PT]
  refine tk 29 (.bool true) hHeld (fun w => ?_) ?_
  · go_simp
  simp only [PT]
  refine tk 30 (.bool false) hHeld (fun w => ?_) ?_
  · go_simp
  simp only [PT]
  refine tk 31 (.bool false) hHeld (fun w => ?_) ?_
  · go_simp
  simp only [PT]
  refine tk 32 (.bool false) hHeld (fun w => ?_) ?_
  · go_simp
  simp only [PT]
  refine wpAnyH_done (by kernel_rfl) ?_ _
  clear hHeld
  go_wp2
  go_ret
  exact ⟨by rw [HR.out]; rfl, HB1.out.trans (hS1.mono HB1.out.size)⟩
theorem mfits_any (A : Option Addr) (n c : Nat) (l : List Pl) (s : Sg) (w : World) (hl : Pls w A n c l) (ha : allP l = true) (h0 : 0 ≤ s.pl) (h1 : s.pl < n) (hs : SmG s) : Calls Try.prog 44 #[mcV A n c s] w fun e w' => e = .returned (.bool (mayS l s)) ∧ Below w.heap.size w w' := by
  by_cases hy : placedB (planAt l s.pl) n s = true ∧ heldB (planAt l s.pl) s = true
  · obtain ⟨hp, hh⟩ := hy
    by_cases p0 : s.ph = 0
    · by_cases c1 : s.hl ≤ s.t
      · by_cases c2 : s.t - s.hl < (stgAt (planAt l s.pl) s.st).mx
        · by_cases c3 : s.sp = true
          · by_cases c4 : s.hd = 0
            · exact fits_0d A n c l s w hl ha h0 h1 hs hp hh p0 c1 c2 c3 c4
            · exact fits_0e A n c l s w hl ha h0 h1 hs hp hh p0 c1 c2 c3 c4
          · exact fits_0c A n c l s w hl ha h0 h1 hs hp hh p0 c1 c2 (Bool.eq_false_iff.2 c3)
        · exact fits_0b A n c l s w hl ha h0 h1 hs hp hh p0 c1 (by omega)
      · exact fits_0a A n c l s w hl ha h0 h1 hs hp hh p0 (by omega)
    · by_cases p1 : s.ph = 1
      · cases ci : (decide (s.hd = 0) && (decide (s.hl = 0) && decide (s.ak = -1)))
        · exact fits_1a A n c l s w hl ha h0 h1 hs hp hh p1 ci
        · by_cases c1 : s.t < 0
          · exact fits_1b A n c l s w hl ha h0 h1 hs hp hh p1 ci c1
          · exact fits_1c A n c l s w hl ha h0 h1 hs hp hh p1 ci (by omega)
      · by_cases p2 : s.ph = 2
        · cases ci : (decide (s.hd = 0) && (decide (s.hl = 0) && decide (s.ak = -1)))
          · exact fits_2a A n c l s w hl ha h0 h1 hs hp hh p2 ci
          · by_cases c1 : s.t < 0
            · exact fits_2b A n c l s w hl ha h0 h1 hs hp hh p2 ci c1
            · exact fits_2c A n c l s w hl ha h0 h1 hs hp hh p2 ci (by omega)
        · exact fits_oth A n c l s w hl ha h0 h1 hs hp hh p0 p1 p2
  · refine fits_no A n c l s w hl ha h0 h1 hs ?_
    rw [← Bool.not_eq_true, Bool.and_eq_true]
    exact hy
end Go.Proofs.Ytgnhmdfajnnkhaa

