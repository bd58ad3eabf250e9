/- The walk over the law GroupBack: a set comes back from its groups, groups that rise from their set. -/
import Derived.Test.YtlejeecnkbapmaaGrpAgnW
import Derived.Test.YtlejeecnkbapmaaGrpInts
namespace Go.Proofs.Ytlejeecnkbapmaa
set_option maxRecDepth 100000
set_option linter.unusedVariables false
set_option linter.unusedSimpArgs false
open Go.RowKit

theorem list_rise (s : Int) : risesB (listM s) = true := by
  by_cases h : 0 ≤ s ∧ s < 256
  · exact (back_list h).2
  · rw [listM, if_neg h]; rfl
theorem list_small (s : Int) : (listM s).length ≤ 8 := by
  rw [listM]
  split
  · rw [List.length_map]; exact Nat.le_trans (List.length_filter_le _ _) (by rw [List.length_range]; exact Nat.le_refl _)
  · simp
theorem rise_at {l : List Int} {j : Nat} (h : risesB l = true) (hj : j + 1 < l.length) : l.getD j 0 < l.getD (j + 1) 0 := by
  have h0 : risesTo l l.length := of_decide_eq_true h
  exact h0 (j + 1) hj (by omega)
theorem rise_next (l : List Int) (j : Nat) : decide (risesTo l (j + 2)) = (decide (risesTo l (j + 1)) && decide (l.getD j 0 < l.getD (j + 1) 0)) := by
  rw [Bool.eq_iff_iff, Bool.and_eq_true, decide_eq_true_iff, decide_eq_true_iff, decide_eq_true_iff]
  constructor
  · intro h
    exact ⟨fun i hi hp => h i (by omega) hp, h (j + 1) (by omega) (by omega)⟩
  · rintro ⟨h1, h2⟩ i hi hp
    by_cases e : i = j + 1
    · subst e; exact h2
    · exact h1 i (by omega) hp
set_option maxHeartbeats 16000000 in
theorem gback_long (HG : GrpOk) (s : Int) (A : Option Addr) (k c : Nat) (l : List Int) (w : World) (hl : Its .i64 w A k c l) (h1 : 20 < k) :
    Calls Try.prog 4 #[.int .i64 s, .slice A k c] w fun e w' => e = .returned (.bool true) ∧ Below w.heap.size w w' := by
  have hks := hl.small
  have h1a : (20 : Int) < k := by omega
  clear hl
  go_enter Try.func4, Try.ntmps4
  go_wp2_with (first
    | (go_at_call 8
       (with_reducible refine (gawake_any HG _).mono ?_)
       rintro e w1 ⟨rfl, hb1⟩
       have HB1 := Lib.hid hb1
       clear hb1))
  go_ret
  exact ⟨rfl, HB1.out⟩
set_option maxHeartbeats 16000000 in
theorem gback_inn (HG : GrpOk) (s : Int) (A : Option Addr) (k c : Nat) (l : List Int) (w : World) (hl : Its .i64 w A k c l) (h1 : ¬ 20 < k) (h2 : 0 ≤ s ∧ s < 256) (h3 : ofM l = -1) :
    Calls Try.prog 4 #[.int .i64 s, .slice A k c] w fun e w' => e = .returned (.bool true) ∧ Below w.heap.size w w' := by
  have hks := hl.small
  have h1a : ¬ (20 : Int) < k := by omega
  have HLW := Lib.hid hl
  have HKL := Lib.hid hl.len
  have HLI := Lib.hid (fun (X : World) => HG.list s X)
  have HSM := Lib.hid (list_small s)
  have HRI := Lib.hid (list_rise s)
  have HOL := Lib.hid (fun (X : World) (hX : Below w.heap.size w X) => HG.of A k c l X (hl.below hX) (by omega))
  have h2a : 0 ≤ s := h2.1
  have h2b : s < 256 := h2.2
  have HOX := Lib.hid (fun (B : Option Addr) (n d : Nat) (X : World) (h : Its .i64 X B n d (listM s)) (hn : n ≤ 1000) => HG.of B n d (listM s) X h hn)
  rw [(back_list h2).1] at HOX
  rw [h3] at HOL
  have hkp : (0 : Int) < k := by have := of_none h3; rw [hl.len] at this; omega
  clear hl h3
  go_enter Try.func4, Try.ntmps4
  go_wp2_with (first
    | (go_at_call 8
       (with_reducible refine (gawake_any HG _).mono ?_)
       rintro e w1 ⟨rfl, hb1⟩
       have HB1 := Lib.hid hb1
       clear hb1)
    | (go_at_call 14
       (with_reducible refine (HLI.out _).mono ?_)
       rintro e w2 ⟨A6, n6, c6, rfl, hi2, hbx⟩
       have HI2 := Lib.hid hi2
       have HNL := Lib.hid hi2.len
       have hn6 := hi2.small
       have HB2 := Lib.hid (HB1.out.trans (hbx.mono HB1.out.size))
       clear hbx hi2))
  go_loopw [7] (fun v wr => ∃ j : Nat, (j + 1 ≤ n6 ∨ j = 0) ∧ v = .int .i64 ((j : Int) + 1) ∧ Below w2.heap.size w2 wr) (fun v _ => n6 + 1 - (intOf v).toNat)
  case atStart => exact ⟨0, .inr rfl, rfl, Below.refl _ _⟩
  case round =>
    obtain ⟨j, hj, rfl, hb3⟩ := hrel
    have HB3 := Lib.hid hb3
    have hn8 : n6 ≤ 8 := by rw [← HNL.out]; exact HSM.out
    by_cases hlt : j + 1 < n6
    · obtain ⟨b, off, rfl, hc⟩ := HI2.out.at_ (by omega)
      have hup := rise_at HRI.out (show j + 1 < _ by rw [HNL.out]; exact hlt)
      have c1 : wr.drew.cell? ⟨b, off + (j + 1), none⟩ = some (.int .i64 ((listM s).getD (j + 1) 0)) := (hb3.cell (p := ⟨b, off + (j + 1), none⟩) (block_lt_of_cell (hc (j + 1) hlt))).trans (hc (j + 1) hlt)
      have c0 : wr.drew.cell? ⟨b, off + j, none⟩ = some (.int .i64 ((listM s).getD j 0)) := (hb3.cell (p := ⟨b, off + j, none⟩) (block_lt_of_cell (hc j (by omega)))).trans (hc j (by omega))
      obtain ⟨x1, hx1⟩ : ∃ x, (listM s).getD (j + 1) 0 = x := ⟨_, rfl⟩
      obtain ⟨x0, hx0⟩ : ∃ x, (listM s).getD j 0 = x := ⟨_, rfl⟩
      rw [hx1] at c1 hup
      rw [hx0] at c0 hup
      have hwj : IntKind.i64.wrap (j : Int) = (j : Int) := by rw [IntKind.wrap_i64]; omega
      have hwj2 : IntKind.i64.wrap ((j : Int) + 1 + 1) = (j : Int) + 1 + 1 := by rw [IntKind.wrap_i64]; omega
      have q1 : (j : Int) + 1 < n6 := by omega
      have q2 : 0 ≤ (j : Int) + 1 := by omega
      have q3 : (j : Int) < n6 := by omega
      have q4 : 0 ≤ (j : Int) := by omega
      clear hc hx1 hx0 hb3
      go_wp2_with fail
      refine wp_region_held_drew (S := fun X => X.cell? ⟨b, off + (j + 1), none⟩ = some (.int .i64 x1) ∧ X.cell? ⟨b, off + j, none⟩ = some (.int .i64 x0)) (by kernel_rfl) ⟨c1, c0⟩ (fun hHeld => ?_)
      refine tk 0 (.slice (some ⟨b, off, none⟩) n6 c6) hHeld (fun w => ?_) ?_
      · go_simp
      simp only [PT]
      refine tk 1 (.int .i64 ((j : Int) + 1)) hHeld (fun w => ?_) ?_
      · go_simp
      simp only [PT]
      refine tk 2 (.pointer (some ⟨b, off + (j + 1), none⟩)) hHeld (fun w => ?_) ?_
      · go_simp
      simp only [PT]
      refine tkS 3 (.int .i64 x1) hHeld (fun w hq => ?_) ?_
      · obtain ⟨hq1, hq0⟩ := hq
        go_simp
      simp only [PT]
      refine tk 4 (.slice (some ⟨b, off, none⟩) n6 c6) hHeld (fun w => ?_) ?_
      · go_simp
      simp only [PT]
      refine tk 5 (.int .i64 ((j : Int) + 1)) hHeld (fun w => ?_) ?_
      · go_simp
      simp only [PT]
      refine tk 6 (.int .i64 (j : Int)) hHeld (fun w => ?_) ?_
      · go_simp
      simp only [PT]
      refine tk 7 (.pointer (some ⟨b, off + j, none⟩)) hHeld (fun w => ?_) ?_
      · go_simp
      simp only [PT]
      refine tkS 8 (.int .i64 x0) hHeld (fun w hq => ?_) ?_
      · obtain ⟨hq1, hq0⟩ := hq
        go_simp
      simp only [PT]
      refine tk 9 (.bool false) hHeld (fun w => ?_) ?_
      · go_simp
      simp only [PT]
      refine wpAnyH_done (by kernel_rfl) ?_ _
      clear hHeld c1 c0
      go_wp2_with fail
      go_roundw
      case rel => exact ⟨j + 1, .inl (by omega), by go_num, HB3.out.drew⟩
      case measure => simp [intOf]; omega
    · have q1 : ¬ ((j : Int) + 1 < n6) := by omega
      have HI3 := Lib.hid (HI2.out.below hb3)
      have HB4 := Lib.hid (HB2.out.trans (hb3.mono HB2.out.size))
      clear hb3
      go_wp2_with (first
        | (go_at_call 20
           (with_reducible refine (HOX.out A6 n6 c6 _ HI3.out (by omega)).mono ?_)
           rintro e w5 ⟨rfl, hbx⟩
           have HB5 := Lib.hid (HB4.out.trans (hbx.mono HB4.out.size))
           clear hbx)
        | (go_at_call 20
           (with_reducible refine (HOL.out _ HB5.out).mono ?_)
           rintro e w6 ⟨rfl, hbx⟩
           have HB6 := Lib.hid (HB5.out.trans (hbx.mono HB5.out.size))
           clear hbx))
      go_ret
      exact ⟨congrArg (fun b => Ending.returned (Value.bool b)) (decide_eq_true (show (0 : Nat) < k by omega)), HB6.out⟩
set_option maxHeartbeats 16000000 in
theorem gback_ins (HG : GrpOk) (s : Int) (A : Option Addr) (k c : Nat) (l : List Int) (w : World) (hl : Its .i64 w A k c l) (h1 : ¬ 20 < k) (h2 : 0 ≤ s ∧ s < 256) (r : Nat) (h3 : ofM l = r) :
    Calls Try.prog 4 #[.int .i64 s, .slice A k c] w fun e w' => e = .returned (.bool true) ∧ Below w.heap.size w w' := by
  have hks := hl.small
  have h1a : ¬ (20 : Int) < k := by omega
  have HLW := Lib.hid hl
  have HKL := Lib.hid hl.len
  have HLI := Lib.hid (fun (X : World) => HG.list s X)
  have HSM := Lib.hid (list_small s)
  have HRI := Lib.hid (list_rise s)
  have HOL := Lib.hid (fun (X : World) (hX : Below w.heap.size w X) => HG.of A k c l X (hl.below hX) (by omega))
  have h2a : 0 ≤ s := h2.1
  have h2b : s < 256 := h2.2
  have HOX := Lib.hid (fun (B : Option Addr) (n d : Nat) (X : World) (h : Its .i64 X B n d (listM s)) (hn : n ≤ 1000) => HG.of B n d (listM s) X h hn)
  rw [(back_list h2).1] at HOX
  have hsr := same_rise h3
  rcases of_list l with hx | ⟨r2, hr1, hr2, hr3, -⟩
  · rw [h3] at hx; omega
  obtain rfl : r = r2 := by rw [h3] at hr1; omega
  rw [h3] at HOL hsr
  have HLR := Lib.hid (fun (X : World) => HG.list (r : Int) X)
  have HRK := Lib.hid (show k = (listM (r : Int)).length by rw [hr3, hl.len])
  have HSA := Lib.hid (show (listM (r : Int) == l) = risesB l by rw [← hsr, Bool.eq_iff_iff, beq_iff_eq, decide_eq_true_iff])
  have HIT := Lib.hid (show ∀ (B : Option Addr) (d : Nat) (X : World), Below w.heap.size w X → Its .i64 X B k d (listM (r : Int)) → Calls Try.prog 11 #[.slice B k d, .slice A k c] X fun e w' => e = .returned (.bool (listM (r : Int) == l)) ∧ Below X.heap.size X w' from fun B d X hX h => (ints_any B A k d k c (listM (r : Int)) l X h (hl.below hX)).mono fun e w' ⟨he, j, hw⟩ => ⟨he, by subst hw; exact below_drewN (Below.refl _ _) _⟩)
  have hr0 : ¬ ((r : Int) = -1) := by omega
  clear hl h3 hsr hr1 hr3
  go_enter Try.func4, Try.ntmps4
  go_wp2_with (first
    | (go_at_call 8
       (with_reducible refine (gawake_any HG _).mono ?_)
       rintro e w1 ⟨rfl, hb1⟩
       have HB1 := Lib.hid hb1
       clear hb1)
    | (go_at_call 14
       (with_reducible refine (HLI.out _).mono ?_)
       rintro e w2 ⟨A6, n6, c6, rfl, hi2, hbx⟩
       have HI2 := Lib.hid hi2
       have HNL := Lib.hid hi2.len
       have hn6 := hi2.small
       have HB2 := Lib.hid (HB1.out.trans (hbx.mono HB1.out.size))
       clear hbx hi2))
  go_loopw [7] (fun v wr => ∃ j : Nat, (j + 1 ≤ n6 ∨ j = 0) ∧ v = .int .i64 ((j : Int) + 1) ∧ Below w2.heap.size w2 wr) (fun v _ => n6 + 1 - (intOf v).toNat)
  case atStart => exact ⟨0, .inr rfl, rfl, Below.refl _ _⟩
  case round =>
    obtain ⟨j, hj, rfl, hb3⟩ := hrel
    have HB3 := Lib.hid hb3
    have hn8 : n6 ≤ 8 := by rw [← HNL.out]; exact HSM.out
    by_cases hlt : j + 1 < n6
    · obtain ⟨b, off, rfl, hc⟩ := HI2.out.at_ (by omega)
      have hup := rise_at HRI.out (show j + 1 < _ by rw [HNL.out]; exact hlt)
      have c1 : wr.drew.cell? ⟨b, off + (j + 1), none⟩ = some (.int .i64 ((listM s).getD (j + 1) 0)) := (hb3.cell (p := ⟨b, off + (j + 1), none⟩) (block_lt_of_cell (hc (j + 1) hlt))).trans (hc (j + 1) hlt)
      have c0 : wr.drew.cell? ⟨b, off + j, none⟩ = some (.int .i64 ((listM s).getD j 0)) := (hb3.cell (p := ⟨b, off + j, none⟩) (block_lt_of_cell (hc j (by omega)))).trans (hc j (by omega))
      obtain ⟨x1, hx1⟩ : ∃ x, (listM s).getD (j + 1) 0 = x := ⟨_, rfl⟩
      obtain ⟨x0, hx0⟩ : ∃ x, (listM s).getD j 0 = x := ⟨_, rfl⟩
      rw [hx1] at c1 hup
      rw [hx0] at c0 hup
      have hwj : IntKind.i64.wrap (j : Int) = (j : Int) := by rw [IntKind.wrap_i64]; omega
      have hwj2 : IntKind.i64.wrap ((j : Int) + 1 + 1) = (j : Int) + 1 + 1 := by rw [IntKind.wrap_i64]; omega
      have q1 : (j : Int) + 1 < n6 := by omega
      have q2 : 0 ≤ (j : Int) + 1 := by omega
      have q3 : (j : Int) < n6 := by omega
      have q4 : 0 ≤ (j : Int) := by omega
      clear hc hx1 hx0 hb3
      go_wp2_with fail
      refine wp_region_held_drew (S := fun X => X.cell? ⟨b, off + (j + 1), none⟩ = some (.int .i64 x1) ∧ X.cell? ⟨b, off + j, none⟩ = some (.int .i64 x0)) (by kernel_rfl) ⟨c1, c0⟩ (fun hHeld => ?_)
      refine tk 0 (.slice (some ⟨b, off, none⟩) n6 c6) hHeld (fun w => ?_) ?_
      · go_simp
      simp only [PT]
      refine tk 1 (.int .i64 ((j : Int) + 1)) hHeld (fun w => ?_) ?_
      · go_simp
      simp only [PT]
      refine tk 2 (.pointer (some ⟨b, off + (j + 1), none⟩)) hHeld (fun w => ?_) ?_
      · go_simp
      simp only [PT]
      refine tkS 3 (.int .i64 x1) hHeld (fun w hq => ?_) ?_
      · obtain ⟨hq1, hq0⟩ := hq
        go_simp
      simp only [PT]
      refine tk 4 (.slice (some ⟨b, off, none⟩) n6 c6) hHeld (fun w => ?_) ?_
      · go_simp
      simp only [PT]
      refine tk 5 (.int .i64 ((j : Int) + 1)) hHeld (fun w => ?_) ?_
      · go_simp
      simp only [PT]
      refine tk 6 (.int .i64 (j : Int)) hHeld (fun w => ?_) ?_
      · go_simp
      simp only [PT]
      refine tk 7 (.pointer (some ⟨b, off + j, none⟩)) hHeld (fun w => ?_) ?_
      · go_simp
      simp only [PT]
      refine tkS 8 (.int .i64 x0) hHeld (fun w hq => ?_) ?_
      · obtain ⟨hq1, hq0⟩ := hq
        go_simp
      simp only [PT]
      refine tk 9 (.bool false) hHeld (fun w => ?_) ?_
      · go_simp
      simp only [PT]
      refine wpAnyH_done (by kernel_rfl) ?_ _
      clear hHeld c1 c0
      go_wp2_with fail
      go_roundw
      case rel => exact ⟨j + 1, .inl (by omega), by go_num, HB3.out.drew⟩
      case measure => simp [intOf]; omega
    · have q1 : ¬ ((j : Int) + 1 < n6) := by omega
      have HI3 := Lib.hid (HI2.out.below hb3)
      have HB4 := Lib.hid (HB2.out.trans (hb3.mono HB2.out.size))
      clear hb3
      go_wp2_with (first
        | (go_at_call 20
           (with_reducible refine (HOX.out A6 n6 c6 _ HI3.out (by omega)).mono ?_)
           rintro e w5 ⟨rfl, hbx⟩
           have HB5 := Lib.hid (HB4.out.trans (hbx.mono HB4.out.size))
           clear hbx)
        | (go_at_call 20
           (with_reducible refine (HOL.out _ HB5.out).mono ?_)
           rintro e w6 ⟨rfl, hbx⟩
           have HB6 := Lib.hid (HB5.out.trans (hbx.mono HB5.out.size))
           clear hbx)
        | (go_at_call 14
           (with_reducible refine (HLR.out _).mono ?_)
           rintro e w7 ⟨A7, n7, c7, rfl, hi7, hbx⟩
           obtain rfl : k = n7 := by rw [← hi7.len]; exact HRK.out
           have HI7 := Lib.hid hi7
           have HB7 := Lib.hid (HB6.out.trans (hbx.mono HB6.out.size))
           clear hbx hi7))
      go_loopw [11, 12] (fun h v wr => ∃ j : Nat, (j + 1 ≤ k ∨ j = 0) ∧ v = .int .i64 ((j : Int) + 1) ∧ (∃ H : Bool, h = .bool H ∧ H = decide (risesTo l (j + 1))) ∧ Below w7.heap.size w7 wr) (fun _ v _ => k + 1 - (intOf v).toNat)
      case atStart => exact ⟨0, .inr rfl, rfl, ⟨true, rfl, (decide_eq_true (fun i hi hp => by omega)).symm⟩, Below.refl _ _⟩
      case round =>
        obtain ⟨i, hi, rfl, ⟨H, rfl, hH⟩, hb8⟩ := hrel
        have HH := Lib.hid hH
        have HB8 := Lib.hid hb8
        clear hH
        by_cases hil : i + 1 < k
        · obtain ⟨b, off, rfl, hc⟩ := HLW.out.at_ (by omega)
          have hbw : Below w.heap.size w wr := HB7.out.trans (hb8.mono HB7.out.size)
          have c1 : wr.drew.cell? ⟨b, off + (i + 1), none⟩ = some (.int .i64 (l.getD (i + 1) 0)) := (hbw.cell (p := ⟨b, off + (i + 1), none⟩) (block_lt_of_cell (hc (i + 1) hil))).trans (hc (i + 1) hil)
          have c0 : wr.drew.cell? ⟨b, off + i, none⟩ = some (.int .i64 (l.getD i 0)) := (hbw.cell (p := ⟨b, off + i, none⟩) (block_lt_of_cell (hc i (by omega)))).trans (hc i (by omega))
          have hnx := rise_next l i
          rw [← HH.out] at hnx
          obtain ⟨x1, hx1⟩ : ∃ x, l.getD (i + 1) 0 = x := ⟨_, rfl⟩
          obtain ⟨x0, hx0⟩ : ∃ x, l.getD i 0 = x := ⟨_, rfl⟩
          rw [hx1] at c1 hnx
          rw [hx0] at c0 hnx
          have HNX := Lib.hid hnx
          have hwj : IntKind.i64.wrap (i : Int) = (i : Int) := by rw [IntKind.wrap_i64]; omega
          have hwj2 : IntKind.i64.wrap ((i : Int) + 1 + 1) = (i : Int) + 1 + 1 := by rw [IntKind.wrap_i64]; omega
          have q1 : (i : Int) + 1 < k := by omega
          have q2 : 0 ≤ (i : Int) + 1 := by omega
          have q3 : (i : Int) < k := by omega
          have q4 : 0 ≤ (i : Int) := by omega
          clear hc hx1 hx0 hb8 hbw hnx
          cases H
          · have HZ := Lib.hid (show false = decide (risesTo l (i + 1 + 1)) by rw [HNX.out]; rfl)
            go_wp2_with fail
            refine wp_region_held_drew (S := fun X => X.cell? ⟨b, off + (i + 1), none⟩ = some (.int .i64 x1) ∧ X.cell? ⟨b, off + i, none⟩ = some (.int .i64 x0)) (by kernel_rfl) ⟨c1, c0⟩ (fun hHeld => ?_)
            refine tk 0 (.bool false) hHeld (fun w => ?_) ?_
            · go_simp
            simp only [PT]
            refine tk 1 (.bool false) hHeld (fun w => ?_) ?_
            · go_simp
            simp only [PT]
            refine tkO 2 hHeld ?_
            simp only [PT]
            refine tkO 3 hHeld ?_
            simp only [PT]
            refine tkO 4 hHeld ?_
            simp only [PT]
            refine tkO 5 hHeld ?_
            simp only [PT]
            refine tkO 6 hHeld ?_
            simp only [PT]
            refine tkO 7 hHeld ?_
            simp only [PT]
            refine tkO 8 hHeld ?_
            simp only [PT]
            refine tkO 9 hHeld ?_
            simp only [PT]
            refine tkO 10 hHeld ?_
            simp only [PT]
            refine tkO 11 hHeld ?_
            simp only [PT]
            refine tk 12 (.bool false) hHeld (fun w => ?_) ?_
            · go_simp
            simp only [PT]
            refine tk 13 (.bool false) hHeld (fun w => ?_) ?_
            · go_simp
            simp only [PT]
            refine wpAnyH_done (by kernel_rfl) ?_ _
            clear hHeld c1 c0
            go_wp2_with fail
            go_roundw
            case rel => exact ⟨i + 1, .inl (by omega), by go_num, ⟨false, rfl, HZ.out⟩, HB8.out.drew⟩
            case measure => simp [intOf]; omega
          · by_cases hgt : x0 < x1
            · have HZ := Lib.hid (show true = decide (risesTo l (i + 1 + 1)) by rw [HNX.out, decide_eq_true hgt]; rfl)
              go_wp2_with fail
              refine wp_region_held_drew (S := fun X => X.cell? ⟨b, off + (i + 1), none⟩ = some (.int .i64 x1) ∧ X.cell? ⟨b, off + i, none⟩ = some (.int .i64 x0)) (by kernel_rfl) ⟨c1, c0⟩ (fun hHeld => ?_)
              refine tk 0 (.bool true) hHeld (fun w => ?_) ?_
              · go_simp
              simp only [PT]
              refine tk 1 (.bool true) hHeld (fun w => ?_) ?_
              · go_simp
              simp only [PT]
              refine tk 2 (.slice (some ⟨b, off, none⟩) k c) hHeld (fun w => ?_) ?_
              · go_simp
              simp only [PT]
              refine tk 3 (.int .i64 ((i : Int) + 1)) hHeld (fun w => ?_) ?_
              · go_simp
              simp only [PT]
              refine tk 4 (.pointer (some ⟨b, off + (i + 1), none⟩)) hHeld (fun w => ?_) ?_
              · go_simp
              simp only [PT]
              refine tkS 5 (.int .i64 x1) hHeld (fun w hq => ?_) ?_
              · obtain ⟨hq1, hq0⟩ := hq
                go_simp
              simp only [PT]
              refine tk 6 (.slice (some ⟨b, off, none⟩) k c) hHeld (fun w => ?_) ?_
              · go_simp
              simp only [PT]
              refine tk 7 (.int .i64 ((i : Int) + 1)) hHeld (fun w => ?_) ?_
              · go_simp
              simp only [PT]
              refine tk 8 (.int .i64 (i : Int)) hHeld (fun w => ?_) ?_
              · go_simp
              simp only [PT]
              refine tk 9 (.pointer (some ⟨b, off + i, none⟩)) hHeld (fun w => ?_) ?_
              · go_simp
              simp only [PT]
              refine tkS 10 (.int .i64 x0) hHeld (fun w hq => ?_) ?_
              · obtain ⟨hq1, hq0⟩ := hq
                go_simp
              simp only [PT]
              refine tk 11 (.bool true) hHeld (fun w => ?_) ?_
              · go_simp
              simp only [PT]
              refine tk 12 (.bool true) hHeld (fun w => ?_) ?_
              · go_simp
              simp only [PT]
              refine tk 13 (.bool true) hHeld (fun w => ?_) ?_
              · go_simp
              simp only [PT]
              refine wpAnyH_done (by kernel_rfl) ?_ _
              clear hHeld c1 c0
              go_wp2_with fail
              go_roundw
              case rel => exact ⟨i + 1, .inl (by omega), by go_num, ⟨true, rfl, HZ.out⟩, HB8.out.drew⟩
              case measure => simp [intOf]; omega
            · have HZ := Lib.hid (show false = decide (risesTo l (i + 1 + 1)) by rw [HNX.out, decide_eq_false hgt]; rfl)
              go_wp2_with fail
              refine wp_region_held_drew (S := fun X => X.cell? ⟨b, off + (i + 1), none⟩ = some (.int .i64 x1) ∧ X.cell? ⟨b, off + i, none⟩ = some (.int .i64 x0)) (by kernel_rfl) ⟨c1, c0⟩ (fun hHeld => ?_)
              refine tk 0 (.bool true) hHeld (fun w => ?_) ?_
              · go_simp
              simp only [PT]
              refine tk 1 (.bool true) hHeld (fun w => ?_) ?_
              · go_simp
              simp only [PT]
              refine tk 2 (.slice (some ⟨b, off, none⟩) k c) hHeld (fun w => ?_) ?_
              · go_simp
              simp only [PT]
              refine tk 3 (.int .i64 ((i : Int) + 1)) hHeld (fun w => ?_) ?_
              · go_simp
              simp only [PT]
              refine tk 4 (.pointer (some ⟨b, off + (i + 1), none⟩)) hHeld (fun w => ?_) ?_
              · go_simp
              simp only [PT]
              refine tkS 5 (.int .i64 x1) hHeld (fun w hq => ?_) ?_
              · obtain ⟨hq1, hq0⟩ := hq
                go_simp
              simp only [PT]
              refine tk 6 (.slice (some ⟨b, off, none⟩) k c) hHeld (fun w => ?_) ?_
              · go_simp
              simp only [PT]
              refine tk 7 (.int .i64 ((i : Int) + 1)) hHeld (fun w => ?_) ?_
              · go_simp
              simp only [PT]
              refine tk 8 (.int .i64 (i : Int)) hHeld (fun w => ?_) ?_
              · go_simp
              simp only [PT]
              refine tk 9 (.pointer (some ⟨b, off + i, none⟩)) hHeld (fun w => ?_) ?_
              · go_simp
              simp only [PT]
              refine tkS 10 (.int .i64 x0) hHeld (fun w hq => ?_) ?_
              · obtain ⟨hq1, hq0⟩ := hq
                go_simp
              simp only [PT]
              refine tk 11 (.bool false) hHeld (fun w => ?_) ?_
              · go_simp
              simp only [PT]
              refine tk 12 (.bool false) hHeld (fun w => ?_) ?_
              · go_simp
              simp only [PT]
              refine tk 13 (.bool false) hHeld (fun w => ?_) ?_
              · go_simp
              simp only [PT]
              refine wpAnyH_done (by kernel_rfl) ?_ _
              clear hHeld c1 c0
              go_wp2_with fail
              go_roundw
              case rel => exact ⟨i + 1, .inl (by omega), by go_num, ⟨false, rfl, HZ.out⟩, HB8.out.drew⟩
              case measure => simp [intOf]; omega
        · have q1 : ¬ ((i : Int) + 1 < k) := by omega
          have HHR := Lib.hid (show H = risesB l from HH.out.trans (by
            rw [risesB, HKL.out]
            refine decide_eq_decide.2 ⟨fun h p hp hq => h p (by omega) hq, fun h p hp hq => h p (by omega) hq⟩))
          have hbw : Below w.heap.size w wr := HB7.out.trans (hb8.mono HB7.out.size)
          have HB9 := Lib.hid hbw
          have HI9 := Lib.hid (HI7.out.below hb8)
          clear hb8 hbw
          have HSR := Lib.hid (HSA.out.trans HHR.out.symm)
          have HIX := Lib.hid (HIT.out A7 c7 _ HB9.out HI9.out)
          rw [HSR.out] at HIX
          go_wp2_with (go_at_call 11
                       (with_reducible refine HIX.out.mono ?_)
                       rintro e w10 ⟨rfl, hbx⟩
                       have HB10 := Lib.hid (HB9.out.trans (hbx.mono HB9.out.size))
                       clear hbx)
          go_ret
          exact ⟨rfl, HB10.out⟩
set_option maxHeartbeats 16000000 in
theorem gback_negn (HG : GrpOk) (s : Int) (A : Option Addr) (k c : Nat) (l : List Int) (w : World) (hl : Its .i64 w A k c l) (h1 : ¬ 20 < k) (h2 : s < 0) (h3 : ofM l = -1) :
    Calls Try.prog 4 #[.int .i64 s, .slice A k c] w fun e w' => e = .returned (.bool true) ∧ Below w.heap.size w w' := by
  have hks := hl.small
  have h1a : ¬ (20 : Int) < k := by omega
  have HLW := Lib.hid hl
  have HKL := Lib.hid hl.len
  have HLI := Lib.hid (fun (X : World) => HG.list s X)
  have HSM := Lib.hid (list_small s)
  have HRI := Lib.hid (list_rise s)
  have HOL := Lib.hid (fun (X : World) (hX : Below w.heap.size w X) => HG.of A k c l X (hl.below hX) (by omega))
  have HEM := Lib.hid (show listM s = [] by rw [listM, if_neg (by omega)])
  rw [h3] at HOL
  have hkp : (0 : Int) < k := by have := of_none h3; rw [hl.len] at this; omega
  clear hl h3
  go_enter Try.func4, Try.ntmps4
  go_wp2_with (first
    | (go_at_call 8
       (with_reducible refine (gawake_any HG _).mono ?_)
       rintro e w1 ⟨rfl, hb1⟩
       have HB1 := Lib.hid hb1
       clear hb1)
    | (go_at_call 14
       (with_reducible refine (HLI.out _).mono ?_)
       rintro e w2 ⟨A6, n6, c6, rfl, hi2, hbx⟩
       have HI2 := Lib.hid hi2
       have HNL := Lib.hid hi2.len
       have hn6 := hi2.small
       have HB2 := Lib.hid (HB1.out.trans (hbx.mono HB1.out.size))
       clear hbx hi2))
  go_loopw [7] (fun v wr => ∃ j : Nat, (j + 1 ≤ n6 ∨ j = 0) ∧ v = .int .i64 ((j : Int) + 1) ∧ Below w2.heap.size w2 wr) (fun v _ => n6 + 1 - (intOf v).toNat)
  case atStart => exact ⟨0, .inr rfl, rfl, Below.refl _ _⟩
  case round =>
    obtain ⟨j, hj, rfl, hb3⟩ := hrel
    have HB3 := Lib.hid hb3
    have hn8 : n6 ≤ 8 := by rw [← HNL.out]; exact HSM.out
    by_cases hlt : j + 1 < n6
    · obtain ⟨b, off, rfl, hc⟩ := HI2.out.at_ (by omega)
      have hup := rise_at HRI.out (show j + 1 < _ by rw [HNL.out]; exact hlt)
      have c1 : wr.drew.cell? ⟨b, off + (j + 1), none⟩ = some (.int .i64 ((listM s).getD (j + 1) 0)) := (hb3.cell (p := ⟨b, off + (j + 1), none⟩) (block_lt_of_cell (hc (j + 1) hlt))).trans (hc (j + 1) hlt)
      have c0 : wr.drew.cell? ⟨b, off + j, none⟩ = some (.int .i64 ((listM s).getD j 0)) := (hb3.cell (p := ⟨b, off + j, none⟩) (block_lt_of_cell (hc j (by omega)))).trans (hc j (by omega))
      obtain ⟨x1, hx1⟩ : ∃ x, (listM s).getD (j + 1) 0 = x := ⟨_, rfl⟩
      obtain ⟨x0, hx0⟩ : ∃ x, (listM s).getD j 0 = x := ⟨_, rfl⟩
      rw [hx1] at c1 hup
      rw [hx0] at c0 hup
      have hwj : IntKind.i64.wrap (j : Int) = (j : Int) := by rw [IntKind.wrap_i64]; omega
      have hwj2 : IntKind.i64.wrap ((j : Int) + 1 + 1) = (j : Int) + 1 + 1 := by rw [IntKind.wrap_i64]; omega
      have q1 : (j : Int) + 1 < n6 := by omega
      have q2 : 0 ≤ (j : Int) + 1 := by omega
      have q3 : (j : Int) < n6 := by omega
      have q4 : 0 ≤ (j : Int) := by omega
      clear hc hx1 hx0 hb3
      go_wp2_with fail
      refine wp_region_held_drew (S := fun X => X.cell? ⟨b, off + (j + 1), none⟩ = some (.int .i64 x1) ∧ X.cell? ⟨b, off + j, none⟩ = some (.int .i64 x0)) (by kernel_rfl) ⟨c1, c0⟩ (fun hHeld => ?_)
      refine tk 0 (.slice (some ⟨b, off, none⟩) n6 c6) hHeld (fun w => ?_) ?_
      · go_simp
      simp only [PT]
      refine tk 1 (.int .i64 ((j : Int) + 1)) hHeld (fun w => ?_) ?_
      · go_simp
      simp only [PT]
      refine tk 2 (.pointer (some ⟨b, off + (j + 1), none⟩)) hHeld (fun w => ?_) ?_
      · go_simp
      simp only [PT]
      refine tkS 3 (.int .i64 x1) hHeld (fun w hq => ?_) ?_
      · obtain ⟨hq1, hq0⟩ := hq
        go_simp
      simp only [PT]
      refine tk 4 (.slice (some ⟨b, off, none⟩) n6 c6) hHeld (fun w => ?_) ?_
      · go_simp
      simp only [PT]
      refine tk 5 (.int .i64 ((j : Int) + 1)) hHeld (fun w => ?_) ?_
      · go_simp
      simp only [PT]
      refine tk 6 (.int .i64 (j : Int)) hHeld (fun w => ?_) ?_
      · go_simp
      simp only [PT]
      refine tk 7 (.pointer (some ⟨b, off + j, none⟩)) hHeld (fun w => ?_) ?_
      · go_simp
      simp only [PT]
      refine tkS 8 (.int .i64 x0) hHeld (fun w hq => ?_) ?_
      · obtain ⟨hq1, hq0⟩ := hq
        go_simp
      simp only [PT]
      refine tk 9 (.bool false) hHeld (fun w => ?_) ?_
      · go_simp
      simp only [PT]
      refine wpAnyH_done (by kernel_rfl) ?_ _
      clear hHeld c1 c0
      go_wp2_with fail
      go_roundw
      case rel => exact ⟨j + 1, .inl (by omega), by go_num, HB3.out.drew⟩
      case measure => simp [intOf]; omega
    · have q1 : ¬ ((j : Int) + 1 < n6) := by omega
      have HI3 := Lib.hid (HI2.out.below hb3)
      have HB4 := Lib.hid (HB2.out.trans (hb3.mono HB2.out.size))
      clear hb3
      obtain rfl : 0 = n6 := by rw [← HNL.out, HEM.out]; rfl
      go_wp2_with (first
        | (go_at_call 20
           (with_reducible refine (HOL.out _ HB4.out).mono ?_)
           rintro e w6 ⟨rfl, hbx⟩
           have HB6 := Lib.hid (HB4.out.trans (hbx.mono HB4.out.size))
           clear hbx))
      go_ret
      exact ⟨congrArg (fun b => Ending.returned (Value.bool b)) (decide_eq_true (show (0 : Nat) < k by omega)), HB6.out⟩
set_option maxHeartbeats 16000000 in
theorem gback_negs (HG : GrpOk) (s : Int) (A : Option Addr) (k c : Nat) (l : List Int) (w : World) (hl : Its .i64 w A k c l) (h1 : ¬ 20 < k) (h2 : s < 0) (r : Nat) (h3 : ofM l = r) :
    Calls Try.prog 4 #[.int .i64 s, .slice A k c] w fun e w' => e = .returned (.bool true) ∧ Below w.heap.size w w' := by
  have hks := hl.small
  have h1a : ¬ (20 : Int) < k := by omega
  have HLW := Lib.hid hl
  have HKL := Lib.hid hl.len
  have HLI := Lib.hid (fun (X : World) => HG.list s X)
  have HSM := Lib.hid (list_small s)
  have HRI := Lib.hid (list_rise s)
  have HOL := Lib.hid (fun (X : World) (hX : Below w.heap.size w X) => HG.of A k c l X (hl.below hX) (by omega))
  have HEM := Lib.hid (show listM s = [] by rw [listM, if_neg (by omega)])
  have hsr := same_rise h3
  rcases of_list l with hx | ⟨r2, hr1, hr2, hr3, -⟩
  · rw [h3] at hx; omega
  obtain rfl : r = r2 := by rw [h3] at hr1; omega
  rw [h3] at HOL hsr
  have HLR := Lib.hid (fun (X : World) => HG.list (r : Int) X)
  have HRK := Lib.hid (show k = (listM (r : Int)).length by rw [hr3, hl.len])
  have HSA := Lib.hid (show (listM (r : Int) == l) = risesB l by rw [← hsr, Bool.eq_iff_iff, beq_iff_eq, decide_eq_true_iff])
  have HIT := Lib.hid (show ∀ (B : Option Addr) (d : Nat) (X : World), Below w.heap.size w X → Its .i64 X B k d (listM (r : Int)) → Calls Try.prog 11 #[.slice B k d, .slice A k c] X fun e w' => e = .returned (.bool (listM (r : Int) == l)) ∧ Below X.heap.size X w' from fun B d X hX h => (ints_any B A k d k c (listM (r : Int)) l X h (hl.below hX)).mono fun e w' ⟨he, j, hw⟩ => ⟨he, by subst hw; exact below_drewN (Below.refl _ _) _⟩)
  have hr0 : ¬ ((r : Int) = -1) := by omega
  clear hl h3 hsr hr1 hr3
  go_enter Try.func4, Try.ntmps4
  go_wp2_with (first
    | (go_at_call 8
       (with_reducible refine (gawake_any HG _).mono ?_)
       rintro e w1 ⟨rfl, hb1⟩
       have HB1 := Lib.hid hb1
       clear hb1)
    | (go_at_call 14
       (with_reducible refine (HLI.out _).mono ?_)
       rintro e w2 ⟨A6, n6, c6, rfl, hi2, hbx⟩
       have HI2 := Lib.hid hi2
       have HNL := Lib.hid hi2.len
       have hn6 := hi2.small
       have HB2 := Lib.hid (HB1.out.trans (hbx.mono HB1.out.size))
       clear hbx hi2))
  go_loopw [7] (fun v wr => ∃ j : Nat, (j + 1 ≤ n6 ∨ j = 0) ∧ v = .int .i64 ((j : Int) + 1) ∧ Below w2.heap.size w2 wr) (fun v _ => n6 + 1 - (intOf v).toNat)
  case atStart => exact ⟨0, .inr rfl, rfl, Below.refl _ _⟩
  case round =>
    obtain ⟨j, hj, rfl, hb3⟩ := hrel
    have HB3 := Lib.hid hb3
    have hn8 : n6 ≤ 8 := by rw [← HNL.out]; exact HSM.out
    by_cases hlt : j + 1 < n6
    · obtain ⟨b, off, rfl, hc⟩ := HI2.out.at_ (by omega)
      have hup := rise_at HRI.out (show j + 1 < _ by rw [HNL.out]; exact hlt)
      have c1 : wr.drew.cell? ⟨b, off + (j + 1), none⟩ = some (.int .i64 ((listM s).getD (j + 1) 0)) := (hb3.cell (p := ⟨b, off + (j + 1), none⟩) (block_lt_of_cell (hc (j + 1) hlt))).trans (hc (j + 1) hlt)
      have c0 : wr.drew.cell? ⟨b, off + j, none⟩ = some (.int .i64 ((listM s).getD j 0)) := (hb3.cell (p := ⟨b, off + j, none⟩) (block_lt_of_cell (hc j (by omega)))).trans (hc j (by omega))
      obtain ⟨x1, hx1⟩ : ∃ x, (listM s).getD (j + 1) 0 = x := ⟨_, rfl⟩
      obtain ⟨x0, hx0⟩ : ∃ x, (listM s).getD j 0 = x := ⟨_, rfl⟩
      rw [hx1] at c1 hup
      rw [hx0] at c0 hup
      have hwj : IntKind.i64.wrap (j : Int) = (j : Int) := by rw [IntKind.wrap_i64]; omega
      have hwj2 : IntKind.i64.wrap ((j : Int) + 1 + 1) = (j : Int) + 1 + 1 := by rw [IntKind.wrap_i64]; omega
      have q1 : (j : Int) + 1 < n6 := by omega
      have q2 : 0 ≤ (j : Int) + 1 := by omega
      have q3 : (j : Int) < n6 := by omega
      have q4 : 0 ≤ (j : Int) := by omega
      clear hc hx1 hx0 hb3
      go_wp2_with fail
      refine wp_region_held_drew (S := fun X => X.cell? ⟨b, off + (j + 1), none⟩ = some (.int .i64 x1) ∧ X.cell? ⟨b, off + j, none⟩ = some (.int .i64 x0)) (by kernel_rfl) ⟨c1, c0⟩ (fun hHeld => ?_)
      refine tk 0 (.slice (some ⟨b, off, none⟩) n6 c6) hHeld (fun w => ?_) ?_
      · go_simp
      simp only [PT]
      refine tk 1 (.int .i64 ((j : Int) + 1)) hHeld (fun w => ?_) ?_
      · go_simp
      simp only [PT]
      refine tk 2 (.pointer (some ⟨b, off + (j + 1), none⟩)) hHeld (fun w => ?_) ?_
      · go_simp
      simp only [PT]
      refine tkS 3 (.int .i64 x1) hHeld (fun w hq => ?_) ?_
      · obtain ⟨hq1, hq0⟩ := hq
        go_simp
      simp only [PT]
      refine tk 4 (.slice (some ⟨b, off, none⟩) n6 c6) hHeld (fun w => ?_) ?_
      · go_simp
      simp only [PT]
      refine tk 5 (.int .i64 ((j : Int) + 1)) hHeld (fun w => ?_) ?_
      · go_simp
      simp only [PT]
      refine tk 6 (.int .i64 (j : Int)) hHeld (fun w => ?_) ?_
      · go_simp
      simp only [PT]
      refine tk 7 (.pointer (some ⟨b, off + j, none⟩)) hHeld (fun w => ?_) ?_
      · go_simp
      simp only [PT]
      refine tkS 8 (.int .i64 x0) hHeld (fun w hq => ?_) ?_
      · obtain ⟨hq1, hq0⟩ := hq
        go_simp
      simp only [PT]
      refine tk 9 (.bool false) hHeld (fun w => ?_) ?_
      · go_simp
      simp only [PT]
      refine wpAnyH_done (by kernel_rfl) ?_ _
      clear hHeld c1 c0
      go_wp2_with fail
      go_roundw
      case rel => exact ⟨j + 1, .inl (by omega), by go_num, HB3.out.drew⟩
      case measure => simp [intOf]; omega
    · have q1 : ¬ ((j : Int) + 1 < n6) := by omega
      have HI3 := Lib.hid (HI2.out.below hb3)
      have HB4 := Lib.hid (HB2.out.trans (hb3.mono HB2.out.size))
      clear hb3
      obtain rfl : 0 = n6 := by rw [← HNL.out, HEM.out]; rfl
      go_wp2_with (first
        | (go_at_call 20
           (with_reducible refine (HOL.out _ HB4.out).mono ?_)
           rintro e w6 ⟨rfl, hbx⟩
           have HB6 := Lib.hid (HB4.out.trans (hbx.mono HB4.out.size))
           clear hbx)
        | (go_at_call 14
           (with_reducible refine (HLR.out _).mono ?_)
           rintro e w7 ⟨A7, n7, c7, rfl, hi7, hbx⟩
           obtain rfl : k = n7 := by rw [← hi7.len]; exact HRK.out
           have HI7 := Lib.hid hi7
           have HB7 := Lib.hid (HB6.out.trans (hbx.mono HB6.out.size))
           clear hbx hi7))
      go_loopw [11, 12] (fun h v wr => ∃ j : Nat, (j + 1 ≤ k ∨ j = 0) ∧ v = .int .i64 ((j : Int) + 1) ∧ (∃ H : Bool, h = .bool H ∧ H = decide (risesTo l (j + 1))) ∧ Below w7.heap.size w7 wr) (fun _ v _ => k + 1 - (intOf v).toNat)
      case atStart => exact ⟨0, .inr rfl, rfl, ⟨true, rfl, (decide_eq_true (fun i hi hp => by omega)).symm⟩, Below.refl _ _⟩
      case round =>
        obtain ⟨i, hi, rfl, ⟨H, rfl, hH⟩, hb8⟩ := hrel
        have HH := Lib.hid hH
        have HB8 := Lib.hid hb8
        clear hH
        by_cases hil : i + 1 < k
        · obtain ⟨b, off, rfl, hc⟩ := HLW.out.at_ (by omega)
          have hbw : Below w.heap.size w wr := HB7.out.trans (hb8.mono HB7.out.size)
          have c1 : wr.drew.cell? ⟨b, off + (i + 1), none⟩ = some (.int .i64 (l.getD (i + 1) 0)) := (hbw.cell (p := ⟨b, off + (i + 1), none⟩) (block_lt_of_cell (hc (i + 1) hil))).trans (hc (i + 1) hil)
          have c0 : wr.drew.cell? ⟨b, off + i, none⟩ = some (.int .i64 (l.getD i 0)) := (hbw.cell (p := ⟨b, off + i, none⟩) (block_lt_of_cell (hc i (by omega)))).trans (hc i (by omega))
          have hnx := rise_next l i
          rw [← HH.out] at hnx
          obtain ⟨x1, hx1⟩ : ∃ x, l.getD (i + 1) 0 = x := ⟨_, rfl⟩
          obtain ⟨x0, hx0⟩ : ∃ x, l.getD i 0 = x := ⟨_, rfl⟩
          rw [hx1] at c1 hnx
          rw [hx0] at c0 hnx
          have HNX := Lib.hid hnx
          have hwj : IntKind.i64.wrap (i : Int) = (i : Int) := by rw [IntKind.wrap_i64]; omega
          have hwj2 : IntKind.i64.wrap ((i : Int) + 1 + 1) = (i : Int) + 1 + 1 := by rw [IntKind.wrap_i64]; omega
          have q1 : (i : Int) + 1 < k := by omega
          have q2 : 0 ≤ (i : Int) + 1 := by omega
          have q3 : (i : Int) < k := by omega
          have q4 : 0 ≤ (i : Int) := by omega
          clear hc hx1 hx0 hb8 hbw hnx
          cases H
          · have HZ := Lib.hid (show false = decide (risesTo l (i + 1 + 1)) by rw [HNX.out]; rfl)
            go_wp2_with fail
            refine wp_region_held_drew (S := fun X => X.cell? ⟨b, off + (i + 1), none⟩ = some (.int .i64 x1) ∧ X.cell? ⟨b, off + i, none⟩ = some (.int .i64 x0)) (by kernel_rfl) ⟨c1, c0⟩ (fun hHeld => ?_)
            refine tk 0 (.bool false) hHeld (fun w => ?_) ?_
            · go_simp
            simp only [PT]
            refine tk 1 (.bool false) hHeld (fun w => ?_) ?_
            · go_simp
            simp only [PT]
            refine tkO 2 hHeld ?_
            simp only [PT]
            refine tkO 3 hHeld ?_
            simp only [PT]
            refine tkO 4 hHeld ?_
            simp only [PT]
            refine tkO 5 hHeld ?_
            simp only [PT]
            refine tkO 6 hHeld ?_
            simp only [PT]
            refine tkO 7 hHeld ?_
            simp only [PT]
            refine tkO 8 hHeld ?_
            simp only [PT]
            refine tkO 9 hHeld ?_
            simp only [PT]
            refine tkO 10 hHeld ?_
            simp only [PT]
            refine tkO 11 hHeld ?_
            simp only [PT]
            refine tk 12 (.bool false) hHeld (fun w => ?_) ?_
            · go_simp
            simp only [PT]
            refine tk 13 (.bool false) hHeld (fun w => ?_) ?_
            · go_simp
            simp only [PT]
            refine wpAnyH_done (by kernel_rfl) ?_ _
            clear hHeld c1 c0
            go_wp2_with fail
            go_roundw
            case rel => exact ⟨i + 1, .inl (by omega), by go_num, ⟨false, rfl, HZ.out⟩, HB8.out.drew⟩
            case measure => simp [intOf]; omega
          · by_cases hgt : x0 < x1
            · have HZ := Lib.hid (show true = decide (risesTo l (i + 1 + 1)) by rw [HNX.out, decide_eq_true hgt]; rfl)
              go_wp2_with fail
              refine wp_region_held_drew (S := fun X => X.cell? ⟨b, off + (i + 1), none⟩ = some (.int .i64 x1) ∧ X.cell? ⟨b, off + i, none⟩ = some (.int .i64 x0)) (by kernel_rfl) ⟨c1, c0⟩ (fun hHeld => ?_)
              refine tk 0 (.bool true) hHeld (fun w => ?_) ?_
              · go_simp
              simp only [PT]
              refine tk 1 (.bool true) hHeld (fun w => ?_) ?_
              · go_simp
              simp only [PT]
              refine tk 2 (.slice (some ⟨b, off, none⟩) k c) hHeld (fun w => ?_) ?_
              · go_simp
              simp only [PT]
              refine tk 3 (.int .i64 ((i : Int) + 1)) hHeld (fun w => ?_) ?_
              · go_simp
              simp only [PT]
              refine tk 4 (.pointer (some ⟨b, off + (i + 1), none⟩)) hHeld (fun w => ?_) ?_
              · go_simp
              simp only [PT]
              refine tkS 5 (.int .i64 x1) hHeld (fun w hq => ?_) ?_
              · obtain ⟨hq1, hq0⟩ := hq
                go_simp
              simp only [PT]
              refine tk 6 (.slice (some ⟨b, off, none⟩) k c) hHeld (fun w => ?_) ?_
              · go_simp
              simp only [PT]
              refine tk 7 (.int .i64 ((i : Int) + 1)) hHeld (fun w => ?_) ?_
              · go_simp
              simp only [PT]
              refine tk 8 (.int .i64 (i : Int)) hHeld (fun w => ?_) ?_
              · go_simp
              simp only [PT]
              refine tk 9 (.pointer (some ⟨b, off + i, none⟩)) hHeld (fun w => ?_) ?_
              · go_simp
              simp only [PT]
              refine tkS 10 (.int .i64 x0) hHeld (fun w hq => ?_) ?_
              · obtain ⟨hq1, hq0⟩ := hq
                go_simp
              simp only [PT]
              refine tk 11 (.bool true) hHeld (fun w => ?_) ?_
              · go_simp
              simp only [PT]
              refine tk 12 (.bool true) hHeld (fun w => ?_) ?_
              · go_simp
              simp only [PT]
              refine tk 13 (.bool true) hHeld (fun w => ?_) ?_
              · go_simp
              simp only [PT]
              refine wpAnyH_done (by kernel_rfl) ?_ _
              clear hHeld c1 c0
              go_wp2_with fail
              go_roundw
              case rel => exact ⟨i + 1, .inl (by omega), by go_num, ⟨true, rfl, HZ.out⟩, HB8.out.drew⟩
              case measure => simp [intOf]; omega
            · have HZ := Lib.hid (show false = decide (risesTo l (i + 1 + 1)) by rw [HNX.out, decide_eq_false hgt]; rfl)
              go_wp2_with fail
              refine wp_region_held_drew (S := fun X => X.cell? ⟨b, off + (i + 1), none⟩ = some (.int .i64 x1) ∧ X.cell? ⟨b, off + i, none⟩ = some (.int .i64 x0)) (by kernel_rfl) ⟨c1, c0⟩ (fun hHeld => ?_)
              refine tk 0 (.bool true) hHeld (fun w => ?_) ?_
              · go_simp
              simp only [PT]
              refine tk 1 (.bool true) hHeld (fun w => ?_) ?_
              · go_simp
              simp only [PT]
              refine tk 2 (.slice (some ⟨b, off, none⟩) k c) hHeld (fun w => ?_) ?_
              · go_simp
              simp only [PT]
              refine tk 3 (.int .i64 ((i : Int) + 1)) hHeld (fun w => ?_) ?_
              · go_simp
              simp only [PT]
              refine tk 4 (.pointer (some ⟨b, off + (i + 1), none⟩)) hHeld (fun w => ?_) ?_
              · go_simp
              simp only [PT]
              refine tkS 5 (.int .i64 x1) hHeld (fun w hq => ?_) ?_
              · obtain ⟨hq1, hq0⟩ := hq
                go_simp
              simp only [PT]
              refine tk 6 (.slice (some ⟨b, off, none⟩) k c) hHeld (fun w => ?_) ?_
              · go_simp
              simp only [PT]
              refine tk 7 (.int .i64 ((i : Int) + 1)) hHeld (fun w => ?_) ?_
              · go_simp
              simp only [PT]
              refine tk 8 (.int .i64 (i : Int)) hHeld (fun w => ?_) ?_
              · go_simp
              simp only [PT]
              refine tk 9 (.pointer (some ⟨b, off + i, none⟩)) hHeld (fun w => ?_) ?_
              · go_simp
              simp only [PT]
              refine tkS 10 (.int .i64 x0) hHeld (fun w hq => ?_) ?_
              · obtain ⟨hq1, hq0⟩ := hq
                go_simp
              simp only [PT]
              refine tk 11 (.bool false) hHeld (fun w => ?_) ?_
              · go_simp
              simp only [PT]
              refine tk 12 (.bool false) hHeld (fun w => ?_) ?_
              · go_simp
              simp only [PT]
              refine tk 13 (.bool false) hHeld (fun w => ?_) ?_
              · go_simp
              simp only [PT]
              refine wpAnyH_done (by kernel_rfl) ?_ _
              clear hHeld c1 c0
              go_wp2_with fail
              go_roundw
              case rel => exact ⟨i + 1, .inl (by omega), by go_num, ⟨false, rfl, HZ.out⟩, HB8.out.drew⟩
              case measure => simp [intOf]; omega
        · have q1 : ¬ ((i : Int) + 1 < k) := by omega
          have HHR := Lib.hid (show H = risesB l from HH.out.trans (by
            rw [risesB, HKL.out]
            refine decide_eq_decide.2 ⟨fun h p hp hq => h p (by omega) hq, fun h p hp hq => h p (by omega) hq⟩))
          have hbw : Below w.heap.size w wr := HB7.out.trans (hb8.mono HB7.out.size)
          have HB9 := Lib.hid hbw
          have HI9 := Lib.hid (HI7.out.below hb8)
          clear hb8 hbw
          have HSR := Lib.hid (HSA.out.trans HHR.out.symm)
          have HIX := Lib.hid (HIT.out A7 c7 _ HB9.out HI9.out)
          rw [HSR.out] at HIX
          go_wp2_with (go_at_call 11
                       (with_reducible refine HIX.out.mono ?_)
                       rintro e w10 ⟨rfl, hbx⟩
                       have HB10 := Lib.hid (HB9.out.trans (hbx.mono HB9.out.size))
                       clear hbx)
          go_ret
          exact ⟨rfl, HB10.out⟩
set_option maxHeartbeats 16000000 in
theorem gback_bign (HG : GrpOk) (s : Int) (A : Option Addr) (k c : Nat) (l : List Int) (w : World) (hl : Its .i64 w A k c l) (h1 : ¬ 20 < k) (h2 : ¬ s < 0) (h2b : 256 ≤ s) (h3 : ofM l = -1) :
    Calls Try.prog 4 #[.int .i64 s, .slice A k c] w fun e w' => e = .returned (.bool true) ∧ Below w.heap.size w w' := by
  have hks := hl.small
  have h1a : ¬ (20 : Int) < k := by omega
  have HLW := Lib.hid hl
  have HKL := Lib.hid hl.len
  have HLI := Lib.hid (fun (X : World) => HG.list s X)
  have HSM := Lib.hid (list_small s)
  have HRI := Lib.hid (list_rise s)
  have HOL := Lib.hid (fun (X : World) (hX : Below w.heap.size w X) => HG.of A k c l X (hl.below hX) (by omega))
  have HEM := Lib.hid (show listM s = [] by rw [listM, if_neg (by omega)])
  rw [h3] at HOL
  have hkp : (0 : Int) < k := by have := of_none h3; rw [hl.len] at this; omega
  clear hl h3
  go_enter Try.func4, Try.ntmps4
  go_wp2_with (first
    | (go_at_call 8
       (with_reducible refine (gawake_any HG _).mono ?_)
       rintro e w1 ⟨rfl, hb1⟩
       have HB1 := Lib.hid hb1
       clear hb1)
    | (go_at_call 14
       (with_reducible refine (HLI.out _).mono ?_)
       rintro e w2 ⟨A6, n6, c6, rfl, hi2, hbx⟩
       have HI2 := Lib.hid hi2
       have HNL := Lib.hid hi2.len
       have hn6 := hi2.small
       have HB2 := Lib.hid (HB1.out.trans (hbx.mono HB1.out.size))
       clear hbx hi2))
  go_loopw [7] (fun v wr => ∃ j : Nat, (j + 1 ≤ n6 ∨ j = 0) ∧ v = .int .i64 ((j : Int) + 1) ∧ Below w2.heap.size w2 wr) (fun v _ => n6 + 1 - (intOf v).toNat)
  case atStart => exact ⟨0, .inr rfl, rfl, Below.refl _ _⟩
  case round =>
    obtain ⟨j, hj, rfl, hb3⟩ := hrel
    have HB3 := Lib.hid hb3
    have hn8 : n6 ≤ 8 := by rw [← HNL.out]; exact HSM.out
    by_cases hlt : j + 1 < n6
    · obtain ⟨b, off, rfl, hc⟩ := HI2.out.at_ (by omega)
      have hup := rise_at HRI.out (show j + 1 < _ by rw [HNL.out]; exact hlt)
      have c1 : wr.drew.cell? ⟨b, off + (j + 1), none⟩ = some (.int .i64 ((listM s).getD (j + 1) 0)) := (hb3.cell (p := ⟨b, off + (j + 1), none⟩) (block_lt_of_cell (hc (j + 1) hlt))).trans (hc (j + 1) hlt)
      have c0 : wr.drew.cell? ⟨b, off + j, none⟩ = some (.int .i64 ((listM s).getD j 0)) := (hb3.cell (p := ⟨b, off + j, none⟩) (block_lt_of_cell (hc j (by omega)))).trans (hc j (by omega))
      obtain ⟨x1, hx1⟩ : ∃ x, (listM s).getD (j + 1) 0 = x := ⟨_, rfl⟩
      obtain ⟨x0, hx0⟩ : ∃ x, (listM s).getD j 0 = x := ⟨_, rfl⟩
      rw [hx1] at c1 hup
      rw [hx0] at c0 hup
      have hwj : IntKind.i64.wrap (j : Int) = (j : Int) := by rw [IntKind.wrap_i64]; omega
      have hwj2 : IntKind.i64.wrap ((j : Int) + 1 + 1) = (j : Int) + 1 + 1 := by rw [IntKind.wrap_i64]; omega
      have q1 : (j : Int) + 1 < n6 := by omega
      have q2 : 0 ≤ (j : Int) + 1 := by omega
      have q3 : (j : Int) < n6 := by omega
      have q4 : 0 ≤ (j : Int) := by omega
      clear hc hx1 hx0 hb3
      go_wp2_with fail
      refine wp_region_held_drew (S := fun X => X.cell? ⟨b, off + (j + 1), none⟩ = some (.int .i64 x1) ∧ X.cell? ⟨b, off + j, none⟩ = some (.int .i64 x0)) (by kernel_rfl) ⟨c1, c0⟩ (fun hHeld => ?_)
      refine tk 0 (.slice (some ⟨b, off, none⟩) n6 c6) hHeld (fun w => ?_) ?_
      · go_simp
      simp only [PT]
      refine tk 1 (.int .i64 ((j : Int) + 1)) hHeld (fun w => ?_) ?_
      · go_simp
      simp only [PT]
      refine tk 2 (.pointer (some ⟨b, off + (j + 1), none⟩)) hHeld (fun w => ?_) ?_
      · go_simp
      simp only [PT]
      refine tkS 3 (.int .i64 x1) hHeld (fun w hq => ?_) ?_
      · obtain ⟨hq1, hq0⟩ := hq
        go_simp
      simp only [PT]
      refine tk 4 (.slice (some ⟨b, off, none⟩) n6 c6) hHeld (fun w => ?_) ?_
      · go_simp
      simp only [PT]
      refine tk 5 (.int .i64 ((j : Int) + 1)) hHeld (fun w => ?_) ?_
      · go_simp
      simp only [PT]
      refine tk 6 (.int .i64 (j : Int)) hHeld (fun w => ?_) ?_
      · go_simp
      simp only [PT]
      refine tk 7 (.pointer (some ⟨b, off + j, none⟩)) hHeld (fun w => ?_) ?_
      · go_simp
      simp only [PT]
      refine tkS 8 (.int .i64 x0) hHeld (fun w hq => ?_) ?_
      · obtain ⟨hq1, hq0⟩ := hq
        go_simp
      simp only [PT]
      refine tk 9 (.bool false) hHeld (fun w => ?_) ?_
      · go_simp
      simp only [PT]
      refine wpAnyH_done (by kernel_rfl) ?_ _
      clear hHeld c1 c0
      go_wp2_with fail
      go_roundw
      case rel => exact ⟨j + 1, .inl (by omega), by go_num, HB3.out.drew⟩
      case measure => simp [intOf]; omega
    · have q1 : ¬ ((j : Int) + 1 < n6) := by omega
      have HI3 := Lib.hid (HI2.out.below hb3)
      have HB4 := Lib.hid (HB2.out.trans (hb3.mono HB2.out.size))
      clear hb3
      obtain rfl : 0 = n6 := by rw [← HNL.out, HEM.out]; rfl
      go_wp2_with (first
        | (go_at_call 20
           (with_reducible refine (HOL.out _ HB4.out).mono ?_)
           rintro e w6 ⟨rfl, hbx⟩
           have HB6 := Lib.hid (HB4.out.trans (hbx.mono HB4.out.size))
           clear hbx))
      go_ret
      exact ⟨congrArg (fun b => Ending.returned (Value.bool b)) (decide_eq_true (show (0 : Nat) < k by omega)), HB6.out⟩
set_option maxHeartbeats 16000000 in
theorem gback_bigs (HG : GrpOk) (s : Int) (A : Option Addr) (k c : Nat) (l : List Int) (w : World) (hl : Its .i64 w A k c l) (h1 : ¬ 20 < k) (h2 : ¬ s < 0) (h2b : 256 ≤ s) (r : Nat) (h3 : ofM l = r) :
    Calls Try.prog 4 #[.int .i64 s, .slice A k c] w fun e w' => e = .returned (.bool true) ∧ Below w.heap.size w w' := by
  have hks := hl.small
  have h1a : ¬ (20 : Int) < k := by omega
  have HLW := Lib.hid hl
  have HKL := Lib.hid hl.len
  have HLI := Lib.hid (fun (X : World) => HG.list s X)
  have HSM := Lib.hid (list_small s)
  have HRI := Lib.hid (list_rise s)
  have HOL := Lib.hid (fun (X : World) (hX : Below w.heap.size w X) => HG.of A k c l X (hl.below hX) (by omega))
  have HEM := Lib.hid (show listM s = [] by rw [listM, if_neg (by omega)])
  have hsr := same_rise h3
  rcases of_list l with hx | ⟨r2, hr1, hr2, hr3, -⟩
  · rw [h3] at hx; omega
  obtain rfl : r = r2 := by rw [h3] at hr1; omega
  rw [h3] at HOL hsr
  have HLR := Lib.hid (fun (X : World) => HG.list (r : Int) X)
  have HRK := Lib.hid (show k = (listM (r : Int)).length by rw [hr3, hl.len])
  have HSA := Lib.hid (show (listM (r : Int) == l) = risesB l by rw [← hsr, Bool.eq_iff_iff, beq_iff_eq, decide_eq_true_iff])
  have HIT := Lib.hid (show ∀ (B : Option Addr) (d : Nat) (X : World), Below w.heap.size w X → Its .i64 X B k d (listM (r : Int)) → Calls Try.prog 11 #[.slice B k d, .slice A k c] X fun e w' => e = .returned (.bool (listM (r : Int) == l)) ∧ Below X.heap.size X w' from fun B d X hX h => (ints_any B A k d k c (listM (r : Int)) l X h (hl.below hX)).mono fun e w' ⟨he, j, hw⟩ => ⟨he, by subst hw; exact below_drewN (Below.refl _ _) _⟩)
  have hr0 : ¬ ((r : Int) = -1) := by omega
  clear hl h3 hsr hr1 hr3
  go_enter Try.func4, Try.ntmps4
  go_wp2_with (first
    | (go_at_call 8
       (with_reducible refine (gawake_any HG _).mono ?_)
       rintro e w1 ⟨rfl, hb1⟩
       have HB1 := Lib.hid hb1
       clear hb1)
    | (go_at_call 14
       (with_reducible refine (HLI.out _).mono ?_)
       rintro e w2 ⟨A6, n6, c6, rfl, hi2, hbx⟩
       have HI2 := Lib.hid hi2
       have HNL := Lib.hid hi2.len
       have hn6 := hi2.small
       have HB2 := Lib.hid (HB1.out.trans (hbx.mono HB1.out.size))
       clear hbx hi2))
  go_loopw [7] (fun v wr => ∃ j : Nat, (j + 1 ≤ n6 ∨ j = 0) ∧ v = .int .i64 ((j : Int) + 1) ∧ Below w2.heap.size w2 wr) (fun v _ => n6 + 1 - (intOf v).toNat)
  case atStart => exact ⟨0, .inr rfl, rfl, Below.refl _ _⟩
  case round =>
    obtain ⟨j, hj, rfl, hb3⟩ := hrel
    have HB3 := Lib.hid hb3
    have hn8 : n6 ≤ 8 := by rw [← HNL.out]; exact HSM.out
    by_cases hlt : j + 1 < n6
    · obtain ⟨b, off, rfl, hc⟩ := HI2.out.at_ (by omega)
      have hup := rise_at HRI.out (show j + 1 < _ by rw [HNL.out]; exact hlt)
      have c1 : wr.drew.cell? ⟨b, off + (j + 1), none⟩ = some (.int .i64 ((listM s).getD (j + 1) 0)) := (hb3.cell (p := ⟨b, off + (j + 1), none⟩) (block_lt_of_cell (hc (j + 1) hlt))).trans (hc (j + 1) hlt)
      have c0 : wr.drew.cell? ⟨b, off + j, none⟩ = some (.int .i64 ((listM s).getD j 0)) := (hb3.cell (p := ⟨b, off + j, none⟩) (block_lt_of_cell (hc j (by omega)))).trans (hc j (by omega))
      obtain ⟨x1, hx1⟩ : ∃ x, (listM s).getD (j + 1) 0 = x := ⟨_, rfl⟩
      obtain ⟨x0, hx0⟩ : ∃ x, (listM s).getD j 0 = x := ⟨_, rfl⟩
      rw [hx1] at c1 hup
      rw [hx0] at c0 hup
      have hwj : IntKind.i64.wrap (j : Int) = (j : Int) := by rw [IntKind.wrap_i64]; omega
      have hwj2 : IntKind.i64.wrap ((j : Int) + 1 + 1) = (j : Int) + 1 + 1 := by rw [IntKind.wrap_i64]; omega
      have q1 : (j : Int) + 1 < n6 := by omega
      have q2 : 0 ≤ (j : Int) + 1 := by omega
      have q3 : (j : Int) < n6 := by omega
      have q4 : 0 ≤ (j : Int) := by omega
      clear hc hx1 hx0 hb3
      go_wp2_with fail
      refine wp_region_held_drew (S := fun X => X.cell? ⟨b, off + (j + 1), none⟩ = some (.int .i64 x1) ∧ X.cell? ⟨b, off + j, none⟩ = some (.int .i64 x0)) (by kernel_rfl) ⟨c1, c0⟩ (fun hHeld => ?_)
      refine tk 0 (.slice (some ⟨b, off, none⟩) n6 c6) hHeld (fun w => ?_) ?_
      · go_simp
      simp only [PT]
      refine tk 1 (.int .i64 ((j : Int) + 1)) hHeld (fun w => ?_) ?_
      · go_simp
      simp only [PT]
      refine tk 2 (.pointer (some ⟨b, off + (j + 1), none⟩)) hHeld (fun w => ?_) ?_
      · go_simp
      simp only [PT]
      refine tkS 3 (.int .i64 x1) hHeld (fun w hq => ?_) ?_
      · obtain ⟨hq1, hq0⟩ := hq
        go_simp
      simp only [PT]
      refine tk 4 (.slice (some ⟨b, off, none⟩) n6 c6) hHeld (fun w => ?_) ?_
      · go_simp
      simp only [PT]
      refine tk 5 (.int .i64 ((j : Int) + 1)) hHeld (fun w => ?_) ?_
      · go_simp
      simp only [PT]
      refine tk 6 (.int .i64 (j : Int)) hHeld (fun w => ?_) ?_
      · go_simp
      simp only [PT]
      refine tk 7 (.pointer (some ⟨b, off + j, none⟩)) hHeld (fun w => ?_) ?_
      · go_simp
      simp only [PT]
      refine tkS 8 (.int .i64 x0) hHeld (fun w hq => ?_) ?_
      · obtain ⟨hq1, hq0⟩ := hq
        go_simp
      simp only [PT]
      refine tk 9 (.bool false) hHeld (fun w => ?_) ?_
      · go_simp
      simp only [PT]
      refine wpAnyH_done (by kernel_rfl) ?_ _
      clear hHeld c1 c0
      go_wp2_with fail
      go_roundw
      case rel => exact ⟨j + 1, .inl (by omega), by go_num, HB3.out.drew⟩
      case measure => simp [intOf]; omega
    · have q1 : ¬ ((j : Int) + 1 < n6) := by omega
      have HI3 := Lib.hid (HI2.out.below hb3)
      have HB4 := Lib.hid (HB2.out.trans (hb3.mono HB2.out.size))
      clear hb3
      obtain rfl : 0 = n6 := by rw [← HNL.out, HEM.out]; rfl
      go_wp2_with (first
        | (go_at_call 20
           (with_reducible refine (HOL.out _ HB4.out).mono ?_)
           rintro e w6 ⟨rfl, hbx⟩
           have HB6 := Lib.hid (HB4.out.trans (hbx.mono HB4.out.size))
           clear hbx)
        | (go_at_call 14
           (with_reducible refine (HLR.out _).mono ?_)
           rintro e w7 ⟨A7, n7, c7, rfl, hi7, hbx⟩
           obtain rfl : k = n7 := by rw [← hi7.len]; exact HRK.out
           have HI7 := Lib.hid hi7
           have HB7 := Lib.hid (HB6.out.trans (hbx.mono HB6.out.size))
           clear hbx hi7))
      go_loopw [11, 12] (fun h v wr => ∃ j : Nat, (j + 1 ≤ k ∨ j = 0) ∧ v = .int .i64 ((j : Int) + 1) ∧ (∃ H : Bool, h = .bool H ∧ H = decide (risesTo l (j + 1))) ∧ Below w7.heap.size w7 wr) (fun _ v _ => k + 1 - (intOf v).toNat)
      case atStart => exact ⟨0, .inr rfl, rfl, ⟨true, rfl, (decide_eq_true (fun i hi hp => by omega)).symm⟩, Below.refl _ _⟩
      case round =>
        obtain ⟨i, hi, rfl, ⟨H, rfl, hH⟩, hb8⟩ := hrel
        have HH := Lib.hid hH
        have HB8 := Lib.hid hb8
        clear hH
        by_cases hil : i + 1 < k
        · obtain ⟨b, off, rfl, hc⟩ := HLW.out.at_ (by omega)
          have hbw : Below w.heap.size w wr := HB7.out.trans (hb8.mono HB7.out.size)
          have c1 : wr.drew.cell? ⟨b, off + (i + 1), none⟩ = some (.int .i64 (l.getD (i + 1) 0)) := (hbw.cell (p := ⟨b, off + (i + 1), none⟩) (block_lt_of_cell (hc (i + 1) hil))).trans (hc (i + 1) hil)
          have c0 : wr.drew.cell? ⟨b, off + i, none⟩ = some (.int .i64 (l.getD i 0)) := (hbw.cell (p := ⟨b, off + i, none⟩) (block_lt_of_cell (hc i (by omega)))).trans (hc i (by omega))
          have hnx := rise_next l i
          rw [← HH.out] at hnx
          obtain ⟨x1, hx1⟩ : ∃ x, l.getD (i + 1) 0 = x := ⟨_, rfl⟩
          obtain ⟨x0, hx0⟩ : ∃ x, l.getD i 0 = x := ⟨_, rfl⟩
          rw [hx1] at c1 hnx
          rw [hx0] at c0 hnx
          have HNX := Lib.hid hnx
          have hwj : IntKind.i64.wrap (i : Int) = (i : Int) := by rw [IntKind.wrap_i64]; omega
          have hwj2 : IntKind.i64.wrap ((i : Int) + 1 + 1) = (i : Int) + 1 + 1 := by rw [IntKind.wrap_i64]; omega
          have q1 : (i : Int) + 1 < k := by omega
          have q2 : 0 ≤ (i : Int) + 1 := by omega
          have q3 : (i : Int) < k := by omega
          have q4 : 0 ≤ (i : Int) := by omega
          clear hc hx1 hx0 hb8 hbw hnx
          cases H
          · have HZ := Lib.hid (show false = decide (risesTo l (i + 1 + 1)) by rw [HNX.out]; rfl)
            go_wp2_with fail
            refine wp_region_held_drew (S := fun X => X.cell? ⟨b, off + (i + 1), none⟩ = some (.int .i64 x1) ∧ X.cell? ⟨b, off + i, none⟩ = some (.int .i64 x0)) (by kernel_rfl) ⟨c1, c0⟩ (fun hHeld => ?_)
            refine tk 0 (.bool false) hHeld (fun w => ?_) ?_
            · go_simp
            simp only [PT]
            refine tk 1 (.bool false) hHeld (fun w => ?_) ?_
            · go_simp
            simp only [PT]
            refine tkO 2 hHeld ?_
            simp only [PT]
            refine tkO 3 hHeld ?_
            simp only [PT]
            refine tkO 4 hHeld ?_
            simp only [PT]
            refine tkO 5 hHeld ?_
            simp only [PT]
            refine tkO 6 hHeld ?_
            simp only [PT]
            refine tkO 7 hHeld ?_
            simp only [PT]
            refine tkO 8 hHeld ?_
            simp only [PT]
            refine tkO 9 hHeld ?_
            simp only [PT]
            refine tkO 10 hHeld ?_
            simp only [PT]
            refine tkO 11 hHeld ?_
            simp only [PT]
            refine tk 12 (.bool false) hHeld (fun w => ?_) ?_
            · go_simp
            simp only [PT]
            refine tk 13 (.bool false) hHeld (fun w => ?_) ?_
            · go_simp
            simp only [PT]
            refine wpAnyH_done (by kernel_rfl) ?_ _
            clear hHeld c1 c0
            go_wp2_with fail
            go_roundw
            case rel => exact ⟨i + 1, .inl (by omega), by go_num, ⟨false, rfl, HZ.out⟩, HB8.out.drew⟩
            case measure => simp [intOf]; omega
          · by_cases hgt : x0 < x1
            · have HZ := Lib.hid (show true = decide (risesTo l (i + 1 + 1)) by rw [HNX.out, decide_eq_true hgt]; rfl)
              go_wp2_with fail
              refine wp_region_held_drew (S := fun X => X.cell? ⟨b, off + (i + 1), none⟩ = some (.int .i64 x1) ∧ X.cell? ⟨b, off + i, none⟩ = some (.int .i64 x0)) (by kernel_rfl) ⟨c1, c0⟩ (fun hHeld => ?_)
              refine tk 0 (.bool true) hHeld (fun w => ?_) ?_
              · go_simp
              simp only [PT]
              refine tk 1 (.bool true) hHeld (fun w => ?_) ?_
              · go_simp
              simp only [PT]
              refine tk 2 (.slice (some ⟨b, off, none⟩) k c) hHeld (fun w => ?_) ?_
              · go_simp
              simp only [PT]
              refine tk 3 (.int .i64 ((i : Int) + 1)) hHeld (fun w => ?_) ?_
              · go_simp
              simp only [PT]
              refine tk 4 (.pointer (some ⟨b, off + (i + 1), none⟩)) hHeld (fun w => ?_) ?_
              · go_simp
              simp only [PT]
              refine tkS 5 (.int .i64 x1) hHeld (fun w hq => ?_) ?_
              · obtain ⟨hq1, hq0⟩ := hq
                go_simp
              simp only [PT]
              refine tk 6 (.slice (some ⟨b, off, none⟩) k c) hHeld (fun w => ?_) ?_
              · go_simp
              simp only [PT]
              refine tk 7 (.int .i64 ((i : Int) + 1)) hHeld (fun w => ?_) ?_
              · go_simp
              simp only [PT]
              refine tk 8 (.int .i64 (i : Int)) hHeld (fun w => ?_) ?_
              · go_simp
              simp only [PT]
              refine tk 9 (.pointer (some ⟨b, off + i, none⟩)) hHeld (fun w => ?_) ?_
              · go_simp
              simp only [PT]
              refine tkS 10 (.int .i64 x0) hHeld (fun w hq => ?_) ?_
              · obtain ⟨hq1, hq0⟩ := hq
                go_simp
              simp only [PT]
              refine tk 11 (.bool true) hHeld (fun w => ?_) ?_
              · go_simp
              simp only [PT]
              refine tk 12 (.bool true) hHeld (fun w => ?_) ?_
              · go_simp
              simp only [PT]
              refine tk 13 (.bool true) hHeld (fun w => ?_) ?_
              · go_simp
              simp only [PT]
              refine wpAnyH_done (by kernel_rfl) ?_ _
              clear hHeld c1 c0
              go_wp2_with fail
              go_roundw
              case rel => exact ⟨i + 1, .inl (by omega), by go_num, ⟨true, rfl, HZ.out⟩, HB8.out.drew⟩
              case measure => simp [intOf]; omega
            · have HZ := Lib.hid (show false = decide (risesTo l (i + 1 + 1)) by rw [HNX.out, decide_eq_false hgt]; rfl)
              go_wp2_with fail
              refine wp_region_held_drew (S := fun X => X.cell? ⟨b, off + (i + 1), none⟩ = some (.int .i64 x1) ∧ X.cell? ⟨b, off + i, none⟩ = some (.int .i64 x0)) (by kernel_rfl) ⟨c1, c0⟩ (fun hHeld => ?_)
              refine tk 0 (.bool true) hHeld (fun w => ?_) ?_
              · go_simp
              simp only [PT]
              refine tk 1 (.bool true) hHeld (fun w => ?_) ?_
              · go_simp
              simp only [PT]
              refine tk 2 (.slice (some ⟨b, off, none⟩) k c) hHeld (fun w => ?_) ?_
              · go_simp
              simp only [PT]
              refine tk 3 (.int .i64 ((i : Int) + 1)) hHeld (fun w => ?_) ?_
              · go_simp
              simp only [PT]
              refine tk 4 (.pointer (some ⟨b, off + (i + 1), none⟩)) hHeld (fun w => ?_) ?_
              · go_simp
              simp only [PT]
              refine tkS 5 (.int .i64 x1) hHeld (fun w hq => ?_) ?_
              · obtain ⟨hq1, hq0⟩ := hq
                go_simp
              simp only [PT]
              refine tk 6 (.slice (some ⟨b, off, none⟩) k c) hHeld (fun w => ?_) ?_
              · go_simp
              simp only [PT]
              refine tk 7 (.int .i64 ((i : Int) + 1)) hHeld (fun w => ?_) ?_
              · go_simp
              simp only [PT]
              refine tk 8 (.int .i64 (i : Int)) hHeld (fun w => ?_) ?_
              · go_simp
              simp only [PT]
              refine tk 9 (.pointer (some ⟨b, off + i, none⟩)) hHeld (fun w => ?_) ?_
              · go_simp
              simp only [PT]
              refine tkS 10 (.int .i64 x0) hHeld (fun w hq => ?_) ?_
              · obtain ⟨hq1, hq0⟩ := hq
                go_simp
              simp only [PT]
              refine tk 11 (.bool false) hHeld (fun w => ?_) ?_
              · go_simp
              simp only [PT]
              refine tk 12 (.bool false) hHeld (fun w => ?_) ?_
              · go_simp
              simp only [PT]
              refine tk 13 (.bool false) hHeld (fun w => ?_) ?_
              · go_simp
              simp only [PT]
              refine wpAnyH_done (by kernel_rfl) ?_ _
              clear hHeld c1 c0
              go_wp2_with fail
              go_roundw
              case rel => exact ⟨i + 1, .inl (by omega), by go_num, ⟨false, rfl, HZ.out⟩, HB8.out.drew⟩
              case measure => simp [intOf]; omega
        · have q1 : ¬ ((i : Int) + 1 < k) := by omega
          have HHR := Lib.hid (show H = risesB l from HH.out.trans (by
            rw [risesB, HKL.out]
            refine decide_eq_decide.2 ⟨fun h p hp hq => h p (by omega) hq, fun h p hp hq => h p (by omega) hq⟩))
          have hbw : Below w.heap.size w wr := HB7.out.trans (hb8.mono HB7.out.size)
          have HB9 := Lib.hid hbw
          have HI9 := Lib.hid (HI7.out.below hb8)
          clear hb8 hbw
          have HSR := Lib.hid (HSA.out.trans HHR.out.symm)
          have HIX := Lib.hid (HIT.out A7 c7 _ HB9.out HI9.out)
          rw [HSR.out] at HIX
          go_wp2_with (go_at_call 11
                       (with_reducible refine HIX.out.mono ?_)
                       rintro e w10 ⟨rfl, hbx⟩
                       have HB10 := Lib.hid (HB9.out.trans (hbx.mono HB9.out.size))
                       clear hbx)
          go_ret
          exact ⟨rfl, HB10.out⟩
theorem gback_any (HG : GrpOk) (s : Int) (A : Option Addr) (k c : Nat) (l : List Int) (w : World) (hl : Its .i64 w A k c l) :
    Calls Try.prog 4 #[.int .i64 s, .slice A k c] w fun e w' => e = .returned (.bool true) ∧ Below w.heap.size w w' := by
  by_cases h1 : 20 < k
  · exact gback_long HG s A k c l w hl h1
  · rcases of_list l with h3 | ⟨r, h3, -, -, -⟩
    · by_cases h2 : s < 0
      · exact gback_negn HG s A k c l w hl h1 h2 h3
      · by_cases h2b : 256 ≤ s
        · exact gback_bign HG s A k c l w hl h1 h2 h2b h3
        · exact gback_inn HG s A k c l w hl h1 ⟨by omega, by omega⟩ h3
    · by_cases h2 : s < 0
      · exact gback_negs HG s A k c l w hl h1 h2 r h3
      · by_cases h2b : 256 ≤ s
        · exact gback_bigs HG s A k c l w hl h1 h2 h2b r h3
        · exact gback_ins HG s A k c l w hl h1 ⟨by omega, by omega⟩ r h3
end Go.Proofs.Ytlejeecnkbapmaa
