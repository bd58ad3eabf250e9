/- Package plan's Fit. -/
import Derived.Test.YtjjjfckkglcdfaaPlnLow
import Derived.Deep.LoopGhost
namespace Go.Proofs.Ytjjjfckkglcdfaa
set_option maxRecDepth 100000
set_option linter.unusedVariables false
set_option linter.unusedSimpArgs false
open Go.RowKit

theorem fit_sized {p : Pl} (h : (mayM p.m && decide (2 ≤ p.s.length ∧ p.s.length ≤ 6)) = false) : fitP p = false := by
  rw [fitP, ← Bool.and_assoc, h, Bool.false_and]
theorem fit_span {p : Pl} (h : spanB p = false) : fitP p = false := by
  rw [fitP, h]; simp
theorem stages_in {p : Pl} (hs : ∀ x ∈ p.s, stageB p.m x = true) : ∀ x ∈ p.s, 0 ≤ x.g ∧ x.g < ((2 ^ p.m.length : Nat) : Int) := fun x hx => by
  obtain ⟨-, ⟨g0, g1⟩, -⟩ := free_iff.1 (stage_iff.1 (hs x hx)).1
  rw [pow_int] at g1
  exact ⟨g0, g1⟩
theorem fit_served {p : Pl} (h : servedB p.s p.m.length = false) : fitP p = false := not_fit fun hf => by
  obtain ⟨⟨-, h8⟩, -, -⟩ := may_all hf.may
  rw [served_all h8 (stages_in fun x hx => stage_iff.2 (hf.stage x hx))] at h
  rw [List.all_eq_false] at h
  obtain ⟨i, hi, hno⟩ := h
  exact hno (some_iff.2 (hf.some i (List.mem_range.1 hi)))
theorem fit_yes {p : Pl} (h1 : (mayM p.m && decide (2 ≤ p.s.length ∧ p.s.length ≤ 6)) = true) (h2 : spanB p = true) (h3 : servedB p.s p.m.length = true) (hs : ∀ j, j < p.s.length → stageB p.m (p.s.getD j Stg.zero) = true) : fitP p = true := by
  rw [Bool.and_eq_true, decide_eq_true_eq] at h1
  obtain ⟨hm, h4, h6⟩ := h1
  obtain ⟨⟨-, h8⟩, -, -⟩ := may_all hm
  have hall : ∀ x ∈ p.s, stageB p.m x = true := fun x hx => by
    obtain ⟨j, hj, rfl⟩ := List.getElem_of_mem hx
    have := hs j hj
    rwa [List.getD_eq_getElem?_getD, List.getElem?_eq_getElem hj] at this
  rw [served_all h8 (stages_in hall)] at h3
  rw [fit_rest hm h4 h6 hs (fun i hi => List.all_eq_true.1 h3 i (List.mem_range.2 hi)), h2]
set_option maxHeartbeats 8000000 in
theorem fits_any (p : Pl) (w : World) (hp : PlIn w p) : Calls Try.prog 31 #[plV p] w fun e w' => e = .returned (.bool (fitP p)) ∧ Below w.heap.size w w' := by
  have hsk := hp.s.small
  have hML := hp.m.len
  have HSL := Lib.hid hp.s.len
  have hD := draft_new w p
  obtain ⟨W0, hW0⟩ : ∃ W0, w.alloc (.cells #[.slice p.A p.n p.c, .slice p.B p.k p.d, .int .i64 p.am, .int .i64 p.rd, .int .i64 p.hd] 47) = W0 := ⟨_, rfl⟩
  have hB0 : Below w.heap.size w W0 := by rw [← hW0]; exact one_alloc w _
  have hs0 : W0.heap.size = w.heap.size + 1 := by rw [← hW0]; simp
  rw [hW0, ← hs0] at hD
  have hp0 : PlIn W0 p := hp.below hB0
  have HD := Lib.hid hD
  have HW := Lib.hid hW0
  have HB0 := Lib.hid hB0
  have HSZ := Lib.hid (sized_any p W0 hp0)
  have HTM := Lib.hid (fun X => timed_any p X)
  have HTK := Lib.hid (fun (x : Stg) (X : World) (hX : Below W0.heap.size W0 X) => takes_any p x X (hp0.below hX))
  have HST := Lib.hid (hp0.s)
  have HFS := Lib.hid (fun j => fit_stage (p := p) (j := j))
  obtain ⟨b1, h1⟩ : ∃ b, (mayM p.m && decide (2 ≤ p.s.length ∧ p.s.length ≤ 6)) = b := ⟨_, rfl⟩
  obtain ⟨b2, h2⟩ : ∃ b, spanB p = b := ⟨_, rfl⟩
  have HSV := Lib.hid (show b1 = true → ∀ X, Below W0.heap.size W0 X → Calls Try.prog 42 #[plV p] X fun e w' => e = .returned (.bool (servedB p.s p.m.length)) ∧ Below X.heap.size X w' from fun hb X hX => by
    rw [hML]
    refine served_any p X (hp0.below hX) ?_
    rw [hb, Bool.and_eq_true] at h1
    obtain ⟨⟨-, h8⟩, -, -⟩ := may_all h1.1
    omega)
  obtain ⟨b3, h3⟩ : ∃ b, servedB p.s p.m.length = b := ⟨_, rfl⟩
  have HZ := Lib.hid (fit_sized (p := p))
  have HS := Lib.hid (fit_span (p := p))
  have HV := Lib.hid (fit_served (p := p))
  have HY := Lib.hid (fit_yes (p := p))
  obtain ⟨F, hF⟩ : ∃ F, fitP p = F := ⟨_, rfl⟩
  rw [h1] at HZ HY HSZ
  rw [h2] at HS HY HTM
  rw [h3] at HV HY HSV
  rw [hF] at HZ HS HV HY HFS ⊢
  obtain ⟨a0, a1, a2, a3, a4⟩ := hD W0 (Below.refl _ _)
  simp only [plV] at HSZ HTM HTK HSV ⊢
  clear hD hW0 hB0 hp hp0 h1 h2 h3 hs0 hML hF
  obtain ⟨A, n, c, m, B, k, d, s, am, rd, hd⟩ := p
  simp only at *
  cases b1
  · have HR := Lib.hid (HZ.out rfl)
    clear HZ
    go_enter Try.func31, Try.ntmps31
    go_wp2
    rw [HW.out]
    go_step3
    go_wp2
    go_step3
    go_wp2_with (go_at_call 40; (with_reducible refine (HSZ.out).mono ?_); rintro e w1 ⟨rfl, hb1⟩; have HB1 := Lib.hid (HB0.out.trans (hb1.mono HB0.out.size)); clear hb1)
    try rw [Exit.noGoto_ret]
    go_ret
    exact ⟨by rw [HR.out]; rfl, HB1.out⟩
  · cases b2
    · have HR := Lib.hid (HS.out rfl)
      clear HS
      go_enter Try.func31, Try.ntmps31
      go_wp2
      rw [HW.out]
      go_step3
      go_wp2
      go_step3
      go_wp2_with (first
        | (go_at_call 40; (with_reducible refine (HSZ.out).mono ?_); rintro e w1 ⟨rfl, hb1⟩; obtain ⟨a0, a1, a2, a3, a4⟩ := HD.out w1 hb1; have HB1 := Lib.hid hb1; clear hb1)
        | (go_at_call 41; (with_reducible refine (HTM.out _).mono ?_); rintro e w2 ⟨rfl, hb2⟩; have HB2 := Lib.hid (HB1.out.trans (hb2.mono HB1.out.size)); clear hb2))
      try rw [Exit.noGoto_ret]
      go_ret
      exact ⟨by rw [HR.out]; rfl, HB0.out.trans (HB2.out.mono HB0.out.size)⟩
    · have HSV2 := Lib.hid (HSV.out rfl)
      clear HSV
      cases b3
      · have HR := Lib.hid (HV.out rfl)
        clear HV
        go_enter Try.func31, Try.ntmps31
        go_wp2
        rw [HW.out]
        go_step3
        go_wp2
        go_step3
        go_wp2_with (first
          | (go_at_call 40; (with_reducible refine (HSZ.out).mono ?_); rintro e w1 ⟨rfl, hb1⟩; obtain ⟨a0, a1, a2, a3, a4⟩ := HD.out w1 hb1; have HB1 := Lib.hid hb1; clear hb1)
          | (go_at_call 41; (with_reducible refine (HTM.out _).mono ?_); rintro e w2 ⟨rfl, hb2⟩; have HB2 := Lib.hid (HB1.out.trans (hb2.mono HB1.out.size)); clear hb2; obtain ⟨c0, c1, c2, c3, c4⟩ := HD.out w2 HB2.out)
          | (go_at_call 42; (with_reducible refine (HSV2.out _ HB2.out).mono ?_); rintro e w3 ⟨rfl, hb3⟩; have HB3 := Lib.hid (HB2.out.trans (hb3.mono HB2.out.size)); clear hb3))
        try rw [Exit.noGoto_ret]
        go_ret
        exact ⟨by rw [HR.out]; rfl, HB0.out.trans (HB3.out.mono HB0.out.size)⟩
      · have HY2 := Lib.hid (HY.out rfl rfl rfl)
        clear HY HV HS HZ
        go_enter Try.func31, Try.ntmps31
        go_wp2
        rw [HW.out]
        go_step3
        go_wp2
        go_step3
        go_wp2_with (first
          | (go_at_call 40; (with_reducible refine (HSZ.out).mono ?_); rintro e w1 ⟨rfl, hb1⟩; obtain ⟨a0, a1, a2, a3, a4⟩ := HD.out w1 hb1; have HB1 := Lib.hid hb1; clear hb1)
          | (go_at_call 41; (with_reducible refine (HTM.out _).mono ?_); rintro e w2 ⟨rfl, hb2⟩; have HB2 := Lib.hid (HB1.out.trans (hb2.mono HB1.out.size)); clear hb2; obtain ⟨c0, c1, c2, c3, c4⟩ := HD.out w2 HB2.out)
          | (go_at_call 42; (with_reducible refine (HSV2.out _ HB2.out).mono ?_); rintro e w3 ⟨rfl, hb3⟩; have HB3 := Lib.hid (HB2.out.trans (hb3.mono HB2.out.size)); clear hb3; obtain ⟨d0, d1, d2, d3, d4⟩ := HD.out w3 HB3.out))
        clear a0 a1 a2 a3 a4 c0 c1 c2 c3 c4 d0 d1 d2 d3 d4
        go_loopw [4, 9] (fun y v wr => ∃ j : Nat, j ≤ k ∧ v = .int .i64 j ∧ (∀ i, i < j → stageB m (s.getD i Stg.zero) = true) ∧ Below W0.heap.size W0 wr) (fun _ v _ => k - (intOf v).toNat)
        case atStart => exact ⟨0, by omega, rfl, fun i hi => by omega, HB3.out⟩
        case round =>
          obtain ⟨j, hj, rfl, hall, hbw⟩ := hrel
          have HBW := Lib.hid hbw
          have HAL := Lib.hid hall
          clear hall
          by_cases hlt : j < k
          · have q1 : (j : Int) < k := by omega
            have q0 : 0 ≤ (j : Int) := by omega
            obtain ⟨b, off, x, rfl, hx, -, -, z0, z1, z2⟩ := (HST.out.below hbw).at_ j hlt
            have HFJ := Lib.hid (HFS.out j (by rw [HSL.out]; exact hlt))
            rw [hx] at HFJ
            have HX := Lib.hid hx
            have HTX := Lib.hid (HTK.out x)
            have hone := one_alloc wr (.cells #[.int .i64 x.g, .int .i64 x.mn, .int .i64 x.mx] 36)
            have HB4 := Lib.hid (hbw.trans (hone.mono hbw.size))
            obtain ⟨e0, e1, e2, e3, e4⟩ := HD.out _ HB4.out
            clear hbw hx hone
            cases hs : stageB m x
            · rw [hs] at HTX
              have HR := Lib.hid (HFJ.out hs)
              clear hs
              go_wp2_with (go_at_call 43; (with_reducible refine (HTX.out _ HB4.out).mono ?_); rintro e w5 ⟨rfl, hb5⟩; have HB5 := Lib.hid (HB4.out.trans (hb5.mono HB4.out.size)); clear hb5)
              try rw [Exit.noGoto_ret]
              go_ret
              exact ⟨by rw [HR.out]; rfl, HB0.out.trans (HB5.out.mono HB0.out.size)⟩
            · rw [hs] at HTX
              have HN := Lib.hid (show ∀ i, i < j + 1 → stageB m (s.getD i Stg.zero) = true from fun i hi => by
                by_cases e : i = j
                · rw [e, HX.out]; exact hs
                · exact HAL.out i (by omega))
              clear hs
              go_wp2_with (go_at_call 43; (with_reducible refine (HTX.out _ HB4.out).mono ?_); rintro e w5 ⟨rfl, hb5⟩; have HB5 := Lib.hid (HB4.out.trans (hb5.mono HB4.out.size)); clear hb5)
              go_roundw
              case rel => exact ⟨j + 1, by omega, by go_num, HN.out, HB5.out⟩
              case measure => simp [intOf]; omega
          · obtain rfl : j = k := by omega
            have hge : ¬ ((j : Int) < j) := by omega
            have HR := Lib.hid (HY2.out (fun i hi => HAL.out i (by rw [HSL.out] at hi; exact hi)))
            go_wp2
            try rw [Exit.noGoto_ret]
            go_ret
            exact ⟨by rw [HR.out]; rfl, HB0.out.trans (HBW.out.mono HB0.out.size)⟩
theorem fit_any (p : Pl) (X : World) (h : PlIn X p) : Calls Try.prog 15 #[plV p] X fun e w' => e = .returned (.bool (fitP p)) ∧ Below X.heap.size X w' := by
  have HR := Lib.hid (fun X' (hX : Below X.heap.size X X') => fits_any p X' (h.below hX))
  simp only [plV] at HR ⊢
  go_enter Try.func15, Try.ntmps15
  go_wp2_with (go_at_call 31; (with_reducible refine (HR.out _ (one_alloc _ _)).mono ?_); rintro e w1 ⟨rfl, hb⟩)
  go_ret
  exact ⟨rfl, (show Below X.heap.size X _ from (one_alloc _ _)).trans (hb.mono (by simp <;> omega))⟩
end Go.Proofs.Ytjjjfckkglcdfaa
