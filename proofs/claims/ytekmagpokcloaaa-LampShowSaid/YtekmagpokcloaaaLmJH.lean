/- Joined texts: Package plan's Fit. The walks over lamp's served and going; the groups that are not red, as a set. The walk over lamp's Clash. The walk over lamp's Show: a row of noughts, in which the stage's groups are marked. Package lamp's calls, and plan's Fit: all that the laws stand on. -/
import Derived.Test.YtekmagpokcloaaaLmJG
import Derived.Deep.LoopGhost
import Derived.Test.YtekmagpokcloaaaLmJE
import Derived.Test.YtekmagpokcloaaaLmJD
/- Package plan's Fit. -/
namespace Go.Proofs.Ytekmagpokcloaaa
set_option maxRecDepth 100000
set_option linter.unusedVariables false
set_option linter.unusedSimpArgs false
open Go.RowKit

theorem fit_sized {p : Pl} (h : (mayM p.m && decide (2 ≤ p.s.length ∧ p.s.length ≤ 6)) = false) : fitP p = false := by
  rw [fitP, ← Bool.and_assoc, h, Bool.false_and]
theorem fit_span {p : Pl} (h : spanB p = false) : fitP p = false := by
  rw [fitP, h]; simp
theorem stages_in {p : Pl} (hs : ∀ x ∈ p.s, stageB p.m x = true) : ∀ x ∈ p.s, 0 ≤ x.g ∧ x.g < ((2 ^ p.m.length : Nat) : Int) := fun x hx => by
  obtain ⟨-, ⟨g0, g1⟩, -⟩ := free_iff.1 (stage_iff.1 (hs x hx)).1
  rw [pow_int] at g1
  exact ⟨g0, g1⟩
theorem fit_served {p : Pl} (h : servedB p.s p.m.length = false) : fitP p = false := not_fit fun hf => by
  obtain ⟨⟨-, h8⟩, -, -⟩ := may_all hf.may
  rw [served_all h8 (stages_in fun x hx => stage_iff.2 (hf.stage x hx))] at h
  rw [List.all_eq_false] at h
  obtain ⟨i, hi, hno⟩ := h
  exact hno (some_iff.2 (hf.some i (List.mem_range.1 hi)))
theorem fit_yes {p : Pl} (h1 : (mayM p.m && decide (2 ≤ p.s.length ∧ p.s.length ≤ 6)) = true) (h2 : spanB p = true) (h3 : servedB p.s p.m.length = true) (hs : ∀ j, j < p.s.length → stageB p.m (p.s.getD j Stg.zero) = true) : fitP p = true := by
  rw [Bool.and_eq_true, decide_eq_true_eq] at h1
  obtain ⟨hm, h4, h6⟩ := h1
  obtain ⟨⟨-, h8⟩, -, -⟩ := may_all hm
  have hall : ∀ x ∈ p.s, stageB p.m x = true := fun x hx => by
    obtain ⟨j, hj, rfl⟩ := List.getElem_of_mem hx
    have := hs j hj
    rwa [List.getD_eq_getElem?_getD, List.getElem?_eq_getElem hj] at this
  rw [served_all h8 (stages_in hall)] at h3
  rw [fit_rest hm h4 h6 hs (fun i hi => List.all_eq_true.1 h3 i (List.mem_range.2 hi)), h2]
set_option maxHeartbeats 8000000 in
theorem fits_any (p : Pl) (w : World) (hp : PlIn w p) : Calls Try.prog 34 #[plV p] w fun e w' => e = .returned (.bool (fitP p)) ∧ Below w.heap.size w w' := by
  have hsk := hp.s.small
  have hML := hp.m.len
  have HSL := Lib.hid hp.s.len
  have hD := draft_new w p
  obtain ⟨W0, hW0⟩ : ∃ W0, w.alloc (.cells #[.slice p.A p.n p.c, .slice p.B p.k p.d, .int .i64 p.am, .int .i64 p.rd, .int .i64 p.hd] 53) = W0 := ⟨_, rfl⟩
  have hB0 : Below w.heap.size w W0 := by rw [← hW0]; exact one_alloc w _
  have hs0 : W0.heap.size = w.heap.size + 1 := by rw [← hW0]; simp
  rw [hW0, ← hs0] at hD
  have hp0 : PlIn W0 p := hp.below hB0
  have HD := Lib.hid hD
  have HW := Lib.hid hW0
  have HB0 := Lib.hid hB0
  have HSZ := Lib.hid (sized_any p W0 hp0)
  have HTM := Lib.hid (fun X => timed_any p X)
  have HTK := Lib.hid (fun (x : Stg) (X : World) (hX : Below W0.heap.size W0 X) => takes_any p x X (hp0.below hX))
  have HST := Lib.hid (hp0.s)
  have HFS := Lib.hid (fun j => fit_stage (p := p) (j := j))
  obtain ⟨b1, h1⟩ : ∃ b, (mayM p.m && decide (2 ≤ p.s.length ∧ p.s.length ≤ 6)) = b := ⟨_, rfl⟩
  obtain ⟨b2, h2⟩ : ∃ b, spanB p = b := ⟨_, rfl⟩
  have HSV := Lib.hid (show b1 = true → ∀ X, Below W0.heap.size W0 X → Calls Try.prog 48 #[plV p] X fun e w' => e = .returned (.bool (servedB p.s p.m.length)) ∧ Below X.heap.size X w' from fun hb X hX => by
    rw [hML]
    refine served_any p X (hp0.below hX) ?_
    rw [hb, Bool.and_eq_true] at h1
    obtain ⟨⟨-, h8⟩, -, -⟩ := may_all h1.1
    omega)
  obtain ⟨b3, h3⟩ : ∃ b, servedB p.s p.m.length = b := ⟨_, rfl⟩
  have HZ := Lib.hid (fit_sized (p := p))
  have HS := Lib.hid (fit_span (p := p))
  have HV := Lib.hid (fit_served (p := p))
  have HY := Lib.hid (fit_yes (p := p))
  obtain ⟨F, hF⟩ : ∃ F, fitP p = F := ⟨_, rfl⟩
  rw [h1] at HZ HY HSZ
  rw [h2] at HS HY HTM
  rw [h3] at HV HY HSV
  rw [hF] at HZ HS HV HY HFS ⊢
  obtain ⟨a0, a1, a2, a3, a4⟩ := hD W0 (Below.refl _ _)
  simp only [plV] at HSZ HTM HTK HSV ⊢
  clear hD hW0 hB0 hp hp0 h1 h2 h3 hs0 hML hF
  obtain ⟨A, n, c, m, B, k, d, s, am, rd, hd⟩ := p
  simp only at *
  cases b1
  · have HR := Lib.hid (HZ.out rfl)
    clear HZ
    go_enter Try.func34, Try.ntmps34
    go_wp2
    rw [HW.out]
    go_step3
    go_wp2
    go_step3
    go_wp2_with (go_at_call 46; (with_reducible refine (HSZ.out).mono ?_); rintro e w1 ⟨rfl, hb1⟩; have HB1 := Lib.hid (HB0.out.trans (hb1.mono HB0.out.size)); clear hb1)
    try rw [Exit.noGoto_ret]
    go_ret
    exact ⟨by rw [HR.out]; rfl, HB1.out⟩
  · cases b2
    · have HR := Lib.hid (HS.out rfl)
      clear HS
      go_enter Try.func34, Try.ntmps34
      go_wp2
      rw [HW.out]
      go_step3
      go_wp2
      go_step3
      go_wp2_with (first
        | (go_at_call 46; (with_reducible refine (HSZ.out).mono ?_); rintro e w1 ⟨rfl, hb1⟩; obtain ⟨a0, a1, a2, a3, a4⟩ := HD.out w1 hb1; have HB1 := Lib.hid hb1; clear hb1)
        | (go_at_call 47; (with_reducible refine (HTM.out _).mono ?_); rintro e w2 ⟨rfl, hb2⟩; have HB2 := Lib.hid (HB1.out.trans (hb2.mono HB1.out.size)); clear hb2))
      try rw [Exit.noGoto_ret]
      go_ret
      exact ⟨by rw [HR.out]; rfl, HB0.out.trans (HB2.out.mono HB0.out.size)⟩
    · have HSV2 := Lib.hid (HSV.out rfl)
      clear HSV
      cases b3
      · have HR := Lib.hid (HV.out rfl)
        clear HV
        go_enter Try.func34, Try.ntmps34
        go_wp2
        rw [HW.out]
        go_step3
        go_wp2
        go_step3
        go_wp2_with (first
          | (go_at_call 46; (with_reducible refine (HSZ.out).mono ?_); rintro e w1 ⟨rfl, hb1⟩; obtain ⟨a0, a1, a2, a3, a4⟩ := HD.out w1 hb1; have HB1 := Lib.hid hb1; clear hb1)
          | (go_at_call 47; (with_reducible refine (HTM.out _).mono ?_); rintro e w2 ⟨rfl, hb2⟩; have HB2 := Lib.hid (HB1.out.trans (hb2.mono HB1.out.size)); clear hb2; obtain ⟨c0, c1, c2, c3, c4⟩ := HD.out w2 HB2.out)
          | (go_at_call 48; (with_reducible refine (HSV2.out _ HB2.out).mono ?_); rintro e w3 ⟨rfl, hb3⟩; have HB3 := Lib.hid (HB2.out.trans (hb3.mono HB2.out.size)); clear hb3))
        try rw [Exit.noGoto_ret]
        go_ret
        exact ⟨by rw [HR.out]; rfl, HB0.out.trans (HB3.out.mono HB0.out.size)⟩
      · have HY2 := Lib.hid (HY.out rfl rfl rfl)
        clear HY HV HS HZ
        go_enter Try.func34, Try.ntmps34
        go_wp2
        rw [HW.out]
        go_step3
        go_wp2
        go_step3
        go_wp2_with (first
          | (go_at_call 46; (with_reducible refine (HSZ.out).mono ?_); rintro e w1 ⟨rfl, hb1⟩; obtain ⟨a0, a1, a2, a3, a4⟩ := HD.out w1 hb1; have HB1 := Lib.hid hb1; clear hb1)
          | (go_at_call 47; (with_reducible refine (HTM.out _).mono ?_); rintro e w2 ⟨rfl, hb2⟩; have HB2 := Lib.hid (HB1.out.trans (hb2.mono HB1.out.size)); clear hb2; obtain ⟨c0, c1, c2, c3, c4⟩ := HD.out w2 HB2.out)
          | (go_at_call 48; (with_reducible refine (HSV2.out _ HB2.out).mono ?_); rintro e w3 ⟨rfl, hb3⟩; have HB3 := Lib.hid (HB2.out.trans (hb3.mono HB2.out.size)); clear hb3; obtain ⟨d0, d1, d2, d3, d4⟩ := HD.out w3 HB3.out))
        clear a0 a1 a2 a3 a4 c0 c1 c2 c3 c4 d0 d1 d2 d3 d4
        go_loopw [4, 9] (fun y v wr => ∃ j : Nat, j ≤ k ∧ v = .int .i64 j ∧ (∀ i, i < j → stageB m (s.getD i Stg.zero) = true) ∧ Below W0.heap.size W0 wr) (fun _ v _ => k - (intOf v).toNat)
        case atStart => exact ⟨0, by omega, rfl, fun i hi => by omega, HB3.out⟩
        case round =>
          obtain ⟨j, hj, rfl, hall, hbw⟩ := hrel
          have HBW := Lib.hid hbw
          have HAL := Lib.hid hall
          clear hall
          by_cases hlt : j < k
          · have q1 : (j : Int) < k := by omega
            have q0 : 0 ≤ (j : Int) := by omega
            obtain ⟨b, off, x, rfl, hx, -, -, z0, z1, z2⟩ := (HST.out.below hbw).at_ j hlt
            have HFJ := Lib.hid (HFS.out j (by rw [HSL.out]; exact hlt))
            rw [hx] at HFJ
            have HX := Lib.hid hx
            have HTX := Lib.hid (HTK.out x)
            have hone := one_alloc wr (.cells #[.int .i64 x.g, .int .i64 x.mn, .int .i64 x.mx] 39)
            have HB4 := Lib.hid (hbw.trans (hone.mono hbw.size))
            obtain ⟨e0, e1, e2, e3, e4⟩ := HD.out _ HB4.out
            clear hbw hx hone
            cases hs : stageB m x
            · rw [hs] at HTX
              have HR := Lib.hid (HFJ.out hs)
              clear hs
              go_wp2_with (go_at_call 49; (with_reducible refine (HTX.out _ HB4.out).mono ?_); rintro e w5 ⟨rfl, hb5⟩; have HB5 := Lib.hid (HB4.out.trans (hb5.mono HB4.out.size)); clear hb5)
              try rw [Exit.noGoto_ret]
              go_ret
              exact ⟨by rw [HR.out]; rfl, HB0.out.trans (HB5.out.mono HB0.out.size)⟩
            · rw [hs] at HTX
              have HN := Lib.hid (show ∀ i, i < j + 1 → stageB m (s.getD i Stg.zero) = true from fun i hi => by
                by_cases e : i = j
                · rw [e, HX.out]; exact hs
                · exact HAL.out i (by omega))
              clear hs
              go_wp2_with (go_at_call 49; (with_reducible refine (HTX.out _ HB4.out).mono ?_); rintro e w5 ⟨rfl, hb5⟩; have HB5 := Lib.hid (HB4.out.trans (hb5.mono HB4.out.size)); clear hb5)
              go_roundw
              case rel => exact ⟨j + 1, by omega, by go_num, HN.out, HB5.out⟩
              case measure => simp [intOf]; omega
          · obtain rfl : j = k := by omega
            have hge : ¬ ((j : Int) < j) := by omega
            have HR := Lib.hid (HY2.out (fun i hi => HAL.out i (by rw [HSL.out] at hi; exact hi)))
            go_wp2
            try rw [Exit.noGoto_ret]
            go_ret
            exact ⟨by rw [HR.out]; rfl, HB0.out.trans (HBW.out.mono HB0.out.size)⟩
theorem fit_any (p : Pl) (X : World) (h : PlIn X p) : Calls Try.prog 21 #[plV p] X fun e w' => e = .returned (.bool (fitP p)) ∧ Below X.heap.size X w' := by
  have HR := Lib.hid (fun X' (hX : Below X.heap.size X X') => fits_any p X' (h.below hX))
  simp only [plV] at HR ⊢
  go_enter Try.func21, Try.ntmps21
  go_wp2_with (go_at_call 34; (with_reducible refine (HR.out _ (one_alloc _ _)).mono ?_); rintro e w1 ⟨rfl, hb⟩)
  go_ret
  exact ⟨rfl, (show Below X.heap.size X _ from (one_alloc _ _)).trans (hb.mono (by simp <;> omega))⟩
end Go.Proofs.Ytekmagpokcloaaa

/- The walks over lamp's served and going; the groups that are not red, as a set. -/
namespace Go.Proofs.Ytekmagpokcloaaa
set_option maxRecDepth 100000
set_option linter.unusedVariables false
set_option linter.unusedSimpArgs false
open Go.RowKit

/-- the groups that are not red -/
def offB (l : List Int) (i : Nat) : Bool := decide (l.getD i 0 ≠ 0)
def goTo (l : List Int) (k : Nat) : List Int := ((List.range k).filter (offB l)).map Int.ofNat
theorem goTo_yes {l : List Int} {k : Nat} (h : l.getD k 0 ≠ 0) : goTo l (k + 1) = goTo l k ++ [(k : Int)] := by
  rw [goTo, List.range_succ, List.filter_append, List.map_append]
  have hx : offB l k = true := decide_eq_true h
  rw [List.filter_cons_of_pos hx, List.filter_nil]
  rfl
theorem goTo_no {l : List Int} {k : Nat} (h : l.getD k 0 = 0) : goTo l (k + 1) = goTo l k := by
  rw [goTo, List.range_succ, List.filter_append, List.map_append]
  have hx : ¬ offB l k = true := by unfold offB; rw [decide_eq_true_iff]; exact fun hy => hy h
  rw [List.filter_cons_of_neg hx, List.filter_nil]
  simp [goTo]
theorem goTo_len (l : List Int) (k : Nat) : (goTo l k).length ≤ k := by
  rw [goTo, List.length_map]
  exact Nat.le_trans (List.length_filter_le _ _) (by simp)
theorem range_more (f : Nat → Bool) (n : Nat) : ∀ d, (List.range (n + d)).filter (fun i => decide (i < n) && f i) = (List.range n).filter f
  | 0 => List.filter_congr (fun i hi => by rw [List.mem_range] at hi; simp [show i < n from hi])
  | d + 1 => by
    rw [show n + (d + 1) = (n + d) + 1 from rfl, List.range_succ, List.filter_append, range_more f n d]
    rw [List.filter_cons_of_neg (by rw [decide_eq_false (by omega)]; simp), List.filter_nil, List.append_nil]
/-- as a set -/
theorem going_set (l : List Int) (hl : l.length ≤ 8) : ∃ t : Nat, ofM (goTo l l.length) = (t : Int) ∧ t < 2 ^ l.length ∧ ∀ i, i < l.length → bitI (t : Int) i = offB l i := by
  have hlt := sumN_lt (offB l) l.length
  have h256 := pow_le hl
  have hb : ∀ i, bitI ((sumN (offB l) l.length : Nat) : Int) i = (decide (i < l.length) && offB l i) := fun i => by rw [bit_nat, sumN_bit]
  have e : listM ((sumN (offB l) l.length : Nat) : Int) = goTo l l.length := by
    rw [listM, if_pos ⟨by omega, by omega⟩, goTo]
    congr 1
    have : bitI ((sumN (offB l) l.length : Nat) : Int) = fun i => decide (i < l.length) && offB l i := funext hb
    rw [this]
    have := range_more (offB l) l.length (8 - l.length)
    rw [show l.length + (8 - l.length) = 8 by omega] at this
    exact this
  refine ⟨sumN (offB l) l.length, ?_, hlt, fun i hi => ?_⟩
  · rw [← e]
    exact (back_list ⟨by omega, by omega⟩).1
  · rw [hb i, decide_eq_true hi, Bool.true_and]
/-- two that conflict are both not red just if the set is not free -/
theorem clash_free {p : Pl} {l : List Int} (hf : fitP p = true) (hm : mayR l = true) (hl : l.length = p.m.length) : clashR p l = !(freeM p.m (ofM (goTo l l.length))) := by
  obtain ⟨t, h1, h2, h3⟩ := going_set l (may_iff.1 hm).1.2
  rw [h1, Bool.eq_iff_iff, clash_iff, Bool.not_eq_true', ← Bool.not_eq_true, free_iff]
  have hmay := (fit_iff.1 hf).may
  constructor
  · rintro ⟨-, -, -, g, hg, h, hh, a1, a2, a3⟩ ⟨-, -, hn⟩
    exact hn g (by omega) h (by omega) ⟨by rw [h3 g hg]; exact decide_eq_true a2, by rw [h3 h hh]; exact decide_eq_true a3, a1⟩
  · intro hn
    by_cases hx : noneM p.m (t : Int)
    · exact (hn ⟨hmay, nat_set (by rw [← hl]; exact h2), hx⟩).elim
    · unfold noneM at hx
      simp only [Classical.not_forall, Classical.not_not] at hx
      obtain ⟨g, hg, h, hh, a1, a2, a3⟩ := hx
      rw [h3 g (by omega)] at a1
      rw [h3 h (by omega)] at a2
      exact ⟨hf, hm, hl, g, by omega, h, by omega, a3, of_decide_eq_true a1, of_decide_eq_true a2⟩
/-- what the groups of a stage show -/
def servI (y : Int) : Int := if y = 0 then 2 else if y = 1 then 1 else if y = 2 then 0 else -1
theorem serv_neg (y : Int) : servI y < 0 ↔ ¬ (0 ≤ y ∧ y < 3) := by
  unfold servI
  split
  · omega
  · split
    · omega
    · split <;> omega
set_option maxHeartbeats 1000000 in
theorem lserved_any (y : Int) (w : World) : Calls Try.prog 24 #[.int .i64 y] w fun e w' => e = .returned (.int .i64 (servI y)) ∧ w = w' := by
  by_cases h0 : y = 0
  · subst h0
    go_enter Try.func24, Try.ntmps24
    go_wp2
    go_ret
    exact ⟨rfl, rfl⟩
  · by_cases h1 : y = 1
    · subst h1
      go_enter Try.func24, Try.ntmps24
      go_wp2
      go_ret
      exact ⟨rfl, rfl⟩
    · by_cases h2 : y = 2
      · subst h2
        go_enter Try.func24, Try.ntmps24
        go_wp2
        go_ret
        exact ⟨rfl, rfl⟩
      · have e0 : (y == 0) = false := by rw [beq_eq_false_iff_ne]; exact h0
        have e1 : (y == 1) = false := by rw [beq_eq_false_iff_ne]; exact h1
        have e2 : (y == 2) = false := by rw [beq_eq_false_iff_ne]; exact h2
        have HR := Lib.hid (show servI y = -1 by rw [servI, if_neg h0, if_neg h1, if_neg h2])
        clear h0 h1 h2
        go_enter Try.func24, Try.ntmps24
        go_wp2
        go_ret
        exact ⟨by rw [HR.out]; rfl, rfl⟩
set_option maxHeartbeats 4000000 in
theorem going_any (A : Option Addr) (n c : Nat) (l : List Int) (w : World) (hb : Its .i64 w A n c l) (h1 : 1 ≤ n) (h8 : n ≤ 8) : Calls Try.prog 33 #[.slice A n c] w fun e w' => e = .returned (.int .i64 (ofM (goTo l n))) ∧ Below w.heap.size w w' := by
  have HL := Lib.hid hb.len
  obtain ⟨b, off, rfl, -⟩ := hb.at_ (by omega)
  have HC := Lib.hid (show ∀ X, Below w.heap.size w X → ∀ j, j < n → X.cell? ⟨b, off + j, none⟩ = some (.int .i64 (l.getD j 0)) from fun X hX j hj => by
    obtain ⟨b', off', e, hc⟩ := (hb.below hX).at_ (by omega)
    cases e
    exact hc j hj)
  clear hb
  go_enter Try.func33, Try.ntmps33
  go_wp2
  go_loopw [3, 8] (fun v i wr => ∃ (j : Nat) (L : List Int), j ≤ n ∧ i = .int .i64 j ∧ goTo l j = L ∧ OwnI .i64 3 wr w.heap.size v L ∧ Below w.heap.size w wr) (fun _ i _ => n - (intOf i).toNat)
  case atStart => exact ⟨0, [], by omega, rfl, rfl, OwnI.nil _ _ _ _, Below.refl _ _⟩
  case round =>
    obtain ⟨j, L, hj, rfl, hL, hown, hbw⟩ := hrel
    have HO := Lib.hid hown
    have HBW := Lib.hid hbw
    have hL8 : L.length ≤ 8 := by have := goTo_len l j; rw [hL] at this; omega
    by_cases hlt : j < n
    · have hlt2 : (j : Int) < n := by omega
      have q0 : 0 ≤ (j : Int) := by omega
      have z := HC.out wr hbw j hlt
      by_cases hx : l.getD j 0 = 0
      · rw [hx] at z
        have HN := Lib.hid (show goTo l (j + 1) = L by rw [goTo_no hx, hL])
        clear hx hL hown hbw
        go_wp2
        go_roundw
        case rel => exact ⟨j + 1, L, by omega, by go_num, HN.out, HO.out, HBW.out⟩
        case measure => simp [intOf]; omega
      · have HN := Lib.hid (show goTo l (j + 1) = L ++ [(j : Int)] by rw [goTo_yes hx, hL])
        obtain ⟨x, hxx⟩ : ∃ x, l.getD j 0 = x := ⟨_, rfl⟩
        rw [hxx] at z hx
        have e0 : (x != 0) = true := by rw [bne_iff_ne]; exact hx
        clear hx hxx hL hown hbw
        go_wp2_with (first
          | (at_builtin
             refine wpList_append_i rfl 22 3 .i64 8 _ _ rfl Try.underlying22 (by kernel_rfl) (by omega) w.heap.size u3 L rfl (HO.out.more _) _ 1 1 [(j : Int)] rfl (one_its .i64 3 _ (j : Int)) (by omega) (Nat.le_trans HBW.out.size (size_le_alloc _ _)) ?_
             intro v5 w6 hown5 hg5
             have hB5 : Below w.heap.size w w6 := (HBW.out.alloc HBW.out.size _).grown hg5 (Nat.le_trans HBW.out.size (size_le_alloc _ _)) (fun k hk => (HO.out.size k hk).1)
             clear hg5))
        go_roundw
        case rel => exact ⟨j + 1, L ++ [(j : Int)], by omega, by go_num, HN.out, hown5, hB5⟩
        case measure => simp [intOf]; omega
    · obtain rfl : j = n := by omega
      have hge : ¬ ((j : Int) < j) := by omega
      obtain ⟨B, k, d, rfl, hi⟩ := hown.its
      have HOF := Lib.hid (gof_any B k d L wr hi)
      have HN := Lib.hid hL
      clear hown hbw hL hi
      go_wp2_with (go_at_call 45; (with_reducible refine (HOF.out).mono ?_); rintro e w1 ⟨rfl, rfl⟩)
      go_ret
      exact ⟨by rw [HN.out]; rfl, HBW.out⟩
end Go.Proofs.Ytekmagpokcloaaa

/- The walk over lamp's Clash. -/
namespace Go.Proofs.Ytekmagpokcloaaa
set_option maxRecDepth 100000
set_option linter.unusedVariables false
set_option linter.unusedSimpArgs false
open Go.RowKit

set_option maxHeartbeats 8000000 in
theorem lclashp_any (p : Pl) (A : Option Addr) (n c : Nat) (l : List Int) (w : World) (hp : PlIn w p) (hb : Its .i64 w A n c l) : Calls Try.prog 20 #[plV p, .slice A n c] w fun e w' => e = .returned (.bool (clashR p l)) ∧ Below w.heap.size w w' := by
  have hsm := hb.small
  have hpm := hp.m.small
  have HL := Lib.hid hb.len
  have HML := Lib.hid hp.m.len
  obtain ⟨W0, hW0⟩ : ∃ W0, w.alloc (.cells #[.slice p.A p.n p.c, .slice p.B p.k p.d, .int .i64 p.am, .int .i64 p.rd, .int .i64 p.hd] 25) = W0 := ⟨_, rfl⟩
  have hB0 : Below w.heap.size w W0 := by rw [← hW0]; exact one_alloc w _
  have hp0 : PlIn W0 p := hp.below hB0
  have hb0 := hb.below hB0
  have hbp : BoxP W0 w.heap.size p := by rw [← hW0]; exact BoxP.new w p
  have HFT := Lib.hid (fun X (hX : Below W0.heap.size W0 X) => fit_any p X (hp0.below hX))
  have HMY := Lib.hid (show ∀ X, Below W0.heap.size W0 X → Calls Try.prog 17 #[.slice A n c] X fun e w' => e = .returned (.bool (mayR l)) ∧ Below X.heap.size X w' from fun X hX => (lmay_any A n c l X (hb0.below hX)).mono (fun e w' h => ⟨h.1, h.2 ▸ Below.refl _ _⟩))
  have HF := Lib.hid (show ∀ X, Below W0.heap.size W0 X → X.cell? ⟨w.heap.size, 0, none⟩ = some (.slice p.A p.n p.c) ∧ X.cell? ⟨w.heap.size, 1, none⟩ = some (.slice p.B p.k p.d) ∧ X.cell? ⟨w.heap.size, 2, none⟩ = some (.int .i64 p.am) ∧ X.cell? ⟨w.heap.size, 3, none⟩ = some (.int .i64 p.rd) ∧ X.cell? ⟨w.heap.size, 4, none⟩ = some (.int .i64 p.hd) from fun X hX => (hbp.below hX).cells)
  have HPI := Lib.hid hp0
  have HBI := Lib.hid hb0
  have HW := Lib.hid hW0
  have HB0 := Lib.hid hB0
  simp only [plV] at HFT ⊢
  clear hp hb hp0 hb0 hbp hW0 hB0
  cases hf : fitP p with
  | false =>
    rw [hf] at HFT
    have HR := Lib.hid (show clashR p l = false from clash_not fun h => by rw [hf] at h; cases h.1)
    clear hf
    go_enter Try.func20, Try.ntmps20
    go_wp2
    rw [HW.out]
    have hSd : Below W0.heap.size W0 W0.drew := (Below.refl _ W0).drew
    refine wp_region_held_drew (S := fun X => Below W0.heap.size W0 X) (by kernel_rfl) hSd (fun hHeld => ?_)
    refine tkS 0 (.agg #[.slice p.A p.n p.c, .slice p.B p.k p.d, .int .i64 p.am, .int .i64 p.rd, .int .i64 p.hd]) hHeld (fun w hq => ?_) ?_
    · obtain ⟨z0, z1, z2, z3, z4⟩ := HF.out w hq
      go_simp
    simp only [PT]
    refine one_step 1 (by kernel_rfl) rfl (fun Kq hKq => ?_)
    go_simp
    go_at_call 21
    (with_reducible refine (HFT.out _ hSd).mono ?_)
    rintro e y1 ⟨rfl, hbx⟩
    have hS1 : Below W0.heap.size W0 y1 := hSd.trans (hbx.mono hSd.size)
    clear hbx
    refine hKq.out _ _ hS1 (fun hHeld0 => ?_)
    clear hKq Kq hHeld
    have hHeld := hHeld0
    clear hHeld0
    try simp only [PT]
    refine tk 2 (.bool false) hHeld (fun w => ?_) ?_
    · go_simp
    simp only [PT]
    refine tkO 3 hHeld ?_
    simp only [PT]
    refine tkO 4 hHeld ?_
    simp only [PT]
    refine tkO 5 hHeld ?_
    simp only [PT]
    refine tkO 6 hHeld ?_
    simp only [PT]
    refine tkO 7 hHeld ?_
    simp only [PT]
    refine tkO 8 hHeld ?_
    simp only [PT]
    refine tk 9 (.bool false) hHeld (fun w => ?_) ?_
    · go_simp
    simp only [PT]
    refine tk 10 (.bool false) hHeld (fun w => ?_) ?_
    · go_simp
    simp only [PT]
    refine tkO 11 hHeld ?_
    simp only [PT]
    refine tkO 12 hHeld ?_
    simp only [PT]
    refine tk 13 (.bool false) hHeld (fun w => ?_) ?_
    · go_simp
    simp only [PT]
    refine tk 14 (.bool false) hHeld (fun w => ?_) ?_
    · go_simp
    simp only [PT]
    refine tkO 15 hHeld ?_
    simp only [PT]
    refine tkO 16 hHeld ?_
    simp only [PT]
    refine tkO 17 hHeld ?_
    simp only [PT]
    refine tkO 18 hHeld ?_
    simp only [PT]
    refine tkO 19 hHeld ?_
    simp only [PT]
    refine tkO 20 hHeld ?_
    simp only [PT]
    refine tk 21 (.bool false) hHeld (fun w => ?_) ?_
    · go_simp
    simp only [PT]
    refine tk 22 (.bool false) hHeld (fun w => ?_) ?_
    · go_simp
    simp only [PT]
    refine wpAnyH_done (by kernel_rfl) ?_ _
    clear hHeld
    go_wp2
    go_ret
    exact ⟨by rw [HR.out]; rfl, HB0.out.trans (hS1.mono HB0.out.size)⟩
  | true =>
    rw [hf] at HFT
    by_cases he : n = p.n
    · subst he
      cases hm : mayR l with
      | false =>
        rw [hm] at HMY
        have HR := Lib.hid (show clashR p l = false from clash_not fun h => by rw [hm] at h; cases h.2.1)
        clear hm hf
        go_enter Try.func20, Try.ntmps20
        go_wp2
        rw [HW.out]
        have hSd : Below W0.heap.size W0 W0.drew := (Below.refl _ W0).drew
        refine wp_region_held_drew (S := fun X => Below W0.heap.size W0 X) (by kernel_rfl) hSd (fun hHeld => ?_)
        refine tkS 0 (.agg #[.slice p.A p.n p.c, .slice p.B p.k p.d, .int .i64 p.am, .int .i64 p.rd, .int .i64 p.hd]) hHeld (fun w hq => ?_) ?_
        · obtain ⟨z0, z1, z2, z3, z4⟩ := HF.out w hq
          go_simp
        simp only [PT]
        refine one_step 1 (by kernel_rfl) rfl (fun Kq hKq => ?_)
        go_simp
        go_at_call 21
        (with_reducible refine (HFT.out _ hSd).mono ?_)
        rintro e y1 ⟨rfl, hbx⟩
        have hS1 : Below W0.heap.size W0 y1 := hSd.trans (hbx.mono hSd.size)
        clear hbx
        refine hKq.out _ _ hS1 (fun hHeld0 => ?_)
        clear hKq Kq hHeld
        have hHeld := hHeld0
        clear hHeld0
        try simp only [PT]
        refine tk 2 (.bool true) hHeld (fun w => ?_) ?_
        · go_simp
        simp only [PT]
        refine tk 3 (.slice A p.n c) hHeld (fun w => ?_) ?_
        · go_simp
        simp only [PT]
        refine tk 4 (.int .i64 (p.n : Int)) hHeld (fun w => ?_) ?_
        · go_simp
        simp only [PT]
        refine tk 5 (.pointer (some ⟨w.heap.size, 0, none⟩)) hHeld (fun w => ?_) ?_
        · go_simp
        simp only [PT]
        refine tkS 6 (.slice p.A p.n p.c) hHeld (fun w hq => ?_) ?_
        · obtain ⟨z0, z1, z2, z3, z4⟩ := HF.out w hq
          go_simp
        simp only [PT]
        refine tk 7 (.int .i64 (p.n : Int)) hHeld (fun w => ?_) ?_
        · go_simp
        simp only [PT]
        refine tk 8 (.bool true) hHeld (fun w => ?_) ?_
        · go_simp
        simp only [PT]
        refine tk 9 (.bool true) hHeld (fun w => ?_) ?_
        · go_simp
        simp only [PT]
        refine tk 10 (.bool true) hHeld (fun w => ?_) ?_
        · go_simp
        simp only [PT]
        refine tk 11 (.slice A p.n c) hHeld (fun w => ?_) ?_
        · go_simp
        simp only [PT]
        refine one_step 12 (by kernel_rfl) rfl (fun Kq hKq => ?_)
        go_simp
        go_at_call 17
        (with_reducible refine (HMY.out _ hS1).mono ?_)
        rintro e y2 ⟨rfl, hbx⟩
        have hS2 : Below W0.heap.size W0 y2 := hS1.trans (hbx.mono hS1.size)
        clear hbx
        refine hKq.out _ _ hS2 (fun hHeld0 => ?_)
        clear hKq Kq hHeld
        have hHeld := hHeld0
        clear hHeld0
        try simp only [PT]
        refine tk 13 (.bool false) hHeld (fun w => ?_) ?_
        · go_simp
        simp only [PT]
        refine tk 14 (.bool false) hHeld (fun w => ?_) ?_
        · go_simp
        simp only [PT]
        refine tkO 15 hHeld ?_
        simp only [PT]
        refine tkO 16 hHeld ?_
        simp only [PT]
        refine tkO 17 hHeld ?_
        simp only [PT]
        refine tkO 18 hHeld ?_
        simp only [PT]
        refine tkO 19 hHeld ?_
        simp only [PT]
        refine tkO 20 hHeld ?_
        simp only [PT]
        refine tk 21 (.bool false) hHeld (fun w => ?_) ?_
        · go_simp
        simp only [PT]
        refine tk 22 (.bool false) hHeld (fun w => ?_) ?_
        · go_simp
        simp only [PT]
        refine wpAnyH_done (by kernel_rfl) ?_ _
        clear hHeld
        go_wp2
        go_ret
        exact ⟨by rw [HR.out]; rfl, HB0.out.trans (hS2.mono HB0.out.size)⟩
      | true =>
        rw [hm] at HMY
        have hml := (may_iff.1 hm).1
        rw [HL.out] at hml
        have HR := Lib.hid (show clashR p l = !(freeM p.m (ofM (goTo l p.n))) by rw [clash_free hf hm (by rw [HL.out, HML.out]), HL.out])
        obtain ⟨s, hs⟩ : ∃ s, ofM (goTo l p.n) = s := ⟨_, rfl⟩
        have HGO := Lib.hid (fun X (hX : Below W0.heap.size W0 X) => going_any A p.n c l X (HBI.out.below hX) hml.1 hml.2)
        have HFR := Lib.hid (fun X (hX : Below W0.heap.size W0 X) => gfree_any p.A p.n p.c p.m s X (HPI.out.m.below hX))
        rw [hs] at HGO HR
        obtain ⟨T, hT⟩ : ∃ T, freeM p.m s = T := ⟨_, rfl⟩
        rw [hT] at HFR HR
        clear hm hf hml hs hT
        go_enter Try.func20, Try.ntmps20
        go_wp2
        rw [HW.out]
        have hSd : Below W0.heap.size W0 W0.drew := (Below.refl _ W0).drew
        refine wp_region_held_drew (S := fun X => Below W0.heap.size W0 X) (by kernel_rfl) hSd (fun hHeld => ?_)
        refine tkS 0 (.agg #[.slice p.A p.n p.c, .slice p.B p.k p.d, .int .i64 p.am, .int .i64 p.rd, .int .i64 p.hd]) hHeld (fun w hq => ?_) ?_
        · obtain ⟨z0, z1, z2, z3, z4⟩ := HF.out w hq
          go_simp
        simp only [PT]
        refine one_step 1 (by kernel_rfl) rfl (fun Kq hKq => ?_)
        go_simp
        go_at_call 21
        (with_reducible refine (HFT.out _ hSd).mono ?_)
        rintro e y1 ⟨rfl, hbx⟩
        have hS1 : Below W0.heap.size W0 y1 := hSd.trans (hbx.mono hSd.size)
        clear hbx
        refine hKq.out _ _ hS1 (fun hHeld0 => ?_)
        clear hKq Kq hHeld
        have hHeld := hHeld0
        clear hHeld0
        try simp only [PT]
        refine tk 2 (.bool true) hHeld (fun w => ?_) ?_
        · go_simp
        simp only [PT]
        refine tk 3 (.slice A p.n c) hHeld (fun w => ?_) ?_
        · go_simp
        simp only [PT]
        refine tk 4 (.int .i64 (p.n : Int)) hHeld (fun w => ?_) ?_
        · go_simp
        simp only [PT]
        refine tk 5 (.pointer (some ⟨w.heap.size, 0, none⟩)) hHeld (fun w => ?_) ?_
        · go_simp
        simp only [PT]
        refine tkS 6 (.slice p.A p.n p.c) hHeld (fun w hq => ?_) ?_
        · obtain ⟨z0, z1, z2, z3, z4⟩ := HF.out w hq
          go_simp
        simp only [PT]
        refine tk 7 (.int .i64 (p.n : Int)) hHeld (fun w => ?_) ?_
        · go_simp
        simp only [PT]
        refine tk 8 (.bool true) hHeld (fun w => ?_) ?_
        · go_simp
        simp only [PT]
        refine tk 9 (.bool true) hHeld (fun w => ?_) ?_
        · go_simp
        simp only [PT]
        refine tk 10 (.bool true) hHeld (fun w => ?_) ?_
        · go_simp
        simp only [PT]
        refine tk 11 (.slice A p.n c) hHeld (fun w => ?_) ?_
        · go_simp
        simp only [PT]
        refine one_step 12 (by kernel_rfl) rfl (fun Kq hKq => ?_)
        go_simp
        go_at_call 17
        (with_reducible refine (HMY.out _ hS1).mono ?_)
        rintro e y2 ⟨rfl, hbx⟩
        have hS2 : Below W0.heap.size W0 y2 := hS1.trans (hbx.mono hS1.size)
        clear hbx
        refine hKq.out _ _ hS2 (fun hHeld0 => ?_)
        clear hKq Kq hHeld
        have hHeld := hHeld0
        clear hHeld0
        try simp only [PT]
        refine tk 13 (.bool true) hHeld (fun w => ?_) ?_
        · go_simp
        simp only [PT]
        refine tk 14 (.bool true) hHeld (fun w => ?_) ?_
        · go_simp
        simp only [PT]
        refine tk 15 (.pointer (some ⟨w.heap.size, 0, none⟩)) hHeld (fun w => ?_) ?_
        · go_simp
        simp only [PT]
        refine tkS 16 (.slice p.A p.n p.c) hHeld (fun w hq => ?_) ?_
        · obtain ⟨z0, z1, z2, z3, z4⟩ := HF.out w hq
          go_simp
        simp only [PT]
        refine tk 17 (.slice A p.n c) hHeld (fun w => ?_) ?_
        · go_simp
        simp only [PT]
        refine one_step 18 (by kernel_rfl) rfl (fun Kq hKq => ?_)
        go_simp
        go_at_call 33
        (with_reducible refine (HGO.out _ hS2).mono ?_)
        rintro e y3 ⟨rfl, hbx⟩
        have hS3 : Below W0.heap.size W0 y3 := hS2.trans (hbx.mono hS2.size)
        clear hbx
        refine hKq.out _ _ hS3 (fun hHeld0 => ?_)
        clear hKq Kq hHeld
        have hHeld := hHeld0
        clear hHeld0
        try simp only [PT]
        refine one_step 19 (by kernel_rfl) rfl (fun Kq hKq => ?_)
        go_simp
        go_at_call 32
        (with_reducible refine (HFR.out _ hS3).mono ?_)
        rintro e y4 ⟨rfl, hbx⟩
        have hS4 : Below W0.heap.size W0 y4 := hS3.trans (hbx.mono hS3.size)
        clear hbx
        refine hKq.out _ _ hS4 (fun hHeld0 => ?_)
        clear hKq Kq hHeld
        have hHeld := hHeld0
        clear hHeld0
        try simp only [PT]
        refine tk 20 (.bool (!T)) hHeld (fun w => ?_) ?_
        · go_simp
        simp only [PT]
        refine tk 21 (.bool (!T)) hHeld (fun w => ?_) ?_
        · go_simp
        simp only [PT]
        refine tk 22 (.bool (!T)) hHeld (fun w => ?_) ?_
        · go_simp
        simp only [PT]
        refine wpAnyH_done (by kernel_rfl) ?_ _
        clear hHeld
        go_wp2
        go_ret
        exact ⟨by rw [HR.out]; rfl, HB0.out.trans (hS4.mono HB0.out.size)⟩
    · have hen : ¬ ((n : Int) = p.n) := by omega
      have hdn : ((n : Int) == p.n) = false := by rw [beq_eq_false_iff_ne]; exact hen
      have HR := Lib.hid (show clashR p l = false from clash_not fun h => by have := h.2.2.1; rw [HL.out, HML.out] at this; exact he this)
      clear hf he
      go_enter Try.func20, Try.ntmps20
      go_wp2
      rw [HW.out]
      have hSd : Below W0.heap.size W0 W0.drew := (Below.refl _ W0).drew
      refine wp_region_held_drew (S := fun X => Below W0.heap.size W0 X) (by kernel_rfl) hSd (fun hHeld => ?_)
      refine tkS 0 (.agg #[.slice p.A p.n p.c, .slice p.B p.k p.d, .int .i64 p.am, .int .i64 p.rd, .int .i64 p.hd]) hHeld (fun w hq => ?_) ?_
      · obtain ⟨z0, z1, z2, z3, z4⟩ := HF.out w hq
        go_simp
      simp only [PT]
      refine one_step 1 (by kernel_rfl) rfl (fun Kq hKq => ?_)
      go_simp
      go_at_call 21
      (with_reducible refine (HFT.out _ hSd).mono ?_)
      rintro e y1 ⟨rfl, hbx⟩
      have hS1 : Below W0.heap.size W0 y1 := hSd.trans (hbx.mono hSd.size)
      clear hbx
      refine hKq.out _ _ hS1 (fun hHeld0 => ?_)
      clear hKq Kq hHeld
      have hHeld := hHeld0
      clear hHeld0
      try simp only [PT]
      refine tk 2 (.bool true) hHeld (fun w => ?_) ?_
      · go_simp
      simp only [PT]
      refine tk 3 (.slice A n c) hHeld (fun w => ?_) ?_
      · go_simp
      simp only [PT]
      refine tk 4 (.int .i64 (n : Int)) hHeld (fun w => ?_) ?_
      · go_simp
      simp only [PT]
      refine tk 5 (.pointer (some ⟨w.heap.size, 0, none⟩)) hHeld (fun w => ?_) ?_
      · go_simp
      simp only [PT]
      refine tkS 6 (.slice p.A p.n p.c) hHeld (fun w hq => ?_) ?_
      · obtain ⟨z0, z1, z2, z3, z4⟩ := HF.out w hq
        go_simp
      simp only [PT]
      refine tk 7 (.int .i64 (p.n : Int)) hHeld (fun w => ?_) ?_
      · go_simp
      simp only [PT]
      refine tk 8 (.bool false) hHeld (fun w => ?_) ?_
      · go_simp
      simp only [PT]
      refine tk 9 (.bool false) hHeld (fun w => ?_) ?_
      · go_simp
      simp only [PT]
      refine tk 10 (.bool false) hHeld (fun w => ?_) ?_
      · go_simp
      simp only [PT]
      refine tkO 11 hHeld ?_
      simp only [PT]
      refine tkO 12 hHeld ?_
      simp only [PT]
      refine tk 13 (.bool false) hHeld (fun w => ?_) ?_
      · go_simp
      simp only [PT]
      refine tk 14 (.bool false) hHeld (fun w => ?_) ?_
      · go_simp
      simp only [PT]
      refine tkO 15 hHeld ?_
      simp only [PT]
      refine tkO 16 hHeld ?_
      simp only [PT]
      refine tkO 17 hHeld ?_
      simp only [PT]
      refine tkO 18 hHeld ?_
      simp only [PT]
      refine tkO 19 hHeld ?_
      simp only [PT]
      refine tkO 20 hHeld ?_
      simp only [PT]
      refine tk 21 (.bool false) hHeld (fun w => ?_) ?_
      · go_simp
      simp only [PT]
      refine tk 22 (.bool false) hHeld (fun w => ?_) ?_
      · go_simp
      simp only [PT]
      refine wpAnyH_done (by kernel_rfl) ?_ _
      clear hHeld
      go_wp2
      go_ret
      exact ⟨by rw [HR.out]; rfl, HB0.out.trans (hS1.mono HB0.out.size)⟩
end Go.Proofs.Ytekmagpokcloaaa

/- The walk over lamp's Show: a row of noughts, in which the stage's groups are marked. -/
namespace Go.Proofs.Ytekmagpokcloaaa
set_option maxRecDepth 100000
set_option linter.unusedVariables false
set_option linter.unusedSimpArgs false
open Go.RowKit

theorem Its.setCell {K : IntKind} {w : World} {A : Option Addr} {n c : Nat} {l : List Int} (h : Its K w A n c l) (q : Addr) (v : Value) (hne : ∀ b off, A = some ⟨b, off, none⟩ → b ≠ q.block) : Its K (w.setCell q v) A n c l := by
  refine ⟨h.len, h.le, h.max, h.bare, fun hn => ?_⟩
  obtain ⟨b, off, hA, hc⟩ := h.at_ hn
  refine ⟨b, off, hA, fun j hj => ?_⟩
  have hb := hne b off hA
  have e := Below.heap_setCell w q v b hb
  have := hc j hj
  simp only [World.cell?] at this ⊢
  rw [e]
  exact this
def marks (M : List Int) (n : Nat) (v : Int) : List Int := (List.range n).map fun g : Nat => if (g : Int) ∈ M then v else 0
theorem marks_nil (n : Nat) (v : Int) : marks [] n v = List.replicate n 0 := by
  apply List.ext_getElem?
  intro j
  simp only [marks, List.getElem?_map, List.getElem?_range, List.getElem?_replicate, List.not_mem_nil, if_false]
  by_cases hj : j < n
  · simp [hj]
  · simp [hj]
theorem marks_len (M : List Int) (n : Nat) (v : Int) : (marks M n v).length = n := by simp [marks]
theorem marks_next (M : List Int) (n i : Nat) (v : Int) (hi : i < n) : (marks M n v).set i v = marks (M ++ [(i : Int)]) n v := by
  apply List.ext_getElem?
  intro j
  by_cases hj : j < n
  · by_cases e : i = j
    · subst e
      simp [marks, hj, List.getElem?_set]
    · have e2 : ¬ ((j : Int) = (i : Int)) := by omega
      have e3 : ¬ (j = i) := fun h => e h.symm
      simp [marks, hj, List.getElem?_set, e, e2, e3]
  · rw [List.getElem?_eq_none (by rw [List.length_set, marks_len]; omega), List.getElem?_eq_none (by rw [marks_len]; omega)]
theorem marks_all (t n : Nat) (y : Int) (ht : t < 256) (hn : n ≤ 8) (hy : 0 ≤ y ∧ y < 3) : marks (listM (t : Int)) n (servI y) = showTo (t : Int) y n := by
  unfold marks showTo
  refine List.map_congr_left fun g hg => ?_
  rw [List.mem_range] at hg
  have hm : ((g : Int) ∈ listM (t : Int)) ↔ bitI (t : Int) g = true := by
    have := mem8 ⟨t, ht⟩ (g : Int)
    rw [this]
    constructor
    · rintro ⟨j, e, hb⟩
      have : g = j.val := by omega
      rw [this]; exact hb
    · intro hb
      exact ⟨⟨g, by omega⟩, rfl, hb⟩
  unfold lampP servI
  have hy3 : y = 0 ∨ y = 1 ∨ y = 2 := by omega
  by_cases hb : bitI (t : Int) g = true
  · rw [if_pos (hm.2 hb)]
    rcases hy3 with rfl | rfl | rfl <;> simp [hb]
  · rw [if_neg (fun h => hb (hm.1 h))]
    simp [hb]
theorem mark_at {t n j : Nat} (ht : t < 2 ^ n) (hn : n ≤ 8) (hj : j < (listM (t : Int)).length) : ∃ g : Nat, (listM (t : Int)).getD j 0 = (g : Int) ∧ g < n := by
  have h256 := pow_le hn
  have hm := getD_mem hj
  obtain ⟨g, e, hb⟩ := (mem8 ⟨t, by omega⟩ _).1 hm
  refine ⟨g.val, e, ?_⟩
  rw [bit_nat] at hb
  exact Nat.lt_of_not_le fun hle => by
    have h2 : t < 2 ^ g.val := Nat.lt_of_lt_of_le ht (Nat.pow_le_pow_right (by omega) hle)
    rw [Nat.testBit_lt_two_pow h2] at hb
    cases hb
set_option maxHeartbeats 8000000 in
theorem lshowp_own (p : Pl) (x y : Int) (w : World) (hp : PlIn w p) : Calls Try.prog 13 #[plV p, .int .i64 x, .int .i64 y] w (GivesO (showR p x y) w) := by
  have hsk := hp.s.small
  have hsm := hp.m.small
  have hSL := hp.s.len
  have hML := hp.m.len
  obtain ⟨W0, hW0⟩ : ∃ W0, w.alloc (.cells #[.slice p.A p.n p.c, .slice p.B p.k p.d, .int .i64 p.am, .int .i64 p.rd, .int .i64 p.hd] 25) = W0 := ⟨_, rfl⟩
  have hB0 : Below w.heap.size w W0 := by rw [← hW0]; exact one_alloc w _
  have hp0 : PlIn W0 p := hp.below hB0
  have hbp : BoxP W0 w.heap.size p := by rw [← hW0]; exact BoxP.new w p
  have HFT := Lib.hid (fit_any p W0 hp0)
  have HSV := Lib.hid (lserved_any y W0)
  simp only [plV] at HFT ⊢
  have HW := Lib.hid hW0
  have HB0 := Lib.hid hB0
  have HAC := Lib.hid (show ∀ X, Below W0.heap.size W0 X → X.cell? ⟨w.heap.size, 0, none⟩ = some (.slice p.A p.n p.c) ∧ X.cell? ⟨w.heap.size, 1, none⟩ = some (.slice p.B p.k p.d) ∧ X.cell? ⟨w.heap.size, 2, none⟩ = some (.int .i64 p.am) ∧ X.cell? ⟨w.heap.size, 3, none⟩ = some (.int .i64 p.rd) ∧ X.cell? ⟨w.heap.size, 4, none⟩ = some (.int .i64 p.hd) from fun X hX => (hbp.below hX).cells)
  have HSL := Lib.hid hSL
  have HML := Lib.hid hML
  have HP := Lib.hid (show ∀ X, Below W0.heap.size W0 X → PlIn X p from fun X hX => hp0.below hX)
  obtain ⟨a0, a1, a2, a3, a4⟩ := HAC.out W0 (Below.refl _ _)
  clear hW0 hB0 hbp hp hp0
  obtain ⟨V, hV⟩ : ∃ V, servI y = V := ⟨_, rfl⟩
  have hVn0 := serv_neg y
  have HVV := Lib.hid hV
  rw [hV] at HSV hVn0
  have HVN := Lib.hid hVn0
  clear hV hVn0
  cases hf : fitP p with
  | false =>
    rw [hf] at HFT
    have HR := Lib.hid (show showR p x y = [] from if_neg fun h => by rw [hf] at h; cases h.1)
    clear hf a0 a1 a2 a3 a4 hSL hML
    go_enter Try.func13, Try.ntmps13
    go_wp2_with (first
      | (go_at_call 24; rw [HW.out]; (with_reducible refine (HSV.out).mono ?_); rintro e w0 ⟨rfl, rfl⟩; obtain ⟨a0, a1, a2, a3, a4⟩ := HAC.out W0 (Below.refl _ _))
      | (go_at_call 21; (with_reducible refine (HFT.out).mono ?_); rintro e w1 ⟨rfl, hb1⟩; obtain ⟨c0, c1, c2, c3, c4⟩ := HAC.out _ hb1; have HB1 := Lib.hid hb1; clear hb1))
    go_ret
    exact ⟨none, 0, 0, rfl, by rw [HR.out]; exact OwnI.nil _ _ _ _, HB0.out.trans (HB1.out.mono HB0.out.size)⟩
  | true =>
    rw [hf] at HFT
    by_cases h1 : x < 0
    · have HR := Lib.hid (show showR p x y = [] from if_neg fun h => by omega)
      clear hf a0 a1 a2 a3 a4 hSL hML
      go_enter Try.func13, Try.ntmps13
      go_wp2_with (first
        | (go_at_call 24; rw [HW.out]; (with_reducible refine (HSV.out).mono ?_); rintro e w0 ⟨rfl, rfl⟩; obtain ⟨a0, a1, a2, a3, a4⟩ := HAC.out W0 (Below.refl _ _))
        | (go_at_call 21; (with_reducible refine (HFT.out).mono ?_); rintro e w1 ⟨rfl, hb1⟩; obtain ⟨c0, c1, c2, c3, c4⟩ := HAC.out _ hb1; have HB1 := Lib.hid hb1; clear hb1))
      go_ret
      exact ⟨none, 0, 0, rfl, by rw [HR.out]; exact OwnI.nil _ _ _ _, HB0.out.trans (HB1.out.mono HB0.out.size)⟩
    by_cases h2 : (p.k : Int) ≤ x
    · have HR := Lib.hid (show showR p x y = [] from if_neg fun h => by have := HSL.out; omega)
      clear hf a0 a1 a2 a3 a4 hSL hML
      go_enter Try.func13, Try.ntmps13
      go_wp2_with (first
        | (go_at_call 24; rw [HW.out]; (with_reducible refine (HSV.out).mono ?_); rintro e w0 ⟨rfl, rfl⟩; obtain ⟨a0, a1, a2, a3, a4⟩ := HAC.out W0 (Below.refl _ _))
        | (go_at_call 21; (with_reducible refine (HFT.out).mono ?_); rintro e w1 ⟨rfl, hb1⟩; obtain ⟨c0, c1, c2, c3, c4⟩ := HAC.out _ hb1; have HB1 := Lib.hid hb1; clear hb1))
      go_ret
      exact ⟨none, 0, 0, rfl, by rw [HR.out]; exact OwnI.nil _ _ _ _, HB0.out.trans (HB1.out.mono HB0.out.size)⟩
    by_cases h3 : V < 0
    · have HR := Lib.hid (show showR p x y = [] from if_neg fun h => HVN.out.1 h3 h.2.2)
      clear hf a0 a1 a2 a3 a4 hSL hML
      go_enter Try.func13, Try.ntmps13
      go_wp2_with (first
        | (go_at_call 24; rw [HW.out]; (with_reducible refine (HSV.out).mono ?_); rintro e w0 ⟨rfl, rfl⟩; obtain ⟨a0, a1, a2, a3, a4⟩ := HAC.out W0 (Below.refl _ _))
        | (go_at_call 21; (with_reducible refine (HFT.out).mono ?_); rintro e w1 ⟨rfl, hb1⟩; obtain ⟨c0, c1, c2, c3, c4⟩ := HAC.out _ hb1; have HB1 := Lib.hid hb1; clear hb1))
      go_ret
      exact ⟨none, 0, 0, rfl, by rw [HR.out]; exact OwnI.nil _ _ _ _, HB0.out.trans (HB1.out.mono HB0.out.size)⟩
    have hy : 0 ≤ y ∧ y < 3 := Classical.not_not.1 fun h => h3 (HVN.out.2 h)
    obtain ⟨st, rfl⟩ := Int.eq_ofNat_of_zero_le (show 0 ≤ x by omega)
    have hff := fit_iff.1 hf
    have lst : st < p.s.length := by have := HSL.out; omega
    have hR : showTo (p.s.getD st Stg.zero).g y p.m.length = showR p (st : Int) y := by rw [showR, if_pos ⟨hf, ⟨by omega, by omega⟩, hy⟩, Int.toNat_natCast, showTo]
    obtain ⟨R, hRR⟩ : ∃ R, showR p (st : Int) y = R := ⟨_, rfl⟩
    rw [hRR] at hR ⊢
    have hmem : p.s.getD st Stg.zero ∈ p.s := by rw [List.getD_eq_getElem?_getD, List.getElem?_eq_getElem lst]; exact List.getElem_mem lst
    obtain ⟨hfr, -⟩ := hff.stage _ hmem
    obtain ⟨t, ht, ht2⟩ := set_nat (free_iff.1 hfr).2.1
    obtain ⟨hn8, -⟩ := may_rows HML.out hff.may
    have hn1 := (may_all hff.may).1.1
    rw [HML.out] at hn1 ht2
    have h8 := pow_le hn8
    have ht3 : t < 256 := by omega
    rw [ht, HML.out] at hR
    have HR := Lib.hid (show marks (listM (t : Int)) p.n V = R by rw [← HVV.out, marks_all t p.n y ht3 hn8 hy, hR])
    have HLA := Lib.hid (fun j (hj : j < (listM (t : Int)).length) => mark_at (j := j) ht2 hn8 hj)
    have HG := Lib.hid (show ∀ X, Below W0.heap.size W0 X → ∃ b off, p.B = some ⟨b, off, none⟩ ∧ X.cell? ⟨b, off + st * 3, none⟩ = some (.int .i64 (t : Int)) from fun X hX => by
      obtain ⟨b, off, u, hA, hu, -, -, z0, -, -⟩ := (HP.out X hX).s.at_ st (by have := HSL.out; omega)
      rw [hu] at ht
      rw [ht] at z0
      exact ⟨b, off, hA, z0⟩)
    obtain ⟨sb, so, hsB, -⟩ := HG.out W0 (Below.refl _ _)
    have HG2 := Lib.hid (show ∀ X, Below W0.heap.size W0 X → X.cell? ⟨sb, so + st * 3, none⟩ = some (.int .i64 (t : Int)) from fun X hX => by
      obtain ⟨b, off, hA, z⟩ := HG.out X hX
      rw [hsB] at hA
      cases hA
      exact z)
    have est : ¬ ((p.k : Int) ≤ (st : Int)) := h2
    have st0 : 0 ≤ (st : Int) := by omega
    have stk : (st : Int) < p.k := by omega
    have stn : st < p.k := by omega
    have hl8 : (listM (t : Int)).length ≤ 8 := by rw [listM, if_pos ⟨by omega, by omega⟩, List.length_map]; exact Nat.le_trans (List.length_filter_le _ _) (by simp)
    obtain ⟨M, hM⟩ : ∃ M, listM (t : Int) = M := ⟨_, rfl⟩
    have HLI := Lib.hid (fun X => glist_own (t : Int) X)
    rw [hM] at HR HLA HLI hl8
    rw [hsB] at HAC
    clear hf hff hRR hR hmem hfr ht ht2 a0 a1 a2 a3 a4 hSL hML h1 h2 HG hM HVN HVV
    rw [hsB]
    rw [hsB] at HFT HW
    go_enter Try.func13, Try.ntmps13
    go_wp2_with (first
      | (go_at_call 24; rw [HW.out]; (with_reducible refine (HSV.out).mono ?_); rintro e w0 ⟨rfl, rfl⟩; obtain ⟨a0, a1, a2, a3, a4⟩ := HAC.out W0 (Below.refl _ _))
      | (go_at_call 21
         (with_reducible refine (HFT.out).mono ?_)
         rintro e w1 ⟨rfl, hb1⟩
         obtain ⟨c0, c1, c2, c3, c4⟩ := HAC.out _ hb1
         have HB1 := Lib.hid hb1
         obtain ⟨Y, hY⟩ : ∃ Y, w1.alloc (.cells #[.int .i64 0] 3) = Y := ⟨_, rfl⟩
         have hbY : Below W0.heap.size W0 Y := by rw [← hY]; exact hb1.alloc hb1.size _
         obtain ⟨d0, d1, d2, d3, d4⟩ := HAC.out _ (hb1.alloc hb1.size (.cells #[.int .i64 0] 3))
         have HBY := Lib.hid hbY
         have HRP := Lib.hid (repeat_any (some ⟨w1.heap.size, 0, none⟩) 1 p.n hn1 hn8 Y (by rw [← hY]; exact one_its .i64 3 w1 0))
         have HY := Lib.hid hY
         clear hb1 hY hbY)
      | (go_at_call 25
         rw [HY.out]
         (with_reducible refine (HRP.out).mono ?_)
         rintro e w3 ⟨rfl, hrow, hb3⟩
         have HB3 := Lib.hid (HBY.out.trans (hb3.mono HBY.out.size))
         obtain ⟨e0, e1, e2, e3, e4⟩ := HAC.out _ HB3.out
         have g0 := HG2.out _ HB3.out
         have HRW := Lib.hid hrow
         have HS3 := Lib.hid (show Y.heap.size < w3.heap.size from hrow.lt)
         clear hrow hb3)
      | (go_at_call 26
         (with_reducible refine (HLI.out _).mono ?_)
         rintro e w4 ⟨A4, n4, cp4, rfl, hown, hb4⟩
         have HB4 := Lib.hid (HB3.out.trans (hb4.mono HB3.out.size))
         have HRW4 := Lib.hid (HRW.out.below hb4)
         have HNE := Lib.hid (show ∀ b off, A4 = some ⟨b, off, none⟩ → b ≠ Y.heap.size from fun b off hA hE => by
           have := (hown.size b (by rw [hA]; rfl)).1
           have := HS3.out
           omega)
         obtain ⟨B5, k5, d5, hE5, hits⟩ := hown.its
         cases hE5
         have HIT := Lib.hid hits
         have hn4 : n4 ≤ 8 := by rw [← hits.len]; exact hl8
         have HN4 := Lib.hid hits.len
         clear hown hb4 hits))
    clear c0 c1 c2 c3 c4 d0 d1 d2 d3 d4 e0 e1 e2 e3 e4 g0
    have HML4 := Lib.hid (fun (k : Nat) => marks_len (M.take k) p.n V)
    go_loopw [44] (fun i wr => ∃ (j : Nat) (L : List Int), j ≤ n4 ∧ i = .int .i64 j ∧ marks (M.take j) p.n V = L ∧ RowL wr Y.heap.size L ∧ Its .i64 wr A4 n4 cp4 M ∧ Below W0.heap.size W0 wr) (fun i _ => n4 - (intOf i).toNat)
    case atStart => exact ⟨0, List.replicate p.n 0, by omega, rfl, by rw [List.take_zero, marks_nil], HRW4.out, HIT.out, HB4.out⟩
    case round =>
      obtain ⟨j, L, hj, rfl, hL, hrow, hit, hbw⟩ := hrel
      by_cases hlt : j < n4
      · have hlt2 : (j : Int) < n4 := by omega
        have q0 : 0 ≤ (j : Int) := by omega
        have hjl : j < M.length := by rw [HN4.out]; exact hlt
        obtain ⟨g, hg, hgn⟩ := HLA.out j hjl
        obtain ⟨b4, o4, hA4, hc⟩ := hit.at_ (by omega)
        have z := hc j hlt
        rw [hg] at z
        have hll : L.length = p.n := by rw [← hL]; exact HML4.out j
        have z1 := hrow.cell g (by omega)
        have z2 := hrow.frozen g
        have gi0 : 0 ≤ (g : Int) := by omega
        have gin : (g : Int) < p.n := by omega
        have hnx := marks_next (M.take j) p.n g V hgn
        have htk : M.take (j + 1) = M.take j ++ [(g : Int)] := by
          rw [List.take_succ_eq_append_getElem hjl]
          rw [← hg]
          simp [List.getD_eq_getElem?_getD, hjl]
        rw [← htk, hL] at hnx
        have HNX := Lib.hid hnx.symm
        have HRS := Lib.hid (hrow.set g V)
        have HIS := Lib.hid (hit.setCell ⟨Y.heap.size, g, none⟩ (.int .i64 V) (fun b off e => HNE.out b off e))
        have HBS := Lib.hid (hbw.setCell (p := ⟨Y.heap.size, g, none⟩) HBY.out.size (.int .i64 V))
        have HA4 := Lib.hid hA4
        obtain ⟨u, hu⟩ : ∃ u, L.getD g 0 = u := ⟨_, rfl⟩
        rw [hu] at z1
        rw [hA4]
        clear hL hrow hit hbw hc hg hnx htk hu hA4
        go_wp2
        go_roundw
        case rel => exact ⟨j + 1, L.set g V, by omega, by go_num, HNX.out.symm ▸ rfl, HRS.out, (by rw [← HA4.out]; exact HIS.out), HBS.out⟩
        case measure => simp [intOf]; omega
      · obtain rfl : j = n4 := by omega
        have hge : ¬ ((j : Int) < j) := by omega
        have hLR : L = R := by rw [← hL, List.take_of_length_le (by rw [HN4.out]; exact Nat.le_refl _)]; exact HR.out
        have hll : L.length = p.n := by rw [← hL]; exact HML4.out j
        have hown := hrow.own HBY.out.size (by omega)
        rw [hll, hLR] at hown
        have HO := Lib.hid hown
        have HBW := Lib.hid hbw
        clear hL hrow hit hbw hLR hll hown
        go_wp2
        go_ret
        exact ⟨_, _, _, rfl, HO.out.mono HB0.out.size, HB0.out.trans (HBW.out.mono HB0.out.size)⟩
end Go.Proofs.Ytekmagpokcloaaa

/- Package lamp's calls, and plan's Fit: all that the laws stand on. -/
namespace Go.Proofs.Ytekmagpokcloaaa
set_option maxRecDepth 100000
set_option linter.unusedVariables false
set_option linter.unusedSimpArgs false
open Go.RowKit

theorem fitOk : FitOk where
  fit := fun p X h _ _ => fit_any p X h
theorem lmpOk : LmpOk where
  shows := fun p x y X h _ _ => (lshowp_own p x y X h).mono fun _ _ g => g.gives
  may := fun A n c l X h _ => (lmay_any A n c l X h).mono fun _ _ g => ⟨g.1, g.2 ▸ Below.refl _ _⟩
  text := fun A n c l X h _ => ltext_any A n c l X h
  read := fun s X _ => lread_any s X
  clash := fun p A n c l X h hb _ _ _ => lclashp_any p A n c l X h hb
end Go.Proofs.Ytekmagpokcloaaa
