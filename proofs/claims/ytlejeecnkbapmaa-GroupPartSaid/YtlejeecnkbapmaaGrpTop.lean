/- Package group's calls: Against, Free, List, Of, Sets; with May they are all that the laws stand on. -/
import Derived.Test.YtlejeecnkbapmaaGrpOwnP
import Derived.Test.YtlejeecnkbapmaaGrpMay
import Derived.Test.YtlejeecnkbapmaaGrpGather
import Derived.Test.YtlejeecnkbapmaaGrpAwake
namespace Go.Proofs.Ytlejeecnkbapmaa
set_option maxRecDepth 100000
set_option linter.unusedVariables false
set_option linter.unusedSimpArgs false
open Go.RowKit Go.Shelf

set_option maxHeartbeats 2000000 in
theorem gagainst_any (A : Option Addr) (n c : Nat) (m : List Int) (s : Int) (w : World) (hit : Its .i64 w A n c m) :
    Calls Try.prog 18 #[.slice A n c, .int .i64 s] w fun e w' => e = .returned (.int .i64 (againstM m s)) ∧ Below w.heap.size w w' := by
  have HL := Lib.hid hit.len
  have HMY := Lib.hid (gmay_any A n c m w hit)
  cases hm : mayM m with
  | false =>
    rw [hm] at HMY
    have HR := Lib.hid (against_bad (s := s) (.inl hm))
    clear hm hit
    go_enter Try.func18, Try.ntmps18
    go_wp2_with (go_at_call 16; (with_reducible refine (HMY.out).mono ?_); rintro e w1 ⟨rfl, hb1⟩; have HB1 := Lib.hid hb1; clear hb1)
    go_ret
    exact ⟨by rw [HR.out]; rfl, HB1.out⟩
  | true =>
    rw [hm] at HMY
    obtain ⟨hn8, hrow⟩ := may_rows hit.len hm
    have h8 := pow_le hn8
    have HIS := Lib.hid (fun X => isSet_any s n hn8 X)
    by_cases hs : 0 ≤ s ∧ s < ((2 ^ n : Nat) : Int)
    · obtain ⟨t, rfl⟩ := Int.eq_ofNat_of_zero_le hs.1
      have ht : t < 2 ^ n := by omega
      rw [decide_eq_true hs] at HIS
      have HR := Lib.hid (show againstM m (t : Int) = ((orN m (listTo t 8) : Nat) : Int) by
        rw [against_some hm (by rw [HL.out]; exact ht), over_is hm (by rw [HL.out]; exact ht)])
      have HOV := Lib.hid (fun (X : World) (hX : Below w.heap.size w X) => over_any A n c m t X (hit.below hX) (fun i hi => ⟨(hrow i hi).1, by have := (hrow i hi).2; omega⟩) (by omega) ht)
      obtain ⟨O, hO⟩ : ∃ O : Int, ((orN m (listTo t 8) : Nat) : Int) = O := ⟨_, rfl⟩
      rw [hO] at HR HOV
      clear hm hit hrow hs ht hO
      go_enter Try.func18, Try.ntmps18
      go_wp2_with (first
        | (go_at_call 16; (with_reducible refine (HMY.out).mono ?_); rintro e w1 ⟨rfl, hb1⟩; have HB1 := Lib.hid hb1; clear hb1)
        | (go_at_call 25; (with_reducible refine (HIS.out _).mono ?_); rintro e w2 ⟨rfl, rfl⟩)
        | (go_at_call 24; (with_reducible refine (HOV.out _ HB1.out).mono ?_); rintro e w3 ⟨rfl, hb3⟩; have HB3 := Lib.hid (HB1.out.trans (hb3.mono HB1.out.size)); clear hb3))
      go_ret
      exact ⟨by rw [HR.out]; rfl, HB3.out⟩
    · rw [decide_eq_false hs] at HIS
      have HR := Lib.hid (against_bad (m := m) (s := s) (.inr (by rw [HL.out]; omega)))
      clear hm hit hrow hs
      go_enter Try.func18, Try.ntmps18
      go_wp2_with (first
        | (go_at_call 16; (with_reducible refine (HMY.out).mono ?_); rintro e w1 ⟨rfl, hb1⟩; have HB1 := Lib.hid hb1; clear hb1)
        | (go_at_call 25; (with_reducible refine (HIS.out _).mono ?_); rintro e w2 ⟨rfl, rfl⟩))
      go_ret
      exact ⟨by rw [HR.out]; rfl, HB1.out⟩
theorem against_cases (m : List Int) (s : Int) : (againstM m s = -1 ∧ freeM m s = false) ∨ ∃ f t : Nat, againstM m s = f ∧ s = t ∧ f < 256 ∧ t < 256 ∧ freeM m s = decide (t &&& f = 0) := by
  by_cases h : mayM m = true ∧ setM m s
  · obtain ⟨hm, hs⟩ := h
    obtain ⟨t, rfl, ht⟩ := set_nat hs
    obtain ⟨⟨-, h8⟩, -, -⟩ := may_all hm
    have h256 := pow_le h8
    refine .inr ⟨_, t, against_some hm ht, rfl, Nat.lt_of_lt_of_le (sumN_lt _ _) h256, by omega, ?_⟩
    rw [free_against hm ht, Nat.and_comm]
  · refine .inl ⟨if_neg h, decide_eq_false fun hh => h ⟨hh.1, hh.2.1⟩⟩
set_option maxHeartbeats 2000000 in
theorem gfree_any (A : Option Addr) (n c : Nat) (m : List Int) (s : Int) (w : World) (hit : Its .i64 w A n c m) :
    Calls Try.prog 17 #[.slice A n c, .int .i64 s] w fun e w' => e = .returned (.bool (freeM m s)) ∧ Below w.heap.size w w' := by
  have HAG := Lib.hid (gagainst_any A n c m s w hit)
  clear hit
  rcases against_cases m s with ⟨h1, h2⟩ | ⟨f, t, h1, rfl, hf, ht, h2⟩
  · rw [h1] at HAG
    rw [h2]
    clear h1 h2
    go_enter Try.func17, Try.ntmps17
    go_wp2_with (go_at_call 18; (with_reducible refine (HAG.out).mono ?_); rintro e w1 ⟨rfl, hb1⟩; have HB1 := Lib.hid hb1; clear hb1)
    go_ret
    exact ⟨rfl, HB1.out⟩
  · rw [h1] at HAG
    have hand := and_set t f (by omega) (by omega)
    have h0 : (0 : Int) ≤ (f : Int) := by omega
    obtain ⟨g, hg⟩ : ∃ g : Nat, t &&& f = g := ⟨_, rfl⟩
    rw [hg] at hand h2
    rw [h2]
    clear h1 h2 hg
    go_enter Try.func17, Try.ntmps17
    go_wp2_with (go_at_call 18; (with_reducible refine (HAG.out).mono ?_); rintro e w1 ⟨rfl, hb1⟩; have HB1 := Lib.hid hb1; clear hb1)
    go_ret
    refine ⟨?_, HB1.out⟩
    have e : ((g : Int) == 0) = decide (g = 0) := by rw [Bool.eq_iff_iff, beq_iff_eq, decide_eq_true_iff]; omega
    rw [← e]
    rfl
set_option maxHeartbeats 2000000 in
theorem glist_any (s : Int) (w : World) : Calls Try.prog 14 #[.int .i64 s] w (GivesL (listM s) w) := by
  have HIS := Lib.hid (show ∀ X : World, Calls Try.prog 25 #[.int .i64 s, .int .i64 8] X fun e w' => e = .returned (.bool (decide (0 ≤ s ∧ s < ((2 ^ 8 : Nat) : Int)))) ∧ X = w' from fun X => isSet_any s 8 (by omega) X)
  by_cases hs : 0 ≤ s ∧ s < ((2 ^ 8 : Nat) : Int)
  · rw [decide_eq_true hs] at HIS
    obtain ⟨t, rfl⟩ := Int.eq_ofNat_of_zero_le hs.1
    have ht : t < 256 := by omega
    have hla := list_all ht
    have hll := list_len t 8
    have HCO := Lib.hid (show ∀ X : World, Calls Try.prog 26 #[.func (.func 30) #[] #[.pointer (some ⟨X.heap.size, 0, none⟩)]] (X.alloc (.cells #[.int .i64 (t : Int)] 3)) (GivesL (listM (t : Int)) (X.alloc (.cells #[.int .i64 (t : Int)] 3))) from fun X => by
      have hg := gather_any 30 #[.pointer (some ⟨X.heap.size, 0, none⟩)] (listTo t 8) X.heap.size [X.heap.size] (X.alloc (.cells #[.int .i64 (t : Int)] 3)) (by omega) (by simp) (fun b hb => by simp only [List.mem_cons, List.not_mem_nil, or_false] at hb; simp; omega) (enters_of Try.func30 (by kernel_rfl) rfl)
        (groups_hands t ht X.heap.size X.heap.size _ (Boxed.new X 3 (.int .i64 (t : Int))))
      rw [hla] at hg
      obtain ⟨Y, hY⟩ : ∃ Y, X.alloc (.cells #[.int .i64 (t : Int)] 3) = Y := ⟨_, rfl⟩
      rw [hY] at hg ⊢
      have HG := Lib.hid hg
      clear hg hla hll hY hs
      go_enter Try.func26, Try.ntmps26
      go_wp2_with (go_at_call 29; (with_reducible refine (HG.out).mono ?_); rintro e w1 ⟨A1, n1, c1, rfl, hit1, hb1⟩; have HB1 := Lib.hid hb1; have HI1 := Lib.hid hit1; clear hb1 hit1)
      go_ret
      exact ⟨_, _, _, rfl, HI1.out, HB1.out⟩)
    clear hs hla hll ht
    go_enter Try.func14, Try.ntmps14
    go_wp2_with (first
      | (go_at_call 25; (with_reducible refine (HIS.out _).mono ?_); rintro e w2 ⟨rfl, rfl⟩)
      | (go_at_call 27; (with_reducible refine (groups_any _ _).mono ?_); rintro e w2 ⟨rfl, rfl⟩)
      | (go_at_call 26; (with_reducible refine (HCO.out _).mono ?_); rintro e w1 ⟨A1, n1, c1, rfl, hit1, hb1⟩; have HB1 := Lib.hid hb1; have HI1 := Lib.hid hit1; clear hb1 hit1))
    go_ret
    exact ⟨_, _, _, rfl, HI1.out, (one_alloc w _).trans (HB1.out.mono (size_le_alloc _ _))⟩
  · rw [decide_eq_false hs] at HIS
    have HR := Lib.hid (show listM s = [] by rw [listM, if_neg (by omega)])
    clear hs
    go_enter Try.func14, Try.ntmps14
    go_wp2_with (go_at_call 25; (with_reducible refine (HIS.out _).mono ?_); rintro e w2 ⟨rfl, rfl⟩)
    go_ret
    exact ⟨none, 0, 0, rfl, by rw [HR.out]; exact Its.nil _ _, Below.refl _ _⟩
theorem of_low {t i : Nat} (ht : t < 256) (hi : i < 8) (h : t.testBit i = false) : t ||| 2 ^ i = t + 2 ^ i := by
  have := or_pow8 ⟨t, ht⟩ ⟨i, hi⟩
  simp only [h, Bool.false_eq_true, if_false] at this
  exact this
set_option maxHeartbeats 2000000 in
theorem gof_any (A : Option Addr) (n c : Nat) (l : List Int) (w : World) (hb : Its .i64 w A n c l) : Calls Try.prog 20 #[.slice A n c] w fun e w' => e = .returned (.int .i64 (ofM l)) ∧ w = w' := by
  have hsm := hb.small
  have HL := Lib.hid hb.len
  go_enter Try.func20, Try.ntmps20
  go_wp2
  go_loop [3, 8] (fun o i => ∃ (j t : Nat), j ≤ n ∧ i = .int .i64 j ∧ o = .int .i64 (t : Int) ∧ t < 256 ∧ ofF (l.drop j) (t : Int) = ofM l) (fun _ i => n - (intOf i).toNat)
  case atStart => exact ⟨0, 0, by omega, rfl, rfl, by omega, by rw [List.drop_zero]; rfl⟩
  case round =>
    obtain ⟨j, t, hj, rfl, rfl, ht, hof⟩ := hrel
    by_cases hlt : j < n
    · obtain ⟨b, off, rfl, hc⟩ := hb.at_ (by omega)
      have hcj := hc j hlt
      obtain ⟨x, hx⟩ : ∃ x, l.getD j 0 = x := ⟨_, rfl⟩
      rw [hx] at hcj
      rw [of_next (by rw [HL.out]; exact hlt) hx] at hof
      have q0 : 0 ≤ (j : Int) := by omega
      have q1 : (j : Int) < n := by omega
      clear hc hx
      by_cases h1 : x < 0
      · rw [if_pos (.inl h1)] at hof
        have HR := Lib.hid hof
        clear hof
        go_wp2
        go_ret
        exact ⟨by rw [← HR.out]; rfl, rfl⟩
      · by_cases h2 : 8 ≤ x
        · rw [if_pos (.inr (by omega))] at hof
          have HR := Lib.hid hof
          clear hof
          go_wp2
          go_ret
          exact ⟨by rw [← HR.out]; rfl, rfl⟩
        · rw [if_neg (by omega)] at hof
          obtain ⟨y, rfl⟩ := Int.eq_ofNat_of_zero_le (show 0 ≤ x by omega)
          rw [Int.toNat_natCast, bit_nat] at hof
          have HI1 := Lib.hid (fun X => has_any t y ht (by omega) X)
          cases hm : t.testBit y
          · rw [hm] at HI1 hof
            simp only [Bool.false_eq_true, if_false] at hof
            obtain ⟨m1, -, -⟩ := more8 ⟨t, ht⟩ ⟨y, by omega⟩ (by rw [bit_nat]; exact hm)
            simp only at m1
            have e : (t : Int) + 2 ^ y = ((t + 2 ^ y : Nat) : Int) := by simp
            rw [e] at hof
            have HM := Lib.hid m1
            have hor := or_set t (2 ^ y) (by omega) (by omega)
            rw [of_low ht (by omega) hm] at hor
            have ep : (2 : Int) ^ y = ((2 ^ y : Nat) : Int) := pow_int y
            have hpos : 0 < 2 ^ y := Nat.pow_pos (by omega)
            obtain ⟨P, hP⟩ : ∃ P : Nat, 2 ^ y = P := ⟨_, rfl⟩
            rw [hP] at ep hof m1 HM hor hpos
            have hw : wrap64 ((2 : Int) ^ y) = (P : Int) := by rw [ep]; unfold wrap64; omega
            have HR := Lib.hid hof
            clear hof hm e m1 ep hP hpos
            go_wp2_with (go_at_call 28; (with_reducible refine (HI1.out _).mono ?_); rintro e w1 ⟨rfl, rfl⟩)
            go_round
            case rel => exact ⟨j + 1, t + P, by omega, by go_num, by go_num, HM.out, HR.out⟩
            case measure => simp [intOf]; omega
          · rw [hm] at HI1 hof
            simp only [if_true] at hof
            have HR := Lib.hid hof
            clear hof hm
            go_wp2_with (go_at_call 28; (with_reducible refine (HI1.out _).mono ?_); rintro e w1 ⟨rfl, rfl⟩)
            go_ret
            exact ⟨by rw [← HR.out]; rfl, rfl⟩
    · obtain rfl : j = n := by omega
      rw [List.drop_eq_nil_of_le (by rw [HL.out]; exact Nat.le_refl _)] at hof
      have HR := Lib.hid hof
      clear hof
      go_wp2
      go_ret
      exact ⟨by rw [← HR.out]; rfl, rfl⟩
set_option maxHeartbeats 2000000 in
theorem osets_any (A : Option Addr) (n c : Nat) (m : List Int) (w : World) (hb : Its .i64 w A n c m) : Calls Try.prog 12 #[.slice A n c] w (GivesL (setsM m) w) := by
  have hsm := hb.small
  have HL := Lib.hid hb.len
  have HMZ := Lib.hid (gmay_any A n c m w hb)
  cases hm : mayM m with
  | false =>
    rw [hm] at HMZ
    have HR := Lib.hid (show setsM m = [] by rw [setsM, if_neg (by rw [hm]; simp)])
    clear hb hm
    go_enter Try.func12, Try.ntmps12
    go_wp2_with (go_at_call 16; (with_reducible refine (HMZ.out).mono ?_); rintro e w1 ⟨rfl, hb1⟩; have HB1 := Lib.hid hb1; clear hb1)
    go_ret
    exact ⟨none, 0, 0, rfl, by rw [HR.out]; exact Its.nil _ _, HB1.out⟩
  | true =>
    rw [hm] at HMZ
    obtain ⟨hn8, hrow⟩ := may_rows hb.len hm
    have HSE := Lib.hid (show setsTo m (2 ^ n) = setsM m by rw [setsM, if_pos hm, HL.out, setsTo])
    have h256 := pow_le hn8
    have HAG := Lib.hid (fun (t : Nat) (ht : t < 2 ^ n) (X : World) (hX : Below w.heap.size w X) => over_any A n c m t X (hb.below hX) (fun i hi => ⟨(hrow i hi).1, by have := (hrow i hi).2; omega⟩) (by omega) ht)
    have HMO := Lib.hid (fun (t : Nat) (ht : t < 2 ^ n) => show mostM m (t : Int) = decide (orN m (listTo t 8) = 2 ^ n - 1 - t) by
      rw [over_is hm (by rw [HL.out]; exact ht), most_against hm (by rw [HL.out]; exact ht), HL.out])
    have ep : (2 : Int) ^ n = ((2 ^ n : Nat) : Int) := pow_int n
    have hpos : 0 < 2 ^ n := Nat.pow_pos (by omega)
    obtain ⟨N2, hN2⟩ : ∃ x, 2 ^ n = x := ⟨_, rfl⟩
    rw [hN2] at HSE h256 HAG HMO ep hpos
    have hw : wrap64 ((2 : Int) ^ n) = (N2 : Int) := by rw [ep]; unfold wrap64; omega
    clear hb hrow hN2 hm ep hpos
    go_enter Try.func12, Try.ntmps12
    go_wp2_with (go_at_call 16; (with_reducible refine (HMZ.out).mono ?_); rintro e w1 ⟨rfl, hb1⟩; have HB1 := Lib.hid hb1; clear hb1)
    simp only [hw]
    go_loopw [3, 14] (fun v i wr => ∃ (t : Nat) (L : List Int), t ≤ N2 ∧ i = .int .i64 t ∧ L = setsTo m t ∧ OwnI .i64 3 wr w.heap.size v L ∧ Below w.heap.size w wr) (fun _ i _ => N2 - (intOf i).toNat)
    case atStart => exact ⟨0, [], by omega, rfl, rfl, OwnI.nil _ _ _ _, HB1.out⟩
    case round =>
      obtain ⟨t, L, ht, rfl, hL, hown, hB⟩ := hrel
      have HLL := Lib.hid hL
      have HB2 := Lib.hid hB
      have HO := Lib.hid hown
      have hLl : L.length ≤ 256 := by rw [hL]; exact Nat.le_trans (sets_len m t) (by omega)
      clear hL hown hB
      by_cases hlt : t < N2
      · have hlt2 : (t : Int) < N2 := by omega
        have HF1 := Lib.hid (HAG.out t hlt wr HB2.out)
        have hmo := HMO.out t hlt
        have hnx := sets_next m t
        rw [← HLL.out, hmo] at hnx
        have hsub : (N2 : Int) - 1 - (t : Int) = ((N2 - 1 - t : Nat) : Int) := by omega
        obtain ⟨O, hO⟩ : ∃ O, orN m (listTo t 8) = O := ⟨_, rfl⟩
        obtain ⟨R, hR⟩ : ∃ R, N2 - 1 - t = R := ⟨_, rfl⟩
        rw [hO] at HF1 hnx
        rw [hR] at hsub hnx
        clear hmo hO hR
        by_cases hor : O = R
        · have hq : ((O : Int) == (N2 : Int) - 1 - t) = true := by rw [beq_iff_eq]; omega
          subst hor
          have HZ := Lib.hid (show L ++ [(t : Int)] = setsTo m (t + 1) by rw [hnx]; simp)
          clear hnx hsub
          go_wp2_with (first
            | (go_at_call 24
               (with_reducible refine (HF1.out).mono ?_)
               rintro e w2 ⟨rfl, hbx⟩
               have HO2 := Lib.hid (HO.out.below hbx)
               have HB3 := Lib.hid (HB2.out.trans (hbx.mono HB2.out.size))
               clear hbx)
            | (at_builtin
               refine wpList_append_i rfl 22 3 .i64 8 _ _ rfl Try.underlying22 (by kernel_rfl) (by omega) w.heap.size u3 L rfl (HO2.out.more _) _ 1 1 [(t : Int)] rfl (one_its .i64 3 _ (t : Int)) (by omega) (Nat.le_trans HB3.out.size (size_le_alloc _ _)) ?_
               intro v5 w6 hown5 hg5
               have hB5 : Below w.heap.size w w6 := (HB3.out.alloc HB3.out.size _).grown hg5 (Nat.le_trans HB3.out.size (size_le_alloc _ _)) (fun k hk => (HO2.out.size k hk).1)
               clear hg5))
          go_roundw
          case rel => exact ⟨t + 1, L ++ [(t : Int)], by omega, by go_num, HZ.out, hown5, hB5⟩
          case measure => simp [intOf]; omega
        · have HZ := Lib.hid (show L = setsTo m (t + 1) by rw [hnx]; simp [hor])
          have hq : ((O : Int) == (N2 : Int) - 1 - t) = false := by rw [beq_eq_false_iff_ne]; omega
          clear hnx hsub
          go_wp2_with (first | (go_at_call 24
                                (with_reducible refine (HF1.out).mono ?_)
                                rintro e w2 ⟨rfl, hbx⟩
                                have HO2 := Lib.hid (HO.out.below hbx)
                                have HB3 := Lib.hid (HB2.out.trans (hbx.mono HB2.out.size))
                                clear hbx))
          go_roundw
          case rel => exact ⟨t + 1, L, by omega, by go_num, HZ.out, HO2.out, HB3.out⟩
          case measure => simp [intOf]; omega
      · obtain rfl : t = N2 := by omega
        have htk : L = setsM m := by rw [HLL.out, HSE.out]
        have hown := HO.out
        rw [htk] at hown
        obtain ⟨B, k, d, rfl, hits⟩ := hown.its
        have h0 : ¬ ((t : Int) < t) := by omega
        clear htk HLL HO hlt ht hLl
        go_wp2
        go_ret
        exact ⟨_, _, _, rfl, hits, HB2.out⟩
/-- package group does what the laws stand on -/
theorem grpOk : GrpOk where
  may := fun A n c m X h _ => gmay_any A n c m X h
  free := fun A n c m s X h _ => gfree_any A n c m s X h
  against := fun A n c m s X h _ => gagainst_any A n c m s X h
  sets := fun A n c m X h _ => osets_any A n c m X h
  list := fun s X => glist_any s X
  of := fun A n c l X h _ => (gof_any A n c l X h).mono fun e w' ⟨h1, h2⟩ => ⟨h1, by rw [← h2]; exact Below.refl _ _⟩
end Go.Proofs.Ytlejeecnkbapmaa
