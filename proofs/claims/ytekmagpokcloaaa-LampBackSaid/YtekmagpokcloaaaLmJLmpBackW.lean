/- The walk over the law LampBack. -/
import Derived.Test.YtekmagpokcloaaaLmJD
import Derived.Test.YtekmagpokcloaaaLmJC
namespace Go.Proofs.Ytekmagpokcloaaa
set_option maxRecDepth 100000
set_option linter.unusedVariables false
set_option linter.unusedSimpArgs false
open Go.RowKit

theorem text_may {l : List Int} (h : mayR l = true) : textR l = txt l := if_pos h
theorem text_bad {l : List Int} (h : mayR l = false) : textR l = ⟨#[]⟩ := if_neg (by rw [h]; simp)
theorem read_text {l : List Int} (h : mayR l = true) : readR (textR l) = (l, true) := by
  rw [text_may h, readR, lamps_txt (may_iff.1 h).2, if_pos h]
theorem text_same {l k : List Int} (hl : mayR l = true) (hk : mayR k = true) : ((textR k).toList == (textR l).toList) = (l == k) := by
  rw [bytes_eq, text_may hl, text_may hk, Bool.eq_iff_iff, decide_eq_true_iff, beq_iff_eq]
  constructor
  · intro h
    have := congrArg lampsOf h
    rw [lamps_txt (may_iff.1 hl).2, lamps_txt (may_iff.1 hk).2] at this
    exact this.symm
  · rintro rfl; rfl
theorem read_none : readR ⟨#[]⟩ = ([], false) := by decide +kernel
set_option maxHeartbeats 8000000 in
theorem lback_any (HO : LmpOk) (A : Option Addr) (n c : Nat) (l : List Int) (B : Option Addr) (m d : Nat) (k : List Int) (s : ByteArray) (w : World) (hl : Its .i64 w A n c l) (hk : Its .i64 w B m d k) :
    Calls Try.prog 4 #[.slice A n c, .slice B m d, .string s] w fun e w' => e = .returned (.bool true) ∧ Below w.heap.size w w' := by
  have hnn := hl.small
  have hmm := hk.small
  have HLL := Lib.hid hl.len
  have HKL := Lib.hid hk.len
  have HLB := Lib.hid (show ∀ X, Below w.heap.size w X → Its .i64 X A n c l from fun X hX => hl.below hX)
  have HKB := Lib.hid (show ∀ X, Below w.heap.size w X → Its .i64 X B m d k from fun X hX => hk.below hX)
  have HAW := Lib.hid (lawake_any HO w)
  clear hl hk
  by_cases h1 : 20 < n
  · have h1a : (20 : Int) < n := by omega
    go_enter Try.func4, Try.ntmps4
    go_wp2_with (first
      | (go_at_call 8
         (with_reducible refine (HAW.out).mono ?_)
         rintro e w1 ⟨rfl, hbx⟩
         have HX1 := Lib.hid hbx
         clear hbx))
    go_ret
    exact ⟨rfl, HX1.out⟩
  have h1a : ¬ (20 : Int) < n := by omega
  by_cases h2 : 20 < m
  · have h2a : (20 : Int) < m := by omega
    go_enter Try.func4, Try.ntmps4
    go_wp2_with (first
      | (go_at_call 8
         (with_reducible refine (HAW.out).mono ?_)
         rintro e w1 ⟨rfl, hbx⟩
         have HX1 := Lib.hid hbx
         clear hbx))
    go_ret
    exact ⟨rfl, HX1.out⟩
  have h2a : ¬ (20 : Int) < m := by omega
  by_cases h3 : 40 < s.size
  · have h3a : (40 : Int) < s.size := by omega
    go_enter Try.func4, Try.ntmps4
    go_wp2_with (first
      | (go_at_call 8
         (with_reducible refine (HAW.out).mono ?_)
         rintro e w1 ⟨rfl, hbx⟩
         have HX1 := Lib.hid hbx
         clear hbx))
    go_ret
    exact ⟨rfl, HX1.out⟩
  have h3a : ¬ (40 : Int) < s.size := by omega
  have HIT := Lib.hid (show ∀ (A1 B1 : Option Addr) (n1 c1 m1 d1 : Nat) (a b : List Int) (X : World), Its .i64 X A1 n1 c1 a → Its .i64 X B1 m1 d1 b → Calls Try.prog 12 #[.slice A1 n1 c1, .slice B1 m1 d1] X fun e w' => e = .returned (.bool (a == b)) ∧ Below X.heap.size X w' from fun A1 B1 n1 c1 m1 d1 a b X h1 h2 => (ints_any A1 B1 n1 c1 m1 d1 a b X h1 h2).mono fun e w' ⟨he, j, hw⟩ => ⟨he, by subst hw; exact below_drewN (Below.refl _ _) _⟩)
  have HML := Lib.hid (fun X hX => HO.may A n c l X (HLB.out X hX) (by omega))
  have HMK := Lib.hid (fun X hX => HO.may B m d k X (HKB.out X hX) (by omega))
  have HTL := Lib.hid (fun X hX => HO.text A n c l X (HLB.out X hX) (by omega))
  have HTK := Lib.hid (fun X hX => HO.text B m d k X (HKB.out X hX) (by omega))
  have HRS := Lib.hid (fun X => HO.read s X (by omega))
  obtain ⟨LK, hLK⟩ : ∃ x, (l == k) = x := ⟨_, rfl⟩
  have HIK := Lib.hid (fun X hX hY => HIT.out A B n c m d l k X (HLB.out X hX) (HKB.out X hY))
  rw [hLK] at HIK
  -- what a text reads as
  have HSC : (∃ L, readR s = (L, true) ∧ mayR L = true ∧ textR L = s ∧ L.length ≤ 8) ∨ readR s = ([], false) := by
    cases hm : mayR (lampsOf s) with
    | true => exact .inl ⟨lampsOf s, if_pos hm, hm, by rw [text_may hm, txt_lamps hm], (may_iff.1 hm).1.2⟩
    | false => exact .inr (if_neg (by rw [hm]; simp))
  cases hml : mayR l with
  | false =>
    rw [hml] at HML
    rw [text_bad hml] at HTL
    have HRT := Lib.hid (fun X => HO.read ⟨#[]⟩ X (by decide))
    rw [read_none] at HRT
    obtain ⟨S1, hS1⟩ : ∃ x, (([] : List Int) == l) = x := ⟨_, rfl⟩
    have HIX := Lib.hid (fun A3 n3 c3 X h3 hX => HIT.out A3 A n3 c3 n c [] l X h3 (HLB.out X hX))
    rw [hS1] at HIX
    clear hml hS1 hLK
    rcases HSC with ⟨L, hr, hmL, htL, hL8⟩ | hr
    · rw [hr] at HRS
      have HMY := Lib.hid (fun A n c X hI hn => HO.may A n c L X hI hn)
      have HTY := Lib.hid (fun A n c X hI hn => HO.text A n c L X hI hn)
      rw [hmL] at HMY
      rw [htL] at HTY
      clear hr hmL htL
      go_enter Try.func4, Try.ntmps4
      go_wp2_with (first
        | (go_at_call 8
           (with_reducible refine (HAW.out).mono ?_)
           rintro e w1 ⟨rfl, hbx⟩
           have HX1 := Lib.hid hbx
           clear hbx)
        | (go_at_call 18
           (with_reducible refine (HTL.out _ HX1.out).mono ?_)
           rintro e w2 ⟨rfl, hbx⟩
           have HX2 := Lib.hid (HX1.out.trans (hbx.mono HX1.out.size))
           clear hbx)
        | (go_at_call 10
           (with_reducible refine (HRT.out _).mono ?_)
           rintro e w3 ⟨A3, n3, c3, rfl, hi3, hbx⟩
           have HX3 := Lib.hid (HX2.out.trans (hbx.mono HX2.out.size))
           have HI3 := Lib.hid hi3
           clear hi3
           clear hbx)
        | (go_at_call 12
           (with_reducible refine (HIX.out A3 n3 c3 _ HI3.out HX3.out).mono ?_)
           rintro e w4 ⟨rfl, hbx⟩
           have HX4 := Lib.hid (HX3.out.trans (hbx.mono HX3.out.size))
           clear hbx)
        | (go_at_call 12
           (with_reducible refine (HIK.out _ HX4.out HX4.out).mono ?_)
           rintro e w5 ⟨rfl, hbx⟩
           have HX5 := Lib.hid (HX4.out.trans (hbx.mono HX4.out.size))
           clear hbx)
        | (go_at_call 17
           (with_reducible refine (HML.out _ HX5.out).mono ?_)
           rintro e w6 ⟨rfl, hbx⟩
           have HX6 := Lib.hid (HX5.out.trans (hbx.mono HX5.out.size))
           clear hbx)
        | (go_at_call 17
           (with_reducible refine (HML.out _ HX6.out).mono ?_)
           rintro e w7 ⟨rfl, hbx⟩
           have HX7 := Lib.hid (HX6.out.trans (hbx.mono HX6.out.size))
           clear hbx)
        | (go_at_call 17
           (with_reducible refine (HML.out _ HX7.out).mono ?_)
           rintro e w8 ⟨rfl, hbx⟩
           have HX8 := Lib.hid (HX7.out.trans (hbx.mono HX7.out.size))
           clear hbx)
        | (go_at_call 10
           (with_reducible refine (HRS.out _).mono ?_)
           rintro e w11 ⟨A11, n11, c11, rfl, hi11, hbx⟩
           have HX11 := Lib.hid (HX8.out.trans (hbx.mono HX8.out.size))
           have hn11 : n11 ≤ 1000 := by have e1 : L.length = n11 := hi11.len; omega
           have HI11 := Lib.hid hi11
           clear hi11
           clear hbx)
        | (go_at_call 17
           (with_reducible refine (HMY.out A11 n11 c11 _ HI11.out hn11).mono ?_)
           rintro e w12 ⟨rfl, hbx⟩
           have HX12 := Lib.hid (HX11.out.trans (hbx.mono HX11.out.size))
           have HI11 := Lib.hid (HI11.out.below hbx)
           clear hbx)
        | (go_at_call 18
           (with_reducible refine (HTY.out A11 n11 c11 _ HI11.out hn11).mono ?_)
           rintro e w13 ⟨rfl, hbx⟩
           have HX13 := Lib.hid (HX12.out.trans (hbx.mono HX12.out.size))
           clear hbx))
      go_ret
      exact ⟨rfl, HX13.out⟩
    · rw [hr] at HRS
      clear hr
      go_enter Try.func4, Try.ntmps4
      go_wp2_with (first
        | (go_at_call 8
           (with_reducible refine (HAW.out).mono ?_)
           rintro e w1 ⟨rfl, hbx⟩
           have HX1 := Lib.hid hbx
           clear hbx)
        | (go_at_call 18
           (with_reducible refine (HTL.out _ HX1.out).mono ?_)
           rintro e w2 ⟨rfl, hbx⟩
           have HX2 := Lib.hid (HX1.out.trans (hbx.mono HX1.out.size))
           clear hbx)
        | (go_at_call 10
           (with_reducible refine (HRT.out _).mono ?_)
           rintro e w3 ⟨A3, n3, c3, rfl, hi3, hbx⟩
           have HX3 := Lib.hid (HX2.out.trans (hbx.mono HX2.out.size))
           have HI3 := Lib.hid hi3
           clear hi3
           clear hbx)
        | (go_at_call 12
           (with_reducible refine (HIX.out A3 n3 c3 _ HI3.out HX3.out).mono ?_)
           rintro e w4 ⟨rfl, hbx⟩
           have HX4 := Lib.hid (HX3.out.trans (hbx.mono HX3.out.size))
           clear hbx)
        | (go_at_call 12
           (with_reducible refine (HIK.out _ HX4.out HX4.out).mono ?_)
           rintro e w5 ⟨rfl, hbx⟩
           have HX5 := Lib.hid (HX4.out.trans (hbx.mono HX4.out.size))
           clear hbx)
        | (go_at_call 17
           (with_reducible refine (HML.out _ HX5.out).mono ?_)
           rintro e w6 ⟨rfl, hbx⟩
           have HX6 := Lib.hid (HX5.out.trans (hbx.mono HX5.out.size))
           clear hbx)
        | (go_at_call 17
           (with_reducible refine (HML.out _ HX6.out).mono ?_)
           rintro e w7 ⟨rfl, hbx⟩
           have HX7 := Lib.hid (HX6.out.trans (hbx.mono HX6.out.size))
           clear hbx)
        | (go_at_call 17
           (with_reducible refine (HML.out _ HX7.out).mono ?_)
           rintro e w8 ⟨rfl, hbx⟩
           have HX8 := Lib.hid (HX7.out.trans (hbx.mono HX7.out.size))
           clear hbx)
        | (go_at_call 10
           (with_reducible refine (HRS.out _).mono ?_)
           rintro e w11 ⟨A11, n11, c11, rfl, hi11, hbx⟩
           have HX11 := Lib.hid (HX8.out.trans (hbx.mono HX8.out.size))
           obtain rfl : n11 = 0 := hi11.len.symm
           clear hi11
           clear hbx))
      go_ret
      exact ⟨rfl, HX11.out⟩
  | true =>
    rw [hml] at HML
    have hts : (textR l).size = n := by rw [text_may hml, txt_size, HLL.out]
    have hn0 : 1 ≤ n := by have := (may_iff.1 hml).1.1; rw [HLL.out] at this; exact this
    have HRT := Lib.hid (fun X => HO.read (textR l) X (by omega))
    rw [read_text hml] at HRT
    have HIX := Lib.hid (fun A3 n3 c3 X h3 hX => HIT.out A3 A n3 c3 n c l l X h3 (HLB.out X hX))
    rw [beq_self_eq_true] at HIX
    have HSM := Lib.hid (fun hk => text_same (k := k) hml hk)
    obtain ⟨T, hT⟩ : ∃ x, textR l = x := ⟨_, rfl⟩
    simp only [hT] at HTL HRT hts HSM
    have ht0 : ¬ T.size = 0 := by omega
    have te := not_empty ht0
    have tn := empty_ne ht0
    have tn2 : (T.toList == ({ data := #[] } : ByteArray).toList) = false := by rw [Bool.beq_comm]; exact tn
    have hti : ((T.size : Nat) : Int) = (n : Int) := by omega
    clear hml hT
    cases hmk : mayR k with
    | false =>
      rw [hmk] at HMK
      clear hmk hLK HSM
      rcases HSC with ⟨L, hr, hmL, htL, hL8⟩ | hr
      · rw [hr] at HRS
        have HMY := Lib.hid (fun A n c X hI hn => HO.may A n c L X hI hn)
        have HTY := Lib.hid (fun A n c X hI hn => HO.text A n c L X hI hn)
        rw [hmL] at HMY
        rw [htL] at HTY
        clear hr hmL htL
        go_enter Try.func4, Try.ntmps4
        go_wp2_with (first
          | (go_at_call 8
             (with_reducible refine (HAW.out).mono ?_)
             rintro e w1 ⟨rfl, hbx⟩
             have HX1 := Lib.hid hbx
             clear hbx)
          | (go_at_call 18
             (with_reducible refine (HTL.out _ HX1.out).mono ?_)
             rintro e w2 ⟨rfl, hbx⟩
             have HX2 := Lib.hid (HX1.out.trans (hbx.mono HX1.out.size))
             clear hbx)
          | (go_at_call 10
             (with_reducible refine (HRT.out _).mono ?_)
             rintro e w3 ⟨A3, n3, c3, rfl, hi3, hbx⟩
             have HX3 := Lib.hid (HX2.out.trans (hbx.mono HX2.out.size))
             have HI3 := Lib.hid hi3
             clear hi3
             clear hbx)
          | (go_at_call 12
             (with_reducible refine (HIX.out A3 n3 c3 _ HI3.out HX3.out).mono ?_)
             rintro e w4 ⟨rfl, hbx⟩
             have HX4 := Lib.hid (HX3.out.trans (hbx.mono HX3.out.size))
             clear hbx)
          | (go_at_call 12
             (with_reducible refine (HIK.out _ HX4.out HX4.out).mono ?_)
             rintro e w5 ⟨rfl, hbx⟩
             have HX5 := Lib.hid (HX4.out.trans (hbx.mono HX4.out.size))
             clear hbx)
          | (go_at_call 17
             (with_reducible refine (HML.out _ HX5.out).mono ?_)
             rintro e w6 ⟨rfl, hbx⟩
             have HX6 := Lib.hid (HX5.out.trans (hbx.mono HX5.out.size))
             clear hbx)
          | (go_at_call 17
             (with_reducible refine (HML.out _ HX6.out).mono ?_)
             rintro e w7 ⟨rfl, hbx⟩
             have HX7 := Lib.hid (HX6.out.trans (hbx.mono HX6.out.size))
             clear hbx)
          | (go_at_call 17
             (with_reducible refine (HML.out _ HX7.out).mono ?_)
             rintro e w8 ⟨rfl, hbx⟩
             have HX8 := Lib.hid (HX7.out.trans (hbx.mono HX7.out.size))
             clear hbx)
          | (go_at_call 17
             (with_reducible refine (HMK.out _ HX8.out).mono ?_)
             rintro e w9 ⟨rfl, hbx⟩
             have HX9 := Lib.hid (HX8.out.trans (hbx.mono HX8.out.size))
             clear hbx)
          | (go_at_call 10
             (with_reducible refine (HRS.out _).mono ?_)
             rintro e w11 ⟨A11, n11, c11, rfl, hi11, hbx⟩
             have HX11 := Lib.hid (HX9.out.trans (hbx.mono HX9.out.size))
             have hn11 : n11 ≤ 1000 := by have e1 : L.length = n11 := hi11.len; omega
             have HI11 := Lib.hid hi11
             clear hi11
             clear hbx)
          | (go_at_call 17
             (with_reducible refine (HMY.out A11 n11 c11 _ HI11.out hn11).mono ?_)
             rintro e w12 ⟨rfl, hbx⟩
             have HX12 := Lib.hid (HX11.out.trans (hbx.mono HX11.out.size))
             have HI11 := Lib.hid (HI11.out.below hbx)
             clear hbx)
          | (go_at_call 18
             (with_reducible refine (HTY.out A11 n11 c11 _ HI11.out hn11).mono ?_)
             rintro e w13 ⟨rfl, hbx⟩
             have HX13 := Lib.hid (HX12.out.trans (hbx.mono HX12.out.size))
             clear hbx))
        go_ret
        exact ⟨rfl, HX13.out⟩
      · rw [hr] at HRS
        clear hr
        go_enter Try.func4, Try.ntmps4
        go_wp2_with (first
          | (go_at_call 8
             (with_reducible refine (HAW.out).mono ?_)
             rintro e w1 ⟨rfl, hbx⟩
             have HX1 := Lib.hid hbx
             clear hbx)
          | (go_at_call 18
             (with_reducible refine (HTL.out _ HX1.out).mono ?_)
             rintro e w2 ⟨rfl, hbx⟩
             have HX2 := Lib.hid (HX1.out.trans (hbx.mono HX1.out.size))
             clear hbx)
          | (go_at_call 10
             (with_reducible refine (HRT.out _).mono ?_)
             rintro e w3 ⟨A3, n3, c3, rfl, hi3, hbx⟩
             have HX3 := Lib.hid (HX2.out.trans (hbx.mono HX2.out.size))
             have HI3 := Lib.hid hi3
             clear hi3
             clear hbx)
          | (go_at_call 12
             (with_reducible refine (HIX.out A3 n3 c3 _ HI3.out HX3.out).mono ?_)
             rintro e w4 ⟨rfl, hbx⟩
             have HX4 := Lib.hid (HX3.out.trans (hbx.mono HX3.out.size))
             clear hbx)
          | (go_at_call 12
             (with_reducible refine (HIK.out _ HX4.out HX4.out).mono ?_)
             rintro e w5 ⟨rfl, hbx⟩
             have HX5 := Lib.hid (HX4.out.trans (hbx.mono HX4.out.size))
             clear hbx)
          | (go_at_call 17
             (with_reducible refine (HML.out _ HX5.out).mono ?_)
             rintro e w6 ⟨rfl, hbx⟩
             have HX6 := Lib.hid (HX5.out.trans (hbx.mono HX5.out.size))
             clear hbx)
          | (go_at_call 17
             (with_reducible refine (HML.out _ HX6.out).mono ?_)
             rintro e w7 ⟨rfl, hbx⟩
             have HX7 := Lib.hid (HX6.out.trans (hbx.mono HX6.out.size))
             clear hbx)
          | (go_at_call 17
             (with_reducible refine (HML.out _ HX7.out).mono ?_)
             rintro e w8 ⟨rfl, hbx⟩
             have HX8 := Lib.hid (HX7.out.trans (hbx.mono HX7.out.size))
             clear hbx)
          | (go_at_call 17
             (with_reducible refine (HMK.out _ HX8.out).mono ?_)
             rintro e w9 ⟨rfl, hbx⟩
             have HX9 := Lib.hid (HX8.out.trans (hbx.mono HX8.out.size))
             clear hbx)
          | (go_at_call 10
             (with_reducible refine (HRS.out _).mono ?_)
             rintro e w11 ⟨A11, n11, c11, rfl, hi11, hbx⟩
             have HX11 := Lib.hid (HX9.out.trans (hbx.mono HX9.out.size))
             obtain rfl : n11 = 0 := hi11.len.symm
             clear hi11
             clear hbx))
        go_ret
        exact ⟨rfl, HX11.out⟩
    | true =>
      rw [hmk] at HMK
      have hsm := HSM.out hmk
      rw [hLK] at hsm
      obtain ⟨U, hU⟩ : ∃ x, textR k = x := ⟨_, rfl⟩
      rw [hU] at hsm HTK
      clear hmk hLK hU HSM
      cases LK
      · rcases HSC with ⟨L, hr, hmL, htL, hL8⟩ | hr
        · rw [hr] at HRS
          have HMY := Lib.hid (fun A n c X hI hn => HO.may A n c L X hI hn)
          have HTY := Lib.hid (fun A n c X hI hn => HO.text A n c L X hI hn)
          rw [hmL] at HMY
          rw [htL] at HTY
          clear hr hmL htL
          go_enter Try.func4, Try.ntmps4
          go_wp2_with (first
            | (go_at_call 8
               (with_reducible refine (HAW.out).mono ?_)
               rintro e w1 ⟨rfl, hbx⟩
               have HX1 := Lib.hid hbx
               clear hbx)
            | (go_at_call 18
               (with_reducible refine (HTL.out _ HX1.out).mono ?_)
               rintro e w2 ⟨rfl, hbx⟩
               have HX2 := Lib.hid (HX1.out.trans (hbx.mono HX1.out.size))
               clear hbx)
            | (go_at_call 10
               (with_reducible refine (HRT.out _).mono ?_)
               rintro e w3 ⟨A3, n3, c3, rfl, hi3, hbx⟩
               have HX3 := Lib.hid (HX2.out.trans (hbx.mono HX2.out.size))
               have HI3 := Lib.hid hi3
               clear hi3
               clear hbx)
            | (go_at_call 12
               (with_reducible refine (HIX.out A3 n3 c3 _ HI3.out HX3.out).mono ?_)
               rintro e w4 ⟨rfl, hbx⟩
               have HX4 := Lib.hid (HX3.out.trans (hbx.mono HX3.out.size))
               clear hbx)
            | (go_at_call 12
               (with_reducible refine (HIK.out _ HX4.out HX4.out).mono ?_)
               rintro e w5 ⟨rfl, hbx⟩
               have HX5 := Lib.hid (HX4.out.trans (hbx.mono HX4.out.size))
               clear hbx)
            | (go_at_call 17
               (with_reducible refine (HML.out _ HX5.out).mono ?_)
               rintro e w6 ⟨rfl, hbx⟩
               have HX6 := Lib.hid (HX5.out.trans (hbx.mono HX5.out.size))
               clear hbx)
            | (go_at_call 17
               (with_reducible refine (HML.out _ HX6.out).mono ?_)
               rintro e w7 ⟨rfl, hbx⟩
               have HX7 := Lib.hid (HX6.out.trans (hbx.mono HX6.out.size))
               clear hbx)
            | (go_at_call 17
               (with_reducible refine (HML.out _ HX7.out).mono ?_)
               rintro e w8 ⟨rfl, hbx⟩
               have HX8 := Lib.hid (HX7.out.trans (hbx.mono HX7.out.size))
               clear hbx)
            | (go_at_call 17
               (with_reducible refine (HMK.out _ HX8.out).mono ?_)
               rintro e w9 ⟨rfl, hbx⟩
               have HX9 := Lib.hid (HX8.out.trans (hbx.mono HX8.out.size))
               clear hbx)
            | (go_at_call 18
               (with_reducible refine (HTK.out _ HX9.out).mono ?_)
               rintro e w10 ⟨rfl, hbx⟩
               have HX10 := Lib.hid (HX9.out.trans (hbx.mono HX9.out.size))
               clear hbx)
            | (go_at_call 10
               (with_reducible refine (HRS.out _).mono ?_)
               rintro e w11 ⟨A11, n11, c11, rfl, hi11, hbx⟩
               have HX11 := Lib.hid (HX10.out.trans (hbx.mono HX10.out.size))
               have hn11 : n11 ≤ 1000 := by have e1 : L.length = n11 := hi11.len; omega
               have HI11 := Lib.hid hi11
               clear hi11
               clear hbx)
            | (go_at_call 17
               (with_reducible refine (HMY.out A11 n11 c11 _ HI11.out hn11).mono ?_)
               rintro e w12 ⟨rfl, hbx⟩
               have HX12 := Lib.hid (HX11.out.trans (hbx.mono HX11.out.size))
               have HI11 := Lib.hid (HI11.out.below hbx)
               clear hbx)
            | (go_at_call 18
               (with_reducible refine (HTY.out A11 n11 c11 _ HI11.out hn11).mono ?_)
               rintro e w13 ⟨rfl, hbx⟩
               have HX13 := Lib.hid (HX12.out.trans (hbx.mono HX12.out.size))
               clear hbx))
          go_ret
          exact ⟨rfl, HX13.out⟩
        · rw [hr] at HRS
          clear hr
          go_enter Try.func4, Try.ntmps4
          go_wp2_with (first
            | (go_at_call 8
               (with_reducible refine (HAW.out).mono ?_)
               rintro e w1 ⟨rfl, hbx⟩
               have HX1 := Lib.hid hbx
               clear hbx)
            | (go_at_call 18
               (with_reducible refine (HTL.out _ HX1.out).mono ?_)
               rintro e w2 ⟨rfl, hbx⟩
               have HX2 := Lib.hid (HX1.out.trans (hbx.mono HX1.out.size))
               clear hbx)
            | (go_at_call 10
               (with_reducible refine (HRT.out _).mono ?_)
               rintro e w3 ⟨A3, n3, c3, rfl, hi3, hbx⟩
               have HX3 := Lib.hid (HX2.out.trans (hbx.mono HX2.out.size))
               have HI3 := Lib.hid hi3
               clear hi3
               clear hbx)
            | (go_at_call 12
               (with_reducible refine (HIX.out A3 n3 c3 _ HI3.out HX3.out).mono ?_)
               rintro e w4 ⟨rfl, hbx⟩
               have HX4 := Lib.hid (HX3.out.trans (hbx.mono HX3.out.size))
               clear hbx)
            | (go_at_call 12
               (with_reducible refine (HIK.out _ HX4.out HX4.out).mono ?_)
               rintro e w5 ⟨rfl, hbx⟩
               have HX5 := Lib.hid (HX4.out.trans (hbx.mono HX4.out.size))
               clear hbx)
            | (go_at_call 17
               (with_reducible refine (HML.out _ HX5.out).mono ?_)
               rintro e w6 ⟨rfl, hbx⟩
               have HX6 := Lib.hid (HX5.out.trans (hbx.mono HX5.out.size))
               clear hbx)
            | (go_at_call 17
               (with_reducible refine (HML.out _ HX6.out).mono ?_)
               rintro e w7 ⟨rfl, hbx⟩
               have HX7 := Lib.hid (HX6.out.trans (hbx.mono HX6.out.size))
               clear hbx)
            | (go_at_call 17
               (with_reducible refine (HML.out _ HX7.out).mono ?_)
               rintro e w8 ⟨rfl, hbx⟩
               have HX8 := Lib.hid (HX7.out.trans (hbx.mono HX7.out.size))
               clear hbx)
            | (go_at_call 17
               (with_reducible refine (HMK.out _ HX8.out).mono ?_)
               rintro e w9 ⟨rfl, hbx⟩
               have HX9 := Lib.hid (HX8.out.trans (hbx.mono HX8.out.size))
               clear hbx)
            | (go_at_call 18
               (with_reducible refine (HTK.out _ HX9.out).mono ?_)
               rintro e w10 ⟨rfl, hbx⟩
               have HX10 := Lib.hid (HX9.out.trans (hbx.mono HX9.out.size))
               clear hbx)
            | (go_at_call 10
               (with_reducible refine (HRS.out _).mono ?_)
               rintro e w11 ⟨A11, n11, c11, rfl, hi11, hbx⟩
               have HX11 := Lib.hid (HX10.out.trans (hbx.mono HX10.out.size))
               obtain rfl : n11 = 0 := hi11.len.symm
               clear hi11
               clear hbx))
          go_ret
          exact ⟨rfl, HX11.out⟩
      · rcases HSC with ⟨L, hr, hmL, htL, hL8⟩ | hr
        · rw [hr] at HRS
          have HMY := Lib.hid (fun A n c X hI hn => HO.may A n c L X hI hn)
          have HTY := Lib.hid (fun A n c X hI hn => HO.text A n c L X hI hn)
          rw [hmL] at HMY
          rw [htL] at HTY
          clear hr hmL htL
          go_enter Try.func4, Try.ntmps4
          go_wp2_with (first
            | (go_at_call 8
               (with_reducible refine (HAW.out).mono ?_)
               rintro e w1 ⟨rfl, hbx⟩
               have HX1 := Lib.hid hbx
               clear hbx)
            | (go_at_call 18
               (with_reducible refine (HTL.out _ HX1.out).mono ?_)
               rintro e w2 ⟨rfl, hbx⟩
               have HX2 := Lib.hid (HX1.out.trans (hbx.mono HX1.out.size))
               clear hbx)
            | (go_at_call 10
               (with_reducible refine (HRT.out _).mono ?_)
               rintro e w3 ⟨A3, n3, c3, rfl, hi3, hbx⟩
               have HX3 := Lib.hid (HX2.out.trans (hbx.mono HX2.out.size))
               have HI3 := Lib.hid hi3
               clear hi3
               clear hbx)
            | (go_at_call 12
               (with_reducible refine (HIX.out A3 n3 c3 _ HI3.out HX3.out).mono ?_)
               rintro e w4 ⟨rfl, hbx⟩
               have HX4 := Lib.hid (HX3.out.trans (hbx.mono HX3.out.size))
               clear hbx)
            | (go_at_call 12
               (with_reducible refine (HIK.out _ HX4.out HX4.out).mono ?_)
               rintro e w5 ⟨rfl, hbx⟩
               have HX5 := Lib.hid (HX4.out.trans (hbx.mono HX4.out.size))
               clear hbx)
            | (go_at_call 17
               (with_reducible refine (HML.out _ HX5.out).mono ?_)
               rintro e w6 ⟨rfl, hbx⟩
               have HX6 := Lib.hid (HX5.out.trans (hbx.mono HX5.out.size))
               clear hbx)
            | (go_at_call 17
               (with_reducible refine (HML.out _ HX6.out).mono ?_)
               rintro e w7 ⟨rfl, hbx⟩
               have HX7 := Lib.hid (HX6.out.trans (hbx.mono HX6.out.size))
               clear hbx)
            | (go_at_call 17
               (with_reducible refine (HML.out _ HX7.out).mono ?_)
               rintro e w8 ⟨rfl, hbx⟩
               have HX8 := Lib.hid (HX7.out.trans (hbx.mono HX7.out.size))
               clear hbx)
            | (go_at_call 17
               (with_reducible refine (HMK.out _ HX8.out).mono ?_)
               rintro e w9 ⟨rfl, hbx⟩
               have HX9 := Lib.hid (HX8.out.trans (hbx.mono HX8.out.size))
               clear hbx)
            | (go_at_call 18
               (with_reducible refine (HTK.out _ HX9.out).mono ?_)
               rintro e w10 ⟨rfl, hbx⟩
               have HX10 := Lib.hid (HX9.out.trans (hbx.mono HX9.out.size))
               clear hbx)
            | (go_at_call 10
               (with_reducible refine (HRS.out _).mono ?_)
               rintro e w11 ⟨A11, n11, c11, rfl, hi11, hbx⟩
               have HX11 := Lib.hid (HX10.out.trans (hbx.mono HX10.out.size))
               have hn11 : n11 ≤ 1000 := by have e1 : L.length = n11 := hi11.len; omega
               have HI11 := Lib.hid hi11
               clear hi11
               clear hbx)
            | (go_at_call 17
               (with_reducible refine (HMY.out A11 n11 c11 _ HI11.out hn11).mono ?_)
               rintro e w12 ⟨rfl, hbx⟩
               have HX12 := Lib.hid (HX11.out.trans (hbx.mono HX11.out.size))
               have HI11 := Lib.hid (HI11.out.below hbx)
               clear hbx)
            | (go_at_call 18
               (with_reducible refine (HTY.out A11 n11 c11 _ HI11.out hn11).mono ?_)
               rintro e w13 ⟨rfl, hbx⟩
               have HX13 := Lib.hid (HX12.out.trans (hbx.mono HX12.out.size))
               clear hbx))
          go_ret
          exact ⟨rfl, HX13.out⟩
        · rw [hr] at HRS
          clear hr
          go_enter Try.func4, Try.ntmps4
          go_wp2_with (first
            | (go_at_call 8
               (with_reducible refine (HAW.out).mono ?_)
               rintro e w1 ⟨rfl, hbx⟩
               have HX1 := Lib.hid hbx
               clear hbx)
            | (go_at_call 18
               (with_reducible refine (HTL.out _ HX1.out).mono ?_)
               rintro e w2 ⟨rfl, hbx⟩
               have HX2 := Lib.hid (HX1.out.trans (hbx.mono HX1.out.size))
               clear hbx)
            | (go_at_call 10
               (with_reducible refine (HRT.out _).mono ?_)
               rintro e w3 ⟨A3, n3, c3, rfl, hi3, hbx⟩
               have HX3 := Lib.hid (HX2.out.trans (hbx.mono HX2.out.size))
               have HI3 := Lib.hid hi3
               clear hi3
               clear hbx)
            | (go_at_call 12
               (with_reducible refine (HIX.out A3 n3 c3 _ HI3.out HX3.out).mono ?_)
               rintro e w4 ⟨rfl, hbx⟩
               have HX4 := Lib.hid (HX3.out.trans (hbx.mono HX3.out.size))
               clear hbx)
            | (go_at_call 12
               (with_reducible refine (HIK.out _ HX4.out HX4.out).mono ?_)
               rintro e w5 ⟨rfl, hbx⟩
               have HX5 := Lib.hid (HX4.out.trans (hbx.mono HX4.out.size))
               clear hbx)
            | (go_at_call 17
               (with_reducible refine (HML.out _ HX5.out).mono ?_)
               rintro e w6 ⟨rfl, hbx⟩
               have HX6 := Lib.hid (HX5.out.trans (hbx.mono HX5.out.size))
               clear hbx)
            | (go_at_call 17
               (with_reducible refine (HML.out _ HX6.out).mono ?_)
               rintro e w7 ⟨rfl, hbx⟩
               have HX7 := Lib.hid (HX6.out.trans (hbx.mono HX6.out.size))
               clear hbx)
            | (go_at_call 17
               (with_reducible refine (HML.out _ HX7.out).mono ?_)
               rintro e w8 ⟨rfl, hbx⟩
               have HX8 := Lib.hid (HX7.out.trans (hbx.mono HX7.out.size))
               clear hbx)
            | (go_at_call 17
               (with_reducible refine (HMK.out _ HX8.out).mono ?_)
               rintro e w9 ⟨rfl, hbx⟩
               have HX9 := Lib.hid (HX8.out.trans (hbx.mono HX8.out.size))
               clear hbx)
            | (go_at_call 18
               (with_reducible refine (HTK.out _ HX9.out).mono ?_)
               rintro e w10 ⟨rfl, hbx⟩
               have HX10 := Lib.hid (HX9.out.trans (hbx.mono HX9.out.size))
               clear hbx)
            | (go_at_call 10
               (with_reducible refine (HRS.out _).mono ?_)
               rintro e w11 ⟨A11, n11, c11, rfl, hi11, hbx⟩
               have HX11 := Lib.hid (HX10.out.trans (hbx.mono HX10.out.size))
               obtain rfl : n11 = 0 := hi11.len.symm
               clear hi11
               clear hbx))
          go_ret
          exact ⟨rfl, HX11.out⟩
end Go.Proofs.Ytekmagpokcloaaa
