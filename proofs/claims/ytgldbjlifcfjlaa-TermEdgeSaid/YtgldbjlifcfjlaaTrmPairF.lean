/- The walk over the law TermPair, whole. -/
import Derived.Test.YtgldbjlifcfjlaaTrmPairL
import Derived.Test.YtgldbjlifcfjlaaTrmPairG
namespace Go.Proofs.Ytgldbjlifcfjlaa
set_option linter.unusedVariables false
set_option linter.unusedSimpArgs false
open Go.RowKit

theorem light_val {t : Te} {most deep : Nat} (h : lightB t most deep = true) : lightN t most deep = t.size := by
  have h1 := lightF_is t.size t.depth most deep
  have h2 := light_small h
  unfold lightN
  omega
theorem light_not {t : Te} {most deep : Nat} (h : lightB t most deep = false) : lightN t most deep = (most : Int) + 1 := by
  have h1 := lightF_is t.size t.depth most deep
  unfold lightB at h
  rw [decide_eq_false_iff_not] at h
  unfold lightN
  omega
set_option maxHeartbeats 2000000 in
theorem pair_any (t u : Te) (k n k2 n2 : Int) (A A2 : Option Addr) (m c m2 c2 : Nat) (w : World) (hI : Is (· < w.heap.size) w t k n A m c) (hJ : Is (· < w.heap.size) w u k2 n2 A2 m2 c2) :
    Calls Try.prog 6 #[.agg #[.int .i64 k, .int .i64 n, .slice A m c], .agg #[.int .i64 k2, .int .i64 n2, .slice A2 m2 c2]] w (GivesB true w) := by
  cases hlt : lightB t 60 15 with
  | false =>
    have two := two_below w (.cells #[.int .i64 k, .int .i64 n, .slice A m c] 24) (.cells #[.int .i64 k2, .int .i64 n2, .slice A2 m2 c2] 24)
    obtain ⟨W2, hW2⟩ : ∃ W2, (w.alloc (.cells #[.int .i64 k, .int .i64 n, .slice A m c] 24)).alloc (.cells #[.int .i64 k2, .int .i64 n2, .slice A2 m2 c2] 24) = W2 := ⟨_, rfl⟩
    have hS := boxes_six W2 hW2
    rw [hW2] at two
    have TWO := Lib.hid two
    have HW2 := Lib.hid hW2
    have HT := Lib.hid hI
    have HV := Lib.hid (light_not hlt)
    clear two hW2 hI hJ hlt
    go_enter Try.func6, Try.ntmps6
    go_wp2_with (first
      | (go_at_call 9
         rw [HW2.out]
         refine (tawake_any W2).mono ?_
         rintro e w3 ⟨rfl, hb3⟩
         have S3 := six_held hb3 hS
         have HB3 := Lib.hid hb3
         clear hb3)
      | (go_at_call 25
         have hc4 := nodes_any _ t k n A m c w3 (HT.out.below (TWO.out.trans (HB3.out.mono TWO.out.size))) 60 15 (by omega) (by omega) (by omega) (by omega)
         rw [show lightN t 60 15 = 61 from HV.out] at hc4
         refine hc4.mono ?_
         rintro e w4 ⟨rfl, hb4⟩
         have HB4 := Lib.hid (HB3.out.trans (hb4.mono HB3.out.size))
         clear hb4 hc4))
    go_ret
    exact ⟨rfl, TWO.out.trans (HB4.out.mono TWO.out.size)⟩
  | true =>
    cases hlu : lightB u 60 15 with
    | false =>
      have two := two_below w (.cells #[.int .i64 k, .int .i64 n, .slice A m c] 24) (.cells #[.int .i64 k2, .int .i64 n2, .slice A2 m2 c2] 24)
      obtain ⟨W2, hW2⟩ : ∃ W2, (w.alloc (.cells #[.int .i64 k, .int .i64 n, .slice A m c] 24)).alloc (.cells #[.int .i64 k2, .int .i64 n2, .slice A2 m2 c2] 24) = W2 := ⟨_, rfl⟩
      have hS := boxes_six W2 hW2
      rw [hW2] at two
      have TWO := Lib.hid two
      have HW2 := Lib.hid hW2
      have HT := Lib.hid hI
      have HU := Lib.hid hJ
      have hv := light_val hlt
      have hs := (light_small hlt).1
      obtain ⟨x, hx⟩ : ∃ x : Int, (t.size : Int) = x := ⟨_, rfl⟩
      rw [hx] at hv
      have hx60 : decide (60 < x) = false := decide_eq_false (by omega)
      have HV := Lib.hid hv
      have HV2 := Lib.hid (light_not hlu)
      clear two hW2 hI hJ hlt hlu hv hs hx
      go_enter Try.func6, Try.ntmps6
      go_wp2_with (first
        | (go_at_call 9
           rw [HW2.out]
           refine (tawake_any W2).mono ?_
           rintro e w3 ⟨rfl, hb3⟩
           have S3 := six_held hb3 hS
           have HB3 := Lib.hid hb3
           clear hb3)
        | (go_at_call 25
           have hc4 := nodes_any _ t k n A m c w3 (HT.out.below (TWO.out.trans (HB3.out.mono TWO.out.size))) 60 15 (by omega) (by omega) (by omega) (by omega)
           rw [show lightN t 60 15 = x from HV.out] at hc4
           (with_reducible refine hc4.mono ?_)
           rintro e w4 ⟨rfl, hb4⟩
           have HB4 := Lib.hid (HB3.out.trans (hb4.mono HB3.out.size))
           have S4 := six_held HB4.out hS
           clear hb4 hc4)
        | (go_at_call 25
           have hc5 := nodes_any _ u k2 n2 A2 m2 c2 w4 (HU.out.below (TWO.out.trans (HB4.out.mono TWO.out.size))) 60 15 (by omega) (by omega) (by omega) (by omega)
           rw [show lightN u 60 15 = 61 from HV2.out] at hc5
           (with_reducible refine hc5.mono ?_)
           rintro e w5 ⟨rfl, hb5⟩
           have HB5 := Lib.hid (HB4.out.trans (hb5.mono HB4.out.size))
           clear hb5 hc5))
      go_ret
      exact ⟨rfl, TWO.out.trans (HB5.out.mono TWO.out.size)⟩
    | true =>
      have h1 := light_small hlt
      have h2 := light_small hlu
      by_cases hyy : (t.depth : Int) < u.depth
      · exact pair_lt t u k n k2 n2 A A2 m c m2 c2 w hI hJ _ _ _ _ rfl rfl rfl rfl (by omega) (by omega) (by omega) (by omega) (light_val hlt) (light_val hlu) hyy _ rfl _ _ rfl rfl _ _ rfl rfl
      · exact pair_ge t u k n k2 n2 A A2 m c m2 c2 w hI hJ _ _ _ _ rfl rfl rfl rfl (by omega) (by omega) (by omega) (by omega) (light_val hlt) (light_val hlu) hyy _ rfl _ _ rfl rfl _ _ rfl rfl
end Go.Proofs.Ytgldbjlifcfjlaa
