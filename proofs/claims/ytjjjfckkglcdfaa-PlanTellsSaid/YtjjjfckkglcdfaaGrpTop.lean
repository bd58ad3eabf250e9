/- Package group's calls: Against, Free, List, Of, Sets; with May they are all that the laws stand on. -/
import Derived.Test.YtjjjfckkglcdfaaGrpOwnP
import Derived.Test.YtjjjfckkglcdfaaGrpMay
import Derived.Test.YtjjjfckkglcdfaaGrpGather
import Derived.Test.YtjjjfckkglcdfaaGrpAwake
namespace Go.Proofs.Ytjjjfckkglcdfaa
set_option maxRecDepth 100000
set_option linter.unusedVariables false
set_option linter.unusedSimpArgs false
open Go.RowKit Go.Shelf

set_option maxHeartbeats 2000000 in
theorem gagainst_any (A : Option Addr) (n c : Nat) (m : List Int) (s : Int) (w : World) (hit : Its .i64 w A n c m) :
    Calls Try.prog 24 #[.slice A n c, .int .i64 s] w fun e w' => e = .returned (.int .i64 (againstM m s)) ∧ Below w.heap.size w w' := by
  have HL := Lib.hid hit.len
  have HMY := Lib.hid (gmay_any A n c m w hit)
  cases hm : mayM m with
  | false =>
    rw [hm] at HMY
    have HR := Lib.hid (against_bad (s := s) (.inl hm))
    clear hm hit
    go_enter Try.func24, Try.ntmps24
    go_wp2_with (go_at_call 34; (with_reducible refine (HMY.out).mono ?_); rintro e w1 ⟨rfl, hb1⟩; have HB1 := Lib.hid hb1; clear hb1)
    go_ret
    exact ⟨by rw [HR.out]; rfl, HB1.out⟩
  | true =>
    rw [hm] at HMY
    obtain ⟨hn8, hrow⟩ := may_rows hit.len hm
    have h8 := pow_le hn8
    have HIS := Lib.hid (fun X => isSet_any s n hn8 X)
    by_cases hs : 0 ≤ s ∧ s < ((2 ^ n : Nat) : Int)
    · obtain ⟨t, rfl⟩ := Int.eq_ofNat_of_zero_le hs.1
      have ht : t < 2 ^ n := by omega
      rw [decide_eq_true hs] at HIS
      have HR := Lib.hid (show againstM m (t : Int) = ((orN m (listTo t 8) : Nat) : Int) by
        rw [against_some hm (by rw [HL.out]; exact ht), over_is hm (by rw [HL.out]; exact ht)])
      have HOV := Lib.hid (fun (X : World) (hX : Below w.heap.size w X) => over_any A n c m t X (hit.below hX) (fun i hi => ⟨(hrow i hi).1, by have := (hrow i hi).2; omega⟩) (by omega) ht)
      obtain ⟨O, hO⟩ : ∃ O : Int, ((orN m (listTo t 8) : Nat) : Int) = O := ⟨_, rfl⟩
      rw [hO] at HR HOV
      clear hm hit hrow hs ht hO
      go_enter Try.func24, Try.ntmps24
      go_wp2_with (first
        | (go_at_call 34; (with_reducible refine (HMY.out).mono ?_); rintro e w1 ⟨rfl, hb1⟩; have HB1 := Lib.hid hb1; clear hb1)
        | (go_at_call 35; (with_reducible refine (HIS.out _).mono ?_); rintro e w2 ⟨rfl, rfl⟩)
        | (go_at_call 36; (with_reducible refine (HOV.out _ HB1.out).mono ?_); rintro e w3 ⟨rfl, hb3⟩; have HB3 := Lib.hid (HB1.out.trans (hb3.mono HB1.out.size)); clear hb3))
      go_ret
      exact ⟨by rw [HR.out]; rfl, HB3.out⟩
    · rw [decide_eq_false hs] at HIS
      have HR := Lib.hid (against_bad (m := m) (s := s) (.inr (by rw [HL.out]; omega)))
      clear hm hit hrow hs
      go_enter Try.func24, Try.ntmps24
      go_wp2_with (first
        | (go_at_call 34; (with_reducible refine (HMY.out).mono ?_); rintro e w1 ⟨rfl, hb1⟩; have HB1 := Lib.hid hb1; clear hb1)
        | (go_at_call 35; (with_reducible refine (HIS.out _).mono ?_); rintro e w2 ⟨rfl, rfl⟩))
      go_ret
      exact ⟨by rw [HR.out]; rfl, HB1.out⟩
theorem against_cases (m : List Int) (s : Int) : (againstM m s = -1 ∧ freeM m s = false) ∨ ∃ f t : Nat, againstM m s = f ∧ s = t ∧ f < 256 ∧ t < 256 ∧ freeM m s = decide (t &&& f = 0) := by
  by_cases h : mayM m = true ∧ setM m s
  · obtain ⟨hm, hs⟩ := h
    obtain ⟨t, rfl, ht⟩ := set_nat hs
    obtain ⟨⟨-, h8⟩, -, -⟩ := may_all hm
    have h256 := pow_le h8
    refine .inr ⟨_, t, against_some hm ht, rfl, Nat.lt_of_lt_of_le (sumN_lt _ _) h256, by omega, ?_⟩
    rw [free_against hm ht, Nat.and_comm]
  · refine .inl ⟨if_neg h, decide_eq_false fun hh => h ⟨hh.1, hh.2.1⟩⟩
set_option maxHeartbeats 2000000 in
theorem gfree_any (A : Option Addr) (n c : Nat) (m : List Int) (s : Int) (w : World) (hit : Its .i64 w A n c m) :
    Calls Try.prog 25 #[.slice A n c, .int .i64 s] w fun e w' => e = .returned (.bool (freeM m s)) ∧ Below w.heap.size w w' := by
  have HAG := Lib.hid (gagainst_any A n c m s w hit)
  clear hit
  rcases against_cases m s with ⟨h1, h2⟩ | ⟨f, t, h1, rfl, hf, ht, h2⟩
  · rw [h1] at HAG
    rw [h2]
    clear h1 h2
    go_enter Try.func25, Try.ntmps25
    go_wp2_with (go_at_call 24; (with_reducible refine (HAG.out).mono ?_); rintro e w1 ⟨rfl, hb1⟩; have HB1 := Lib.hid hb1; clear hb1)
    go_ret
    exact ⟨rfl, HB1.out⟩
  · rw [h1] at HAG
    have hand := and_set t f (by omega) (by omega)
    have h0 : (0 : Int) ≤ (f : Int) := by omega
    obtain ⟨g, hg⟩ : ∃ g : Nat, t &&& f = g := ⟨_, rfl⟩
    rw [hg] at hand h2
    rw [h2]
    clear h1 h2 hg
    go_enter Try.func25, Try.ntmps25
    go_wp2_with (go_at_call 24; (with_reducible refine (HAG.out).mono ?_); rintro e w1 ⟨rfl, hb1⟩; have HB1 := Lib.hid hb1; clear hb1)
    go_ret
    refine ⟨?_, HB1.out⟩
    have e : ((g : Int) == 0) = decide (g = 0) := by rw [Bool.eq_iff_iff, beq_iff_eq, decide_eq_true_iff]; omega
    rw [← e]
    rfl
theorem of_low {t i : Nat} (ht : t < 256) (hi : i < 8) (h : t.testBit i = false) : t ||| 2 ^ i = t + 2 ^ i := by
  have := or_pow8 ⟨t, ht⟩ ⟨i, hi⟩
  simp only [h, Bool.false_eq_true, if_false] at this
  exact this
end Go.Proofs.Ytjjjfckkglcdfaa
