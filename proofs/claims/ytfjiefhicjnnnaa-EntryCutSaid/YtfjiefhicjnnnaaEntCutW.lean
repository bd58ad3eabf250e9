/- The walk over the law EntryCut: no other number of bytes than 30 are an entry's. -/
import Derived.Test.YtfjiefhicjnnnaaEntAwake
namespace Go.Proofs.Ytfjiefhicjnnnaa
set_option linter.unusedVariables false
set_option linter.unusedSimpArgs false
open Go.RowKit

set_option maxHeartbeats 1000000 in
theorem ecutw_any (A : Option Addr) (n c : Nat) (b : List Int) (w : World) (hb : Bts w A n c b) :
    Calls Try.prog 5 #[.slice A n c] w fun e w' => e = .returned (.bool true) ∧ Below w.heap.size w w' := by
  have hn := hb.small
  have HB := Lib.hid hb
  obtain ⟨⟨a0, a1, a2, a3, a4, a5, a6, a7, a8⟩, hu⟩ : ∃ u, getE b = u := ⟨_, rfl⟩
  obtain ⟨g, hg⟩ : ∃ g, gotB b = g := ⟨_, rfl⟩
  have h30 : n ≠ 30 → g = false := fun h => by rw [← hg]; exact got_short (by rw [hb.len]; exact h)
  have HU := Lib.hid hu
  have HG := Lib.hid hg
  clear hb hu hg
  by_cases hbig : 100 < n
  · have h1 : (100 : Int) < n := by omega
    clear h30 hbig
    go_enter Try.func5, Try.ntmps5
    go_wp2_with (go_at_call 9; refine (eawake_any _).mono ?_; rintro e w1 ⟨rfl, hb1⟩; have HB1 := Lib.hid hb1; clear hb1)
    go_ret
    exact ⟨rfl, HB1.out⟩
  · have h1 : (n : Int) ≤ 100 := by omega
    by_cases h : n = 30
    · have e30 : ((n : Int) == 30) = true := by rw [beq_iff_eq]; omega
      clear h30 hbig h
      go_enter Try.func5, Try.ntmps5
      go_wp2_with (first
        | (go_at_call 9; refine (eawake_any _).mono ?_; rintro e w1 ⟨rfl, hb1⟩; have HB1 := Lib.hid hb1; clear hb1)
        | (go_at_call 12; refine (eget_any _ _ _ _ _ (HB.out.below HB1.out)).mono ?_; rintro e w2 ⟨he, hb2⟩
           rw [HU.out, HG.out] at he
           simp only [enV, enA, En.row] at he
           subst he
           have HB2 := Lib.hid (HB1.out.trans (hb2.mono HB1.out.size)); clear hb2))
      go_ret
      exact ⟨rfl, HB2.out.alloc HB2.out.size _⟩
    · obtain rfl := h30 h
      have e30 : ((n : Int) == 30) = false := by rw [beq_eq_false_iff_ne]; omega
      clear h30 hbig h
      go_enter Try.func5, Try.ntmps5
      go_wp2_with (first
        | (go_at_call 9; refine (eawake_any _).mono ?_; rintro e w1 ⟨rfl, hb1⟩; have HB1 := Lib.hid hb1; clear hb1)
        | (go_at_call 12; refine (eget_any _ _ _ _ _ (HB.out.below HB1.out)).mono ?_; rintro e w2 ⟨he, hb2⟩
           rw [HU.out, HG.out] at he
           simp only [enV, enA, En.row] at he
           subst he
           have HB2 := Lib.hid (HB1.out.trans (hb2.mono HB1.out.size)); clear hb2))
      go_ret
      exact ⟨rfl, HB2.out.alloc HB2.out.size _⟩
end Go.Proofs.Ytfjiefhicjnnnaa
