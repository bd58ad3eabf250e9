/- The walk over the law TermEdge, whole. -/
import Derived.Test.YtgldbjlifcfjlaaTrmEdgeB
namespace Go.Proofs.Ytgldbjlifcfjlaa
set_option linter.unusedVariables false
set_option linter.unusedSimpArgs false
open Go.RowKit

set_option maxRecDepth 100000 in
set_option maxHeartbeats 4000000 in
theorem edge_any (t : Te) (k n kind nn many : Int) (A : Option Addr) (m c : Nat) (w : World) (hI : Is (· < w.heap.size) w t k n A m c) :
    Calls Try.prog 8 #[.agg #[.int .i64 k, .int .i64 n, .slice A m c], .int .i64 kind, .int .i64 nn, .int .i64 many] w (GivesB true w) := by
  by_cases hgo : lightB t 20 10 = true ∧ 0 ≤ many ∧ many ≤ 3 ∧ t.may = true
  · obtain ⟨h1, h2, h3, h4⟩ := hgo
    exact edge_in t k n kind nn many A m c many.toNat w hI h1 h4 (by omega) (by omega)
  · have two := one_alloc w (.cells #[.int .i64 k, .int .i64 n, .slice A m c] 24)
    have hbx := Box3.new w k n A m c
    obtain ⟨W1, hW1⟩ : ∃ W1, w.alloc (.cells #[.int .i64 k, .int .i64 n, .slice A m c] 24) = W1 := ⟨_, rfl⟩
    rw [hW1] at two hbx
    have TWO := Lib.hid two
    have HW1 := Lib.hid hW1
    have HBX := Lib.hid hbx
    have HT := Lib.hid hI
    obtain ⟨x, hx⟩ : ∃ y, lightN t 20 10 = y := ⟨_, rfl⟩
    obtain ⟨xb, hxb⟩ : ∃ b, decide (20 < x) = b := ⟨_, rfl⟩
    obtain ⟨nb, hnb⟩ : ∃ b, decide (many < 0) = b := ⟨_, rfl⟩
    obtain ⟨mb, hmb⟩ : ∃ b, decide (3 < many) = b := ⟨_, rfl⟩
    obtain ⟨tb, htb⟩ : ∃ b, t.may = b := ⟨_, rfl⟩
    have hex : xb = true ∨ nb = true ∨ mb = true ∨ tb = false := by
      cases hl : lightB t 20 10 with
      | false =>
        have h5 : lightN t 20 10 = 20 + 1 := light_not hl
        exact .inl (by rw [← hxb]; exact decide_eq_true (by omega))
      | true =>
        by_cases h2 : 0 ≤ many
        · by_cases h3 : many ≤ 3
          · cases tb with
            | false => exact .inr (.inr (.inr rfl))
            | true => exact absurd ⟨hl, h2, h3, htb⟩ hgo
          · exact .inr (.inr (.inl (by rw [← hmb]; exact decide_eq_true (by omega))))
        · exact .inr (.inl (by rw [← hnb]; exact decide_eq_true (by omega)))
    have HX := Lib.hid hx
    have HTB := Lib.hid htb
    clear two hbx hW1 hI hgo hx htb
    cases xb <;> cases nb <;> cases mb <;> cases tb
    all_goals first
      | (exfalso; rcases hex with h | h | h | h <;> exact absurd h (by decide))
      | (clear hex
         go_enter Try.func8, Try.ntmps8
         go_wp2_with (first
           | (go_at_call 9
              rw [HW1.out]
              refine (tawake_any W1).mono ?_
              rintro e w3 ⟨rfl, hb3⟩
              obtain ⟨x0, x1, x2⟩ := (HBX.out.keep hb3).cells
              have HB3 := Lib.hid hb3
              clear hb3)
           | (go_at_call 25
              have hc4 := nodes_any _ t k n A m c w3 (HT.out.below (TWO.out.trans (HB3.out.mono TWO.out.size))) 20 10 (by omega) (by omega) (by omega) (by omega)
              rw [HX.out] at hc4
              refine hc4.mono ?_
              rintro e w4 ⟨rfl, hb4⟩
              have hB4 := HB3.out.trans (hb4.mono HB3.out.size)
              obtain ⟨x40, x41, x42⟩ := (HBX.out.keep hB4).cells
              have HB4 := Lib.hid hB4
              clear hb4 hc4 hB4)
           | (go_at_call 23
              have hc5 := may_any _ t k n A m c w4 (HT.out.below (TWO.out.trans (HB4.out.mono TWO.out.size)))
              rw [HTB.out] at hc5
              refine hc5.mono ?_
              rintro e w5 ⟨rfl, hb5⟩
              have HB5 := Lib.hid (HB4.out.trans (hb5.mono HB4.out.size))
              clear hb5 hc5))
         go_ret
         first
           | exact ⟨rfl, TWO.out.trans (HB5.out.mono TWO.out.size)⟩
           | exact ⟨rfl, TWO.out.trans (HB4.out.mono TWO.out.size)⟩)
end Go.Proofs.Ytgldbjlifcfjlaa
