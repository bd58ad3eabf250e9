/- The law TermPair: of two terms their pair, and the tag of both. -/
import Derived.Test.YtgldbjlifcfjlaaTrmSameW
namespace Go.Proofs.Ytgldbjlifcfjlaa
set_option linter.unusedVariables false
set_option linter.unusedSimpArgs false
open Go.RowKit

theorem pair_size (k : Int) (t u : Te) : ((Te.node k 0 [t, u]).size : Int) = t.size + u.size + 1 := by
  simp only [Te.size, Te.sizes]; omega
theorem pair_depth (k : Int) (t u : Te) : ((Te.node k 0 [t, u]).depth : Int) = 1 + max (t.depth : Int) u.depth := by
  simp only [Te.depth, Te.depths]; omega
theorem pair_may (k : Int) (hk : k = 2 ∨ k = 3) (t u : Te) : (Te.node k 0 [t, u]).may = (t.may && u.may && decide ((t.size : Int) + u.size + 1 ≤ 60) && decide (1 + max (t.depth : Int) u.depth ≤ 12)) := by
  rw [Bool.eq_iff_iff]
  have h1 := pair_size k t u
  have h2 := pair_depth k t u
  have h3 : nodeB k 0 2 = true := nodeB_yes (by omega)
  have h4 := Te.size_pos t
  have h5 := Te.size_pos u
  unfold Te.may
  simp only [Bool.and_eq_true, decide_eq_true_eq, Te.good, Te.goods, List.length_cons, List.length_nil]
  rw [show (0 + 1 + 1 : Nat) = 2 from rfl, h3]
  constructor
  · rintro ⟨⟨⟨_, a1, a2, _⟩, a3⟩, a4⟩
    refine ⟨⟨⟨⟨⟨a1, ?_⟩, ?_⟩, ⟨a2, ?_⟩, ?_⟩, ?_⟩, ?_⟩ <;> omega
  · rintro ⟨⟨⟨⟨⟨a1, _⟩, _⟩, ⟨a2, _⟩, _⟩, a3⟩, a4⟩
    refine ⟨⟨⟨rfl, a1, a2, trivial⟩, ?_⟩, ?_⟩ <;> omega
theorem pair_other (t u v x : Te) : (Te.node 2 0 [t, u]).same (.node 3 0 [v, x]) = false := by simp [Te.same]
end Go.Proofs.Ytgldbjlifcfjlaa
