/- slices.Collect of what is handed on, one by one. -/
import Derived.Test.YtjjjfckkglcdfaaGrpIter
import Derived.Test.YtjjjfckkglcdfaaBasFenceR
namespace Go.Proofs.Ytjjjfckkglcdfaa
set_option maxRecDepth 100000
set_option linter.unusedVariables false
set_option linter.unusedSimpArgs false
open Go.RowKit Go.Shelf
attribute [local go_sem] Oper.semAt_some

theorem ownI_turn {K : IntKind} {e : TypeId} {X Y : World} {base : Nat} {v : Value} {l : List Int} {row : Option Nat} (h : OwnI K e X base v l) (hg : X.grownBy Y row) (hr : ∀ r, row = some r → ∃ o : Obj, X.heap[r]? = some o ∧ o.isCells = false) : OwnI K e Y base v l := by
  refine h.far hg ?_
  rcases h.2 with ⟨hv, _⟩ | ⟨g, cap, cur, hv, _, hh, _⟩
  · left; rw [hv]; rfl
  · right
    rw [hv]
    intro e2
    obtain ⟨o, ho, hc⟩ := hr g e2.symm
    exact block_ne hh rfl ho hc rfl
def GathInv (L : List Int) (w : World) (base : Nat) (k : Nat) (X : World) : Prop :=
  (∃ v, Boxed X w.heap.size 22 v ∧ OwnI .i64 3 X base v (L.take k)) ∧ Below w.heap.size w X
end Go.Proofs.Ytjjjfckkglcdfaa
