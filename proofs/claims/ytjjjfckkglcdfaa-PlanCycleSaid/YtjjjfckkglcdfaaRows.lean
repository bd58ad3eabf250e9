/-
  No cell of these rows narrows 'for every input' (looked for: loops, veiled, ifaces, maps, wideKeys, modest, calm, conditions, laid).
  DERIVED. THE GIVEN ROWS OF THIS SEAT. 6 by the template 'for every input the law returns true; each argument reads behind the call as it read before'; 0 by the template 'total and deterministic' (their statements: YtjjjfckkglcdfaaTotals.lean).
  GIVEN WITH THE SEED: the statements are not yours to turn. If you find one false, say at which input.
  Laid BY PROGRAM, IN A SANDBOX (cutbox-rows.mjs): the forced cells as the released guide's own fill.sh prints them over the translation b520cd25fc1983e2… (all of the seat's roots in one cut). By AI agents, Wed Nov 11 2026. No macro, syntax, notation, axiom, sorry.
-/
import Derived.Test.YtjjjfckkglcdfaaChecked
import GoSem.Claim
import GoSem.ClaimJoined
import GoSem.ClaimMapViews
import Derived.JoinedTies
import Derived.KernelRfl
namespace Go.Proofs.Ytjjjfckkglcdfaa
/- THE CELL 'sum', in the pinned program and in every row, IS THE sha256 OF THE DUMP (.gsa) THAT YtjjjfckkglcdfaaProg.lean LOADS. Nothing in Lean hashes anything: it is a label: what it is worth is what the hold of that sum in a sandbox is worth. -/
noncomputable def Try.pinned : Pinned := { name := "ytjjjfckkglcdfaa", sum := "b520cd25fc1983e2a433c551e1bbf41716b51ac6e18390786228639359abbef4", checked := Try.checked }
namespace Rows
def none {H : Type} : Left H := { results := [], args := [] }

/-- 'pelicanlaw14.PlanTells': WHATEVER THE INPUT: true; the input reads as it did. -/
def planTellsSpec : ChangeSpec := { name := "planTells", fn := fun _ => fun
  | [d1, d2, d3, d4, d5] => { results := [.lit (.bool true)], args := [d1, d2, d3, d4, d5] }
  | _ => none }
def planTellsRow : OpenClaim := { program := "ytjjjfckkglcdfaa", sum := "b520cd25fc1983e2a433c551e1bbf41716b51ac6e18390786228639359abbef4", func := "pelican/pelicanlaw14.PlanTells", spec := "planTells", unfollowed := true, recurses := true, apart := false }
def PlanTellsSaid : Prop := planTellsRow.holds Try.pinned (OpenSpec.ofChange planTellsSpec)

/-- ITS FALSE NEIGHBOUR: 'it returns false'. Refute it at one input. -/
def planTellsWrong : ChangeSpec := { name := "planTells", fn := fun _ => fun
  | [d1, d2, d3, d4, d5] => { results := [.lit (.bool false)], args := [d1, d2, d3, d4, d5] }
  | _ => none }
def PlanTellsWrongFalsely : Prop := planTellsRow.holds Try.pinned (OpenSpec.ofChange planTellsWrong)

/-- 'pelicanlaw14.PlanRound': WHATEVER THE INPUT: true; the input reads as it did. -/
def planRoundSpec : ChangeSpec := { name := "planRound", fn := fun _ => fun
  | [d1, d2] => { results := [.lit (.bool true)], args := [d1, d2] }
  | _ => none }
def planRoundRow : OpenClaim := { program := "ytjjjfckkglcdfaa", sum := "b520cd25fc1983e2a433c551e1bbf41716b51ac6e18390786228639359abbef4", func := "pelican/pelicanlaw14.PlanRound", spec := "planRound", unfollowed := true, recurses := true, apart := false }
def PlanRoundSaid : Prop := planRoundRow.holds Try.pinned (OpenSpec.ofChange planRoundSpec)

/-- ITS FALSE NEIGHBOUR: 'it returns false'. Refute it at one input. -/
def planRoundWrong : ChangeSpec := { name := "planRound", fn := fun _ => fun
  | [d1, d2] => { results := [.lit (.bool false)], args := [d1, d2] }
  | _ => none }
def PlanRoundWrongFalsely : Prop := planRoundRow.holds Try.pinned (OpenSpec.ofChange planRoundWrong)

/-- 'pelicanlaw14.PlanLeast': WHATEVER THE INPUT: true; the input reads as it did. -/
def planLeastSpec : ChangeSpec := { name := "planLeast", fn := fun _ => fun
  | [d1, d2, d3] => { results := [.lit (.bool true)], args := [d1, d2, d3] }
  | _ => none }
def planLeastRow : OpenClaim := { program := "ytjjjfckkglcdfaa", sum := "b520cd25fc1983e2a433c551e1bbf41716b51ac6e18390786228639359abbef4", func := "pelican/pelicanlaw14.PlanLeast", spec := "planLeast", unfollowed := true, recurses := true, apart := false }
def PlanLeastSaid : Prop := planLeastRow.holds Try.pinned (OpenSpec.ofChange planLeastSpec)

/-- ITS FALSE NEIGHBOUR: 'it returns false'. Refute it at one input. -/
def planLeastWrong : ChangeSpec := { name := "planLeast", fn := fun _ => fun
  | [d1, d2, d3] => { results := [.lit (.bool false)], args := [d1, d2, d3] }
  | _ => none }
def PlanLeastWrongFalsely : Prop := planLeastRow.holds Try.pinned (OpenSpec.ofChange planLeastWrong)

/-- 'pelicanlaw14.PlanFree': WHATEVER THE INPUT: true; the input reads as it did. -/
def planFreeSpec : ChangeSpec := { name := "planFree", fn := fun _ => fun
  | [d1, d2, d3, d4] => { results := [.lit (.bool true)], args := [d1, d2, d3, d4] }
  | _ => none }
def planFreeRow : OpenClaim := { program := "ytjjjfckkglcdfaa", sum := "b520cd25fc1983e2a433c551e1bbf41716b51ac6e18390786228639359abbef4", func := "pelican/pelicanlaw14.PlanFree", spec := "planFree", unfollowed := true, recurses := true, apart := false }
def PlanFreeSaid : Prop := planFreeRow.holds Try.pinned (OpenSpec.ofChange planFreeSpec)

/-- ITS FALSE NEIGHBOUR: 'it returns false'. Refute it at one input. -/
def planFreeWrong : ChangeSpec := { name := "planFree", fn := fun _ => fun
  | [d1, d2, d3, d4] => { results := [.lit (.bool false)], args := [d1, d2, d3, d4] }
  | _ => none }
def PlanFreeWrongFalsely : Prop := planFreeRow.holds Try.pinned (OpenSpec.ofChange planFreeWrong)

/-- 'pelicanlaw14.PlanAll': WHATEVER THE INPUT: true; the input reads as it did. -/
def planAllSpec : ChangeSpec := { name := "planAll", fn := fun _ => fun
  | [d1, d2, d3] => { results := [.lit (.bool true)], args := [d1, d2, d3] }
  | _ => none }
def planAllRow : OpenClaim := { program := "ytjjjfckkglcdfaa", sum := "b520cd25fc1983e2a433c551e1bbf41716b51ac6e18390786228639359abbef4", func := "pelican/pelicanlaw14.PlanAll", spec := "planAll", unfollowed := true, recurses := true, apart := false }
def PlanAllSaid : Prop := planAllRow.holds Try.pinned (OpenSpec.ofChange planAllSpec)

/-- ITS FALSE NEIGHBOUR: 'it returns false'. Refute it at one input. -/
def planAllWrong : ChangeSpec := { name := "planAll", fn := fun _ => fun
  | [d1, d2, d3] => { results := [.lit (.bool false)], args := [d1, d2, d3] }
  | _ => none }
def PlanAllWrongFalsely : Prop := planAllRow.holds Try.pinned (OpenSpec.ofChange planAllWrong)

/-- 'pelicanlaw14.PlanCycle': WHATEVER THE INPUT: true; the input reads as it did. -/
def planCycleSpec : ChangeSpec := { name := "planCycle", fn := fun _ => fun
  | [d1, d2] => { results := [.lit (.bool true)], args := [d1, d2] }
  | _ => none }
def planCycleRow : OpenClaim := { program := "ytjjjfckkglcdfaa", sum := "b520cd25fc1983e2a433c551e1bbf41716b51ac6e18390786228639359abbef4", func := "pelican/pelicanlaw14.PlanCycle", spec := "planCycle", unfollowed := true, recurses := true, apart := false }
def PlanCycleSaid : Prop := planCycleRow.holds Try.pinned (OpenSpec.ofChange planCycleSpec)

/-- ITS FALSE NEIGHBOUR: 'it returns false'. Refute it at one input. -/
def planCycleWrong : ChangeSpec := { name := "planCycle", fn := fun _ => fun
  | [d1, d2] => { results := [.lit (.bool false)], args := [d1, d2] }
  | _ => none }
def PlanCycleWrongFalsely : Prop := planCycleRow.holds Try.pinned (OpenSpec.ofChange planCycleWrong)

/- THE SECOND FORM. 'bulk': how many values and letters a reading holds, each counted each time it is reached (what is shared counts as often as it is met; a slice's spare places count too). A statement '..UptoSaid' is the law's where the arguments, and the package variables that the reading takes, are together of bulk at most 1048576: NARROWER than '..Said'. Prove '..Said' where nothing that the law and all that it calls make is longer than what came in: it says more and counts as full. Else prove '..UptoSaid'. A law counts once. -/
mutual
def uptoBulk {H : Type} : DataW H → Nat
  | .lit (.string bytes) => bytes.length + 1
  | .lit _ => 1
  | .nil => 1
  | .ptr d => uptoBulk d + 1
  | .slice elems spare => uptoBulkAll elems + uptoBulkAll spare + 1
  | .agg parts => uptoBulkAll parts + 1
  | .iface _ d => uptoBulk d + 1
  | .map entries => uptoBulkEntries entries + 1
  | .held _ => 1
def uptoBulkAll {H : Type} : List (DataW H) → Nat
  | [] => 0
  | d :: r => uptoBulk d + uptoBulkAll r
def uptoBulkEntries {H : Type} : List (Lit × DataW H) → Nat
  | [] => 0
  | x :: r => uptoBulkEntry x + uptoBulkEntries r
def uptoBulkEntry {H : Type} : Lit × DataW H → Nat
  | (.string bytes, d) => bytes.length + uptoBulk d + 1
  | (_, d) => uptoBulk d + 1
 end
def uptoSmall : (H : Type) → List (DataW H) → Bool := fun _ ds => decide (uptoBulkAll ds ≤ 1048576)
def OpenSpec.upto (s : _root_.Go.ChangeSpec) : _root_.Go.OpenSpec := { _root_.Go.OpenSpec.ofChange s with cond := some uptoSmall }

/-- 'pelicanlaw14.PlanTells', WHERE WHAT IT READS IS OF BULK AT MOST 1048576: true; the input reads as it did. -/
def planTellsUptoRow : OpenClaim := { program := "ytjjjfckkglcdfaa", sum := "b520cd25fc1983e2a433c551e1bbf41716b51ac6e18390786228639359abbef4", func := "pelican/pelicanlaw14.PlanTells", spec := "planTells", unfollowed := true, recurses := true, apart := false, narrowed := true }
def PlanTellsUptoSaid : Prop := planTellsUptoRow.holds Try.pinned (OpenSpec.upto planTellsSpec)

/-- 'pelicanlaw14.PlanRound', WHERE WHAT IT READS IS OF BULK AT MOST 1048576: true; the input reads as it did. -/
def planRoundUptoRow : OpenClaim := { program := "ytjjjfckkglcdfaa", sum := "b520cd25fc1983e2a433c551e1bbf41716b51ac6e18390786228639359abbef4", func := "pelican/pelicanlaw14.PlanRound", spec := "planRound", unfollowed := true, recurses := true, apart := false, narrowed := true }
def PlanRoundUptoSaid : Prop := planRoundUptoRow.holds Try.pinned (OpenSpec.upto planRoundSpec)

/-- 'pelicanlaw14.PlanLeast', WHERE WHAT IT READS IS OF BULK AT MOST 1048576: true; the input reads as it did. -/
def planLeastUptoRow : OpenClaim := { program := "ytjjjfckkglcdfaa", sum := "b520cd25fc1983e2a433c551e1bbf41716b51ac6e18390786228639359abbef4", func := "pelican/pelicanlaw14.PlanLeast", spec := "planLeast", unfollowed := true, recurses := true, apart := false, narrowed := true }
def PlanLeastUptoSaid : Prop := planLeastUptoRow.holds Try.pinned (OpenSpec.upto planLeastSpec)

/-- 'pelicanlaw14.PlanFree', WHERE WHAT IT READS IS OF BULK AT MOST 1048576: true; the input reads as it did. -/
def planFreeUptoRow : OpenClaim := { program := "ytjjjfckkglcdfaa", sum := "b520cd25fc1983e2a433c551e1bbf41716b51ac6e18390786228639359abbef4", func := "pelican/pelicanlaw14.PlanFree", spec := "planFree", unfollowed := true, recurses := true, apart := false, narrowed := true }
def PlanFreeUptoSaid : Prop := planFreeUptoRow.holds Try.pinned (OpenSpec.upto planFreeSpec)

/-- 'pelicanlaw14.PlanAll', WHERE WHAT IT READS IS OF BULK AT MOST 1048576: true; the input reads as it did. -/
def planAllUptoRow : OpenClaim := { program := "ytjjjfckkglcdfaa", sum := "b520cd25fc1983e2a433c551e1bbf41716b51ac6e18390786228639359abbef4", func := "pelican/pelicanlaw14.PlanAll", spec := "planAll", unfollowed := true, recurses := true, apart := false, narrowed := true }
def PlanAllUptoSaid : Prop := planAllUptoRow.holds Try.pinned (OpenSpec.upto planAllSpec)

/-- 'pelicanlaw14.PlanCycle', WHERE WHAT IT READS IS OF BULK AT MOST 1048576: true; the input reads as it did. -/
def planCycleUptoRow : OpenClaim := { program := "ytjjjfckkglcdfaa", sum := "b520cd25fc1983e2a433c551e1bbf41716b51ac6e18390786228639359abbef4", func := "pelican/pelicanlaw14.PlanCycle", spec := "planCycle", unfollowed := true, recurses := true, apart := false, narrowed := true }
def PlanCycleUptoSaid : Prop := planCycleUptoRow.holds Try.pinned (OpenSpec.upto planCycleSpec)

end Rows
end Go.Proofs.Ytjjjfckkglcdfaa
