/-
  No cell of these rows narrows 'for every input' (looked for: loops, veiled, ifaces, maps, wideKeys, modest, calm, conditions, laid).
  DERIVED. THE GIVEN ROWS OF THIS SEAT. 5 by the template 'for every input the law returns true; each argument reads behind the call as it read before'; 0 by the template 'total and deterministic' (their statements: YtlejeecnkbapmaaTotals.lean).
  GIVEN WITH THE SEED: the statements are not yours to turn. If you find one false, say at which input.
  Laid BY PROGRAM, IN A SANDBOX (cutbox-rows.mjs): the forced cells as the released guide's own fill.sh prints them over the translation f29be336da373aca… (all of the seat's roots in one cut). By AI agents, Wed Nov 11 2026. No macro, syntax, notation, axiom, sorry.
-/
import Derived.Test.YtlejeecnkbapmaaChecked
import GoSem.Claim
import GoSem.ClaimJoined
import GoSem.ClaimMapViews
import Derived.JoinedTies
import Derived.KernelRfl
namespace Go.Proofs.Ytlejeecnkbapmaa
/- THE CELL 'sum', in the pinned program and in every row, IS THE sha256 OF THE DUMP (.gsa) THAT YtlejeecnkbapmaaProg.lean LOADS. Nothing in Lean hashes anything: it is a label: what it is worth is what the hold of that sum in a sandbox is worth. -/
noncomputable def Try.pinned : Pinned := { name := "ytlejeecnkbapmaa", sum := "f29be336da373aca19869e4eec3b306a817121e42cabb20de131e35adad7e15b", checked := Try.checked }
namespace Rows
def none {H : Type} : Left H := { results := [], args := [] }

/-- 'pelicanlaw13.GroupTells': WHATEVER THE INPUT: true; the input reads as it did. -/
def groupTellsSpec : ChangeSpec := { name := "groupTells", fn := fun _ => fun
  | [d1, d2, d3] => { results := [.lit (.bool true)], args := [d1, d2, d3] }
  | _ => none }
def groupTellsRow : OpenClaim := { program := "ytlejeecnkbapmaa", sum := "f29be336da373aca19869e4eec3b306a817121e42cabb20de131e35adad7e15b", func := "pelican/pelicanlaw13.GroupTells", spec := "groupTells", unfollowed := true, recurses := true, apart := false }
def GroupTellsSaid : Prop := groupTellsRow.holds Try.pinned (OpenSpec.ofChange groupTellsSpec)

/-- ITS FALSE NEIGHBOUR: 'it returns false'. Refute it at one input. -/
def groupTellsWrong : ChangeSpec := { name := "groupTells", fn := fun _ => fun
  | [d1, d2, d3] => { results := [.lit (.bool false)], args := [d1, d2, d3] }
  | _ => none }
def GroupTellsWrongFalsely : Prop := groupTellsRow.holds Try.pinned (OpenSpec.ofChange groupTellsWrong)

/-- 'pelicanlaw13.GroupBack': WHATEVER THE INPUT: true; the input reads as it did. -/
def groupBackSpec : ChangeSpec := { name := "groupBack", fn := fun _ => fun
  | [d1, d2] => { results := [.lit (.bool true)], args := [d1, d2] }
  | _ => none }
def groupBackRow : OpenClaim := { program := "ytlejeecnkbapmaa", sum := "f29be336da373aca19869e4eec3b306a817121e42cabb20de131e35adad7e15b", func := "pelican/pelicanlaw13.GroupBack", spec := "groupBack", unfollowed := true, recurses := true, apart := false }
def GroupBackSaid : Prop := groupBackRow.holds Try.pinned (OpenSpec.ofChange groupBackSpec)

/-- ITS FALSE NEIGHBOUR: 'it returns false'. Refute it at one input. -/
def groupBackWrong : ChangeSpec := { name := "groupBack", fn := fun _ => fun
  | [d1, d2] => { results := [.lit (.bool false)], args := [d1, d2] }
  | _ => none }
def GroupBackWrongFalsely : Prop := groupBackRow.holds Try.pinned (OpenSpec.ofChange groupBackWrong)

/-- 'pelicanlaw13.GroupAgainst': WHATEVER THE INPUT: true; the input reads as it did. -/
def groupAgainstSpec : ChangeSpec := { name := "groupAgainst", fn := fun _ => fun
  | [d1, d2, d3, d4] => { results := [.lit (.bool true)], args := [d1, d2, d3, d4] }
  | _ => none }
def groupAgainstRow : OpenClaim := { program := "ytlejeecnkbapmaa", sum := "f29be336da373aca19869e4eec3b306a817121e42cabb20de131e35adad7e15b", func := "pelican/pelicanlaw13.GroupAgainst", spec := "groupAgainst", unfollowed := true, recurses := true, apart := false }
def GroupAgainstSaid : Prop := groupAgainstRow.holds Try.pinned (OpenSpec.ofChange groupAgainstSpec)

/-- ITS FALSE NEIGHBOUR: 'it returns false'. Refute it at one input. -/
def groupAgainstWrong : ChangeSpec := { name := "groupAgainst", fn := fun _ => fun
  | [d1, d2, d3, d4] => { results := [.lit (.bool false)], args := [d1, d2, d3, d4] }
  | _ => none }
def GroupAgainstWrongFalsely : Prop := groupAgainstRow.holds Try.pinned (OpenSpec.ofChange groupAgainstWrong)

/-- 'pelicanlaw13.GroupSets': WHATEVER THE INPUT: true; the input reads as it did. -/
def groupSetsSpec : ChangeSpec := { name := "groupSets", fn := fun _ => fun
  | [d1, d2, d3] => { results := [.lit (.bool true)], args := [d1, d2, d3] }
  | _ => none }
def groupSetsRow : OpenClaim := { program := "ytlejeecnkbapmaa", sum := "f29be336da373aca19869e4eec3b306a817121e42cabb20de131e35adad7e15b", func := "pelican/pelicanlaw13.GroupSets", spec := "groupSets", unfollowed := true, recurses := true, apart := false }
def GroupSetsSaid : Prop := groupSetsRow.holds Try.pinned (OpenSpec.ofChange groupSetsSpec)

/-- ITS FALSE NEIGHBOUR: 'it returns false'. Refute it at one input. -/
def groupSetsWrong : ChangeSpec := { name := "groupSets", fn := fun _ => fun
  | [d1, d2, d3] => { results := [.lit (.bool false)], args := [d1, d2, d3] }
  | _ => none }
def GroupSetsWrongFalsely : Prop := groupSetsRow.holds Try.pinned (OpenSpec.ofChange groupSetsWrong)

/-- 'pelicanlaw13.GroupPart': WHATEVER THE INPUT: true; the input reads as it did. -/
def groupPartSpec : ChangeSpec := { name := "groupPart", fn := fun _ => fun
  | [d1, d2, d3] => { results := [.lit (.bool true)], args := [d1, d2, d3] }
  | _ => none }
def groupPartRow : OpenClaim := { program := "ytlejeecnkbapmaa", sum := "f29be336da373aca19869e4eec3b306a817121e42cabb20de131e35adad7e15b", func := "pelican/pelicanlaw13.GroupPart", spec := "groupPart", unfollowed := true, recurses := true, apart := false }
def GroupPartSaid : Prop := groupPartRow.holds Try.pinned (OpenSpec.ofChange groupPartSpec)

/-- ITS FALSE NEIGHBOUR: 'it returns false'. Refute it at one input. -/
def groupPartWrong : ChangeSpec := { name := "groupPart", fn := fun _ => fun
  | [d1, d2, d3] => { results := [.lit (.bool false)], args := [d1, d2, d3] }
  | _ => none }
def GroupPartWrongFalsely : Prop := groupPartRow.holds Try.pinned (OpenSpec.ofChange groupPartWrong)

/- THE SECOND FORM. 'bulk': how many values and letters a reading holds, each counted each time it is reached (what is shared counts as often as it is met; a slice's spare places count too). A statement '..UptoSaid' is the law's where the arguments, and the package variables that the reading takes, are together of bulk at most 1048576: NARROWER than '..Said'. Prove '..Said' where nothing that the law and all that it calls make is longer than what came in: it says more and counts as full. Else prove '..UptoSaid'. A law counts once. -/
mutual
def uptoBulk {H : Type} : DataW H → Nat
  | .lit (.string bytes) => bytes.length + 1
  | .lit _ => 1
  | .nil => 1
  | .ptr d => uptoBulk d + 1
  | .slice elems spare => uptoBulkAll elems + uptoBulkAll spare + 1
  | .agg parts => uptoBulkAll parts + 1
  | .iface _ d => uptoBulk d + 1
  | .map entries => uptoBulkEntries entries + 1
  | .held _ => 1
def uptoBulkAll {H : Type} : List (DataW H) → Nat
  | [] => 0
  | d :: r => uptoBulk d + uptoBulkAll r
def uptoBulkEntries {H : Type} : List (Lit × DataW H) → Nat
  | [] => 0
  | x :: r => uptoBulkEntry x + uptoBulkEntries r
def uptoBulkEntry {H : Type} : Lit × DataW H → Nat
  | (.string bytes, d) => bytes.length + uptoBulk d + 1
  | (_, d) => uptoBulk d + 1
 end
def uptoSmall : (H : Type) → List (DataW H) → Bool := fun _ ds => decide (uptoBulkAll ds ≤ 1048576)
def OpenSpec.upto (s : _root_.Go.ChangeSpec) : _root_.Go.OpenSpec := { _root_.Go.OpenSpec.ofChange s with cond := some uptoSmall }

/-- 'pelicanlaw13.GroupTells', WHERE WHAT IT READS IS OF BULK AT MOST 1048576: true; the input reads as it did. -/
def groupTellsUptoRow : OpenClaim := { program := "ytlejeecnkbapmaa", sum := "f29be336da373aca19869e4eec3b306a817121e42cabb20de131e35adad7e15b", func := "pelican/pelicanlaw13.GroupTells", spec := "groupTells", unfollowed := true, recurses := true, apart := false, narrowed := true }
def GroupTellsUptoSaid : Prop := groupTellsUptoRow.holds Try.pinned (OpenSpec.upto groupTellsSpec)

/-- 'pelicanlaw13.GroupBack', WHERE WHAT IT READS IS OF BULK AT MOST 1048576: true; the input reads as it did. -/
def groupBackUptoRow : OpenClaim := { program := "ytlejeecnkbapmaa", sum := "f29be336da373aca19869e4eec3b306a817121e42cabb20de131e35adad7e15b", func := "pelican/pelicanlaw13.GroupBack", spec := "groupBack", unfollowed := true, recurses := true, apart := false, narrowed := true }
def GroupBackUptoSaid : Prop := groupBackUptoRow.holds Try.pinned (OpenSpec.upto groupBackSpec)

/-- 'pelicanlaw13.GroupAgainst', WHERE WHAT IT READS IS OF BULK AT MOST 1048576: true; the input reads as it did. -/
def groupAgainstUptoRow : OpenClaim := { program := "ytlejeecnkbapmaa", sum := "f29be336da373aca19869e4eec3b306a817121e42cabb20de131e35adad7e15b", func := "pelican/pelicanlaw13.GroupAgainst", spec := "groupAgainst", unfollowed := true, recurses := true, apart := false, narrowed := true }
def GroupAgainstUptoSaid : Prop := groupAgainstUptoRow.holds Try.pinned (OpenSpec.upto groupAgainstSpec)

/-- 'pelicanlaw13.GroupSets', WHERE WHAT IT READS IS OF BULK AT MOST 1048576: true; the input reads as it did. -/
def groupSetsUptoRow : OpenClaim := { program := "ytlejeecnkbapmaa", sum := "f29be336da373aca19869e4eec3b306a817121e42cabb20de131e35adad7e15b", func := "pelican/pelicanlaw13.GroupSets", spec := "groupSets", unfollowed := true, recurses := true, apart := false, narrowed := true }
def GroupSetsUptoSaid : Prop := groupSetsUptoRow.holds Try.pinned (OpenSpec.upto groupSetsSpec)

/-- 'pelicanlaw13.GroupPart', WHERE WHAT IT READS IS OF BULK AT MOST 1048576: true; the input reads as it did. -/
def groupPartUptoRow : OpenClaim := { program := "ytlejeecnkbapmaa", sum := "f29be336da373aca19869e4eec3b306a817121e42cabb20de131e35adad7e15b", func := "pelican/pelicanlaw13.GroupPart", spec := "groupPart", unfollowed := true, recurses := true, apart := false, narrowed := true }
def GroupPartUptoSaid : Prop := groupPartUptoRow.holds Try.pinned (OpenSpec.upto groupPartSpec)

end Rows
end Go.Proofs.Ytlejeecnkbapmaa
