/-
  No cell of these rows narrows 'for every input' (looked for: loops, veiled, ifaces, maps, wideKeys, modest, calm, conditions, laid).
  DERIVED. THE GIVEN ROWS OF THIS SEAT. 6 by the template 'for every input the law returns true; each argument reads behind the call as it read before'; 0 by the template 'total and deterministic' (their statements: YtcgakgbnhlmcaaaTotals.lean).
  GIVEN WITH THE SEED: the statements are not yours to turn. If you find one false, say at which input.
  Laid BY PROGRAM, IN A SANDBOX (cutbox-rows.mjs): the forced cells as the released guide's own fill.sh prints them over the translation f542c0cbf2cd1a94… (all of the seat's roots in one cut). By AI agents, Wed Nov 11 2026. No macro, syntax, notation, axiom, sorry.
-/
import Derived.Test.YtcgakgbnhlmcaaaChecked
import GoSem.Claim
import GoSem.ClaimJoined
import GoSem.ClaimMapViews
import Derived.JoinedTies
import Derived.KernelRfl
namespace Go.Proofs.Ytcgakgbnhlmcaaa
/- THE CELL 'sum', in the pinned program and in every row, IS THE sha256 OF THE DUMP (.gsa) THAT YtcgakgbnhlmcaaaProg.lean LOADS. Nothing in Lean hashes anything: it is a label: what it is worth is what the hold of that sum in a sandbox is worth. -/
noncomputable def Try.pinned : Pinned := { name := "ytcgakgbnhlmcaaa", sum := "f542c0cbf2cd1a947fedc9b6a52825c4ffa203a5d2f0b41440a3e6b0665bdb2d", checked := Try.checked }
namespace Rows
def none {H : Type} : Left H := { results := [], args := [] }

/-- 'pelicanlaw16.StageTells': WHATEVER THE INPUT: true; the input reads as it did. -/
def stageTellsSpec : ChangeSpec := { name := "stageTells", fn := fun _ => fun
  | [d1, d2, d3] => { results := [.lit (.bool true)], args := [d1, d2, d3] }
  | _ => none }
def stageTellsRow : OpenClaim := { program := "ytcgakgbnhlmcaaa", sum := "f542c0cbf2cd1a947fedc9b6a52825c4ffa203a5d2f0b41440a3e6b0665bdb2d", func := "pelican/pelicanlaw16.StageTells", spec := "stageTells", inPlace := ["internal/abi.NoEscape"], unfollowed := true, recurses := true, apart := false }
def StageTellsSaid : Prop := stageTellsRow.holds Try.pinned (OpenSpec.ofChange stageTellsSpec)

/-- ITS FALSE NEIGHBOUR: 'it returns false'. Refute it at one input. -/
def stageTellsWrong : ChangeSpec := { name := "stageTells", fn := fun _ => fun
  | [d1, d2, d3] => { results := [.lit (.bool false)], args := [d1, d2, d3] }
  | _ => none }
def StageTellsWrongFalsely : Prop := stageTellsRow.holds Try.pinned (OpenSpec.ofChange stageTellsWrong)

/-- 'pelicanlaw16.StageStays': WHATEVER THE INPUT: true; the input reads as it did. -/
def stageStaysSpec : ChangeSpec := { name := "stageStays", fn := fun _ => fun
  | [d1, d2] => { results := [.lit (.bool true)], args := [d1, d2] }
  | _ => none }
def stageStaysRow : OpenClaim := { program := "ytcgakgbnhlmcaaa", sum := "f542c0cbf2cd1a947fedc9b6a52825c4ffa203a5d2f0b41440a3e6b0665bdb2d", func := "pelican/pelicanlaw16.StageStays", spec := "stageStays", inPlace := ["internal/abi.NoEscape"], unfollowed := true, recurses := true, apart := false }
def StageStaysSaid : Prop := stageStaysRow.holds Try.pinned (OpenSpec.ofChange stageStaysSpec)

/-- ITS FALSE NEIGHBOUR: 'it returns false'. Refute it at one input. -/
def stageStaysWrong : ChangeSpec := { name := "stageStays", fn := fun _ => fun
  | [d1, d2] => { results := [.lit (.bool false)], args := [d1, d2] }
  | _ => none }
def StageStaysWrongFalsely : Prop := stageStaysRow.holds Try.pinned (OpenSpec.ofChange stageStaysWrong)

/-- 'pelicanlaw16.StageGreen': WHATEVER THE INPUT: true; the input reads as it did. -/
def stageGreenSpec : ChangeSpec := { name := "stageGreen", fn := fun _ => fun
  | [d1, d2] => { results := [.lit (.bool true)], args := [d1, d2] }
  | _ => none }
def stageGreenRow : OpenClaim := { program := "ytcgakgbnhlmcaaa", sum := "f542c0cbf2cd1a947fedc9b6a52825c4ffa203a5d2f0b41440a3e6b0665bdb2d", func := "pelican/pelicanlaw16.StageGreen", spec := "stageGreen", inPlace := ["internal/abi.NoEscape"], unfollowed := true, recurses := true, apart := false }
def StageGreenSaid : Prop := stageGreenRow.holds Try.pinned (OpenSpec.ofChange stageGreenSpec)

/-- ITS FALSE NEIGHBOUR: 'it returns false'. Refute it at one input. -/
def stageGreenWrong : ChangeSpec := { name := "stageGreen", fn := fun _ => fun
  | [d1, d2] => { results := [.lit (.bool false)], args := [d1, d2] }
  | _ => none }
def StageGreenWrongFalsely : Prop := stageGreenRow.holds Try.pinned (OpenSpec.ofChange stageGreenWrong)

/-- 'pelicanlaw16.StageBetween': WHATEVER THE INPUT: true; the input reads as it did. -/
def stageBetweenSpec : ChangeSpec := { name := "stageBetween", fn := fun _ => fun
  | [d1, d2] => { results := [.lit (.bool true)], args := [d1, d2] }
  | _ => none }
def stageBetweenRow : OpenClaim := { program := "ytcgakgbnhlmcaaa", sum := "f542c0cbf2cd1a947fedc9b6a52825c4ffa203a5d2f0b41440a3e6b0665bdb2d", func := "pelican/pelicanlaw16.StageBetween", spec := "stageBetween", inPlace := ["internal/abi.NoEscape"], unfollowed := true, recurses := true, apart := false }
def StageBetweenSaid : Prop := stageBetweenRow.holds Try.pinned (OpenSpec.ofChange stageBetweenSpec)

/-- ITS FALSE NEIGHBOUR: 'it returns false'. Refute it at one input. -/
def stageBetweenWrong : ChangeSpec := { name := "stageBetween", fn := fun _ => fun
  | [d1, d2] => { results := [.lit (.bool false)], args := [d1, d2] }
  | _ => none }
def StageBetweenWrongFalsely : Prop := stageBetweenRow.holds Try.pinned (OpenSpec.ofChange stageBetweenWrong)

/-- 'pelicanlaw16.StageStops': WHATEVER THE INPUT: true; the input reads as it did. -/
def stageStopsSpec : ChangeSpec := { name := "stageStops", fn := fun _ => fun
  | [d1, d2, d3] => { results := [.lit (.bool true)], args := [d1, d2, d3] }
  | _ => none }
def stageStopsRow : OpenClaim := { program := "ytcgakgbnhlmcaaa", sum := "f542c0cbf2cd1a947fedc9b6a52825c4ffa203a5d2f0b41440a3e6b0665bdb2d", func := "pelican/pelicanlaw16.StageStops", spec := "stageStops", inPlace := ["internal/abi.NoEscape"], unfollowed := true, recurses := true, apart := false }
def StageStopsSaid : Prop := stageStopsRow.holds Try.pinned (OpenSpec.ofChange stageStopsSpec)

/-- ITS FALSE NEIGHBOUR: 'it returns false'. Refute it at one input. -/
def stageStopsWrong : ChangeSpec := { name := "stageStops", fn := fun _ => fun
  | [d1, d2, d3] => { results := [.lit (.bool false)], args := [d1, d2, d3] }
  | _ => none }
def StageStopsWrongFalsely : Prop := stageStopsRow.holds Try.pinned (OpenSpec.ofChange stageStopsWrong)

/-- 'pelicanlaw16.StageRun': WHATEVER THE INPUT: true; the input reads as it did. -/
def stageRunSpec : ChangeSpec := { name := "stageRun", fn := fun _ => fun
  | [d1, d2, d3, d4] => { results := [.lit (.bool true)], args := [d1, d2, d3, d4] }
  | _ => none }
def stageRunRow : OpenClaim := { program := "ytcgakgbnhlmcaaa", sum := "f542c0cbf2cd1a947fedc9b6a52825c4ffa203a5d2f0b41440a3e6b0665bdb2d", func := "pelican/pelicanlaw16.StageRun", spec := "stageRun", inPlace := ["internal/abi.NoEscape"], unfollowed := true, recurses := true, apart := false }
def StageRunSaid : Prop := stageRunRow.holds Try.pinned (OpenSpec.ofChange stageRunSpec)

/-- ITS FALSE NEIGHBOUR: 'it returns false'. Refute it at one input. -/
def stageRunWrong : ChangeSpec := { name := "stageRun", fn := fun _ => fun
  | [d1, d2, d3, d4] => { results := [.lit (.bool false)], args := [d1, d2, d3, d4] }
  | _ => none }
def StageRunWrongFalsely : Prop := stageRunRow.holds Try.pinned (OpenSpec.ofChange stageRunWrong)

/- THE SECOND FORM. 'bulk': how many values and letters a reading holds, each counted each time it is reached (what is shared counts as often as it is met; a slice's spare places count too). A statement '..UptoSaid' is the law's where the arguments, and the package variables that the reading takes, are together of bulk at most 1048576: NARROWER than '..Said'. Prove '..Said' where nothing that the law and all that it calls make is longer than what came in: it says more and counts as full. Else prove '..UptoSaid'. A law counts once. -/
mutual
def uptoBulk {H : Type} : DataW H → Nat
  | .lit (.string bytes) => bytes.length + 1
  | .lit _ => 1
  | .nil => 1
  | .ptr d => uptoBulk d + 1
  | .slice elems spare => uptoBulkAll elems + uptoBulkAll spare + 1
  | .agg parts => uptoBulkAll parts + 1
  | .iface _ d => uptoBulk d + 1
  | .map entries => uptoBulkEntries entries + 1
  | .held _ => 1
def uptoBulkAll {H : Type} : List (DataW H) → Nat
  | [] => 0
  | d :: r => uptoBulk d + uptoBulkAll r
def uptoBulkEntries {H : Type} : List (Lit × DataW H) → Nat
  | [] => 0
  | x :: r => uptoBulkEntry x + uptoBulkEntries r
def uptoBulkEntry {H : Type} : Lit × DataW H → Nat
  | (.string bytes, d) => bytes.length + uptoBulk d + 1
  | (_, d) => uptoBulk d + 1
 end
def uptoSmall : (H : Type) → List (DataW H) → Bool := fun _ ds => decide (uptoBulkAll ds ≤ 1048576)
def OpenSpec.upto (s : _root_.Go.ChangeSpec) : _root_.Go.OpenSpec := { _root_.Go.OpenSpec.ofChange s with cond := some uptoSmall }

/-- 'pelicanlaw16.StageTells', WHERE WHAT IT READS IS OF BULK AT MOST 1048576: true; the input reads as it did. -/
def stageTellsUptoRow : OpenClaim := { program := "ytcgakgbnhlmcaaa", sum := "f542c0cbf2cd1a947fedc9b6a52825c4ffa203a5d2f0b41440a3e6b0665bdb2d", func := "pelican/pelicanlaw16.StageTells", spec := "stageTells", inPlace := ["internal/abi.NoEscape"], unfollowed := true, recurses := true, apart := false, narrowed := true }
def StageTellsUptoSaid : Prop := stageTellsUptoRow.holds Try.pinned (OpenSpec.upto stageTellsSpec)

/-- 'pelicanlaw16.StageStays', WHERE WHAT IT READS IS OF BULK AT MOST 1048576: true; the input reads as it did. -/
def stageStaysUptoRow : OpenClaim := { program := "ytcgakgbnhlmcaaa", sum := "f542c0cbf2cd1a947fedc9b6a52825c4ffa203a5d2f0b41440a3e6b0665bdb2d", func := "pelican/pelicanlaw16.StageStays", spec := "stageStays", inPlace := ["internal/abi.NoEscape"], unfollowed := true, recurses := true, apart := false, narrowed := true }
def StageStaysUptoSaid : Prop := stageStaysUptoRow.holds Try.pinned (OpenSpec.upto stageStaysSpec)

/-- 'pelicanlaw16.StageGreen', WHERE WHAT IT READS IS OF BULK AT MOST 1048576: true; the input reads as it did. -/
def stageGreenUptoRow : OpenClaim := { program := "ytcgakgbnhlmcaaa", sum := "f542c0cbf2cd1a947fedc9b6a52825c4ffa203a5d2f0b41440a3e6b0665bdb2d", func := "pelican/pelicanlaw16.StageGreen", spec := "stageGreen", inPlace := ["internal/abi.NoEscape"], unfollowed := true, recurses := true, apart := false, narrowed := true }
def StageGreenUptoSaid : Prop := stageGreenUptoRow.holds Try.pinned (OpenSpec.upto stageGreenSpec)

/-- 'pelicanlaw16.StageBetween', WHERE WHAT IT READS IS OF BULK AT MOST 1048576: true; the input reads as it did. -/
def stageBetweenUptoRow : OpenClaim := { program := "ytcgakgbnhlmcaaa", sum := "f542c0cbf2cd1a947fedc9b6a52825c4ffa203a5d2f0b41440a3e6b0665bdb2d", func := "pelican/pelicanlaw16.StageBetween", spec := "stageBetween", inPlace := ["internal/abi.NoEscape"], unfollowed := true, recurses := true, apart := false, narrowed := true }
def StageBetweenUptoSaid : Prop := stageBetweenUptoRow.holds Try.pinned (OpenSpec.upto stageBetweenSpec)

/-- 'pelicanlaw16.StageStops', WHERE WHAT IT READS IS OF BULK AT MOST 1048576: true; the input reads as it did. -/
def stageStopsUptoRow : OpenClaim := { program := "ytcgakgbnhlmcaaa", sum := "f542c0cbf2cd1a947fedc9b6a52825c4ffa203a5d2f0b41440a3e6b0665bdb2d", func := "pelican/pelicanlaw16.StageStops", spec := "stageStops", inPlace := ["internal/abi.NoEscape"], unfollowed := true, recurses := true, apart := false, narrowed := true }
def StageStopsUptoSaid : Prop := stageStopsUptoRow.holds Try.pinned (OpenSpec.upto stageStopsSpec)

/-- 'pelicanlaw16.StageRun', WHERE WHAT IT READS IS OF BULK AT MOST 1048576: true; the input reads as it did. -/
def stageRunUptoRow : OpenClaim := { program := "ytcgakgbnhlmcaaa", sum := "f542c0cbf2cd1a947fedc9b6a52825c4ffa203a5d2f0b41440a3e6b0665bdb2d", func := "pelican/pelicanlaw16.StageRun", spec := "stageRun", inPlace := ["internal/abi.NoEscape"], unfollowed := true, recurses := true, apart := false, narrowed := true }
def StageRunUptoSaid : Prop := stageRunUptoRow.holds Try.pinned (OpenSpec.upto stageRunSpec)

end Rows
end Go.Proofs.Ytcgakgbnhlmcaaa
