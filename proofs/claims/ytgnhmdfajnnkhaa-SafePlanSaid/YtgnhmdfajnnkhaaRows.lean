/-
  No cell of these rows narrows 'for every input' (looked for: loops, veiled, ifaces, maps, wideKeys, modest, calm, conditions, laid).
  DERIVED. THE GIVEN ROWS OF THIS SEAT. 7 by the template 'for every input the law returns true; each argument reads behind the call as it read before'; 0 by the template 'total and deterministic' (their statements: YtgnhmdfajnnkhaaTotals.lean).
  GIVEN WITH THE SEED: the statements are not yours to turn. If you find one false, say at which input.
  Laid BY PROGRAM, IN A SANDBOX (cutbox-rows.mjs): the forced cells as the released guide's own fill.sh prints them over the translation ddfb800e3e723892… (all of the seat's roots in one cut). By AI agents, Wed Nov 11 2026. No macro, syntax, notation, axiom, sorry.
-/
import Derived.Test.YtgnhmdfajnnkhaaChecked
import GoSem.Claim
import GoSem.ClaimJoined
import GoSem.ClaimMapViews
import Derived.JoinedTies
import Derived.KernelRfl
namespace Go.Proofs.Ytgnhmdfajnnkhaa
/- THE CELL 'sum', in the pinned program and in every row, IS THE sha256 OF THE DUMP (.gsa) THAT YtgnhmdfajnnkhaaProg.lean LOADS. Nothing in Lean hashes anything: it is a label: what it is worth is what the hold of that sum in a sandbox is worth. -/
noncomputable def Try.pinned : Pinned := { name := "ytgnhmdfajnnkhaa", sum := "ddfb800e3e72389227d6c177cf092d91202bc66ed7465ff54d578c6058e31e89", checked := Try.checked }
namespace Rows
def none {H : Type} : Left H := { results := [], args := [] }

/-- 'pelicanlaw17.SafeTells': WHATEVER THE INPUT: true; the input reads as it did. -/
def safeTellsSpec : ChangeSpec := { name := "safeTells", fn := fun _ => fun
  | [d1, d2, d3, d4, d5] => { results := [.lit (.bool true)], args := [d1, d2, d3, d4, d5] }
  | _ => none }
def safeTellsRow : OpenClaim := { program := "ytgnhmdfajnnkhaa", sum := "ddfb800e3e72389227d6c177cf092d91202bc66ed7465ff54d578c6058e31e89", func := "pelican/pelicanlaw17.SafeTells", spec := "safeTells", inPlace := ["internal/abi.NoEscape"], unfollowed := true, recurses := true, apart := false }
def SafeTellsSaid : Prop := safeTellsRow.holds Try.pinned (OpenSpec.ofChange safeTellsSpec)

/-- ITS FALSE NEIGHBOUR: 'it returns false'. Refute it at one input. -/
def safeTellsWrong : ChangeSpec := { name := "safeTells", fn := fun _ => fun
  | [d1, d2, d3, d4, d5] => { results := [.lit (.bool false)], args := [d1, d2, d3, d4, d5] }
  | _ => none }
def SafeTellsWrongFalsely : Prop := safeTellsRow.holds Try.pinned (OpenSpec.ofChange safeTellsWrong)

/-- 'pelicanlaw17.SafeStays': WHATEVER THE INPUT: true; the input reads as it did. -/
def safeStaysSpec : ChangeSpec := { name := "safeStays", fn := fun _ => fun
  | [d1, d2, d3, d4] => { results := [.lit (.bool true)], args := [d1, d2, d3, d4] }
  | _ => none }
def safeStaysRow : OpenClaim := { program := "ytgnhmdfajnnkhaa", sum := "ddfb800e3e72389227d6c177cf092d91202bc66ed7465ff54d578c6058e31e89", func := "pelican/pelicanlaw17.SafeStays", spec := "safeStays", inPlace := ["internal/abi.NoEscape"], unfollowed := true, recurses := true, apart := false }
def SafeStaysSaid : Prop := safeStaysRow.holds Try.pinned (OpenSpec.ofChange safeStaysSpec)

/-- ITS FALSE NEIGHBOUR: 'it returns false'. Refute it at one input. -/
def safeStaysWrong : ChangeSpec := { name := "safeStays", fn := fun _ => fun
  | [d1, d2, d3, d4] => { results := [.lit (.bool false)], args := [d1, d2, d3, d4] }
  | _ => none }
def SafeStaysWrongFalsely : Prop := safeStaysRow.holds Try.pinned (OpenSpec.ofChange safeStaysWrong)

/-- 'pelicanlaw17.SafeHold': WHATEVER THE INPUT: true; the input reads as it did. -/
def safeHoldSpec : ChangeSpec := { name := "safeHold", fn := fun _ => fun
  | [d1, d2, d3] => { results := [.lit (.bool true)], args := [d1, d2, d3] }
  | _ => none }
def safeHoldRow : OpenClaim := { program := "ytgnhmdfajnnkhaa", sum := "ddfb800e3e72389227d6c177cf092d91202bc66ed7465ff54d578c6058e31e89", func := "pelican/pelicanlaw17.SafeHold", spec := "safeHold", inPlace := ["internal/abi.NoEscape"], unfollowed := true, recurses := true, apart := false }
def SafeHoldSaid : Prop := safeHoldRow.holds Try.pinned (OpenSpec.ofChange safeHoldSpec)

/-- ITS FALSE NEIGHBOUR: 'it returns false'. Refute it at one input. -/
def safeHoldWrong : ChangeSpec := { name := "safeHold", fn := fun _ => fun
  | [d1, d2, d3] => { results := [.lit (.bool false)], args := [d1, d2, d3] }
  | _ => none }
def SafeHoldWrongFalsely : Prop := safeHoldRow.holds Try.pinned (OpenSpec.ofChange safeHoldWrong)

/-- 'pelicanlaw17.SafeRed': WHATEVER THE INPUT: true; the input reads as it did. -/
def safeRedSpec : ChangeSpec := { name := "safeRed", fn := fun _ => fun
  | [d1, d2, d3] => { results := [.lit (.bool true)], args := [d1, d2, d3] }
  | _ => none }
def safeRedRow : OpenClaim := { program := "ytgnhmdfajnnkhaa", sum := "ddfb800e3e72389227d6c177cf092d91202bc66ed7465ff54d578c6058e31e89", func := "pelican/pelicanlaw17.SafeRed", spec := "safeRed", inPlace := ["internal/abi.NoEscape"], unfollowed := true, recurses := true, apart := false }
def SafeRedSaid : Prop := safeRedRow.holds Try.pinned (OpenSpec.ofChange safeRedSpec)

/-- ITS FALSE NEIGHBOUR: 'it returns false'. Refute it at one input. -/
def safeRedWrong : ChangeSpec := { name := "safeRed", fn := fun _ => fun
  | [d1, d2, d3] => { results := [.lit (.bool false)], args := [d1, d2, d3] }
  | _ => none }
def SafeRedWrongFalsely : Prop := safeRedRow.holds Try.pinned (OpenSpec.ofChange safeRedWrong)

/-- 'pelicanlaw17.SafeNext': WHATEVER THE INPUT: true; the input reads as it did. -/
def safeNextSpec : ChangeSpec := { name := "safeNext", fn := fun _ => fun
  | [d1, d2, d3, d4] => { results := [.lit (.bool true)], args := [d1, d2, d3, d4] }
  | _ => none }
def safeNextRow : OpenClaim := { program := "ytgnhmdfajnnkhaa", sum := "ddfb800e3e72389227d6c177cf092d91202bc66ed7465ff54d578c6058e31e89", func := "pelican/pelicanlaw17.SafeNext", spec := "safeNext", inPlace := ["internal/abi.NoEscape"], unfollowed := true, recurses := true, apart := false }
def SafeNextSaid : Prop := safeNextRow.holds Try.pinned (OpenSpec.ofChange safeNextSpec)

/-- ITS FALSE NEIGHBOUR: 'it returns false'. Refute it at one input. -/
def safeNextWrong : ChangeSpec := { name := "safeNext", fn := fun _ => fun
  | [d1, d2, d3, d4] => { results := [.lit (.bool false)], args := [d1, d2, d3, d4] }
  | _ => none }
def SafeNextWrongFalsely : Prop := safeNextRow.holds Try.pinned (OpenSpec.ofChange safeNextWrong)

/-- 'pelicanlaw17.SafePlan': WHATEVER THE INPUT: true; the input reads as it did. -/
def safePlanSpec : ChangeSpec := { name := "safePlan", fn := fun _ => fun
  | [d1, d2, d3, d4] => { results := [.lit (.bool true)], args := [d1, d2, d3, d4] }
  | _ => none }
def safePlanRow : OpenClaim := { program := "ytgnhmdfajnnkhaa", sum := "ddfb800e3e72389227d6c177cf092d91202bc66ed7465ff54d578c6058e31e89", func := "pelican/pelicanlaw17.SafePlan", spec := "safePlan", inPlace := ["internal/abi.NoEscape"], unfollowed := true, recurses := true, apart := false }
def SafePlanSaid : Prop := safePlanRow.holds Try.pinned (OpenSpec.ofChange safePlanSpec)

/-- ITS FALSE NEIGHBOUR: 'it returns false'. Refute it at one input. -/
def safePlanWrong : ChangeSpec := { name := "safePlan", fn := fun _ => fun
  | [d1, d2, d3, d4] => { results := [.lit (.bool false)], args := [d1, d2, d3, d4] }
  | _ => none }
def SafePlanWrongFalsely : Prop := safePlanRow.holds Try.pinned (OpenSpec.ofChange safePlanWrong)

/-- 'pelicanlaw17.SafePlay': WHATEVER THE INPUT: true; the input reads as it did. -/
def safePlaySpec : ChangeSpec := { name := "safePlay", fn := fun _ => fun
  | [d1, d2, d3, d4, d5] => { results := [.lit (.bool true)], args := [d1, d2, d3, d4, d5] }
  | _ => none }
def safePlayRow : OpenClaim := { program := "ytgnhmdfajnnkhaa", sum := "ddfb800e3e72389227d6c177cf092d91202bc66ed7465ff54d578c6058e31e89", func := "pelican/pelicanlaw17.SafePlay", spec := "safePlay", inPlace := ["internal/abi.NoEscape"], unfollowed := true, recurses := true, apart := false }
def SafePlaySaid : Prop := safePlayRow.holds Try.pinned (OpenSpec.ofChange safePlaySpec)

/-- ITS FALSE NEIGHBOUR: 'it returns false'. Refute it at one input. -/
def safePlayWrong : ChangeSpec := { name := "safePlay", fn := fun _ => fun
  | [d1, d2, d3, d4, d5] => { results := [.lit (.bool false)], args := [d1, d2, d3, d4, d5] }
  | _ => none }
def SafePlayWrongFalsely : Prop := safePlayRow.holds Try.pinned (OpenSpec.ofChange safePlayWrong)

/- THE SECOND FORM. 'bulk': how many values and letters a reading holds, each counted each time it is reached (what is shared counts as often as it is met; a slice's spare places count too). A statement '..UptoSaid' is the law's where the arguments, and the package variables that the reading takes, are together of bulk at most 1048576: NARROWER than '..Said'. Prove '..Said' where nothing that the law and all that it calls make is longer than what came in: it says more and counts as full. Else prove '..UptoSaid'. A law counts once. -/
mutual
def uptoBulk {H : Type} : DataW H → Nat
  | .lit (.string bytes) => bytes.length + 1
  | .lit _ => 1
  | .nil => 1
  | .ptr d => uptoBulk d + 1
  | .slice elems spare => uptoBulkAll elems + uptoBulkAll spare + 1
  | .agg parts => uptoBulkAll parts + 1
  | .iface _ d => uptoBulk d + 1
  | .map entries => uptoBulkEntries entries + 1
  | .held _ => 1
def uptoBulkAll {H : Type} : List (DataW H) → Nat
  | [] => 0
  | d :: r => uptoBulk d + uptoBulkAll r
def uptoBulkEntries {H : Type} : List (Lit × DataW H) → Nat
  | [] => 0
  | x :: r => uptoBulkEntry x + uptoBulkEntries r
def uptoBulkEntry {H : Type} : Lit × DataW H → Nat
  | (.string bytes, d) => bytes.length + uptoBulk d + 1
  | (_, d) => uptoBulk d + 1
 end
def uptoSmall : (H : Type) → List (DataW H) → Bool := fun _ ds => decide (uptoBulkAll ds ≤ 1048576)
def OpenSpec.upto (s : _root_.Go.ChangeSpec) : _root_.Go.OpenSpec := { _root_.Go.OpenSpec.ofChange s with cond := some uptoSmall }

/-- 'pelicanlaw17.SafeTells', WHERE WHAT IT READS IS OF BULK AT MOST 1048576: true; the input reads as it did. -/
def safeTellsUptoRow : OpenClaim := { program := "ytgnhmdfajnnkhaa", sum := "ddfb800e3e72389227d6c177cf092d91202bc66ed7465ff54d578c6058e31e89", func := "pelican/pelicanlaw17.SafeTells", spec := "safeTells", inPlace := ["internal/abi.NoEscape"], unfollowed := true, recurses := true, apart := false, narrowed := true }
def SafeTellsUptoSaid : Prop := safeTellsUptoRow.holds Try.pinned (OpenSpec.upto safeTellsSpec)

/-- 'pelicanlaw17.SafeStays', WHERE WHAT IT READS IS OF BULK AT MOST 1048576: true; the input reads as it did. -/
def safeStaysUptoRow : OpenClaim := { program := "ytgnhmdfajnnkhaa", sum := "ddfb800e3e72389227d6c177cf092d91202bc66ed7465ff54d578c6058e31e89", func := "pelican/pelicanlaw17.SafeStays", spec := "safeStays", inPlace := ["internal/abi.NoEscape"], unfollowed := true, recurses := true, apart := false, narrowed := true }
def SafeStaysUptoSaid : Prop := safeStaysUptoRow.holds Try.pinned (OpenSpec.upto safeStaysSpec)

/-- 'pelicanlaw17.SafeHold', WHERE WHAT IT READS IS OF BULK AT MOST 1048576: true; the input reads as it did. -/
def safeHoldUptoRow : OpenClaim := { program := "ytgnhmdfajnnkhaa", sum := "ddfb800e3e72389227d6c177cf092d91202bc66ed7465ff54d578c6058e31e89", func := "pelican/pelicanlaw17.SafeHold", spec := "safeHold", inPlace := ["internal/abi.NoEscape"], unfollowed := true, recurses := true, apart := false, narrowed := true }
def SafeHoldUptoSaid : Prop := safeHoldUptoRow.holds Try.pinned (OpenSpec.upto safeHoldSpec)

/-- 'pelicanlaw17.SafeRed', WHERE WHAT IT READS IS OF BULK AT MOST 1048576: true; the input reads as it did. -/
def safeRedUptoRow : OpenClaim := { program := "ytgnhmdfajnnkhaa", sum := "ddfb800e3e72389227d6c177cf092d91202bc66ed7465ff54d578c6058e31e89", func := "pelican/pelicanlaw17.SafeRed", spec := "safeRed", inPlace := ["internal/abi.NoEscape"], unfollowed := true, recurses := true, apart := false, narrowed := true }
def SafeRedUptoSaid : Prop := safeRedUptoRow.holds Try.pinned (OpenSpec.upto safeRedSpec)

/-- 'pelicanlaw17.SafeNext', WHERE WHAT IT READS IS OF BULK AT MOST 1048576: true; the input reads as it did. -/
def safeNextUptoRow : OpenClaim := { program := "ytgnhmdfajnnkhaa", sum := "ddfb800e3e72389227d6c177cf092d91202bc66ed7465ff54d578c6058e31e89", func := "pelican/pelicanlaw17.SafeNext", spec := "safeNext", inPlace := ["internal/abi.NoEscape"], unfollowed := true, recurses := true, apart := false, narrowed := true }
def SafeNextUptoSaid : Prop := safeNextUptoRow.holds Try.pinned (OpenSpec.upto safeNextSpec)

/-- 'pelicanlaw17.SafePlan', WHERE WHAT IT READS IS OF BULK AT MOST 1048576: true; the input reads as it did. -/
def safePlanUptoRow : OpenClaim := { program := "ytgnhmdfajnnkhaa", sum := "ddfb800e3e72389227d6c177cf092d91202bc66ed7465ff54d578c6058e31e89", func := "pelican/pelicanlaw17.SafePlan", spec := "safePlan", inPlace := ["internal/abi.NoEscape"], unfollowed := true, recurses := true, apart := false, narrowed := true }
def SafePlanUptoSaid : Prop := safePlanUptoRow.holds Try.pinned (OpenSpec.upto safePlanSpec)

/-- 'pelicanlaw17.SafePlay', WHERE WHAT IT READS IS OF BULK AT MOST 1048576: true; the input reads as it did. -/
def safePlayUptoRow : OpenClaim := { program := "ytgnhmdfajnnkhaa", sum := "ddfb800e3e72389227d6c177cf092d91202bc66ed7465ff54d578c6058e31e89", func := "pelican/pelicanlaw17.SafePlay", spec := "safePlay", inPlace := ["internal/abi.NoEscape"], unfollowed := true, recurses := true, apart := false, narrowed := true }
def SafePlayUptoSaid : Prop := safePlayUptoRow.holds Try.pinned (OpenSpec.upto safePlaySpec)

end Rows
end Go.Proofs.Ytgnhmdfajnnkhaa
