/-
  No cell of these rows narrows 'for every input' (looked for: loops, veiled, ifaces, maps, wideKeys, modest, calm, conditions, laid).
  DERIVED. THE GIVEN ROWS OF THIS SEAT. 5 by the template 'for every input the law returns true; each argument reads behind the call as it read before'; 0 by the template 'total and deterministic' (their statements: YtekmagpokcloaaaTotals.lean).
  GIVEN WITH THE SEED: the statements are not yours to turn. If you find one false, say at which input.
  Laid BY PROGRAM, IN A SANDBOX (cutbox-rows.mjs): the forced cells as the released guide's own fill.sh prints them over the translation b8cd868e8fa0f944… (all of the seat's roots in one cut). By AI agents, Wed Nov 11 2026. No macro, syntax, notation, axiom, sorry.
-/
import Derived.Test.YtekmagpokcloaaaChecked
import GoSem.Claim
import GoSem.ClaimJoined
import GoSem.ClaimMapViews
import Derived.JoinedTies
import Derived.KernelRfl
namespace Go.Proofs.Ytekmagpokcloaaa
/- THE CELL 'sum', in the pinned program and in every row, IS THE sha256 OF THE DUMP (.gsa) THAT YtekmagpokcloaaaProg.lean LOADS. Nothing in Lean hashes anything: it is a label: what it is worth is what the hold of that sum in a sandbox is worth. -/
noncomputable def Try.pinned : Pinned := { name := "ytekmagpokcloaaa", sum := "b8cd868e8fa0f944f6efde2283b47c4bf19194506f6b47c2ade266cdc1adc34c", checked := Try.checked }
namespace Rows
def none {H : Type} : Left H := { results := [], args := [] }

/-- 'pelicanlaw15.LampTells': WHATEVER THE INPUT: true; the input reads as it did. -/
def lampTellsSpec : ChangeSpec := { name := "lampTells", fn := fun _ => fun
  | [d1, d2, d3, d4, d5] => { results := [.lit (.bool true)], args := [d1, d2, d3, d4, d5] }
  | _ => none }
def lampTellsRow : OpenClaim := { program := "ytekmagpokcloaaa", sum := "b8cd868e8fa0f944f6efde2283b47c4bf19194506f6b47c2ade266cdc1adc34c", func := "pelican/pelicanlaw15.LampTells", spec := "lampTells", inPlace := ["internal/abi.NoEscape"], unfollowed := true, recurses := true, apart := false }
def LampTellsSaid : Prop := lampTellsRow.holds Try.pinned (OpenSpec.ofChange lampTellsSpec)

/-- ITS FALSE NEIGHBOUR: 'it returns false'. Refute it at one input. -/
def lampTellsWrong : ChangeSpec := { name := "lampTells", fn := fun _ => fun
  | [d1, d2, d3, d4, d5] => { results := [.lit (.bool false)], args := [d1, d2, d3, d4, d5] }
  | _ => none }
def LampTellsWrongFalsely : Prop := lampTellsRow.holds Try.pinned (OpenSpec.ofChange lampTellsWrong)

/-- 'pelicanlaw15.LampBack': WHATEVER THE INPUT: true; the input reads as it did. -/
def lampBackSpec : ChangeSpec := { name := "lampBack", fn := fun _ => fun
  | [d1, d2, d3] => { results := [.lit (.bool true)], args := [d1, d2, d3] }
  | _ => none }
def lampBackRow : OpenClaim := { program := "ytekmagpokcloaaa", sum := "b8cd868e8fa0f944f6efde2283b47c4bf19194506f6b47c2ade266cdc1adc34c", func := "pelican/pelicanlaw15.LampBack", spec := "lampBack", inPlace := ["internal/abi.NoEscape"], unfollowed := true, recurses := true, apart := false }
def LampBackSaid : Prop := lampBackRow.holds Try.pinned (OpenSpec.ofChange lampBackSpec)

/-- ITS FALSE NEIGHBOUR: 'it returns false'. Refute it at one input. -/
def lampBackWrong : ChangeSpec := { name := "lampBack", fn := fun _ => fun
  | [d1, d2, d3] => { results := [.lit (.bool false)], args := [d1, d2, d3] }
  | _ => none }
def LampBackWrongFalsely : Prop := lampBackRow.holds Try.pinned (OpenSpec.ofChange lampBackWrong)

/-- 'pelicanlaw15.LampFree': WHATEVER THE INPUT: true; the input reads as it did. -/
def lampFreeSpec : ChangeSpec := { name := "lampFree", fn := fun _ => fun
  | [d1, d2, d3] => { results := [.lit (.bool true)], args := [d1, d2, d3] }
  | _ => none }
def lampFreeRow : OpenClaim := { program := "ytekmagpokcloaaa", sum := "b8cd868e8fa0f944f6efde2283b47c4bf19194506f6b47c2ade266cdc1adc34c", func := "pelican/pelicanlaw15.LampFree", spec := "lampFree", inPlace := ["internal/abi.NoEscape"], unfollowed := true, recurses := true, apart := false }
def LampFreeSaid : Prop := lampFreeRow.holds Try.pinned (OpenSpec.ofChange lampFreeSpec)

/-- ITS FALSE NEIGHBOUR: 'it returns false'. Refute it at one input. -/
def lampFreeWrong : ChangeSpec := { name := "lampFree", fn := fun _ => fun
  | [d1, d2, d3] => { results := [.lit (.bool false)], args := [d1, d2, d3] }
  | _ => none }
def LampFreeWrongFalsely : Prop := lampFreeRow.holds Try.pinned (OpenSpec.ofChange lampFreeWrong)

/-- 'pelicanlaw15.LampShow': WHATEVER THE INPUT: true; the input reads as it did. -/
def lampShowSpec : ChangeSpec := { name := "lampShow", fn := fun _ => fun
  | [d1, d2, d3] => { results := [.lit (.bool true)], args := [d1, d2, d3] }
  | _ => none }
def lampShowRow : OpenClaim := { program := "ytekmagpokcloaaa", sum := "b8cd868e8fa0f944f6efde2283b47c4bf19194506f6b47c2ade266cdc1adc34c", func := "pelican/pelicanlaw15.LampShow", spec := "lampShow", inPlace := ["internal/abi.NoEscape"], unfollowed := true, recurses := true, apart := false }
def LampShowSaid : Prop := lampShowRow.holds Try.pinned (OpenSpec.ofChange lampShowSpec)

/-- ITS FALSE NEIGHBOUR: 'it returns false'. Refute it at one input. -/
def lampShowWrong : ChangeSpec := { name := "lampShow", fn := fun _ => fun
  | [d1, d2, d3] => { results := [.lit (.bool false)], args := [d1, d2, d3] }
  | _ => none }
def LampShowWrongFalsely : Prop := lampShowRow.holds Try.pinned (OpenSpec.ofChange lampShowWrong)

/-- 'pelicanlaw15.LampClash': WHATEVER THE INPUT: true; the input reads as it did. -/
def lampClashSpec : ChangeSpec := { name := "lampClash", fn := fun _ => fun
  | [d1, d2, d3, d4] => { results := [.lit (.bool true)], args := [d1, d2, d3, d4] }
  | _ => none }
def lampClashRow : OpenClaim := { program := "ytekmagpokcloaaa", sum := "b8cd868e8fa0f944f6efde2283b47c4bf19194506f6b47c2ade266cdc1adc34c", func := "pelican/pelicanlaw15.LampClash", spec := "lampClash", inPlace := ["internal/abi.NoEscape"], unfollowed := true, recurses := true, apart := false }
def LampClashSaid : Prop := lampClashRow.holds Try.pinned (OpenSpec.ofChange lampClashSpec)

/-- ITS FALSE NEIGHBOUR: 'it returns false'. Refute it at one input. -/
def lampClashWrong : ChangeSpec := { name := "lampClash", fn := fun _ => fun
  | [d1, d2, d3, d4] => { results := [.lit (.bool false)], args := [d1, d2, d3, d4] }
  | _ => none }
def LampClashWrongFalsely : Prop := lampClashRow.holds Try.pinned (OpenSpec.ofChange lampClashWrong)

/- THE SECOND FORM. 'bulk': how many values and letters a reading holds, each counted each time it is reached (what is shared counts as often as it is met; a slice's spare places count too). A statement '..UptoSaid' is the law's where the arguments, and the package variables that the reading takes, are together of bulk at most 1048576: NARROWER than '..Said'. Prove '..Said' where nothing that the law and all that it calls make is longer than what came in: it says more and counts as full. Else prove '..UptoSaid'. A law counts once. -/
mutual
def uptoBulk {H : Type} : DataW H → Nat
  | .lit (.string bytes) => bytes.length + 1
  | .lit _ => 1
  | .nil => 1
  | .ptr d => uptoBulk d + 1
  | .slice elems spare => uptoBulkAll elems + uptoBulkAll spare + 1
  | .agg parts => uptoBulkAll parts + 1
  | .iface _ d => uptoBulk d + 1
  | .map entries => uptoBulkEntries entries + 1
  | .held _ => 1
def uptoBulkAll {H : Type} : List (DataW H) → Nat
  | [] => 0
  | d :: r => uptoBulk d + uptoBulkAll r
def uptoBulkEntries {H : Type} : List (Lit × DataW H) → Nat
  | [] => 0
  | x :: r => uptoBulkEntry x + uptoBulkEntries r
def uptoBulkEntry {H : Type} : Lit × DataW H → Nat
  | (.string bytes, d) => bytes.length + uptoBulk d + 1
  | (_, d) => uptoBulk d + 1
 end
def uptoSmall : (H : Type) → List (DataW H) → Bool := fun _ ds => decide (uptoBulkAll ds ≤ 1048576)
def OpenSpec.upto (s : _root_.Go.ChangeSpec) : _root_.Go.OpenSpec := { _root_.Go.OpenSpec.ofChange s with cond := some uptoSmall }

/-- 'pelicanlaw15.LampTells', WHERE WHAT IT READS IS OF BULK AT MOST 1048576: true; the input reads as it did. -/
def lampTellsUptoRow : OpenClaim := { program := "ytekmagpokcloaaa", sum := "b8cd868e8fa0f944f6efde2283b47c4bf19194506f6b47c2ade266cdc1adc34c", func := "pelican/pelicanlaw15.LampTells", spec := "lampTells", inPlace := ["internal/abi.NoEscape"], unfollowed := true, recurses := true, apart := false, narrowed := true }
def LampTellsUptoSaid : Prop := lampTellsUptoRow.holds Try.pinned (OpenSpec.upto lampTellsSpec)

/-- 'pelicanlaw15.LampBack', WHERE WHAT IT READS IS OF BULK AT MOST 1048576: true; the input reads as it did. -/
def lampBackUptoRow : OpenClaim := { program := "ytekmagpokcloaaa", sum := "b8cd868e8fa0f944f6efde2283b47c4bf19194506f6b47c2ade266cdc1adc34c", func := "pelican/pelicanlaw15.LampBack", spec := "lampBack", inPlace := ["internal/abi.NoEscape"], unfollowed := true, recurses := true, apart := false, narrowed := true }
def LampBackUptoSaid : Prop := lampBackUptoRow.holds Try.pinned (OpenSpec.upto lampBackSpec)

/-- 'pelicanlaw15.LampFree', WHERE WHAT IT READS IS OF BULK AT MOST 1048576: true; the input reads as it did. -/
def lampFreeUptoRow : OpenClaim := { program := "ytekmagpokcloaaa", sum := "b8cd868e8fa0f944f6efde2283b47c4bf19194506f6b47c2ade266cdc1adc34c", func := "pelican/pelicanlaw15.LampFree", spec := "lampFree", inPlace := ["internal/abi.NoEscape"], unfollowed := true, recurses := true, apart := false, narrowed := true }
def LampFreeUptoSaid : Prop := lampFreeUptoRow.holds Try.pinned (OpenSpec.upto lampFreeSpec)

/-- 'pelicanlaw15.LampShow', WHERE WHAT IT READS IS OF BULK AT MOST 1048576: true; the input reads as it did. -/
def lampShowUptoRow : OpenClaim := { program := "ytekmagpokcloaaa", sum := "b8cd868e8fa0f944f6efde2283b47c4bf19194506f6b47c2ade266cdc1adc34c", func := "pelican/pelicanlaw15.LampShow", spec := "lampShow", inPlace := ["internal/abi.NoEscape"], unfollowed := true, recurses := true, apart := false, narrowed := true }
def LampShowUptoSaid : Prop := lampShowUptoRow.holds Try.pinned (OpenSpec.upto lampShowSpec)

/-- 'pelicanlaw15.LampClash', WHERE WHAT IT READS IS OF BULK AT MOST 1048576: true; the input reads as it did. -/
def lampClashUptoRow : OpenClaim := { program := "ytekmagpokcloaaa", sum := "b8cd868e8fa0f944f6efde2283b47c4bf19194506f6b47c2ade266cdc1adc34c", func := "pelican/pelicanlaw15.LampClash", spec := "lampClash", inPlace := ["internal/abi.NoEscape"], unfollowed := true, recurses := true, apart := false, narrowed := true }
def LampClashUptoSaid : Prop := lampClashUptoRow.holds Try.pinned (OpenSpec.upto lampClashSpec)

end Rows
end Go.Proofs.Ytekmagpokcloaaa
