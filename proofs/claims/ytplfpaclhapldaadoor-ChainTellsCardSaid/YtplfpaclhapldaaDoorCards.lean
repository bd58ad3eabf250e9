/-
  DERIVED. GIVEN WITH THE SEED: THE CARDS: each row of YtplfpaclhapldaaDoorRows.lean that lists a variable, with what it lists TIED to the program's text (the seventh form; the later family's looks); each row that meets fmt, with fmt's text TOLD by the authors' own Lean function (tested against real Go, not proved from fmt's source: count such statements apart). THE CARD IS WHAT COUNTS. Prove the row's statement (the work); the ties are given (YtplfpaclhapldaaDoorTie.lean); close each card by the builder's one call (the guide's Derived/Test/ToyasCard.lean, 'card_holds'). Laid BY PROGRAM, IN A SANDBOX (cutbox-door.mjs). By AI agents, Wed Nov 11 2026. No macro, syntax, notation, axiom, sorry.
-/
import Derived.Test.YtplfpaclhapldaaDoorRows
import GoSem.ClaimSeven
namespace Go.Proofs.YtplfpaclhapldaaDoor
namespace Rows

/-- THE TIED CARD OF 'pelicanlaw11.ChainTells'. -/
def chainTellsCard : Claim7 := { stood := { row := chainTellsRow, standIns := [], harness := (true, "74233733e31af95a24873469d1e354f5fbae0c880d3cd3a7edb557d10b6d64f9"), looks := false }, kinds := [], alts := [], laidByText := true, laidKinds := [.data], laidTests := true, laidLooks := .later }
def ChainTellsCardSaid : Prop := Claim7.holds Tryd.pinned (.plain (OpenSpec.ofChange chainTellsSpec)) chainTellsCard

/-- THE TIED CARD OF 'pelicanlaw11.ChainTorn'. -/
def chainTornCard : Claim7 := { stood := { row := chainTornRow, standIns := [], harness := (true, "74233733e31af95a24873469d1e354f5fbae0c880d3cd3a7edb557d10b6d64f9"), looks := false }, kinds := [], alts := [], laidByText := true, laidKinds := [.data], laidTests := true, laidLooks := .later }
def ChainTornCardSaid : Prop := Claim7.holds Tryd.pinned (.plain (OpenSpec.ofChange chainTornSpec)) chainTornCard

/-- THE TIED CARD OF 'pelicanlaw11.ChainReads'. -/
def chainReadsCard : Claim7 := { stood := { row := chainReadsRow, standIns := [], harness := (true, "74233733e31af95a24873469d1e354f5fbae0c880d3cd3a7edb557d10b6d64f9"), looks := false }, kinds := [], alts := [], laidByText := true, laidKinds := [.data], laidTests := true, laidLooks := .later }
def ChainReadsCardSaid : Prop := Claim7.holds Tryd.pinned (.plain (OpenSpec.ofChange chainReadsSpec)) chainReadsCard

/-- THE TIED CARD OF 'pelicanlaw11.ChainClash'. -/
def chainClashCard : Claim7 := { stood := { row := chainClashRow, standIns := [], harness := (true, "74233733e31af95a24873469d1e354f5fbae0c880d3cd3a7edb557d10b6d64f9"), looks := false }, kinds := [], alts := [], laidByText := true, laidKinds := [.data], laidTests := true, laidLooks := .later }
def ChainClashCardSaid : Prop := Claim7.holds Tryd.pinned (.plain (OpenSpec.ofChange chainClashSpec)) chainClashCard

/-- THE TIED CARD OF 'pelicanlaw11.ChainSpoiled'. -/
def chainSpoiledCard : Claim7 := { stood := { row := chainSpoiledRow, standIns := [], harness := (true, "74233733e31af95a24873469d1e354f5fbae0c880d3cd3a7edb557d10b6d64f9"), looks := false }, kinds := [], alts := [], laidByText := true, laidKinds := [.data], laidTests := true, laidLooks := .later }
def ChainSpoiledCardSaid : Prop := Claim7.holds Tryd.pinned (.plain (OpenSpec.ofChange chainSpoiledSpec)) chainSpoiledCard

/-- THE TIED CARD OF 'pelicanlaw11.ChainMore'. -/
def chainMoreCard : Claim7 := { stood := { row := chainMoreRow, standIns := [], harness := (true, "74233733e31af95a24873469d1e354f5fbae0c880d3cd3a7edb557d10b6d64f9"), looks := false }, kinds := [], alts := [], laidByText := true, laidKinds := [.data], laidTests := true, laidLooks := .later }
def ChainMoreCardSaid : Prop := Claim7.holds Tryd.pinned (.plain (OpenSpec.ofChange chainMoreSpec)) chainMoreCard

/-- THE SECOND FORM's CARD OF 'pelicanlaw11.ChainTells'. -/
def chainTellsUptoCard : Claim7 := { stood := { row := chainTellsUptoRow, standIns := [], harness := (true, "74233733e31af95a24873469d1e354f5fbae0c880d3cd3a7edb557d10b6d64f9"), looks := false }, kinds := [], alts := [], laidByText := true, laidKinds := [.data], laidTests := true, laidLooks := .later }
def ChainTellsUptoCardSaid : Prop := Claim7.holds Tryd.pinned (.plain (OpenSpec.upto chainTellsSpec)) chainTellsUptoCard

/-- THE SECOND FORM's CARD OF 'pelicanlaw11.ChainTorn'. -/
def chainTornUptoCard : Claim7 := { stood := { row := chainTornUptoRow, standIns := [], harness := (true, "74233733e31af95a24873469d1e354f5fbae0c880d3cd3a7edb557d10b6d64f9"), looks := false }, kinds := [], alts := [], laidByText := true, laidKinds := [.data], laidTests := true, laidLooks := .later }
def ChainTornUptoCardSaid : Prop := Claim7.holds Tryd.pinned (.plain (OpenSpec.upto chainTornSpec)) chainTornUptoCard

/-- THE SECOND FORM's CARD OF 'pelicanlaw11.ChainReads'. -/
def chainReadsUptoCard : Claim7 := { stood := { row := chainReadsUptoRow, standIns := [], harness := (true, "74233733e31af95a24873469d1e354f5fbae0c880d3cd3a7edb557d10b6d64f9"), looks := false }, kinds := [], alts := [], laidByText := true, laidKinds := [.data], laidTests := true, laidLooks := .later }
def ChainReadsUptoCardSaid : Prop := Claim7.holds Tryd.pinned (.plain (OpenSpec.upto chainReadsSpec)) chainReadsUptoCard

/-- THE SECOND FORM's CARD OF 'pelicanlaw11.ChainClash'. -/
def chainClashUptoCard : Claim7 := { stood := { row := chainClashUptoRow, standIns := [], harness := (true, "74233733e31af95a24873469d1e354f5fbae0c880d3cd3a7edb557d10b6d64f9"), looks := false }, kinds := [], alts := [], laidByText := true, laidKinds := [.data], laidTests := true, laidLooks := .later }
def ChainClashUptoCardSaid : Prop := Claim7.holds Tryd.pinned (.plain (OpenSpec.upto chainClashSpec)) chainClashUptoCard

/-- THE SECOND FORM's CARD OF 'pelicanlaw11.ChainSpoiled'. -/
def chainSpoiledUptoCard : Claim7 := { stood := { row := chainSpoiledUptoRow, standIns := [], harness := (true, "74233733e31af95a24873469d1e354f5fbae0c880d3cd3a7edb557d10b6d64f9"), looks := false }, kinds := [], alts := [], laidByText := true, laidKinds := [.data], laidTests := true, laidLooks := .later }
def ChainSpoiledUptoCardSaid : Prop := Claim7.holds Tryd.pinned (.plain (OpenSpec.upto chainSpoiledSpec)) chainSpoiledUptoCard

/-- THE SECOND FORM's CARD OF 'pelicanlaw11.ChainMore'. -/
def chainMoreUptoCard : Claim7 := { stood := { row := chainMoreUptoRow, standIns := [], harness := (true, "74233733e31af95a24873469d1e354f5fbae0c880d3cd3a7edb557d10b6d64f9"), looks := false }, kinds := [], alts := [], laidByText := true, laidKinds := [.data], laidTests := true, laidLooks := .later }
def ChainMoreUptoCardSaid : Prop := Claim7.holds Tryd.pinned (.plain (OpenSpec.upto chainMoreSpec)) chainMoreUptoCard
end Rows
end Go.Proofs.YtplfpaclhapldaaDoor
