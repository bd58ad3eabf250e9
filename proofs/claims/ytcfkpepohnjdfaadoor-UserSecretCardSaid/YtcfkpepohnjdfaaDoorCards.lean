/-
  DERIVED. GIVEN WITH THE SEED: THE CARDS: each row of YtcfkpepohnjdfaaDoorRows.lean that lists a variable, with what it lists TIED to the program's text (the seventh form; the later family's looks); each row that meets fmt, with fmt's text TOLD by the authors' own Lean function (tested against real Go, not proved from fmt's source: count such statements apart). THE CARD IS WHAT COUNTS. Prove the row's statement (the work); the ties are given (YtcfkpepohnjdfaaDoorTie.lean); close each card by the builder's one call (the guide's Derived/Test/ToyasCard.lean, 'card_holds'). Laid BY PROGRAM, IN A SANDBOX (cutbox-door.mjs). By AI agents, Wed Nov 11 2026. No macro, syntax, notation, axiom, sorry.
-/
import Derived.Test.YtcfkpepohnjdfaaDoorRows
import GoSem.ClaimSeven
namespace Go.Proofs.YtcfkpepohnjdfaaDoor
namespace Rows

/-- THE TIED CARD OF 'pelicanlaw08.UserTells'. -/
def userTellsCard : Claim7 := { stood := { row := userTellsRow, standIns := [], harness := (true, "8317c5dd81ec64f6a6b7ce2b430fed2511db237a76c71feeb230f9e9b2e12bef"), looks := false }, kinds := [], alts := [], laidByText := true, laidKinds := [.data], laidTests := true, laidLooks := .later }
def UserTellsCardSaid : Prop := Claim7.holds Tryd.pinned (.plain (OpenSpec.ofChange userTellsSpec)) userTellsCard

/-- THE TIED CARD OF 'pelicanlaw08.UserFind'. -/
def userFindCard : Claim7 := { stood := { row := userFindRow, standIns := [], harness := (true, "8317c5dd81ec64f6a6b7ce2b430fed2511db237a76c71feeb230f9e9b2e12bef"), looks := false }, kinds := [], alts := [], laidByText := true, laidKinds := [.data], laidTests := true, laidLooks := .later }
def UserFindCardSaid : Prop := Claim7.holds Tryd.pinned (.plain (OpenSpec.ofChange userFindSpec)) userFindCard

/-- THE TIED CARD OF 'pelicanlaw08.UserFewer'. -/
def userFewerCard : Claim7 := { stood := { row := userFewerRow, standIns := [], harness := (true, "8317c5dd81ec64f6a6b7ce2b430fed2511db237a76c71feeb230f9e9b2e12bef"), looks := false }, kinds := [], alts := [], laidByText := true, laidKinds := [.data], laidTests := true, laidLooks := .later }
def UserFewerCardSaid : Prop := Claim7.holds Tryd.pinned (.plain (OpenSpec.ofChange userFewerSpec)) userFewerCard

/-- THE TIED CARD OF 'pelicanlaw08.UserSecret'. -/
def userSecretCard : Claim7 := { stood := { row := userSecretRow, standIns := [], harness := (true, "8317c5dd81ec64f6a6b7ce2b430fed2511db237a76c71feeb230f9e9b2e12bef"), looks := false }, kinds := [], alts := [], laidByText := true, laidKinds := [.data], laidTests := true, laidLooks := .later }
def UserSecretCardSaid : Prop := Claim7.holds Tryd.pinned (.plain (OpenSpec.ofChange userSecretSpec)) userSecretCard

/-- THE TIED CARD OF 'pelicanlaw08.UserRole'. -/
def userRoleCard : Claim7 := { stood := { row := userRoleRow, standIns := [], harness := (true, "8317c5dd81ec64f6a6b7ce2b430fed2511db237a76c71feeb230f9e9b2e12bef"), looks := false }, kinds := [], alts := [], laidByText := true, laidKinds := [.data], laidTests := true, laidLooks := .later }
def UserRoleCardSaid : Prop := Claim7.holds Tryd.pinned (.plain (OpenSpec.ofChange userRoleSpec)) userRoleCard

/-- THE TIED CARD OF 'pelicanlaw08.UserMore'. -/
def userMoreCard : Claim7 := { stood := { row := userMoreRow, standIns := [], harness := (true, "8317c5dd81ec64f6a6b7ce2b430fed2511db237a76c71feeb230f9e9b2e12bef"), looks := false }, kinds := [], alts := [], laidByText := true, laidKinds := [.data], laidTests := true, laidLooks := .later }
def UserMoreCardSaid : Prop := Claim7.holds Tryd.pinned (.plain (OpenSpec.ofChange userMoreSpec)) userMoreCard

/-- THE SECOND FORM's CARD OF 'pelicanlaw08.UserTells'. -/
def userTellsUptoCard : Claim7 := { stood := { row := userTellsUptoRow, standIns := [], harness := (true, "8317c5dd81ec64f6a6b7ce2b430fed2511db237a76c71feeb230f9e9b2e12bef"), looks := false }, kinds := [], alts := [], laidByText := true, laidKinds := [.data], laidTests := true, laidLooks := .later }
def UserTellsUptoCardSaid : Prop := Claim7.holds Tryd.pinned (.plain (OpenSpec.upto userTellsSpec)) userTellsUptoCard

/-- THE SECOND FORM's CARD OF 'pelicanlaw08.UserFind'. -/
def userFindUptoCard : Claim7 := { stood := { row := userFindUptoRow, standIns := [], harness := (true, "8317c5dd81ec64f6a6b7ce2b430fed2511db237a76c71feeb230f9e9b2e12bef"), looks := false }, kinds := [], alts := [], laidByText := true, laidKinds := [.data], laidTests := true, laidLooks := .later }
def UserFindUptoCardSaid : Prop := Claim7.holds Tryd.pinned (.plain (OpenSpec.upto userFindSpec)) userFindUptoCard

/-- THE SECOND FORM's CARD OF 'pelicanlaw08.UserFewer'. -/
def userFewerUptoCard : Claim7 := { stood := { row := userFewerUptoRow, standIns := [], harness := (true, "8317c5dd81ec64f6a6b7ce2b430fed2511db237a76c71feeb230f9e9b2e12bef"), looks := false }, kinds := [], alts := [], laidByText := true, laidKinds := [.data], laidTests := true, laidLooks := .later }
def UserFewerUptoCardSaid : Prop := Claim7.holds Tryd.pinned (.plain (OpenSpec.upto userFewerSpec)) userFewerUptoCard

/-- THE SECOND FORM's CARD OF 'pelicanlaw08.UserSecret'. -/
def userSecretUptoCard : Claim7 := { stood := { row := userSecretUptoRow, standIns := [], harness := (true, "8317c5dd81ec64f6a6b7ce2b430fed2511db237a76c71feeb230f9e9b2e12bef"), looks := false }, kinds := [], alts := [], laidByText := true, laidKinds := [.data], laidTests := true, laidLooks := .later }
def UserSecretUptoCardSaid : Prop := Claim7.holds Tryd.pinned (.plain (OpenSpec.upto userSecretSpec)) userSecretUptoCard

/-- THE SECOND FORM's CARD OF 'pelicanlaw08.UserRole'. -/
def userRoleUptoCard : Claim7 := { stood := { row := userRoleUptoRow, standIns := [], harness := (true, "8317c5dd81ec64f6a6b7ce2b430fed2511db237a76c71feeb230f9e9b2e12bef"), looks := false }, kinds := [], alts := [], laidByText := true, laidKinds := [.data], laidTests := true, laidLooks := .later }
def UserRoleUptoCardSaid : Prop := Claim7.holds Tryd.pinned (.plain (OpenSpec.upto userRoleSpec)) userRoleUptoCard

/-- THE SECOND FORM's CARD OF 'pelicanlaw08.UserMore'. -/
def userMoreUptoCard : Claim7 := { stood := { row := userMoreUptoRow, standIns := [], harness := (true, "8317c5dd81ec64f6a6b7ce2b430fed2511db237a76c71feeb230f9e9b2e12bef"), looks := false }, kinds := [], alts := [], laidByText := true, laidKinds := [.data], laidTests := true, laidLooks := .later }
def UserMoreUptoCardSaid : Prop := Claim7.holds Tryd.pinned (.plain (OpenSpec.upto userMoreSpec)) userMoreUptoCard
end Rows
end Go.Proofs.YtcfkpepohnjdfaaDoor
