/-
  DERIVED. GIVEN WITH THE SEED: THE CARDS: each row of YtiknhahkcffoeaaDoorRows.lean that lists a variable, with what it lists TIED to the program's text (the seventh form; the later family's looks); each row that meets fmt, with fmt's text TOLD by the authors' own Lean function (tested against real Go, not proved from fmt's source: count such statements apart). THE CARD IS WHAT COUNTS. Prove the row's statement (the work); the ties are given (YtiknhahkcffoeaaDoorTie.lean); close each card by the builder's one call (the guide's Derived/Test/ToyasCard.lean, 'card_holds'). Laid BY PROGRAM, IN A SANDBOX (cutbox-door.mjs). By AI agents, Wed Nov 11 2026. No macro, syntax, notation, axiom, sorry.
-/
import Derived.Test.YtiknhahkcffoeaaDoorRows
import GoSem.ClaimSeven
namespace Go.Proofs.YtiknhahkcffoeaaDoor
namespace Rows

/-- THE TIED CARD OF 'pelicanlaw07.RoleTells'. -/
def roleTellsCard : Claim7 := { stood := { row := roleTellsRow, standIns := [], harness := (true, "2ab99eedd6af11fecf1033ff111d260652dc3ad49538e5d68ceba7980072db4d"), looks := false }, kinds := [], alts := [], laidByText := true, laidKinds := [.data, .data], laidTests := true, laidLooks := .later }
def RoleTellsCardSaid : Prop := Claim7.holds Tryd.pinned (.plain (OpenSpec.ofChange roleTellsSpec)) roleTellsCard

/-- THE TIED CARD OF 'pelicanlaw07.RoleNames'. -/
def roleNamesCard : Claim7 := { stood := { row := roleNamesRow, standIns := [], harness := (true, "2ab99eedd6af11fecf1033ff111d260652dc3ad49538e5d68ceba7980072db4d"), looks := false }, kinds := [], alts := [], laidByText := true, laidKinds := [.data, .data], laidTests := true, laidLooks := .later }
def RoleNamesCardSaid : Prop := Claim7.holds Tryd.pinned (.plain (OpenSpec.ofChange roleNamesSpec)) roleNamesCard

/-- THE TIED CARD OF 'pelicanlaw07.RoleLists'. -/
def roleListsCard : Claim7 := { stood := { row := roleListsRow, standIns := [], harness := (true, "2ab99eedd6af11fecf1033ff111d260652dc3ad49538e5d68ceba7980072db4d"), looks := false }, kinds := [], alts := [], laidByText := true, laidKinds := [.data, .data], laidTests := true, laidLooks := .later }
def RoleListsCardSaid : Prop := Claim7.holds Tryd.pinned (.plain (OpenSpec.ofChange roleListsSpec)) roleListsCard

/-- THE TIED CARD OF 'pelicanlaw07.RoleLess'. -/
def roleLessCard : Claim7 := { stood := { row := roleLessRow, standIns := [], harness := (true, "2ab99eedd6af11fecf1033ff111d260652dc3ad49538e5d68ceba7980072db4d"), looks := false }, kinds := [], alts := [], laidByText := true, laidKinds := [.data, .data], laidTests := true, laidLooks := .later }
def RoleLessCardSaid : Prop := Claim7.holds Tryd.pinned (.plain (OpenSpec.ofChange roleLessSpec)) roleLessCard

/-- THE TIED CARD OF 'pelicanlaw07.RoleRed'. -/
def roleRedCard : Claim7 := { stood := { row := roleRedRow, standIns := [], harness := (true, "2ab99eedd6af11fecf1033ff111d260652dc3ad49538e5d68ceba7980072db4d"), looks := false }, kinds := [], alts := [], laidByText := true, laidKinds := [.data, .data], laidTests := true, laidLooks := .later }
def RoleRedCardSaid : Prop := Claim7.holds Tryd.pinned (.plain (OpenSpec.ofChange roleRedSpec)) roleRedCard

/-- THE SECOND FORM's CARD OF 'pelicanlaw07.RoleTells'. -/
def roleTellsUptoCard : Claim7 := { stood := { row := roleTellsUptoRow, standIns := [], harness := (true, "2ab99eedd6af11fecf1033ff111d260652dc3ad49538e5d68ceba7980072db4d"), looks := false }, kinds := [], alts := [], laidByText := true, laidKinds := [.data, .data], laidTests := true, laidLooks := .later }
def RoleTellsUptoCardSaid : Prop := Claim7.holds Tryd.pinned (.plain (OpenSpec.upto roleTellsSpec)) roleTellsUptoCard

/-- THE SECOND FORM's CARD OF 'pelicanlaw07.RoleNames'. -/
def roleNamesUptoCard : Claim7 := { stood := { row := roleNamesUptoRow, standIns := [], harness := (true, "2ab99eedd6af11fecf1033ff111d260652dc3ad49538e5d68ceba7980072db4d"), looks := false }, kinds := [], alts := [], laidByText := true, laidKinds := [.data, .data], laidTests := true, laidLooks := .later }
def RoleNamesUptoCardSaid : Prop := Claim7.holds Tryd.pinned (.plain (OpenSpec.upto roleNamesSpec)) roleNamesUptoCard

/-- THE SECOND FORM's CARD OF 'pelicanlaw07.RoleLists'. -/
def roleListsUptoCard : Claim7 := { stood := { row := roleListsUptoRow, standIns := [], harness := (true, "2ab99eedd6af11fecf1033ff111d260652dc3ad49538e5d68ceba7980072db4d"), looks := false }, kinds := [], alts := [], laidByText := true, laidKinds := [.data, .data], laidTests := true, laidLooks := .later }
def RoleListsUptoCardSaid : Prop := Claim7.holds Tryd.pinned (.plain (OpenSpec.upto roleListsSpec)) roleListsUptoCard

/-- THE SECOND FORM's CARD OF 'pelicanlaw07.RoleLess'. -/
def roleLessUptoCard : Claim7 := { stood := { row := roleLessUptoRow, standIns := [], harness := (true, "2ab99eedd6af11fecf1033ff111d260652dc3ad49538e5d68ceba7980072db4d"), looks := false }, kinds := [], alts := [], laidByText := true, laidKinds := [.data, .data], laidTests := true, laidLooks := .later }
def RoleLessUptoCardSaid : Prop := Claim7.holds Tryd.pinned (.plain (OpenSpec.upto roleLessSpec)) roleLessUptoCard

/-- THE SECOND FORM's CARD OF 'pelicanlaw07.RoleRed'. -/
def roleRedUptoCard : Claim7 := { stood := { row := roleRedUptoRow, standIns := [], harness := (true, "2ab99eedd6af11fecf1033ff111d260652dc3ad49538e5d68ceba7980072db4d"), looks := false }, kinds := [], alts := [], laidByText := true, laidKinds := [.data, .data], laidTests := true, laidLooks := .later }
def RoleRedUptoCardSaid : Prop := Claim7.holds Tryd.pinned (.plain (OpenSpec.upto roleRedSpec)) roleRedUptoCard
end Rows
end Go.Proofs.YtiknhahkcffoeaaDoor
