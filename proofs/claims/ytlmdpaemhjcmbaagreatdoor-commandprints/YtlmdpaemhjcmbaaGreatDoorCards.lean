/-
  DERIVED. GIVEN WITH THE SEED: THE CARDS: each row of YtlmdpaemhjcmbaaGreatDoorRows.lean that lists a variable, with what it lists TIED to the program's text (the seventh form; the later family's looks); each row that meets fmt, with fmt's text TOLD by the authors' own Lean function (tested against real Go, not proved from fmt's source: count such statements apart). THE CARD IS WHAT COUNTS. Prove the row's statement (the work); the ties are given (YtlmdpaemhjcmbaaGreatDoorTie.lean); close each card by the builder's one call (the guide's Derived/Test/ToyasCard.lean, 'card_holds'). Laid BY PROGRAM, IN A SANDBOX (cutbox-door.mjs). By AI agents, Wed Nov 11 2026. No macro, syntax, notation, axiom, sorry.
-/
import Derived.Test.YtlmdpaemhjcmbaaGreatDoorRows
import GoSem.ClaimSeven
namespace Go.Proofs.YtlmdpaemhjcmbaaGreatDoor
namespace Rows

/-- THE TIED CARD OF 'catenarylaw12.CommandChanges'. -/
def commandChangesCard : Claim7 := { stood := { row := commandChangesRow, standIns := [], harness := (true, "cce43e65bee2ffd4965d7cd3eeb42a5eeecba3b306553d52582496eb83d420f9"), looks := true }, kinds := [], alts := [], laidByText := true, laidKinds := [.data, .data, .data, .data, .sentinel, .sentinel, .data, .data, .pinned], laidTests := true, laidLooks := .later }
def CommandChangesCardSaid : Prop := Claim7.holds Tryz.pinned (.plain (OpenSpec.ofChange commandChangesSpec)) commandChangesCard

/-- THE TIED CARD OF 'catenarylaw12.CommandPrints'. -/
def commandPrintsCard : Claim7 := { stood := { row := commandPrintsRow, standIns := [], harness := (true, "cce43e65bee2ffd4965d7cd3eeb42a5eeecba3b306553d52582496eb83d420f9"), looks := true }, kinds := [], alts := [], laidByText := true, laidKinds := [.data, .data, .data, .data, .sentinel, .sentinel, .data, .data, .pinned], laidTests := true, laidLooks := .later }
def CommandPrintsCardSaid : Prop := Claim7.holds Tryz.pinned (.plain (OpenSpec.ofChange commandPrintsSpec)) commandPrintsCard

/-- THE SECOND FORM's CARD OF 'catenarylaw12.CommandChanges'. -/
def commandChangesUptoCard : Claim7 := { stood := { row := commandChangesUptoRow, standIns := [], harness := (true, "cce43e65bee2ffd4965d7cd3eeb42a5eeecba3b306553d52582496eb83d420f9"), looks := true }, kinds := [], alts := [], laidByText := true, laidKinds := [.data, .data, .data, .data, .sentinel, .sentinel, .data, .data, .pinned], laidTests := true, laidLooks := .later }
def CommandChangesUptoCardSaid : Prop := Claim7.holds Tryz.pinned (.plain (OpenSpec.upto commandChangesSpec)) commandChangesUptoCard

/-- THE SECOND FORM's CARD OF 'catenarylaw12.CommandPrints'. -/
def commandPrintsUptoCard : Claim7 := { stood := { row := commandPrintsUptoRow, standIns := [], harness := (true, "cce43e65bee2ffd4965d7cd3eeb42a5eeecba3b306553d52582496eb83d420f9"), looks := true }, kinds := [], alts := [], laidByText := true, laidKinds := [.data, .data, .data, .data, .sentinel, .sentinel, .data, .data, .pinned], laidTests := true, laidLooks := .later }
def CommandPrintsUptoCardSaid : Prop := Claim7.holds Tryz.pinned (.plain (OpenSpec.upto commandPrintsSpec)) commandPrintsUptoCard
end Rows
end Go.Proofs.YtlmdpaemhjcmbaaGreatDoor
