/-
  DERIVED. GIVEN WITH THE SEED: THE CARDS: each row of YtgeommhambkmgaaDoorRows.lean that lists a variable, with what it lists TIED to the program's text (the seventh form; the later family's looks); each row that meets fmt, with fmt's text TOLD by the authors' own Lean function (tested against real Go, not proved from fmt's source: count such statements apart). THE CARD IS WHAT COUNTS. Prove the row's statement (the work); the ties are given (YtgeommhambkmgaaDoorTie.lean); close each card by the builder's one call (the guide's Derived/Test/ToyasCard.lean, 'card_holds'). Laid BY PROGRAM, IN A SANDBOX (cutbox-door.mjs). By AI agents, Wed Nov 11 2026. No macro, syntax, notation, axiom, sorry.
-/
import Derived.Test.YtgeommhambkmgaaDoorRows
import GoSem.ClaimSeven
namespace Go.Proofs.YtgeommhambkmgaaDoor
namespace Rows

/-- THE TIED CARD OF 'catenarylaw05.IdentBridges'. -/
def identBridgesCard : Claim7 := { stood := { row := identBridgesRow, standIns := [], harness := (true, "fb3a24898c346cc62a8b17debb4ddc0d903c7f67322f3b3fe279227d7c89a1fb"), looks := true }, kinds := [], alts := [], laidByText := true, laidKinds := [.data, .data, .data, .sentinel, .sentinel], laidTests := true, laidLooks := .later }
def IdentBridgesCardSaid : Prop := Claim7.holds Tryd.pinned (.plain (OpenSpec.ofChange identBridgesSpec)) identBridgesCard

/-- THE TIED CARD OF 'catenarylaw05.IdentPorts'. -/
def identPortsCard : Claim7 := { stood := { row := identPortsRow, standIns := [], harness := (true, "fb3a24898c346cc62a8b17debb4ddc0d903c7f67322f3b3fe279227d7c89a1fb"), looks := true }, kinds := [], alts := [], laidByText := true, laidKinds := [.data, .data, .data], laidTests := true, laidLooks := .later }
def IdentPortsCardSaid : Prop := Claim7.holds Tryd.pinned (.plain (OpenSpec.ofChange identPortsSpec)) identPortsCard

/-- THE TIED CARD OF 'catenarylaw05.IdentTexts'. -/
def identTextsCard : Claim7 := { stood := { row := identTextsRow, standIns := [], harness := (true, "fb3a24898c346cc62a8b17debb4ddc0d903c7f67322f3b3fe279227d7c89a1fb"), looks := true }, kinds := [], alts := [], laidByText := true, laidKinds := [.data, .data, .data, .sentinel, .sentinel], laidTests := true, laidLooks := .later }
def IdentTextsCardSaid : Prop := Claim7.holds Tryd.pinned (.plain (OpenSpec.ofChange identTextsSpec)) identTextsCard

/-- THE SECOND FORM's CARD OF 'catenarylaw05.IdentBridges'. -/
def identBridgesUptoCard : Claim7 := { stood := { row := identBridgesUptoRow, standIns := [], harness := (true, "fb3a24898c346cc62a8b17debb4ddc0d903c7f67322f3b3fe279227d7c89a1fb"), looks := true }, kinds := [], alts := [], laidByText := true, laidKinds := [.data, .data, .data, .sentinel, .sentinel], laidTests := true, laidLooks := .later }
def IdentBridgesUptoCardSaid : Prop := Claim7.holds Tryd.pinned (.plain (OpenSpec.upto identBridgesSpec)) identBridgesUptoCard

/-- THE SECOND FORM's CARD OF 'catenarylaw05.IdentPorts'. -/
def identPortsUptoCard : Claim7 := { stood := { row := identPortsUptoRow, standIns := [], harness := (true, "fb3a24898c346cc62a8b17debb4ddc0d903c7f67322f3b3fe279227d7c89a1fb"), looks := true }, kinds := [], alts := [], laidByText := true, laidKinds := [.data, .data, .data], laidTests := true, laidLooks := .later }
def IdentPortsUptoCardSaid : Prop := Claim7.holds Tryd.pinned (.plain (OpenSpec.upto identPortsSpec)) identPortsUptoCard

/-- THE SECOND FORM's CARD OF 'catenarylaw05.IdentTexts'. -/
def identTextsUptoCard : Claim7 := { stood := { row := identTextsUptoRow, standIns := [], harness := (true, "fb3a24898c346cc62a8b17debb4ddc0d903c7f67322f3b3fe279227d7c89a1fb"), looks := true }, kinds := [], alts := [], laidByText := true, laidKinds := [.data, .data, .data, .sentinel, .sentinel], laidTests := true, laidLooks := .later }
def IdentTextsUptoCardSaid : Prop := Claim7.holds Tryd.pinned (.plain (OpenSpec.upto identTextsSpec)) identTextsUptoCard
end Rows
end Go.Proofs.YtgeommhambkmgaaDoor
