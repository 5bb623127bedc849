/-
  DERIVED. GIVEN WITH THE SEED: THE CARDS: each row of YtlmdpaemhjcmbaaDoorRows.lean that lists a variable, with what it lists TIED to the program's text (the seventh form; the later family's looks); each row that meets fmt, with fmt's text TOLD by the authors' own Lean function (tested against real Go, not proved from fmt's source: count such statements apart). THE CARD IS WHAT COUNTS. Prove the row's statement (the work); the ties are given (YtlmdpaemhjcmbaaDoorTie.lean); close each card by the builder's one call (the guide's Derived/Test/ToyasCard.lean, 'card_holds'). Laid BY PROGRAM, IN A SANDBOX (cutbox-door.mjs). By AI agents, Wed Nov 11 2026. No macro, syntax, notation, axiom, sorry.
-/
import Derived.Test.YtlmdpaemhjcmbaaDoorRows
import GoSem.ClaimSeven
namespace Go.Proofs.YtlmdpaemhjcmbaaDoor
namespace Rows

/-- THE TIED CARD OF 'catenarylaw12.CommandTexts'. -/
def commandTextsCard : Claim7 := { stood := { row := commandTextsRow, standIns := [], harness := (true, "21102f75a9b91833fd94702932178df340c78e3533dd8b901f1703f926083cea"), looks := true }, kinds := [], alts := [], laidByText := true, laidKinds := [.data, .data, .data, .data, .sentinel, .sentinel, .data, .data, .pinned], laidTests := true, laidLooks := .later }
def CommandTextsCardSaid : Prop := Claim7.holds Tryd.pinned (.plain (OpenSpec.ofChange commandTextsSpec)) commandTextsCard

/-- THE SECOND FORM's CARD OF 'catenarylaw12.CommandTexts'. -/
def commandTextsUptoCard : Claim7 := { stood := { row := commandTextsUptoRow, standIns := [], harness := (true, "21102f75a9b91833fd94702932178df340c78e3533dd8b901f1703f926083cea"), looks := true }, kinds := [], alts := [], laidByText := true, laidKinds := [.data, .data, .data, .data, .sentinel, .sentinel, .data, .data, .pinned], laidTests := true, laidLooks := .later }
def CommandTextsUptoCardSaid : Prop := Claim7.holds Tryd.pinned (.plain (OpenSpec.upto commandTextsSpec)) commandTextsUptoCard
end Rows
end Go.Proofs.YtlmdpaemhjcmbaaDoor
