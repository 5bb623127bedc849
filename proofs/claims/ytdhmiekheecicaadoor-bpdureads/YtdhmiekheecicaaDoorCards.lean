/-
  DERIVED. GIVEN WITH THE SEED: THE CARDS: each row of YtdhmiekheecicaaDoorRows.lean that lists a variable, with what it lists TIED to the program's text (the seventh form; the later family's looks); each row that meets fmt, with fmt's text TOLD by the authors' own Lean function (tested against real Go, not proved from fmt's source: count such statements apart). THE CARD IS WHAT COUNTS. Prove the row's statement (the work); the ties are given (YtdhmiekheecicaaDoorTie.lean); close each card by the builder's one call (the guide's Derived/Test/ToyasCard.lean, 'card_holds'). Laid BY PROGRAM, IN A SANDBOX (cutbox-door.mjs). By AI agents, Wed Nov 11 2026. No macro, syntax, notation, axiom, sorry.
-/
import Derived.Test.YtdhmiekheecicaaDoorRows
import GoSem.ClaimSeven
namespace Go.Proofs.YtdhmiekheecicaaDoor
namespace Rows

/-- THE TIED CARD OF 'catenarylaw07.BpduBytes'. -/
def bpduBytesCard : Claim7 := { stood := { row := bpduBytesRow, standIns := [], harness := (true, "72625980924fbbc71d7a97296749db6544ed0a9701ad3bb75624e5268542449c"), looks := true }, kinds := [], alts := [], laidByText := true, laidKinds := [.data], laidTests := true, laidLooks := .later }
def BpduBytesCardSaid : Prop := Claim7.holds Tryd.pinned (.plain (OpenSpec.ofChange bpduBytesSpec)) bpduBytesCard

/-- THE TIED CARD OF 'catenarylaw07.BpduReads'. -/
def bpduReadsCard : Claim7 := { stood := { row := bpduReadsRow, standIns := [], harness := (true, "72625980924fbbc71d7a97296749db6544ed0a9701ad3bb75624e5268542449c"), looks := true }, kinds := [], alts := [], laidByText := true, laidKinds := [.data], laidTests := true, laidLooks := .later }
def BpduReadsCardSaid : Prop := Claim7.holds Tryd.pinned (.plain (OpenSpec.ofChange bpduReadsSpec)) bpduReadsCard

/-- THE TIED CARD OF 'catenarylaw07.BpduRoles'. -/
def bpduRolesCard : Claim7 := { stood := { row := bpduRolesRow, standIns := [], harness := (true, "72625980924fbbc71d7a97296749db6544ed0a9701ad3bb75624e5268542449c"), looks := true }, kinds := [], alts := [], laidByText := true, laidKinds := [.data, .data], laidTests := true, laidLooks := .later }
def BpduRolesCardSaid : Prop := Claim7.holds Tryd.pinned (.plain (OpenSpec.ofChange bpduRolesSpec)) bpduRolesCard

/-- THE SECOND FORM's CARD OF 'catenarylaw07.BpduBytes'. -/
def bpduBytesUptoCard : Claim7 := { stood := { row := bpduBytesUptoRow, standIns := [], harness := (true, "72625980924fbbc71d7a97296749db6544ed0a9701ad3bb75624e5268542449c"), looks := true }, kinds := [], alts := [], laidByText := true, laidKinds := [.data], laidTests := true, laidLooks := .later }
def BpduBytesUptoCardSaid : Prop := Claim7.holds Tryd.pinned (.plain (OpenSpec.upto bpduBytesSpec)) bpduBytesUptoCard

/-- THE SECOND FORM's CARD OF 'catenarylaw07.BpduReads'. -/
def bpduReadsUptoCard : Claim7 := { stood := { row := bpduReadsUptoRow, standIns := [], harness := (true, "72625980924fbbc71d7a97296749db6544ed0a9701ad3bb75624e5268542449c"), looks := true }, kinds := [], alts := [], laidByText := true, laidKinds := [.data], laidTests := true, laidLooks := .later }
def BpduReadsUptoCardSaid : Prop := Claim7.holds Tryd.pinned (.plain (OpenSpec.upto bpduReadsSpec)) bpduReadsUptoCard

/-- THE SECOND FORM's CARD OF 'catenarylaw07.BpduRoles'. -/
def bpduRolesUptoCard : Claim7 := { stood := { row := bpduRolesUptoRow, standIns := [], harness := (true, "72625980924fbbc71d7a97296749db6544ed0a9701ad3bb75624e5268542449c"), looks := true }, kinds := [], alts := [], laidByText := true, laidKinds := [.data, .data], laidTests := true, laidLooks := .later }
def BpduRolesUptoCardSaid : Prop := Claim7.holds Tryd.pinned (.plain (OpenSpec.upto bpduRolesSpec)) bpduRolesUptoCard
end Rows
end Go.Proofs.YtdhmiekheecicaaDoor
