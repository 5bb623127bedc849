/-
  DERIVED. GIVEN WITH THE SEED: THE CARDS: each row of YtjfdochceejegaaDoorRows.lean that lists a variable, with what it lists TIED to the program's text (the seventh form; the later family's looks); each row that meets fmt, with fmt's text TOLD by the authors' own Lean function (tested against real Go, not proved from fmt's source: count such statements apart). THE CARD IS WHAT COUNTS. Prove the row's statement (the work); the ties are given (YtjfdochceejegaaDoorTie.lean); close each card by the builder's one call (the guide's Derived/Test/ToyasCard.lean, 'card_holds'). Laid BY PROGRAM, IN A SANDBOX (cutbox-door.mjs). By AI agents, Wed Nov 11 2026. No macro, syntax, notation, axiom, sorry.
-/
import Derived.Test.YtjfdochceejegaaDoorRows
import GoSem.ClaimSeven
namespace Go.Proofs.YtjfdochceejegaaDoor
namespace Rows

/-- THE TIED CARD OF 'catenarylaw15.InfoNews'. -/
def infoNewsCard : Claim7 := { stood := { row := infoNewsRow, standIns := [], harness := (true, "586bcf8d0650fbca6091819e2633b9e258b6a0434c9676007938baaad507d73e"), looks := false }, kinds := [], alts := [], laidByText := true, laidKinds := [.data], laidTests := true, laidLooks := .later }
def InfoNewsCardSaid : Prop := Claim7.holds Tryd.pinned (.plain (OpenSpec.ofChange infoNewsSpec)) infoNewsCard

/-- THE TIED CARD OF 'catenarylaw15.InfoSteps'. -/
def infoStepsCard : Claim7 := { stood := { row := infoStepsRow, standIns := [], harness := (true, "586bcf8d0650fbca6091819e2633b9e258b6a0434c9676007938baaad507d73e"), looks := false }, kinds := [], alts := [], laidByText := true, laidKinds := [.data], laidTests := true, laidLooks := .later }
def InfoStepsCardSaid : Prop := Claim7.holds Tryd.pinned (.plain (OpenSpec.ofChange infoStepsSpec)) infoStepsCard

/-- THE TIED CARD OF 'catenarylaw15.InfoHears'. -/
def infoHearsCard : Claim7 := { stood := { row := infoHearsRow, standIns := [], harness := (true, "586bcf8d0650fbca6091819e2633b9e258b6a0434c9676007938baaad507d73e"), looks := false }, kinds := [], alts := [], laidByText := true, laidKinds := [.data], laidTests := true, laidLooks := .later }
def InfoHearsCardSaid : Prop := Claim7.holds Tryd.pinned (.plain (OpenSpec.ofChange infoHearsSpec)) infoHearsCard

/-- THE TIED CARD OF 'catenarylaw15.InfoStarts'. -/
def infoStartsCard : Claim7 := { stood := { row := infoStartsRow, standIns := [], harness := (true, "586bcf8d0650fbca6091819e2633b9e258b6a0434c9676007938baaad507d73e"), looks := false }, kinds := [], alts := [], laidByText := true, laidKinds := [.data], laidTests := true, laidLooks := .later }
def InfoStartsCardSaid : Prop := Claim7.holds Tryd.pinned (.plain (OpenSpec.ofChange infoStartsSpec)) infoStartsCard

/-- THE SECOND FORM's CARD OF 'catenarylaw15.InfoNews'. -/
def infoNewsUptoCard : Claim7 := { stood := { row := infoNewsUptoRow, standIns := [], harness := (true, "586bcf8d0650fbca6091819e2633b9e258b6a0434c9676007938baaad507d73e"), looks := false }, kinds := [], alts := [], laidByText := true, laidKinds := [.data], laidTests := true, laidLooks := .later }
def InfoNewsUptoCardSaid : Prop := Claim7.holds Tryd.pinned (.plain (OpenSpec.upto infoNewsSpec)) infoNewsUptoCard

/-- THE SECOND FORM's CARD OF 'catenarylaw15.InfoSteps'. -/
def infoStepsUptoCard : Claim7 := { stood := { row := infoStepsUptoRow, standIns := [], harness := (true, "586bcf8d0650fbca6091819e2633b9e258b6a0434c9676007938baaad507d73e"), looks := false }, kinds := [], alts := [], laidByText := true, laidKinds := [.data], laidTests := true, laidLooks := .later }
def InfoStepsUptoCardSaid : Prop := Claim7.holds Tryd.pinned (.plain (OpenSpec.upto infoStepsSpec)) infoStepsUptoCard

/-- THE SECOND FORM's CARD OF 'catenarylaw15.InfoHears'. -/
def infoHearsUptoCard : Claim7 := { stood := { row := infoHearsUptoRow, standIns := [], harness := (true, "586bcf8d0650fbca6091819e2633b9e258b6a0434c9676007938baaad507d73e"), looks := false }, kinds := [], alts := [], laidByText := true, laidKinds := [.data], laidTests := true, laidLooks := .later }
def InfoHearsUptoCardSaid : Prop := Claim7.holds Tryd.pinned (.plain (OpenSpec.upto infoHearsSpec)) infoHearsUptoCard

/-- THE SECOND FORM's CARD OF 'catenarylaw15.InfoStarts'. -/
def infoStartsUptoCard : Claim7 := { stood := { row := infoStartsUptoRow, standIns := [], harness := (true, "586bcf8d0650fbca6091819e2633b9e258b6a0434c9676007938baaad507d73e"), looks := false }, kinds := [], alts := [], laidByText := true, laidKinds := [.data], laidTests := true, laidLooks := .later }
def InfoStartsUptoCardSaid : Prop := Claim7.holds Tryd.pinned (.plain (OpenSpec.upto infoStartsSpec)) infoStartsUptoCard
end Rows
end Go.Proofs.YtjfdochceejegaaDoor
