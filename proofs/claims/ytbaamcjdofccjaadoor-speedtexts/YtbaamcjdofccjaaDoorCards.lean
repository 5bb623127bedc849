/-
  DERIVED. GIVEN WITH THE SEED: THE CARDS: each row of YtbaamcjdofccjaaDoorRows.lean that lists a variable, with what it lists TIED to the program's text (the seventh form; the later family's looks); each row that meets fmt, with fmt's text TOLD by the authors' own Lean function (tested against real Go, not proved from fmt's source: count such statements apart). THE CARD IS WHAT COUNTS. Prove the row's statement (the work); the ties are given (YtbaamcjdofccjaaDoorTie.lean); close each card by the builder's one call (the guide's Derived/Test/ToyasCard.lean, 'card_holds'). Laid BY PROGRAM, IN A SANDBOX (cutbox-door.mjs). By AI agents, Wed Nov 11 2026. No macro, syntax, notation, axiom, sorry.
-/
import Derived.Test.YtbaamcjdofccjaaDoorRows
import GoSem.ClaimSeven
namespace Go.Proofs.YtbaamcjdofccjaaDoor
namespace Rows

/-- THE TIED CARD OF 'catenarylaw01.SpeedCosts'. -/
def speedCostsCard : Claim7 := { stood := { row := speedCostsRow, standIns := [], harness := (true, "abd9cd66eddf4f16179ed8b8be23a87a1f967a7e48a883a25990e81abd4aef4d"), looks := true }, kinds := [], alts := [], laidByText := true, laidKinds := [.data, .data, .widerDeep, .widerDeep, .data, .data, .data, .data, .data, .sentinel, .sentinel, .pinned, .pinned], laidTests := true, laidLooks := .later }
def SpeedCostsCardSaid : Prop := Claim7.holds Tryd.pinned (.plain (OpenSpec.ofChange speedCostsSpec)) speedCostsCard

/-- THE TIED CARD OF 'catenarylaw01.SpeedOrder'. -/
def speedOrderCard : Claim7 := { stood := { row := speedOrderRow, standIns := [], harness := (true, "abd9cd66eddf4f16179ed8b8be23a87a1f967a7e48a883a25990e81abd4aef4d"), looks := true }, kinds := [], alts := [], laidByText := true, laidKinds := [.data, .data, .widerDeep, .widerDeep, .data, .data, .data, .data, .data, .sentinel, .sentinel, .pinned, .pinned], laidTests := true, laidLooks := .later }
def SpeedOrderCardSaid : Prop := Claim7.holds Tryd.pinned (.plain (OpenSpec.ofChange speedOrderSpec)) speedOrderCard

/-- THE TIED CARD OF 'catenarylaw01.SpeedMany'. -/
def speedManyCard : Claim7 := { stood := { row := speedManyRow, standIns := [], harness := (true, "abd9cd66eddf4f16179ed8b8be23a87a1f967a7e48a883a25990e81abd4aef4d"), looks := true }, kinds := [], alts := [], laidByText := true, laidKinds := [.data, .data, .widerDeep, .widerDeep, .data, .data, .data, .data, .data, .sentinel, .sentinel, .pinned, .pinned], laidTests := true, laidLooks := .later }
def SpeedManyCardSaid : Prop := Claim7.holds Tryd.pinned (.plain (OpenSpec.ofChange speedManySpec)) speedManyCard

/-- THE TIED CARD OF 'catenarylaw01.SpeedTexts'. -/
def speedTextsCard : Claim7 := { stood := { row := speedTextsRow, standIns := [], harness := (true, "abd9cd66eddf4f16179ed8b8be23a87a1f967a7e48a883a25990e81abd4aef4d"), looks := true }, kinds := [], alts := [], laidByText := true, laidKinds := [.data, .data, .widerDeep, .widerDeep, .data, .data, .data, .data, .data, .sentinel, .sentinel, .pinned, .pinned], laidTests := true, laidLooks := .later }
def SpeedTextsCardSaid : Prop := Claim7.holds Tryd.pinned (.plain (OpenSpec.ofChange speedTextsSpec)) speedTextsCard

/-- THE SECOND FORM's CARD OF 'catenarylaw01.SpeedCosts'. -/
def speedCostsUptoCard : Claim7 := { stood := { row := speedCostsUptoRow, standIns := [], harness := (true, "abd9cd66eddf4f16179ed8b8be23a87a1f967a7e48a883a25990e81abd4aef4d"), looks := true }, kinds := [], alts := [], laidByText := true, laidKinds := [.data, .data, .widerDeep, .widerDeep, .data, .data, .data, .data, .data, .sentinel, .sentinel, .pinned, .pinned], laidTests := true, laidLooks := .later }
def SpeedCostsUptoCardSaid : Prop := Claim7.holds Tryd.pinned (.plain (OpenSpec.upto speedCostsSpec)) speedCostsUptoCard

/-- THE SECOND FORM's CARD OF 'catenarylaw01.SpeedOrder'. -/
def speedOrderUptoCard : Claim7 := { stood := { row := speedOrderUptoRow, standIns := [], harness := (true, "abd9cd66eddf4f16179ed8b8be23a87a1f967a7e48a883a25990e81abd4aef4d"), looks := true }, kinds := [], alts := [], laidByText := true, laidKinds := [.data, .data, .widerDeep, .widerDeep, .data, .data, .data, .data, .data, .sentinel, .sentinel, .pinned, .pinned], laidTests := true, laidLooks := .later }
def SpeedOrderUptoCardSaid : Prop := Claim7.holds Tryd.pinned (.plain (OpenSpec.upto speedOrderSpec)) speedOrderUptoCard

/-- THE SECOND FORM's CARD OF 'catenarylaw01.SpeedMany'. -/
def speedManyUptoCard : Claim7 := { stood := { row := speedManyUptoRow, standIns := [], harness := (true, "abd9cd66eddf4f16179ed8b8be23a87a1f967a7e48a883a25990e81abd4aef4d"), looks := true }, kinds := [], alts := [], laidByText := true, laidKinds := [.data, .data, .widerDeep, .widerDeep, .data, .data, .data, .data, .data, .sentinel, .sentinel, .pinned, .pinned], laidTests := true, laidLooks := .later }
def SpeedManyUptoCardSaid : Prop := Claim7.holds Tryd.pinned (.plain (OpenSpec.upto speedManySpec)) speedManyUptoCard

/-- THE SECOND FORM's CARD OF 'catenarylaw01.SpeedTexts'. -/
def speedTextsUptoCard : Claim7 := { stood := { row := speedTextsUptoRow, standIns := [], harness := (true, "abd9cd66eddf4f16179ed8b8be23a87a1f967a7e48a883a25990e81abd4aef4d"), looks := true }, kinds := [], alts := [], laidByText := true, laidKinds := [.data, .data, .widerDeep, .widerDeep, .data, .data, .data, .data, .data, .sentinel, .sentinel, .pinned, .pinned], laidTests := true, laidLooks := .later }
def SpeedTextsUptoCardSaid : Prop := Claim7.holds Tryd.pinned (.plain (OpenSpec.upto speedTextsSpec)) speedTextsUptoCard
end Rows
end Go.Proofs.YtbaamcjdofccjaaDoor
