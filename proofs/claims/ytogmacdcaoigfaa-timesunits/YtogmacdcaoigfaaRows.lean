/-
  No cell of these rows narrows 'for every input' (looked for: loops, veiled, ifaces, maps, wideKeys, modest, calm, conditions, laid).
  DERIVED. THE GIVEN ROWS OF THIS SEAT. 3 by the template 'for every input the law returns true; each argument reads behind the call as it read before'; 0 by the template 'total and deterministic' (their statements: YtogmacdcaoigfaaTotals.lean).
  GIVEN WITH THE SEED: the statements are not yours to turn. If you find one false, say at which input.
  Laid BY PROGRAM, IN A SANDBOX (cutbox-rows.mjs): the forced cells as the released guide's own fill.sh prints them over the translation c114d832aedeb565… (all of the seat's roots in one cut). By AI agents, Wed Nov 11 2026. No macro, syntax, notation, axiom, sorry.
-/
import Derived.Test.YtogmacdcaoigfaaChecked
import GoSem.Claim
import GoSem.ClaimJoined
import GoSem.ClaimMapViews
import Derived.JoinedTies
import Derived.KernelRfl
namespace Go.Proofs.Ytogmacdcaoigfaa
/- THE CELL 'sum', in the pinned program and in every row, IS THE sha256 OF THE DUMP (.gsa) THAT YtogmacdcaoigfaaProg.lean LOADS. Nothing in Lean hashes anything: it is a label: what it is worth is what the hold of that sum in a sandbox is worth. -/
noncomputable def Try.pinned : Pinned := { name := "ytogmacdcaoigfaa", sum := "c114d832aedeb5658ff683b83859d5156419986f5261997c0fcac7e118a885d3", checked := Try.checked }
namespace Rows
def none {H : Type} : Left H := { results := [], args := [] }

/-- 'catenarylaw06.TimesChecks': WHATEVER THE INPUT: true; the input reads as it did. -/
def timesChecksSpec : ChangeSpec := { name := "timesChecks", fn := fun _ => fun
  | [d] => { results := [.lit (.bool true)], args := [d] }
  | _ => none }
def timesChecksRow : OpenClaim := { program := "ytogmacdcaoigfaa", sum := "c114d832aedeb5658ff683b83859d5156419986f5261997c0fcac7e118a885d3", func := "catenary/catenarylaw06.TimesChecks", spec := "timesChecks", apart := false }
def TimesChecksSaid : Prop := timesChecksRow.holds Try.pinned (OpenSpec.ofChange timesChecksSpec)

/-- ITS FALSE NEIGHBOUR: 'it returns false'. Refute it at one input. -/
def timesChecksWrong : ChangeSpec := { name := "timesChecks", fn := fun _ => fun
  | [d] => { results := [.lit (.bool false)], args := [d] }
  | _ => none }
def TimesChecksWrongFalsely : Prop := timesChecksRow.holds Try.pinned (OpenSpec.ofChange timesChecksWrong)

/-- 'catenarylaw06.TimesUnits': WHATEVER THE INPUT: true; the input reads as it did. -/
def timesUnitsSpec : ChangeSpec := { name := "timesUnits", fn := fun _ => fun
  | [d1, d2] => { results := [.lit (.bool true)], args := [d1, d2] }
  | _ => none }
def timesUnitsRow : OpenClaim := { program := "ytogmacdcaoigfaa", sum := "c114d832aedeb5658ff683b83859d5156419986f5261997c0fcac7e118a885d3", func := "catenary/catenarylaw06.TimesUnits", spec := "timesUnits", unfollowed := true, recurses := true, apart := false }
def TimesUnitsSaid : Prop := timesUnitsRow.holds Try.pinned (OpenSpec.ofChange timesUnitsSpec)

/-- ITS FALSE NEIGHBOUR: 'it returns false'. Refute it at one input. -/
def timesUnitsWrong : ChangeSpec := { name := "timesUnits", fn := fun _ => fun
  | [d1, d2] => { results := [.lit (.bool false)], args := [d1, d2] }
  | _ => none }
def TimesUnitsWrongFalsely : Prop := timesUnitsRow.holds Try.pinned (OpenSpec.ofChange timesUnitsWrong)

/-- 'catenarylaw06.TimesLives': WHATEVER THE INPUT: true; the input reads as it did. -/
def timesLivesSpec : ChangeSpec := { name := "timesLives", fn := fun _ => fun
  | [d1, d2] => { results := [.lit (.bool true)], args := [d1, d2] }
  | _ => none }
def timesLivesRow : OpenClaim := { program := "ytogmacdcaoigfaa", sum := "c114d832aedeb5658ff683b83859d5156419986f5261997c0fcac7e118a885d3", func := "catenary/catenarylaw06.TimesLives", spec := "timesLives", apart := false }
def TimesLivesSaid : Prop := timesLivesRow.holds Try.pinned (OpenSpec.ofChange timesLivesSpec)

/-- ITS FALSE NEIGHBOUR: 'it returns false'. Refute it at one input. -/
def timesLivesWrong : ChangeSpec := { name := "timesLives", fn := fun _ => fun
  | [d1, d2] => { results := [.lit (.bool false)], args := [d1, d2] }
  | _ => none }
def TimesLivesWrongFalsely : Prop := timesLivesRow.holds Try.pinned (OpenSpec.ofChange timesLivesWrong)

/- THE SECOND FORM. 'bulk': how many values and letters a reading holds, each counted each time it is reached (what is shared counts as often as it is met; a slice's spare places count too). A statement '..UptoSaid' is the law's where the arguments, and the package variables that the reading takes, are together of bulk at most 1048576: NARROWER than '..Said'. Prove '..Said' where nothing that the law and all that it calls make is longer than what came in: it says more and counts as full. Else prove '..UptoSaid'. A law counts once. -/
mutual
def uptoBulk {H : Type} : DataW H → Nat
  | .lit (.string bytes) => bytes.length + 1
  | .lit _ => 1
  | .nil => 1
  | .ptr d => uptoBulk d + 1
  | .slice elems spare => uptoBulkAll elems + uptoBulkAll spare + 1
  | .agg parts => uptoBulkAll parts + 1
  | .iface _ d => uptoBulk d + 1
  | .map entries => uptoBulkEntries entries + 1
  | .held _ => 1
def uptoBulkAll {H : Type} : List (DataW H) → Nat
  | [] => 0
  | d :: r => uptoBulk d + uptoBulkAll r
def uptoBulkEntries {H : Type} : List (Lit × DataW H) → Nat
  | [] => 0
  | x :: r => uptoBulkEntry x + uptoBulkEntries r
def uptoBulkEntry {H : Type} : Lit × DataW H → Nat
  | (.string bytes, d) => bytes.length + uptoBulk d + 1
  | (_, d) => uptoBulk d + 1
 end
def uptoSmall : (H : Type) → List (DataW H) → Bool := fun _ ds => decide (uptoBulkAll ds ≤ 1048576)
def OpenSpec.upto (s : _root_.Go.ChangeSpec) : _root_.Go.OpenSpec := { _root_.Go.OpenSpec.ofChange s with cond := some uptoSmall }

/-- 'catenarylaw06.TimesChecks', WHERE WHAT IT READS IS OF BULK AT MOST 1048576: true; the input reads as it did. -/
def timesChecksUptoRow : OpenClaim := { program := "ytogmacdcaoigfaa", sum := "c114d832aedeb5658ff683b83859d5156419986f5261997c0fcac7e118a885d3", func := "catenary/catenarylaw06.TimesChecks", spec := "timesChecks", apart := false, narrowed := true }
def TimesChecksUptoSaid : Prop := timesChecksUptoRow.holds Try.pinned (OpenSpec.upto timesChecksSpec)

/-- 'catenarylaw06.TimesUnits', WHERE WHAT IT READS IS OF BULK AT MOST 1048576: true; the input reads as it did. -/
def timesUnitsUptoRow : OpenClaim := { program := "ytogmacdcaoigfaa", sum := "c114d832aedeb5658ff683b83859d5156419986f5261997c0fcac7e118a885d3", func := "catenary/catenarylaw06.TimesUnits", spec := "timesUnits", unfollowed := true, recurses := true, apart := false, narrowed := true }
def TimesUnitsUptoSaid : Prop := timesUnitsUptoRow.holds Try.pinned (OpenSpec.upto timesUnitsSpec)

/-- 'catenarylaw06.TimesLives', WHERE WHAT IT READS IS OF BULK AT MOST 1048576: true; the input reads as it did. -/
def timesLivesUptoRow : OpenClaim := { program := "ytogmacdcaoigfaa", sum := "c114d832aedeb5658ff683b83859d5156419986f5261997c0fcac7e118a885d3", func := "catenary/catenarylaw06.TimesLives", spec := "timesLives", apart := false, narrowed := true }
def TimesLivesUptoSaid : Prop := timesLivesUptoRow.holds Try.pinned (OpenSpec.upto timesLivesSpec)

end Rows
end Go.Proofs.Ytogmacdcaoigfaa
