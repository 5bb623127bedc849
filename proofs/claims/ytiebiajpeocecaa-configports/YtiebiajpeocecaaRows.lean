/-
  No cell of these rows narrows 'for every input' (looked for: loops, veiled, ifaces, maps, wideKeys, modest, calm, conditions, laid).
  DERIVED. THE GIVEN ROWS OF THIS SEAT. 3 by the template 'for every input the law returns true; each argument reads behind the call as it read before'; 0 by the template 'total and deterministic' (their statements: YtiebiajpeocecaaTotals.lean).
  GIVEN WITH THE SEED: the statements are not yours to turn. If you find one false, say at which input.
  Laid BY PROGRAM, IN A SANDBOX (cutbox-rows.mjs): the forced cells as the released guide's own fill.sh prints them over the translation 9ddb58d24ac9f446… (all of the seat's roots in one cut). By AI agents, Wed Nov 11 2026. No macro, syntax, notation, axiom, sorry.
-/
import Derived.Test.YtiebiajpeocecaaChecked
import GoSem.Claim
import GoSem.ClaimJoined
import GoSem.ClaimMapViews
import Derived.JoinedTies
import Derived.KernelRfl
namespace Go.Proofs.Ytiebiajpeocecaa
/- THE CELL 'sum', in the pinned program and in every row, IS THE sha256 OF THE DUMP (.gsa) THAT YtiebiajpeocecaaProg.lean LOADS. Nothing in Lean hashes anything: it is a label: what it is worth is what the hold of that sum in a sandbox is worth. -/
noncomputable def Try.pinned : Pinned := { name := "ytiebiajpeocecaa", sum := "9ddb58d24ac9f4469d32104141ee5774a49e18b9dd7eaa1a467593d7a547e6e1", checked := Try.checked }
namespace Rows
def none {H : Type} : Left H := { results := [], args := [] }

/-- 'catenarylaw11.ConfigChecks': WHATEVER THE INPUT: true; the input reads as it did. -/
def configChecksSpec : ChangeSpec := { name := "configChecks", fn := fun _ => fun
  | [d1, d2, d3] => { results := [.lit (.bool true)], args := [d1, d2, d3] }
  | _ => none }
def configChecksRow : OpenClaim := { program := "ytiebiajpeocecaa", sum := "9ddb58d24ac9f4469d32104141ee5774a49e18b9dd7eaa1a467593d7a547e6e1", func := "catenary/catenarylaw11.ConfigChecks", spec := "configChecks", apart := false }
def ConfigChecksSaid : Prop := configChecksRow.holds Try.pinned (OpenSpec.ofChange configChecksSpec)

/-- ITS FALSE NEIGHBOUR: 'it returns false'. Refute it at one input. -/
def configChecksWrong : ChangeSpec := { name := "configChecks", fn := fun _ => fun
  | [d1, d2, d3] => { results := [.lit (.bool false)], args := [d1, d2, d3] }
  | _ => none }
def ConfigChecksWrongFalsely : Prop := configChecksRow.holds Try.pinned (OpenSpec.ofChange configChecksWrong)

/-- 'catenarylaw11.ConfigPorts': WHATEVER THE INPUT: true; the input reads as it did. -/
def configPortsSpec : ChangeSpec := { name := "configPorts", fn := fun _ => fun
  | [d1, d2, d3] => { results := [.lit (.bool true)], args := [d1, d2, d3] }
  | _ => none }
def configPortsRow : OpenClaim := { program := "ytiebiajpeocecaa", sum := "9ddb58d24ac9f4469d32104141ee5774a49e18b9dd7eaa1a467593d7a547e6e1", func := "catenary/catenarylaw11.ConfigPorts", spec := "configPorts", inPlace := ["math.Float64frombits"], apart := false }
def ConfigPortsSaid : Prop := configPortsRow.holds Try.pinned (OpenSpec.ofChange configPortsSpec)

/-- ITS FALSE NEIGHBOUR: 'it returns false'. Refute it at one input. -/
def configPortsWrong : ChangeSpec := { name := "configPorts", fn := fun _ => fun
  | [d1, d2, d3] => { results := [.lit (.bool false)], args := [d1, d2, d3] }
  | _ => none }
def ConfigPortsWrongFalsely : Prop := configPortsRow.holds Try.pinned (OpenSpec.ofChange configPortsWrong)

/-- 'catenarylaw11.ConfigBridge': WHATEVER THE INPUT: true; the input reads as it did. -/
def configBridgeSpec : ChangeSpec := { name := "configBridge", fn := fun _ => fun
  | [d1, d2] => { results := [.lit (.bool true)], args := [d1, d2] }
  | _ => none }
def configBridgeRow : OpenClaim := { program := "ytiebiajpeocecaa", sum := "9ddb58d24ac9f4469d32104141ee5774a49e18b9dd7eaa1a467593d7a547e6e1", func := "catenary/catenarylaw11.ConfigBridge", spec := "configBridge", apart := false }
def ConfigBridgeSaid : Prop := configBridgeRow.holds Try.pinned (OpenSpec.ofChange configBridgeSpec)

/-- ITS FALSE NEIGHBOUR: 'it returns false'. Refute it at one input. -/
def configBridgeWrong : ChangeSpec := { name := "configBridge", fn := fun _ => fun
  | [d1, d2] => { results := [.lit (.bool false)], args := [d1, d2] }
  | _ => none }
def ConfigBridgeWrongFalsely : Prop := configBridgeRow.holds Try.pinned (OpenSpec.ofChange configBridgeWrong)

/- THE SECOND FORM. 'bulk': how many values and letters a reading holds, each counted each time it is reached (what is shared counts as often as it is met; a slice's spare places count too). A statement '..UptoSaid' is the law's where the arguments, and the package variables that the reading takes, are together of bulk at most 1048576: NARROWER than '..Said'. Prove '..Said' where nothing that the law and all that it calls make is longer than what came in: it says more and counts as full. Else prove '..UptoSaid'. A law counts once. -/
mutual
def uptoBulk {H : Type} : DataW H → Nat
  | .lit (.string bytes) => bytes.length + 1
  | .lit _ => 1
  | .nil => 1
  | .ptr d => uptoBulk d + 1
  | .slice elems spare => uptoBulkAll elems + uptoBulkAll spare + 1
  | .agg parts => uptoBulkAll parts + 1
  | .iface _ d => uptoBulk d + 1
  | .map entries => uptoBulkEntries entries + 1
  | .held _ => 1
def uptoBulkAll {H : Type} : List (DataW H) → Nat
  | [] => 0
  | d :: r => uptoBulk d + uptoBulkAll r
def uptoBulkEntries {H : Type} : List (Lit × DataW H) → Nat
  | [] => 0
  | x :: r => uptoBulkEntry x + uptoBulkEntries r
def uptoBulkEntry {H : Type} : Lit × DataW H → Nat
  | (.string bytes, d) => bytes.length + uptoBulk d + 1
  | (_, d) => uptoBulk d + 1
 end
def uptoSmall : (H : Type) → List (DataW H) → Bool := fun _ ds => decide (uptoBulkAll ds ≤ 1048576)
def OpenSpec.upto (s : _root_.Go.ChangeSpec) : _root_.Go.OpenSpec := { _root_.Go.OpenSpec.ofChange s with cond := some uptoSmall }

/-- 'catenarylaw11.ConfigChecks', WHERE WHAT IT READS IS OF BULK AT MOST 1048576: true; the input reads as it did. -/
def configChecksUptoRow : OpenClaim := { program := "ytiebiajpeocecaa", sum := "9ddb58d24ac9f4469d32104141ee5774a49e18b9dd7eaa1a467593d7a547e6e1", func := "catenary/catenarylaw11.ConfigChecks", spec := "configChecks", apart := false, narrowed := true }
def ConfigChecksUptoSaid : Prop := configChecksUptoRow.holds Try.pinned (OpenSpec.upto configChecksSpec)

/-- 'catenarylaw11.ConfigPorts', WHERE WHAT IT READS IS OF BULK AT MOST 1048576: true; the input reads as it did. -/
def configPortsUptoRow : OpenClaim := { program := "ytiebiajpeocecaa", sum := "9ddb58d24ac9f4469d32104141ee5774a49e18b9dd7eaa1a467593d7a547e6e1", func := "catenary/catenarylaw11.ConfigPorts", spec := "configPorts", inPlace := ["math.Float64frombits"], apart := false, narrowed := true }
def ConfigPortsUptoSaid : Prop := configPortsUptoRow.holds Try.pinned (OpenSpec.upto configPortsSpec)

/-- 'catenarylaw11.ConfigBridge', WHERE WHAT IT READS IS OF BULK AT MOST 1048576: true; the input reads as it did. -/
def configBridgeUptoRow : OpenClaim := { program := "ytiebiajpeocecaa", sum := "9ddb58d24ac9f4469d32104141ee5774a49e18b9dd7eaa1a467593d7a547e6e1", func := "catenary/catenarylaw11.ConfigBridge", spec := "configBridge", apart := false, narrowed := true }
def ConfigBridgeUptoSaid : Prop := configBridgeUptoRow.holds Try.pinned (OpenSpec.upto configBridgeSpec)

end Rows
end Go.Proofs.Ytiebiajpeocecaa
