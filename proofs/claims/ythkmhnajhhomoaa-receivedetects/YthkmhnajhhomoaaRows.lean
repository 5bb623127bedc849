/-
  No cell of these rows narrows 'for every input' (looked for: loops, veiled, ifaces, maps, wideKeys, modest, calm, conditions, laid).
  DERIVED. THE GIVEN ROWS OF THIS SEAT. 3 by the template 'for every input the law returns true; each argument reads behind the call as it read before'; 0 by the template 'total and deterministic' (their statements: YthkmhnajhhomoaaTotals.lean).
  GIVEN WITH THE SEED: the statements are not yours to turn. If you find one false, say at which input.
  Laid BY PROGRAM, IN A SANDBOX (cutbox-rows.mjs): the forced cells as the released guide's own fill.sh prints them over the translation 544deecff0d714a1… (all of the seat's roots in one cut). By AI agents, Wed Nov 11 2026. No macro, syntax, notation, axiom, sorry.
-/
import Derived.Test.YthkmhnajhhomoaaChecked
import GoSem.Claim
import GoSem.ClaimJoined
import GoSem.ClaimMapViews
import Derived.JoinedTies
import Derived.KernelRfl
namespace Go.Proofs.Ythkmhnajhhomoaa
/- THE CELL 'sum', in the pinned program and in every row, IS THE sha256 OF THE DUMP (.gsa) THAT YthkmhnajhhomoaaProg.lean LOADS. Nothing in Lean hashes anything: it is a label: what it is worth is what the hold of that sum in a sandbox is worth. -/
noncomputable def Try.pinned : Pinned := { name := "ythkmhnajhhomoaa", sum := "544deecff0d714a1d4a5f496cefee2c9812e40406ca08ece18b813534ef736d6", checked := Try.checked }
namespace Rows
def none {H : Type} : Left H := { results := [], args := [] }

/-- 'catenarylaw14.ReceiveMigrates': WHATEVER THE INPUT: true; the input reads as it did. -/
def receiveMigratesSpec : ChangeSpec := { name := "receiveMigrates", fn := fun _ => fun
  | [d1, d2] => { results := [.lit (.bool true)], args := [d1, d2] }
  | _ => none }
def receiveMigratesRow : OpenClaim := { program := "ythkmhnajhhomoaa", sum := "544deecff0d714a1d4a5f496cefee2c9812e40406ca08ece18b813534ef736d6", func := "catenary/catenarylaw14.ReceiveMigrates", spec := "receiveMigrates", unfollowed := true, recurses := true, apart := false }
def ReceiveMigratesSaid : Prop := receiveMigratesRow.holds Try.pinned (OpenSpec.ofChange receiveMigratesSpec)

/-- ITS FALSE NEIGHBOUR: 'it returns false'. Refute it at one input. -/
def receiveMigratesWrong : ChangeSpec := { name := "receiveMigrates", fn := fun _ => fun
  | [d1, d2] => { results := [.lit (.bool false)], args := [d1, d2] }
  | _ => none }
def ReceiveMigratesWrongFalsely : Prop := receiveMigratesRow.holds Try.pinned (OpenSpec.ofChange receiveMigratesWrong)

/-- 'catenarylaw14.ReceiveDetects': WHATEVER THE INPUT: true; the input reads as it did. -/
def receiveDetectsSpec : ChangeSpec := { name := "receiveDetects", fn := fun _ => fun
  | [d1, d2] => { results := [.lit (.bool true)], args := [d1, d2] }
  | _ => none }
def receiveDetectsRow : OpenClaim := { program := "ythkmhnajhhomoaa", sum := "544deecff0d714a1d4a5f496cefee2c9812e40406ca08ece18b813534ef736d6", func := "catenary/catenarylaw14.ReceiveDetects", spec := "receiveDetects", unfollowed := true, recurses := true, apart := false }
def ReceiveDetectsSaid : Prop := receiveDetectsRow.holds Try.pinned (OpenSpec.ofChange receiveDetectsSpec)

/-- ITS FALSE NEIGHBOUR: 'it returns false'. Refute it at one input. -/
def receiveDetectsWrong : ChangeSpec := { name := "receiveDetects", fn := fun _ => fun
  | [d1, d2] => { results := [.lit (.bool false)], args := [d1, d2] }
  | _ => none }
def ReceiveDetectsWrongFalsely : Prop := receiveDetectsRow.holds Try.pinned (OpenSpec.ofChange receiveDetectsWrong)

/-- 'catenarylaw14.ReceiveStarts': WHATEVER THE INPUT: true; the input reads as it did. -/
def receiveStartsSpec : ChangeSpec := { name := "receiveStarts", fn := fun _ => fun
  | [d1, d2] => { results := [.lit (.bool true)], args := [d1, d2] }
  | _ => none }
def receiveStartsRow : OpenClaim := { program := "ythkmhnajhhomoaa", sum := "544deecff0d714a1d4a5f496cefee2c9812e40406ca08ece18b813534ef736d6", func := "catenary/catenarylaw14.ReceiveStarts", spec := "receiveStarts", apart := false }
def ReceiveStartsSaid : Prop := receiveStartsRow.holds Try.pinned (OpenSpec.ofChange receiveStartsSpec)

/-- ITS FALSE NEIGHBOUR: 'it returns false'. Refute it at one input. -/
def receiveStartsWrong : ChangeSpec := { name := "receiveStarts", fn := fun _ => fun
  | [d1, d2] => { results := [.lit (.bool false)], args := [d1, d2] }
  | _ => none }
def ReceiveStartsWrongFalsely : Prop := receiveStartsRow.holds Try.pinned (OpenSpec.ofChange receiveStartsWrong)

/- THE SECOND FORM. 'bulk': how many values and letters a reading holds, each counted each time it is reached (what is shared counts as often as it is met; a slice's spare places count too). A statement '..UptoSaid' is the law's where the arguments, and the package variables that the reading takes, are together of bulk at most 1048576: NARROWER than '..Said'. Prove '..Said' where nothing that the law and all that it calls make is longer than what came in: it says more and counts as full. Else prove '..UptoSaid'. A law counts once. -/
mutual
def uptoBulk {H : Type} : DataW H → Nat
  | .lit (.string bytes) => bytes.length + 1
  | .lit _ => 1
  | .nil => 1
  | .ptr d => uptoBulk d + 1
  | .slice elems spare => uptoBulkAll elems + uptoBulkAll spare + 1
  | .agg parts => uptoBulkAll parts + 1
  | .iface _ d => uptoBulk d + 1
  | .map entries => uptoBulkEntries entries + 1
  | .held _ => 1
def uptoBulkAll {H : Type} : List (DataW H) → Nat
  | [] => 0
  | d :: r => uptoBulk d + uptoBulkAll r
def uptoBulkEntries {H : Type} : List (Lit × DataW H) → Nat
  | [] => 0
  | x :: r => uptoBulkEntry x + uptoBulkEntries r
def uptoBulkEntry {H : Type} : Lit × DataW H → Nat
  | (.string bytes, d) => bytes.length + uptoBulk d + 1
  | (_, d) => uptoBulk d + 1
 end
def uptoSmall : (H : Type) → List (DataW H) → Bool := fun _ ds => decide (uptoBulkAll ds ≤ 1048576)
def OpenSpec.upto (s : _root_.Go.ChangeSpec) : _root_.Go.OpenSpec := { _root_.Go.OpenSpec.ofChange s with cond := some uptoSmall }

/-- 'catenarylaw14.ReceiveMigrates', WHERE WHAT IT READS IS OF BULK AT MOST 1048576: true; the input reads as it did. -/
def receiveMigratesUptoRow : OpenClaim := { program := "ythkmhnajhhomoaa", sum := "544deecff0d714a1d4a5f496cefee2c9812e40406ca08ece18b813534ef736d6", func := "catenary/catenarylaw14.ReceiveMigrates", spec := "receiveMigrates", unfollowed := true, recurses := true, apart := false, narrowed := true }
def ReceiveMigratesUptoSaid : Prop := receiveMigratesUptoRow.holds Try.pinned (OpenSpec.upto receiveMigratesSpec)

/-- 'catenarylaw14.ReceiveDetects', WHERE WHAT IT READS IS OF BULK AT MOST 1048576: true; the input reads as it did. -/
def receiveDetectsUptoRow : OpenClaim := { program := "ythkmhnajhhomoaa", sum := "544deecff0d714a1d4a5f496cefee2c9812e40406ca08ece18b813534ef736d6", func := "catenary/catenarylaw14.ReceiveDetects", spec := "receiveDetects", unfollowed := true, recurses := true, apart := false, narrowed := true }
def ReceiveDetectsUptoSaid : Prop := receiveDetectsUptoRow.holds Try.pinned (OpenSpec.upto receiveDetectsSpec)

/-- 'catenarylaw14.ReceiveStarts', WHERE WHAT IT READS IS OF BULK AT MOST 1048576: true; the input reads as it did. -/
def receiveStartsUptoRow : OpenClaim := { program := "ythkmhnajhhomoaa", sum := "544deecff0d714a1d4a5f496cefee2c9812e40406ca08ece18b813534ef736d6", func := "catenary/catenarylaw14.ReceiveStarts", spec := "receiveStarts", apart := false, narrowed := true }
def ReceiveStartsUptoSaid : Prop := receiveStartsUptoRow.holds Try.pinned (OpenSpec.upto receiveStartsSpec)

end Rows
end Go.Proofs.Ythkmhnajhhomoaa
