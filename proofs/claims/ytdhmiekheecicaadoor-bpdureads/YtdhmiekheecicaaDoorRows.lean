/-
  NARROWER THAN 'FOR EVERY INPUT', by the rows' own cells (each row's printed sentence says how): BpduBytes: laid · BpduReads: laid · BpduRoles: laid.
  DERIVED. THE GIVEN ROWS OF THIS SEAT. 3 by the template 'for every input the law returns true; each argument reads behind the call as it read before'; 0 by the template 'total and deterministic' (their statements: YtdhmiekheecicaaDoorTotals.lean).
  GIVEN WITH THE SEED: the statements are not yours to turn. If you find one false, say at which input.
  Laid BY PROGRAM, IN A SANDBOX (cutbox-rows.mjs): the forced cells as the released guide's own fill.sh prints them over the translation a2fd4c732d89d0da… (all of the seat's roots in one cut). By AI agents, Wed Nov 11 2026. No macro, syntax, notation, axiom, sorry.
-/
import Derived.Test.YtdhmiekheecicaaDoorChecked
import GoSem.Claim
import GoSem.ClaimJoined
import GoSem.ClaimMapViews
import Derived.JoinedTies
import Derived.KernelRfl
namespace Go.Proofs.YtdhmiekheecicaaDoor
/- THE CELL 'sum', in the pinned program and in every row, IS THE sha256 OF THE DUMP (.gsa) THAT YtdhmiekheecicaaDoorProg.lean LOADS. Nothing in Lean hashes anything: it is a label: what it is worth is what the hold of that sum in a sandbox is worth. -/
noncomputable def Tryd.pinned : Pinned := { name := "ytdhmiekheecicaadoor", sum := "a2fd4c732d89d0da808886ecef6df42f65ad093073272f363895a84b7718470f", checked := Tryd.checked }
namespace Rows
def none {H : Type} : Left H := { results := [], args := [] }

/- WHAT THE LISTED PACKAGE-LEVEL VARIABLES READ AS WHEN THE CALL BEGINS. Each datum BY PROGRAM (the guide's laid-datum.mjs) off the statement by which the dump's own 'gosem.cut.vars' lays the variable. In a bare row this is a premise. The card (YtdhmiekheecicaaDoorCards.lean) ties it to the program's text. -/
def laid_catenary_bpdu_roles {H : Type} : DataW H := .agg [.lit (.int .i64 0), .lit (.int .i64 3), .lit (.int .i64 1), .lit (.int .i64 2)]
def laid_catenary_bpdu_numbers {H : Type} : DataW H := .agg [.lit (.int .u8 0), .lit (.int .u8 2), .lit (.int .u8 3), .lit (.int .u8 1), .lit (.int .u8 1)]

/-- 'catenarylaw07.BpduBytes': WHATEVER THE INPUT: true; the input reads as it did. -/
def bpduBytesSpec : ChangeSpec := { name := "bpduBytes", fn := fun _ => fun
  | [d1, d2] => { results := [.lit (.bool true)], args := [d1, d2] }
  | _ => none }
def bpduBytesRow : OpenClaim := { program := "ytdhmiekheecicaadoor", sum := "a2fd4c732d89d0da808886ecef6df42f65ad093073272f363895a84b7718470f", func := "catenary/catenarylaw07.BpduBytes", spec := "bpduBytes", unfollowed := true, recurses := true, named := ["catenary/bpdu.roles"], apart := false, laid := [("catenary/bpdu.roles", laid_catenary_bpdu_roles)] }
def BpduBytesSaid : Prop := bpduBytesRow.holds Tryd.pinned (OpenSpec.ofChange bpduBytesSpec)

/-- ITS FALSE NEIGHBOUR: 'it returns false'. Refute it at one input. -/
def bpduBytesWrong : ChangeSpec := { name := "bpduBytes", fn := fun _ => fun
  | [d1, d2] => { results := [.lit (.bool false)], args := [d1, d2] }
  | _ => none }
def BpduBytesWrongFalsely : Prop := bpduBytesRow.holds Tryd.pinned (OpenSpec.ofChange bpduBytesWrong)

/-- 'catenarylaw07.BpduReads': WHATEVER THE INPUT: true; the input reads as it did. -/
def bpduReadsSpec : ChangeSpec := { name := "bpduReads", fn := fun _ => fun
  | [d] => { results := [.lit (.bool true)], args := [d] }
  | _ => none }
def bpduReadsRow : OpenClaim := { program := "ytdhmiekheecicaadoor", sum := "a2fd4c732d89d0da808886ecef6df42f65ad093073272f363895a84b7718470f", func := "catenary/catenarylaw07.BpduReads", spec := "bpduReads", unfollowed := true, recurses := true, named := ["catenary/bpdu.roles"], apart := false, laid := [("catenary/bpdu.roles", laid_catenary_bpdu_roles)] }
def BpduReadsSaid : Prop := bpduReadsRow.holds Tryd.pinned (OpenSpec.ofChange bpduReadsSpec)

/-- ITS FALSE NEIGHBOUR: 'it returns false'. Refute it at one input. -/
def bpduReadsWrong : ChangeSpec := { name := "bpduReads", fn := fun _ => fun
  | [d] => { results := [.lit (.bool false)], args := [d] }
  | _ => none }
def BpduReadsWrongFalsely : Prop := bpduReadsRow.holds Tryd.pinned (OpenSpec.ofChange bpduReadsWrong)

/-- 'catenarylaw07.BpduRoles': WHATEVER THE INPUT: true; the input reads as it did. -/
def bpduRolesSpec : ChangeSpec := { name := "bpduRoles", fn := fun _ => fun
  | [d1, d2] => { results := [.lit (.bool true)], args := [d1, d2] }
  | _ => none }
def bpduRolesRow : OpenClaim := { program := "ytdhmiekheecicaadoor", sum := "a2fd4c732d89d0da808886ecef6df42f65ad093073272f363895a84b7718470f", func := "catenary/catenarylaw07.BpduRoles", spec := "bpduRoles", named := ["catenary/bpdu.roles", "catenary/bpdu.numbers"], apart := false, laid := [("catenary/bpdu.roles", laid_catenary_bpdu_roles), ("catenary/bpdu.numbers", laid_catenary_bpdu_numbers)] }
def BpduRolesSaid : Prop := bpduRolesRow.holds Tryd.pinned (OpenSpec.ofChange bpduRolesSpec)

/-- ITS FALSE NEIGHBOUR: 'it returns false'. Refute it at one input. -/
def bpduRolesWrong : ChangeSpec := { name := "bpduRoles", fn := fun _ => fun
  | [d1, d2] => { results := [.lit (.bool false)], args := [d1, d2] }
  | _ => none }
def BpduRolesWrongFalsely : Prop := bpduRolesRow.holds Tryd.pinned (OpenSpec.ofChange bpduRolesWrong)

/- THE SECOND FORM. 'bulk': how many values and letters a reading holds, each counted each time it is reached (what is shared counts as often as it is met; a slice's spare places count too). A statement '..UptoSaid' is the law's where the arguments, and the package variables that the reading takes, are together of bulk at most 1048576: NARROWER than '..Said'. Prove '..Said' where nothing that the law and all that it calls make is longer than what came in: it says more and counts as full. Else prove '..UptoSaid'. A law counts once. -/
mutual
def uptoBulk {H : Type} : DataW H → Nat
  | .lit (.string bytes) => bytes.length + 1
  | .lit _ => 1
  | .nil => 1
  | .ptr d => uptoBulk d + 1
  | .slice elems spare => uptoBulkAll elems + uptoBulkAll spare + 1
  | .agg parts => uptoBulkAll parts + 1
  | .iface _ d => uptoBulk d + 1
  | .map entries => uptoBulkEntries entries + 1
  | .held _ => 1
def uptoBulkAll {H : Type} : List (DataW H) → Nat
  | [] => 0
  | d :: r => uptoBulk d + uptoBulkAll r
def uptoBulkEntries {H : Type} : List (Lit × DataW H) → Nat
  | [] => 0
  | x :: r => uptoBulkEntry x + uptoBulkEntries r
def uptoBulkEntry {H : Type} : Lit × DataW H → Nat
  | (.string bytes, d) => bytes.length + uptoBulk d + 1
  | (_, d) => uptoBulk d + 1
 end
def uptoSmall : (H : Type) → List (DataW H) → Bool := fun _ ds => decide (uptoBulkAll ds ≤ 1048576)
def OpenSpec.upto (s : _root_.Go.ChangeSpec) : _root_.Go.OpenSpec := { _root_.Go.OpenSpec.ofChange s with cond := some uptoSmall }

/-- 'catenarylaw07.BpduBytes', WHERE WHAT IT READS IS OF BULK AT MOST 1048576: true; the input reads as it did. -/
def bpduBytesUptoRow : OpenClaim := { program := "ytdhmiekheecicaadoor", sum := "a2fd4c732d89d0da808886ecef6df42f65ad093073272f363895a84b7718470f", func := "catenary/catenarylaw07.BpduBytes", spec := "bpduBytes", unfollowed := true, recurses := true, named := ["catenary/bpdu.roles"], apart := false, laid := [("catenary/bpdu.roles", laid_catenary_bpdu_roles)], narrowed := true }
def BpduBytesUptoSaid : Prop := bpduBytesUptoRow.holds Tryd.pinned (OpenSpec.upto bpduBytesSpec)

/-- 'catenarylaw07.BpduReads', WHERE WHAT IT READS IS OF BULK AT MOST 1048576: true; the input reads as it did. -/
def bpduReadsUptoRow : OpenClaim := { program := "ytdhmiekheecicaadoor", sum := "a2fd4c732d89d0da808886ecef6df42f65ad093073272f363895a84b7718470f", func := "catenary/catenarylaw07.BpduReads", spec := "bpduReads", unfollowed := true, recurses := true, named := ["catenary/bpdu.roles"], apart := false, laid := [("catenary/bpdu.roles", laid_catenary_bpdu_roles)], narrowed := true }
def BpduReadsUptoSaid : Prop := bpduReadsUptoRow.holds Tryd.pinned (OpenSpec.upto bpduReadsSpec)

/-- 'catenarylaw07.BpduRoles', WHERE WHAT IT READS IS OF BULK AT MOST 1048576: true; the input reads as it did. -/
def bpduRolesUptoRow : OpenClaim := { program := "ytdhmiekheecicaadoor", sum := "a2fd4c732d89d0da808886ecef6df42f65ad093073272f363895a84b7718470f", func := "catenary/catenarylaw07.BpduRoles", spec := "bpduRoles", named := ["catenary/bpdu.roles", "catenary/bpdu.numbers"], apart := false, laid := [("catenary/bpdu.roles", laid_catenary_bpdu_roles), ("catenary/bpdu.numbers", laid_catenary_bpdu_numbers)], narrowed := true }
def BpduRolesUptoSaid : Prop := bpduRolesUptoRow.holds Tryd.pinned (OpenSpec.upto bpduRolesSpec)

end Rows
end Go.Proofs.YtdhmiekheecicaaDoor
