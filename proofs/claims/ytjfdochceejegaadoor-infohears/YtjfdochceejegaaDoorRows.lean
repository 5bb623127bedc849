/-
  NARROWER THAN 'FOR EVERY INPUT', by the rows' own cells (each row's printed sentence says how): InfoNews: laid · InfoSteps: laid · InfoHears: laid · InfoStarts: laid.
  DERIVED. THE GIVEN ROWS OF THIS SEAT. 4 by the template 'for every input the law returns true; each argument reads behind the call as it read before'; 0 by the template 'total and deterministic' (their statements: YtjfdochceejegaaDoorTotals.lean).
  GIVEN WITH THE SEED: the statements are not yours to turn. If you find one false, say at which input.
  Laid BY PROGRAM, IN A SANDBOX (cutbox-rows.mjs): the forced cells as the released guide's own fill.sh prints them over the translation b91f7cd25aa52df0… (all of the seat's roots in one cut). By AI agents, Wed Nov 11 2026. No macro, syntax, notation, axiom, sorry.
-/
import Derived.Test.YtjfdochceejegaaDoorChecked
import GoSem.Claim
import GoSem.ClaimJoined
import GoSem.ClaimMapViews
import Derived.JoinedTies
import Derived.KernelRfl
namespace Go.Proofs.YtjfdochceejegaaDoor
/- THE CELL 'sum', in the pinned program and in every row, IS THE sha256 OF THE DUMP (.gsa) THAT YtjfdochceejegaaDoorProg.lean LOADS. Nothing in Lean hashes anything: it is a label: what it is worth is what the hold of that sum in a sandbox is worth. -/
noncomputable def Tryd.pinned : Pinned := { name := "ytjfdochceejegaadoor", sum := "b91f7cd25aa52df038135b90d7f35a8005e9629d566c9af1062e7088cd012ab7", checked := Tryd.checked }
namespace Rows
def none {H : Type} : Left H := { results := [], args := [] }

/- WHAT THE LISTED PACKAGE-LEVEL VARIABLES READ AS WHEN THE CALL BEGINS. Each datum BY PROGRAM (the guide's laid-datum.mjs) off the statement by which the dump's own 'gosem.cut.vars' lays the variable. In a bare row this is a premise. The card (YtjfdochceejegaaDoorCards.lean) ties it to the program's text. -/
def laid_catenary_bpdu_roles {H : Type} : DataW H := .agg [.lit (.int .i64 0), .lit (.int .i64 3), .lit (.int .i64 1), .lit (.int .i64 2)]

/-- 'catenarylaw15.InfoNews': WHATEVER THE INPUT: true; the input reads as it did. -/
def infoNewsSpec : ChangeSpec := { name := "infoNews", fn := fun _ => fun
  | [d] => { results := [.lit (.bool true)], args := [d] }
  | _ => none }
def infoNewsRow : OpenClaim := { program := "ytjfdochceejegaadoor", sum := "b91f7cd25aa52df038135b90d7f35a8005e9629d566c9af1062e7088cd012ab7", func := "catenary/catenarylaw15.InfoNews", spec := "infoNews", named := ["catenary/bpdu.roles"], apart := false, laid := [("catenary/bpdu.roles", laid_catenary_bpdu_roles)] }
def InfoNewsSaid : Prop := infoNewsRow.holds Tryd.pinned (OpenSpec.ofChange infoNewsSpec)

/-- ITS FALSE NEIGHBOUR: 'it returns false'. Refute it at one input. -/
def infoNewsWrong : ChangeSpec := { name := "infoNews", fn := fun _ => fun
  | [d] => { results := [.lit (.bool false)], args := [d] }
  | _ => none }
def InfoNewsWrongFalsely : Prop := infoNewsRow.holds Tryd.pinned (OpenSpec.ofChange infoNewsWrong)

/-- 'catenarylaw15.InfoSteps': WHATEVER THE INPUT: true; the input reads as it did. -/
def infoStepsSpec : ChangeSpec := { name := "infoSteps", fn := fun _ => fun
  | [d1, d2] => { results := [.lit (.bool true)], args := [d1, d2] }
  | _ => none }
def infoStepsRow : OpenClaim := { program := "ytjfdochceejegaadoor", sum := "b91f7cd25aa52df038135b90d7f35a8005e9629d566c9af1062e7088cd012ab7", func := "catenary/catenarylaw15.InfoSteps", spec := "infoSteps", unfollowed := true, recurses := true, named := ["catenary/bpdu.roles"], apart := false, laid := [("catenary/bpdu.roles", laid_catenary_bpdu_roles)] }
def InfoStepsSaid : Prop := infoStepsRow.holds Tryd.pinned (OpenSpec.ofChange infoStepsSpec)

/-- ITS FALSE NEIGHBOUR: 'it returns false'. Refute it at one input. -/
def infoStepsWrong : ChangeSpec := { name := "infoSteps", fn := fun _ => fun
  | [d1, d2] => { results := [.lit (.bool false)], args := [d1, d2] }
  | _ => none }
def InfoStepsWrongFalsely : Prop := infoStepsRow.holds Tryd.pinned (OpenSpec.ofChange infoStepsWrong)

/-- 'catenarylaw15.InfoHears': WHATEVER THE INPUT: true; the input reads as it did. -/
def infoHearsSpec : ChangeSpec := { name := "infoHears", fn := fun _ => fun
  | [d1, d2, d3] => { results := [.lit (.bool true)], args := [d1, d2, d3] }
  | _ => none }
def infoHearsRow : OpenClaim := { program := "ytjfdochceejegaadoor", sum := "b91f7cd25aa52df038135b90d7f35a8005e9629d566c9af1062e7088cd012ab7", func := "catenary/catenarylaw15.InfoHears", spec := "infoHears", named := ["catenary/bpdu.roles"], apart := false, laid := [("catenary/bpdu.roles", laid_catenary_bpdu_roles)] }
def InfoHearsSaid : Prop := infoHearsRow.holds Tryd.pinned (OpenSpec.ofChange infoHearsSpec)

/-- ITS FALSE NEIGHBOUR: 'it returns false'. Refute it at one input. -/
def infoHearsWrong : ChangeSpec := { name := "infoHears", fn := fun _ => fun
  | [d1, d2, d3] => { results := [.lit (.bool false)], args := [d1, d2, d3] }
  | _ => none }
def InfoHearsWrongFalsely : Prop := infoHearsRow.holds Tryd.pinned (OpenSpec.ofChange infoHearsWrong)

/-- 'catenarylaw15.InfoStarts': WHATEVER THE INPUT: true; the input reads as it did. -/
def infoStartsSpec : ChangeSpec := { name := "infoStarts", fn := fun _ => fun
  | [d1, d2] => { results := [.lit (.bool true)], args := [d1, d2] }
  | _ => none }
def infoStartsRow : OpenClaim := { program := "ytjfdochceejegaadoor", sum := "b91f7cd25aa52df038135b90d7f35a8005e9629d566c9af1062e7088cd012ab7", func := "catenary/catenarylaw15.InfoStarts", spec := "infoStarts", named := ["catenary/bpdu.roles"], apart := false, laid := [("catenary/bpdu.roles", laid_catenary_bpdu_roles)] }
def InfoStartsSaid : Prop := infoStartsRow.holds Tryd.pinned (OpenSpec.ofChange infoStartsSpec)

/-- ITS FALSE NEIGHBOUR: 'it returns false'. Refute it at one input. -/
def infoStartsWrong : ChangeSpec := { name := "infoStarts", fn := fun _ => fun
  | [d1, d2] => { results := [.lit (.bool false)], args := [d1, d2] }
  | _ => none }
def InfoStartsWrongFalsely : Prop := infoStartsRow.holds Tryd.pinned (OpenSpec.ofChange infoStartsWrong)

/- THE SECOND FORM. 'bulk': how many values and letters a reading holds, each counted each time it is reached (what is shared counts as often as it is met; a slice's spare places count too). A statement '..UptoSaid' is the law's where the arguments, and the package variables that the reading takes, are together of bulk at most 1048576: NARROWER than '..Said'. Prove '..Said' where nothing that the law and all that it calls make is longer than what came in: it says more and counts as full. Else prove '..UptoSaid'. A law counts once. -/
mutual
def uptoBulk {H : Type} : DataW H → Nat
  | .lit (.string bytes) => bytes.length + 1
  | .lit _ => 1
  | .nil => 1
  | .ptr d => uptoBulk d + 1
  | .slice elems spare => uptoBulkAll elems + uptoBulkAll spare + 1
  | .agg parts => uptoBulkAll parts + 1
  | .iface _ d => uptoBulk d + 1
  | .map entries => uptoBulkEntries entries + 1
  | .held _ => 1
def uptoBulkAll {H : Type} : List (DataW H) → Nat
  | [] => 0
  | d :: r => uptoBulk d + uptoBulkAll r
def uptoBulkEntries {H : Type} : List (Lit × DataW H) → Nat
  | [] => 0
  | x :: r => uptoBulkEntry x + uptoBulkEntries r
def uptoBulkEntry {H : Type} : Lit × DataW H → Nat
  | (.string bytes, d) => bytes.length + uptoBulk d + 1
  | (_, d) => uptoBulk d + 1
 end
def uptoSmall : (H : Type) → List (DataW H) → Bool := fun _ ds => decide (uptoBulkAll ds ≤ 1048576)
def OpenSpec.upto (s : _root_.Go.ChangeSpec) : _root_.Go.OpenSpec := { _root_.Go.OpenSpec.ofChange s with cond := some uptoSmall }

/-- 'catenarylaw15.InfoNews', WHERE WHAT IT READS IS OF BULK AT MOST 1048576: true; the input reads as it did. -/
def infoNewsUptoRow : OpenClaim := { program := "ytjfdochceejegaadoor", sum := "b91f7cd25aa52df038135b90d7f35a8005e9629d566c9af1062e7088cd012ab7", func := "catenary/catenarylaw15.InfoNews", spec := "infoNews", named := ["catenary/bpdu.roles"], apart := false, laid := [("catenary/bpdu.roles", laid_catenary_bpdu_roles)], narrowed := true }
def InfoNewsUptoSaid : Prop := infoNewsUptoRow.holds Tryd.pinned (OpenSpec.upto infoNewsSpec)

/-- 'catenarylaw15.InfoSteps', WHERE WHAT IT READS IS OF BULK AT MOST 1048576: true; the input reads as it did. -/
def infoStepsUptoRow : OpenClaim := { program := "ytjfdochceejegaadoor", sum := "b91f7cd25aa52df038135b90d7f35a8005e9629d566c9af1062e7088cd012ab7", func := "catenary/catenarylaw15.InfoSteps", spec := "infoSteps", unfollowed := true, recurses := true, named := ["catenary/bpdu.roles"], apart := false, laid := [("catenary/bpdu.roles", laid_catenary_bpdu_roles)], narrowed := true }
def InfoStepsUptoSaid : Prop := infoStepsUptoRow.holds Tryd.pinned (OpenSpec.upto infoStepsSpec)

/-- 'catenarylaw15.InfoHears', WHERE WHAT IT READS IS OF BULK AT MOST 1048576: true; the input reads as it did. -/
def infoHearsUptoRow : OpenClaim := { program := "ytjfdochceejegaadoor", sum := "b91f7cd25aa52df038135b90d7f35a8005e9629d566c9af1062e7088cd012ab7", func := "catenary/catenarylaw15.InfoHears", spec := "infoHears", named := ["catenary/bpdu.roles"], apart := false, laid := [("catenary/bpdu.roles", laid_catenary_bpdu_roles)], narrowed := true }
def InfoHearsUptoSaid : Prop := infoHearsUptoRow.holds Tryd.pinned (OpenSpec.upto infoHearsSpec)

/-- 'catenarylaw15.InfoStarts', WHERE WHAT IT READS IS OF BULK AT MOST 1048576: true; the input reads as it did. -/
def infoStartsUptoRow : OpenClaim := { program := "ytjfdochceejegaadoor", sum := "b91f7cd25aa52df038135b90d7f35a8005e9629d566c9af1062e7088cd012ab7", func := "catenary/catenarylaw15.InfoStarts", spec := "infoStarts", named := ["catenary/bpdu.roles"], apart := false, laid := [("catenary/bpdu.roles", laid_catenary_bpdu_roles)], narrowed := true }
def InfoStartsUptoSaid : Prop := infoStartsUptoRow.holds Tryd.pinned (OpenSpec.upto infoStartsSpec)

end Rows
end Go.Proofs.YtjfdochceejegaaDoor
