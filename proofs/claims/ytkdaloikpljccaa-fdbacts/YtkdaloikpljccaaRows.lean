/-
  No cell of these rows narrows 'for every input' (looked for: loops, veiled, ifaces, maps, wideKeys, modest, calm, conditions, laid).
  DERIVED. THE GIVEN ROWS OF THIS SEAT. 2 by the template 'for every input the law returns true; each argument reads behind the call as it read before'; 0 by the template 'total and deterministic' (their statements: YtkdaloikpljccaaTotals.lean).
  GIVEN WITH THE SEED: the statements are not yours to turn. If you find one false, say at which input.
  Laid BY PROGRAM, IN A SANDBOX (cutbox-rows.mjs): the forced cells as the released guide's own fill.sh prints them over the translation 33d50aae66100d4e… (all of the seat's roots in one cut). By AI agents, Wed Nov 11 2026. No macro, syntax, notation, axiom, sorry.
-/
import Derived.Test.YtkdaloikpljccaaChecked
import GoSem.Claim
import GoSem.ClaimJoined
import GoSem.ClaimMapViews
import Derived.JoinedTies
import Derived.KernelRfl
namespace Go.Proofs.Ytkdaloikpljccaa
/- THE CELL 'sum', in the pinned program and in every row, IS THE sha256 OF THE DUMP (.gsa) THAT YtkdaloikpljccaaProg.lean LOADS. Nothing in Lean hashes anything: it is a label: what it is worth is what the hold of that sum in a sandbox is worth. -/
noncomputable def Try.pinned : Pinned := { name := "ytkdaloikpljccaa", sum := "33d50aae66100d4ebaa0bc9cd9b690fd60bfe9b4ed1380cc04070a1ae1a5dcbe", checked := Try.checked }
namespace Rows
def none {H : Type} : Left H := { results := [], args := [] }

/-- 'catenarylaw10.FdbActs': WHATEVER THE INPUT: true; the input reads as it did. -/
def fdbActsSpec : ChangeSpec := { name := "fdbActs", fn := fun _ => fun
  | [d1, d2, d3] => { results := [.lit (.bool true)], args := [d1, d2, d3] }
  | _ => none }
def fdbActsRow : OpenClaim := { program := "ytkdaloikpljccaa", sum := "33d50aae66100d4ebaa0bc9cd9b690fd60bfe9b4ed1380cc04070a1ae1a5dcbe", func := "catenary/catenarylaw10.FdbActs", spec := "fdbActs", unfollowed := true, recurses := true, plainKeys := false, apart := false }
def FdbActsSaid : Prop := fdbActsRow.holds Try.pinned (OpenSpec.ofChange fdbActsSpec)

/-- ITS FALSE NEIGHBOUR: 'it returns false'. Refute it at one input. -/
def fdbActsWrong : ChangeSpec := { name := "fdbActs", fn := fun _ => fun
  | [d1, d2, d3] => { results := [.lit (.bool false)], args := [d1, d2, d3] }
  | _ => none }
def FdbActsWrongFalsely : Prop := fdbActsRow.holds Try.pinned (OpenSpec.ofChange fdbActsWrong)

/-- 'catenarylaw10.FdbNil': WHATEVER THE INPUT: true; the input reads as it did. -/
def fdbNilSpec : ChangeSpec := { name := "fdbNil", fn := fun _ => fun
  | [d1, d2] => { results := [.lit (.bool true)], args := [d1, d2] }
  | _ => none }
def fdbNilRow : OpenClaim := { program := "ytkdaloikpljccaa", sum := "33d50aae66100d4ebaa0bc9cd9b690fd60bfe9b4ed1380cc04070a1ae1a5dcbe", func := "catenary/catenarylaw10.FdbNil", spec := "fdbNil", unfollowed := true, recurses := true, plainKeys := false, apart := false }
def FdbNilSaid : Prop := fdbNilRow.holds Try.pinned (OpenSpec.ofChange fdbNilSpec)

/-- ITS FALSE NEIGHBOUR: 'it returns false'. Refute it at one input. -/
def fdbNilWrong : ChangeSpec := { name := "fdbNil", fn := fun _ => fun
  | [d1, d2] => { results := [.lit (.bool false)], args := [d1, d2] }
  | _ => none }
def FdbNilWrongFalsely : Prop := fdbNilRow.holds Try.pinned (OpenSpec.ofChange fdbNilWrong)

/- THE SECOND FORM. 'bulk': how many values and letters a reading holds, each counted each time it is reached (what is shared counts as often as it is met; a slice's spare places count too). A statement '..UptoSaid' is the law's where the arguments, and the package variables that the reading takes, are together of bulk at most 1048576: NARROWER than '..Said'. Prove '..Said' where nothing that the law and all that it calls make is longer than what came in: it says more and counts as full. Else prove '..UptoSaid'. A law counts once. -/
mutual
def uptoBulk {H : Type} : DataW H → Nat
  | .lit (.string bytes) => bytes.length + 1
  | .lit _ => 1
  | .nil => 1
  | .ptr d => uptoBulk d + 1
  | .slice elems spare => uptoBulkAll elems + uptoBulkAll spare + 1
  | .agg parts => uptoBulkAll parts + 1
  | .iface _ d => uptoBulk d + 1
  | .map entries => uptoBulkEntries entries + 1
  | .held _ => 1
def uptoBulkAll {H : Type} : List (DataW H) → Nat
  | [] => 0
  | d :: r => uptoBulk d + uptoBulkAll r
def uptoBulkEntries {H : Type} : List (Lit × DataW H) → Nat
  | [] => 0
  | x :: r => uptoBulkEntry x + uptoBulkEntries r
def uptoBulkEntry {H : Type} : Lit × DataW H → Nat
  | (.string bytes, d) => bytes.length + uptoBulk d + 1
  | (_, d) => uptoBulk d + 1
 end
def uptoSmall : (H : Type) → List (DataW H) → Bool := fun _ ds => decide (uptoBulkAll ds ≤ 1048576)
def OpenSpec.upto (s : _root_.Go.ChangeSpec) : _root_.Go.OpenSpec := { _root_.Go.OpenSpec.ofChange s with cond := some uptoSmall }

/-- 'catenarylaw10.FdbActs', WHERE WHAT IT READS IS OF BULK AT MOST 1048576: true; the input reads as it did. -/
def fdbActsUptoRow : OpenClaim := { program := "ytkdaloikpljccaa", sum := "33d50aae66100d4ebaa0bc9cd9b690fd60bfe9b4ed1380cc04070a1ae1a5dcbe", func := "catenary/catenarylaw10.FdbActs", spec := "fdbActs", unfollowed := true, recurses := true, plainKeys := false, apart := false, narrowed := true }
def FdbActsUptoSaid : Prop := fdbActsUptoRow.holds Try.pinned (OpenSpec.upto fdbActsSpec)

/-- 'catenarylaw10.FdbNil', WHERE WHAT IT READS IS OF BULK AT MOST 1048576: true; the input reads as it did. -/
def fdbNilUptoRow : OpenClaim := { program := "ytkdaloikpljccaa", sum := "33d50aae66100d4ebaa0bc9cd9b690fd60bfe9b4ed1380cc04070a1ae1a5dcbe", func := "catenary/catenarylaw10.FdbNil", spec := "fdbNil", unfollowed := true, recurses := true, plainKeys := false, apart := false, narrowed := true }
def FdbNilUptoSaid : Prop := fdbNilUptoRow.holds Try.pinned (OpenSpec.upto fdbNilSpec)

end Rows
end Go.Proofs.Ytkdaloikpljccaa
