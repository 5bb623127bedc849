/-
  DERIVED. GIVEN WITH THE SEED: THE PROGRAM's TIES (one call each: nine closed facts by the kernel) AND EACH ROW's TIE, after the 31st guide's Derived/Test/Toyas{Tie, Card}.lean. No idea stands in it: it is a product of the set-up. Laid BY PROGRAM, IN A SANDBOX (cutbox-door.mjs). By AI agents, Wed Nov 11 2026. No macro, syntax, notation, axiom, sorry.
-/
import Derived.Test.YtdhmiekheecicaaDoorRows
import Derived.LaidByTextLater
import Derived.SevenTiedAt
import Derived.LaidSub
import Derived.LaidOnce
namespace Go.Proofs.YtdhmiekheecicaaDoor
open Go
set_option maxRecDepth 100000
theorem seatTie1 : Tryd.prog.laidByTextLater [("catenary/bpdu.roles", Rows.laid_catenary_bpdu_roles), ("catenary/bpdu.numbers", Rows.laid_catenary_bpdu_numbers)] [.data, .data] true :=
  Program.laidByTextLater_by_one 19 8 6 (by kernel_rfl) (by kernel_rfl) (by kernel_rfl) (by kernel_rfl) (by kernel_rfl) (by kernel_rfl) (fun _ _ => by kernel_rfl)
theorem noOwnUnsafe : Tryd.pinned.checked.prog.headLifts.contains "ownunsafe" = false := by kernel_rfl
theorem tie : Tryd.prog.laidByTextLater [("catenary/bpdu.roles", Rows.laid_catenary_bpdu_roles)] [.data] true :=
  Program.laidByTextLater.sub seatTie1 ["catenary/bpdu.roles"] (by kernel_rfl) (by kernel_rfl)
theorem bpduBytes_row_tie : Rows.bpduBytesRow.laidByTextAt .later Tryd.pinned [.data] true :=
  OpenClaim.laidByTextAt_later rfl rfl tie noOwnUnsafe
theorem bpduReads_row_tie : Rows.bpduReadsRow.laidByTextAt .later Tryd.pinned [.data] true :=
  OpenClaim.laidByTextAt_later rfl rfl tie noOwnUnsafe
theorem tie2 : Tryd.prog.laidByTextLater [("catenary/bpdu.roles", Rows.laid_catenary_bpdu_roles), ("catenary/bpdu.numbers", Rows.laid_catenary_bpdu_numbers)] [.data, .data] true :=
  Program.laidByTextLater.sub seatTie1 ["catenary/bpdu.roles", "catenary/bpdu.numbers"] (by kernel_rfl) (by kernel_rfl)
theorem bpduRoles_row_tie : Rows.bpduRolesRow.laidByTextAt .later Tryd.pinned [.data, .data] true :=
  OpenClaim.laidByTextAt_later rfl rfl tie2 noOwnUnsafe
theorem bpduBytesUpto_row_tie : Rows.bpduBytesUptoRow.laidByTextAt .later Tryd.pinned [.data] true :=
  OpenClaim.laidByTextAt_later rfl rfl tie noOwnUnsafe
theorem bpduReadsUpto_row_tie : Rows.bpduReadsUptoRow.laidByTextAt .later Tryd.pinned [.data] true :=
  OpenClaim.laidByTextAt_later rfl rfl tie noOwnUnsafe
theorem bpduRolesUpto_row_tie : Rows.bpduRolesUptoRow.laidByTextAt .later Tryd.pinned [.data, .data] true :=
  OpenClaim.laidByTextAt_later rfl rfl tie2 noOwnUnsafe
end Go.Proofs.YtdhmiekheecicaaDoor
