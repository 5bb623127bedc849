/- What the library makes of a number of few digits: contracts under the condition that its tables hold what their initialisers lay. -/
import Derived.Test.YtbaamcjdofccjaaDoorB
namespace Go.Proofs.YtbaamcjdofccjaaDoor
open Go.RowKit

/-- The library's powers of ten, as bits. -/
def tens : List Nat := [4607182418800017408, 4621819117588971520, 4636737291354636288, 4652007308841189376, 4666723172467343360, 4681608360884174848, 4696837146684686336, 4711630319722168320, 4726483295884279808, 4741671816366391296, 4756540486875873280, 4771362005757984768, 4786511204640096256, 4801453603149578240, 4816244402031689728, 4831355200913801216, 4846369599423283200, 4861130398305394688, 4876203697187506176, 4891288408196988160, 4906019910204099648, 4921056587992461136, 4936209963552724370]
/-- What of the library's variables the reading of a number looks at. -/
structure Env (w : World) : Prop where
  opt : w.cell? ⟨5, 0, none⟩ = some (.bool true)
  mb : w.cell? ⟨6, 0, none⟩ = some (.int .u64 52)
  p10 : ∃ b o c, w.cell? ⟨9, 0, none⟩ = some (.slice (some ⟨b, o, none⟩) 23 c) ∧ ∀ i, i < 23 → w.cell? ⟨b, o + i, none⟩ = some (.float .f64 (tens.getD i 0))
theorem Env.drewN {w : World} (h : Env w) (n : Nat) : Env (w.drewN n) := ⟨h.opt, h.mb, h.p10⟩

set_option maxHeartbeats 400000 in
theorem exact_zero (m : Int) (w : World) (hE : Env w) (h0 : 0 ≤ m) (h1 : m < 4503599627370496) :
    Calls Tryd.prog 63 #[.int .u64 m, .int .i64 0, .bool false] w fun e w' => e = .returned (.tuple #[.float .f64 (floatOfInt .f64 m), .bool true]) ∧ w = w' := by
  have hmb := hE.mb
  go_enter Tryd.func63, Tryd.ntmps63
  go_wp2
  go_ret2
  exact ⟨rfl, rfl⟩
set_option maxHeartbeats 400000 in
theorem exact_neg (m : Int) (j r : Nat) (w : World) (hE : Env w) (h0 : 0 ≤ m) (h1 : m < 4503599627370496) (hj : 1 ≤ j) (hj2 : j ≤ 22)
    (hq : floatBits .quo .f64 (floatOfInt .f64 m) (tens.getD j 0) = some r) :
    Calls Tryd.prog 63 #[.int .u64 m, .int .i64 (-(j : Int)), .bool false] w fun e w' => e = .returned (.tuple #[.float .f64 r, .bool true]) ∧ w = w' := by
  have hmb := hE.mb
  obtain ⟨b, o, c, hb, ht⟩ := hE.p10
  have hx := ht j (by omega)
  have hop : ∀ t w, (binOp .quo t (.float .f64 (floatOfInt .f64 m)) (.float .f64 (tens.getD j 0))).run Tryd.prog w = .ok (.float .f64 r) w := fun t w => run_float_arith w .quo t .f64 _ _ r hq
  clear ht hq hE
  generalize tens.getD j 0 = q at hx hop
  go_enter Tryd.func63, Tryd.ntmps63
  go_wp2
  go_ret2
  exact ⟨rfl, rfl⟩
set_option maxHeartbeats 400000 in
theorem exact_big (m p : Int) (w : World) (hE : Env w) (h1 : 4503599627370496 ≤ m) (h2 : m < 18446744073709551616) :
    Calls Tryd.prog 63 #[.int .u64 m, .int .i64 p, .bool false] w fun e w' => e = .returned (.tuple #[.float .f64 0, .bool false]) ∧ w = w' := by
  have hmb := hE.mb
  go_enter Tryd.func63, Tryd.ntmps63
  go_wp2
  go_ret2
  exact ⟨rfl, rfl⟩
end Go.Proofs.YtbaamcjdofccjaaDoor
