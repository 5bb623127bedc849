/- Is a speed one that may be? Contracts of the two functions that say so. -/
import Derived.Test.YtiebiajpeocecaaA
namespace Go.Proofs.Ytiebiajpeocecaa
open Go.RowKit Go.Sort

def rt (b : Nat) : Bool := (FloatKind.f64.format.order b 0 == some .gt) && (FloatKind.f64.format.order b 9218868437227405311 == some .lt || FloatKind.f64.format.order b 9218868437227405311 == some .eq)

theorem right_any (b : Nat) (w : World) :
    Calls Try.prog 35 #[.float .f64 b] w fun e w' => e = .returned (.bool (rt b)) ∧ w = w' := by
  by_cases h : (FloatKind.f64.format.order b 0 == some Ordering.gt) = true
  · go_enter Try.func35, Try.ntmps35
    go_wp2
    go_ret
    exact ⟨ret_bool (by unfold rt; rw [h, Bool.true_and]), rfl⟩
  · have h' : (FloatKind.f64.format.order b 0 == some Ordering.gt) = false := by simpa using h
    clear h
    go_enter Try.func35, Try.ntmps35
    go_wp2
    go_ret
    exact ⟨ret_bool (by unfold rt; rw [h', Bool.false_and]), rfl⟩

theorem run_from8c (n : Int) (w : World) : (callFunc 11 #[.int .u64 n]).run Try.prog w = .ok (.value (.float .f64 n.toNat)) w := by
  rw [run_callFunc_extern (e := Extern.MathFloatBits.float64frombits) Try.func11 (by kernel_rfl) (by kernel_rfl) (by kernel_rfl) (by kernel_rfl)]
  rfl
theorem right_doc (b : Nat) (w : World) :
    Calls Try.prog 12 #[.float .f64 b] w fun e w' => e = .returned (.bool (rt b)) ∧ w = w' := by
  cases h : (FloatKind.f64.format.order b 0 == some Ordering.gt)
  · go_enter Try.func12, Try.ntmps12
    go_wp2
    go_ret
    exact ⟨ret_bool (by unfold rt; rw [h, Bool.false_and]), rfl⟩
  · go_enter Try.func12, Try.ntmps12
    go_wp2
    go_ret
    exact ⟨ret_bool (by unfold rt; rw [h, Bool.true_and]), rfl⟩
end Go.Proofs.Ytiebiajpeocecaa
