/- The document example of layer 1, which every law of it asks first: Cost of 100 and Parse of 2.5G, under the condition that the library tables hold what their initialisers lay. -/
import Derived.Test.YtbaamcjdofccjaaDoorE
namespace Go.Proofs.YtbaamcjdofccjaaDoor
open Go.RowKit

/-- The greater, and the less, of two floats, neither of them NaN. -/
def fmax (x y : Nat) : Option Nat := match FloatKind.f64.format.order x y with
  | none => none
  | some .lt => some y
  | some .gt => some x
  | some .eq => some (if (FloatKind.f64.decode x).neg then y else x)
def fmin (x y : Nat) : Option Nat := match FloatKind.f64.format.order x y with
  | none => none
  | some .lt => some x
  | some .gt => some y
  | some .eq => some (if (FloatKind.f64.decode x).neg then x else y)
theorem run_fmax (ts : Array TypeId) (t : TypeId) (x y r : Nat) (h : fmax x y = some r) (w : World) : (Builtin.max_ ts t #[.float .f64 x, .float .f64 y]).run Tryd.prog w = .ok (.float .f64 r) w := by
  unfold fmax at h
  split at h
  · cases h
  all_goals
    rename_i e
    obtain rfl := Option.some.inj h
    simp [Builtin.max_, Builtin.max2, e]
theorem run_fmin (ts : Array TypeId) (t : TypeId) (x y r : Nat) (h : fmin x y = some r) (w : World) : (Builtin.min_ ts t #[.float .f64 x, .float .f64 y]).run Tryd.prog w = .ok (.float .f64 r) w := by
  unfold fmin at h
  split at h
  · cases h
  all_goals
    rename_i e
    obtain rfl := Option.some.inj h
    simp [Builtin.min_, Builtin.min2, e]
def cEnd (n : Int) (e : Int) : Ending := .returned (.tuple #[.int .u32 n, .int .i64 e])
theorem cost_bad (b : Nat) (w : World) (h : rt b = false) :
    Calls Tryd.prog 9 #[.float .f64 b] w fun e w' => e = cEnd 0 4 ∧ w = w' := by
  have c := right_any b w
  rw [h] at c
  clear h
  go_enter Tryd.func9, Tryd.ntmps9
  go_wp2_with (go_at_call 10; refine c.mono ?_; rintro e w' ⟨rfl, rfl⟩)
  go_ret2
  exact ⟨rfl, rfl⟩
theorem cost_ok (b q m1 m2 : Nat) (n : Int) (w : World) (h : rt b = true) (hq : floatBits .quo .f64 4716133919349538816 b = some q) (h1 : fmax q 4607182418800017408 = some m1) (h2 : fmin m1 4730986895511650304 = some m2) (h3 : floatToIntVal .f64 m2 .u32 = some n) :
    Calls Tryd.prog 9 #[.float .f64 b] w fun e w' => e = cEnd n 0 ∧ w = w' := by
  have c := right_any b w
  rw [h] at c
  have hop : ∀ t w, (binOp .quo t (.float .f64 4716133919349538816) (.float .f64 b)).run Tryd.prog w = .ok (.float .f64 q) w := fun t w => run_float_arith w .quo t .f64 _ _ q hq
  have k1 := fun ts t => run_fmax ts t q _ m1 h1
  have k2 := fun ts t => run_fmin ts t m1 _ m2 h2
  have hc : ∀ w, (convert 24 26 (.float .f64 m2)).run Tryd.prog w = .ok (.int .u32 n) w := fun w => run_convert_float_int w 24 26 .f64 .u32 m2 n (by rw [Tryd.underlying24]; rfl) Tryd.underlying26 h3
  clear h hq h1 h2 h3
  go_enter Tryd.func9, Tryd.ntmps9
  go_wp2_with (go_at_call 10; refine c.mono ?_; rintro e w' ⟨rfl, rfl⟩)
  go_ret2
  exact ⟨rfl, rfl⟩
theorem cost_100 (w : World) : Calls Tryd.prog 9 #[.float .f64 4636737291354636288] w fun e w' => e = cEnd 200000 0 ∧ w = w' :=
  cost_ok 4636737291354636288 4686111960511545344 4686111960511545344 4686111960511545344 200000 w (by decide +kernel) (by decide +kernel) (by decide +kernel) (by decide +kernel) (by decide +kernel)
/-- The document's example: 2.5G. -/
def ex : ByteArray := ⟨#[50, 46, 53, 71]⟩
theorem numS_ex : NumS (front ex) := by
  have e : front ex = ⟨#[50, 46, 53]⟩ := by decide +kernel
  rw [e]
  refine ⟨by decide, by decide, ?_, ?_, by decide⟩
  · intro k h
    have : k = 0 ∨ k = 1 ∨ k = 2 := by have : (ByteArray.mk #[50, 46, 53]).size = 3 := rfl; omega
    rcases this with rfl | rfl | rfl
    · exact .inl rfl
    · exact .inr rfl
    · exact .inl rfl
  · intro k h
    have : k = 0 ∨ k = 1 ∨ k = 2 := by have : (ByteArray.mk #[50, 46, 53]).size = 3 := rfl; omega
    rcases this with rfl | rfl | rfl
    · exact fun _ => rfl
    · exact fun _ => rfl
    · exact fun hd => absurd (show (53 : UInt8) = 46 from hd) (by decide)
theorem parse_ex (w : World) (hE : Env w) : Calls Tryd.prog 17 #[.string ex] w fun e w' => e = pEnd 4657715973212602368 0 ∧ ∃ n, w' = w.drewN n := by
  have h := parse_few ex 4652007308841189376 4612811918334230528 4657715973212602368 w hE (by decide) (by decide) (by decide) (by decide +kernel) numS_ex (by decide +kernel) (.inr (.inr (by decide +kernel))) (by decide +kernel)
  rwa [if_pos (by decide +kernel)] at h
set_option maxHeartbeats 400000 in
theorem lives_ok (w : World) (hE : Env w) : Calls Tryd.prog 7 #[] w fun e w' => e = .returned (.bool true) ∧ ∃ n, w' = w.drewN n := by
  have c1 := cost_100 w
  have c2 := parse_ex w hE
  unfold ex pEnd at c2
  unfold cEnd at c1
  clear hE
  go_enter Tryd.func7, Tryd.ntmps7
  go_wp2_with (first | (go_at_call 9; refine c1.mono ?_; rintro e w' ⟨rfl, rfl⟩) | (go_at_call 17; refine c2.mono ?_; rintro e w' ⟨rfl, n, rfl⟩))
  go_ret
  exact ⟨rfl, n, rfl⟩
end Go.Proofs.YtbaamcjdofccjaaDoor
