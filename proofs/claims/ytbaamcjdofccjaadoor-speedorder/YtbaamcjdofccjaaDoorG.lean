/- What the two comparisons of speeds return: the program one and the document one, for any two floats: the sign of the difference of their ranks. -/
import Derived.Test.YtbaamcjdofccjaaDoorF
import Derived.Test.YtbaamcjdofccjaaDoorO
namespace Go.Proofs.YtbaamcjdofccjaaDoor
open Go.RowKit

/-- What a comparison answers, by: is the one NaN, is the other, is the one less, is it greater? -/
def c4 (a b l g : Bool) : Int := if a then (if b then 0 else -1) else if b then 1 else if l then -1 else if g then 1 else 0
theorem isNaN_any (x : Nat) (w : World) : Calls Tryd.prog 30 #[.float .f64 x] w fun e w' => e = .returned (.bool (nanB x)) ∧ w = w' := by
  go_enter Tryd.func30, Tryd.ntmps30
  go_wp2
  go_ret
  exact ⟨ret_bool cmp_nan, rfl⟩
set_option maxHeartbeats 1000000 in
theorem cmp23 (x y : Nat) (a b l g : Bool) (w : World) (ha : nanB x = a) (hb : nanB y = b) (hl : (FloatKind.f64.format.order x y == some .lt) = l) (hg : (FloatKind.f64.format.order x y == some .gt) = g) :
    Calls Tryd.prog 23 #[.float .f64 x, .float .f64 y] w fun e w' => e = .returned (.int .i64 (c4 a b l g)) ∧ w = w' := by
  have c1 := isNaN_any x w
  have c2 := isNaN_any y w
  rw [ha] at c1
  rw [hb] at c2
  clear ha hb
  cases a <;> cases b <;> cases l <;> cases g
  all_goals
    go_enter Tryd.func23, Tryd.ntmps23
    go_wp2_with fail
    refine c1.mono ?_
    rintro e w' ⟨rfl, rfl⟩
    go_wp2_with fail
    refine c2.mono ?_
    rintro e w' ⟨rfl, rfl⟩
    go_wp2
    go_ret
    exact ⟨rfl, rfl⟩
theorem isNaN_int (x : Int) (w : World) : Calls Tryd.prog 28 #[.int .i64 x] w fun e w' => e = .returned (.bool false) ∧ w = w' := by
  go_enter Tryd.func28, Tryd.ntmps28
  go_wp2
  go_ret
  exact ⟨ret_bool (by simp), rfl⟩
theorem cmp21 (x y : Int) (w : World) : Calls Tryd.prog 21 #[.int .i64 x, .int .i64 y] w fun e w' => e = .returned (.int .i64 (if x < y then -1 else if y < x then 1 else 0)) ∧ w = w' := by
  go_enter Tryd.func21, Tryd.ntmps21
  go_wp2_with (go_at_call 28; refine (isNaN_int _ _).mono ?_; rintro e w' ⟨rfl, rfl⟩)
  all_goals
    go_ret
    exact ⟨rfl, rfl⟩
theorem run_bits (n : Nat) (w : World) : (callFunc 35 #[.float .f64 n]).run Tryd.prog w = .ok (.value (.int .u64 n)) w := by
  rw [run_callFunc_extern (e := Extern.MathFloatBits.float64bits) Tryd.func35 (by kernel_rfl) (by kernel_rfl) (by kernel_rfl) (by kernel_rfl)]
  rfl
theorem sign_pos (w : World) : Calls Tryd.prog 22 #[.float .f64 0] w fun e w' => e = .returned (.int .i64 1) ∧ w = w' := by
  have hb := run_bits
  go_enter Tryd.func22, Tryd.ntmps22
  go_wp2
  go_ret
  exact ⟨rfl, rfl⟩
theorem sign_neg (w : World) : Calls Tryd.prog 22 #[.float .f64 9223372036854775808] w fun e w' => e = .returned (.int .i64 0) ∧ w = w' := by
  have hb := run_bits
  have hw : wrap64 9223372036854775808 < 0 := by decide +kernel
  go_enter Tryd.func22, Tryd.ntmps22
  go_wp2
  go_ret
  exact ⟨rfl, rfl⟩

theorem c4_cmpV {x y : Nat} (h : (FloatKind.f64.format.order x 0 == some .eq) = false ∨ (FloatKind.f64.format.order y 0 == some .eq) = false) :
    c4 (nanB x) (nanB y) (FloatKind.f64.format.order x y == some .lt) (FloatKind.f64.format.order x y == some .gt) = cmpV x y := by
  rw [cmp_eq, cmp_eq] at h
  rw [cmp_lt, cmp_gt]
  have k0 : key 0 = 0 := by decide
  have n0 : nanB 0 = false := by decide
  rw [k0, n0] at h
  have b1 : rung x < 9223372036854775808 := Nat.mod_lt _ (by decide)
  have b2 : rung y < 9223372036854775808 := Nat.mod_lt _ (by decide)
  unfold c4 cmpV rank
  cases h1 : nanB x <;> cases h2 : nanB y
  · simp only [h1, h2, Bool.not_false, Bool.true_and, Bool.and_true, decide_eq_false_iff_not] at h
    unfold key sg at h ⊢
    cases neg x <;> cases neg y <;> simp at h ⊢ <;> (repeat' split) <;> first | rfl | omega
  · simp; cases neg x <;> simp <;> (repeat' split) <;> omega
  · simp; cases neg y <;> simp <;> (repeat' split) <;> omega
  · simp
theorem cmp13_zz (x y : Nat) (i j : Int) (w : World) (o0 : (FloatKind.f64.format.order x 0 == some .eq) = true) (o1 : (FloatKind.f64.format.order y 0 == some .eq) = true)
    (c1 : Calls Tryd.prog 22 #[.float .f64 x] w fun e w' => e = .returned (.int .i64 i) ∧ w = w') (c2 : Calls Tryd.prog 22 #[.float .f64 y] w fun e w' => e = .returned (.int .i64 j) ∧ w = w') :
    Calls Tryd.prog 13 #[.float .f64 x, .float .f64 y] w fun e w' => e = .returned (.int .i64 (if i < j then -1 else if j < i then 1 else 0)) ∧ w = w' := by
  have c3 := cmp21 i j w
  generalize (if i < j then (-1 : Int) else if j < i then 1 else 0) = r at c3
  go_enter Tryd.func13, Tryd.ntmps13
  go_wp2_with fail
  refine c1.mono ?_
  rintro e w' ⟨rfl, rfl⟩
  go_wp2_with fail
  refine c2.mono ?_
  rintro e w' ⟨rfl, rfl⟩
  go_wp2_with (go_at_call 21; refine c3.mono ?_; rintro e w' ⟨rfl, rfl⟩)
  go_ret
  exact ⟨rfl, rfl⟩
theorem cmp13_zero (x y : Nat) (w : World) (hx : x = 0 ∨ x = 9223372036854775808) (hy : y = 0 ∨ y = 9223372036854775808) :
    Calls Tryd.prog 13 #[.float .f64 x, .float .f64 y] w fun e w' => e = .returned (.int .i64 (cmpV x y)) ∧ w = w' := by
  have o0 : (FloatKind.f64.format.order 0 0 == some .eq) = true := by decide +kernel
  have o1 : (FloatKind.f64.format.order 9223372036854775808 0 == some .eq) = true := by decide +kernel
  rcases hx with rfl | rfl <;> rcases hy with rfl | rfl
  · exact cmp13_zz 0 0 1 1 w o0 o0 (sign_pos w) (sign_pos w)
  · exact cmp13_zz 0 9223372036854775808 1 0 w o0 o1 (sign_pos w) (sign_neg w)
  · exact cmp13_zz 9223372036854775808 0 0 1 w o1 o0 (sign_neg w) (sign_pos w)
  · exact cmp13_zz 9223372036854775808 9223372036854775808 0 0 w o1 o1 (sign_neg w) (sign_neg w)
theorem cmp13_other (x y : Nat) (w : World) (h : (FloatKind.f64.format.order x 0 == some .eq) = false ∨ ((FloatKind.f64.format.order x 0 == some .eq) = true ∧ (FloatKind.f64.format.order y 0 == some .eq) = false)) :
    Calls Tryd.prog 13 #[.float .f64 x, .float .f64 y] w fun e w' => e = .returned (.int .i64 (cmpV x y)) ∧ w = w' := by
  have c1 := cmp23 x y _ _ _ _ w rfl rfl rfl rfl
  rw [c4_cmpV (by rcases h with h | h; exact .inl h; exact .inr h.2)] at c1
  rcases h with h | ⟨h, h'⟩
  all_goals
    go_enter Tryd.func13, Tryd.ntmps13
    go_wp2_with (go_at_call 23; refine c1.mono ?_; rintro e w' ⟨rfl, rfl⟩)
    go_ret
    exact ⟨rfl, rfl⟩
theorem cmp13_any (x y : Nat) (w : World) (hx : x < 18446744073709551616) (hy : y < 18446744073709551616) :
    Calls Tryd.prog 13 #[.float .f64 x, .float .f64 y] w fun e w' => e = .returned (.int .i64 (cmpV x y)) ∧ w = w' := by
  cases h1 : (FloatKind.f64.format.order x 0 == some .eq)
  · exact cmp13_other x y w (.inl h1)
  · cases h2 : (FloatKind.f64.format.order y 0 == some .eq)
    · exact cmp13_other x y w (.inr ⟨h1, h2⟩)
    · exact cmp13_zero x y w (zero_of hx h1) (zero_of hy h2)
theorem neg24_lt (x : Nat) (w : World) (h : (FloatKind.f64.format.order x 0 == some .lt) = true) :
    Calls Tryd.prog 24 #[.float .f64 x] w fun e w' => e = .returned (.bool true) ∧ w = w' := by
  go_enter Tryd.func24, Tryd.ntmps24
  go_wp2
  go_ret
  exact ⟨rfl, rfl⟩
theorem neg24_gt (x : Nat) (w : World) (h : (FloatKind.f64.format.order x 0 == some .lt) = false) (h2 : (FloatKind.f64.format.order x 0 == some .eq) = false) :
    Calls Tryd.prog 24 #[.float .f64 x] w fun e w' => e = .returned (.bool false) ∧ w = w' := by
  go_enter Tryd.func24, Tryd.ntmps24
  go_wp2
  go_ret
  exact ⟨rfl, rfl⟩
theorem neg24_zz (x r : Nat) (b : Bool) (w : World) (h : (FloatKind.f64.format.order x 0 == some .lt) = false) (h2 : (FloatKind.f64.format.order x 0 == some .eq) = true)
    (hq : floatBits .quo .f64 4607182418800017408 x = some r) (hr : (FloatKind.f64.format.order r 0 == some .lt) = b) :
    Calls Tryd.prog 24 #[.float .f64 x] w fun e w' => e = .returned (.bool b) ∧ w = w' := by
  have hop : ∀ t w, (binOp .quo t (.float .f64 4607182418800017408) (.float .f64 x)).run Tryd.prog w = .ok (.float .f64 r) w := fun t w => run_float_arith w .quo t .f64 _ _ r hq
  clear hq
  go_enter Tryd.func24, Tryd.ntmps24
  go_wp2
  go_ret
  exact ⟨rfl, rfl⟩
/-- Has a float that is a number a sign? -/
theorem neg24_any (x : Nat) (w : World) (hx : x < 18446744073709551616) (hn : nanB x = false) :
    Calls Tryd.prog 24 #[.float .f64 x] w fun e w' => e = .returned (.bool (neg x)) ∧ w = w' := by
  cases h2 : (FloatKind.f64.format.order x 0 == some .eq)
  · have k0 : key 0 = 0 := by decide
    have n0 : nanB 0 = false := by decide
    have e2 := h2
    rw [cmp_eq, k0, n0, hn] at e2
    cases h1 : (FloatKind.f64.format.order x 0 == some .lt)
    · have e1 := h1
      rw [cmp_lt, k0, n0, hn] at e1
      have : neg x = false := by
        unfold key sg at e1 e2
        revert e1 e2; cases neg x <;> simp <;> omega
      rw [this]
      exact neg24_gt x w h1 h2
    · have e1 := h1
      rw [cmp_lt, k0, n0, hn] at e1
      have : neg x = true := by
        unfold key sg at e1 e2
        revert e1 e2; cases neg x <;> simp
      rw [this]
      exact neg24_lt x w h1
  · rcases zero_of hx h2 with rfl | rfl
    · exact neg24_zz 0 9218868437227405312 false w (by decide +kernel) h2 (by decide +kernel) (by decide +kernel)
    · exact neg24_zz 9223372036854775808 18442240474082181120 true w (by decide +kernel) h2 (by decide +kernel) (by decide +kernel)
end Go.Proofs.YtbaamcjdofccjaaDoor
