/- What the document comparison of speeds returns, for any two floats: the sign of the difference of their ranks. -/
import Derived.Test.YtbaamcjdofccjaaDoorG
namespace Go.Proofs.YtbaamcjdofccjaaDoor
open Go.RowKit
set_option maxHeartbeats 1000000 in
theorem cmp14_nan (x y : Nat) (a b : Bool) (w : World) (ha : (FloatKind.f64.format.order x x != some .eq) = a) (hb : (FloatKind.f64.format.order y y != some .eq) = b) (h : a = true ∨ b = true) :
    Calls Tryd.prog 14 #[.float .f64 x, .float .f64 y] w fun e w' => e = .returned (.int .i64 (c4 a b false false)) ∧ w = w' := by
  cases a <;> cases b
  · simp at h
  all_goals
    clear h
    go_enter Tryd.func14, Tryd.ntmps14
    go_wp2
    go_ret
    exact ⟨rfl, rfl⟩
set_option maxHeartbeats 1000000 in
theorem cmp14_ne (x y : Nat) (l g : Bool) (w : World) (ha : (FloatKind.f64.format.order x x != some .eq) = false) (hb : (FloatKind.f64.format.order y y != some .eq) = false)
    (hl : (FloatKind.f64.format.order x y == some .lt) = l) (hg : (FloatKind.f64.format.order x y == some .gt) = g) (h : l = true ∨ g = true) :
    Calls Tryd.prog 14 #[.float .f64 x, .float .f64 y] w fun e w' => e = .returned (.int .i64 (c4 false false l g)) ∧ w = w' := by
  cases l <;> cases g
  · simp at h
  all_goals
    clear h
    go_enter Tryd.func14, Tryd.ntmps14
    go_wp2
    go_ret
    exact ⟨rfl, rfl⟩
def c5 (z a b : Bool) : Int := if z && (a != b) then (if a then -1 else 1) else 0
set_option maxHeartbeats 1000000 in
theorem cmp14_eq (x y : Nat) (z a b : Bool) (w : World) (ha : (FloatKind.f64.format.order x x != some .eq) = false) (hb : (FloatKind.f64.format.order y y != some .eq) = false)
    (hl : (FloatKind.f64.format.order x y == some .lt) = false) (hg : (FloatKind.f64.format.order x y == some .gt) = false) (hz : (FloatKind.f64.format.order x 0 == some .eq) = z)
    (c1 : Calls Tryd.prog 24 #[.float .f64 x] w fun e w' => e = .returned (.bool a) ∧ w = w') (c2 : Calls Tryd.prog 24 #[.float .f64 y] w fun e w' => e = .returned (.bool b) ∧ w = w') :
    Calls Tryd.prog 14 #[.float .f64 x, .float .f64 y] w fun e w' => e = .returned (.int .i64 (c5 z a b)) ∧ w = w' := by
  cases z <;> cases a <;> cases b
  all_goals
    go_enter Tryd.func14, Tryd.ntmps14
    go_wp2_with fail
    refine c1.mono ?_
    rintro e w' ⟨rfl, rfl⟩
    go_wp2_with fail
    refine c2.mono ?_
    rintro e w' ⟨rfl, rfl⟩
    go_wp2
    go_ret
    exact ⟨rfl, rfl⟩
theorem c5_cmpV {x y : Nat} (h1 : nanB x = false) (h2 : nanB y = false) (hl : (FloatKind.f64.format.order x y == some .lt) = false) (hg : (FloatKind.f64.format.order x y == some .gt) = false) :
    c5 (FloatKind.f64.format.order x 0 == some .eq) (neg x) (neg y) = cmpV x y := by
  rw [cmp_lt, h1, h2] at hl
  rw [cmp_gt, h1, h2] at hg
  have k0 : key 0 = 0 := by decide
  have n0 : nanB 0 = false := by decide
  rw [cmp_eq, k0, n0, h1]
  have hl' : ¬ key x < key y := by simpa using hl
  have hg' : ¬ key y < key x := by simpa using hg
  clear hl hg
  unfold c5 cmpV rank
  rw [h1, h2]
  simp only [Bool.not_false, Bool.true_and, if_false, Bool.false_eq_true]
  unfold key sg at *
  generalize neg x = p at *
  generalize neg y = q at *
  cases p <;> cases q <;> simp only [if_true, if_false, Bool.false_eq_true] at hl' hg' ⊢
  · have : rung x = rung y := by omega
    rw [this]; simp
  · have : rung x = 0 := by omega
    have : rung y = 0 := by omega
    simp_all
  · have : rung x = 0 := by omega
    have : rung y = 0 := by omega
    simp_all
  · have : rung x = rung y := by omega
    rw [this]; simp
theorem c4_ne {x y : Nat} (h : nanB x = true ∨ nanB y = true) : c4 (nanB x) (nanB y) false false = cmpV x y := by
  have b1 : rung x < 9223372036854775808 := Nat.mod_lt _ (by decide)
  have b2 : rung y < 9223372036854775808 := Nat.mod_lt _ (by decide)
  unfold c4 cmpV rank
  cases h1 : nanB x <;> cases h2 : nanB y
  · rw [h1, h2] at h; simp at h
  · simp; cases neg x <;> simp <;> (repeat' split) <;> omega
  · simp; cases neg y <;> simp <;> (repeat' split) <;> omega
  · simp
theorem c4_lg {x y : Nat} (h1 : nanB x = false) (h2 : nanB y = false) (h : (FloatKind.f64.format.order x y == some .lt) = true ∨ (FloatKind.f64.format.order x y == some .gt) = true) :
    c4 false false (FloatKind.f64.format.order x y == some .lt) (FloatKind.f64.format.order x y == some .gt) = cmpV x y := by
  rw [cmp_lt, cmp_gt, h1, h2] at h ⊢
  have h' : key x < key y ∨ key y < key x := by simpa using h
  clear h
  unfold c4 cmpV rank
  rw [h1, h2]
  simp only [Bool.not_false, Bool.true_and, if_false, Bool.false_eq_true, decide_eq_true_eq]
  unfold key sg at *
  generalize neg x = p at *
  generalize neg y = q at *
  cases p <;> cases q <;> simp only [if_true, if_false, Bool.false_eq_true] at h' ⊢
  all_goals (repeat' split) <;> first | rfl | omega
theorem cmp14_any (x y : Nat) (w : World) (hx : x < 18446744073709551616) (hy : y < 18446744073709551616) :
    Calls Tryd.prog 14 #[.float .f64 x, .float .f64 y] w fun e w' => e = .returned (.int .i64 (cmpV x y)) ∧ w = w' := by
  by_cases hn : nanB x = true ∨ nanB y = true
  · rw [← c4_ne hn]
    exact cmp14_nan x y _ _ w cmp_nan cmp_nan hn
  · have h1 : nanB x = false := by cases h : nanB x; rfl; exact absurd (.inl h) hn
    have h2 : nanB y = false := by cases h : nanB y; rfl; exact absurd (.inr h) hn
    have e1 := @cmp_nan x
    have e2 := @cmp_nan y
    rw [h1] at e1
    rw [h2] at e2
    by_cases hd : (FloatKind.f64.format.order x y == some .lt) = true ∨ (FloatKind.f64.format.order x y == some .gt) = true
    · rw [← c4_lg h1 h2 hd]
      exact cmp14_ne x y _ _ w e1 e2 rfl rfl hd
    · have hl : (FloatKind.f64.format.order x y == some .lt) = false := by cases h : (FloatKind.f64.format.order x y == some .lt); rfl; exact absurd (.inl h) hd
      have hg : (FloatKind.f64.format.order x y == some .gt) = false := by cases h : (FloatKind.f64.format.order x y == some .gt); rfl; exact absurd (.inr h) hd
      rw [← c5_cmpV h1 h2 hl hg]
      exact cmp14_eq x y _ _ _ w e1 e2 hl hg rfl (neg24_any x w hx h1) (neg24_any y w hy h2)
end Go.Proofs.YtbaamcjdofccjaaDoor
