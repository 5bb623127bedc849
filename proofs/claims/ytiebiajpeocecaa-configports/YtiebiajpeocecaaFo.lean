/- The order of the floats. Plain facts, no program. -/
import Derived.Laws.Cover2
import Derived.Laws.FloatArith
namespace Go.Proofs.Ytiebiajpeocecaa
open Go

/-- The magnitude that a rung stands for, in units of the least one. -/
def V (B r : Nat) : Nat := if r < B then r else (B + r % B) * 2 ^ (r / B - 1)
theorem V_lt {B r r' : Nat} (hB : 0 < B) (h : r < r') : V B r < V B r' := by
  unfold V
  by_cases h1 : r' < B
  · rw [if_pos h1, if_pos (by omega)]; exact h
  · have hq' : 1 ≤ r' / B := (Nat.le_div_iff_mul_le hB).2 (by omega)
    have hp' : 0 < 2 ^ (r' / B - 1) := Nat.two_pow_pos _
    rw [if_neg h1]
    by_cases h2 : r < B
    · rw [if_pos h2]
      calc r < B := h2
        _ ≤ (B + r' % B) * 1 := by omega
        _ ≤ _ := Nat.mul_le_mul_left _ hp'
    · have hq : 1 ≤ r / B := (Nat.le_div_iff_mul_le hB).2 (by omega)
      rw [if_neg h2]
      have hm : r % B < B := Nat.mod_lt _ hB
      have hle : r / B ≤ r' / B := Nat.div_le_div_right (by omega)
      rcases Nat.lt_or_ge (r / B) (r' / B) with hl | hg
      · have e : 2 ^ (r / B) = 2 * 2 ^ (r / B - 1) := by
          rw [← Nat.pow_succ', Nat.succ_eq_add_one, Nat.sub_add_cancel hq]
        have hp : 2 ^ (r / B) ≤ 2 ^ (r' / B - 1) := Nat.pow_le_pow_right (by decide) (by omega)
        have h3 : 0 < 2 ^ (r / B - 1) := Nat.two_pow_pos _
        calc (B + r % B) * 2 ^ (r / B - 1) < (2 * B) * 2 ^ (r / B - 1) := Nat.mul_lt_mul_of_pos_right (by omega) h3
          _ = B * 2 ^ (r / B) := by rw [e, Nat.mul_comm 2 B, Nat.mul_assoc]
          _ ≤ B * 2 ^ (r' / B - 1) := Nat.mul_le_mul_left _ hp
          _ ≤ (B + r' % B) * 2 ^ (r' / B - 1) := Nat.mul_le_mul_right _ (by omega)
      · have e : r / B = r' / B := by omega
        have d1 := Nat.div_add_mod r B
        have d2 := Nat.div_add_mod r' B
        rw [e] at d1 ⊢
        exact Nat.mul_lt_mul_of_pos_right (by omega) (by omega)
/-- A number with its sign. -/
def sg (s : Bool) (n : Nat) : Int := if s then -(n : Int) else n
theorem sg_V_compare {B : Nat} (hB : 0 < B) (s t : Bool) (r r' : Nat) : compare (sg s (V B r)) (sg t (V B r')) = compare (sg s r) (sg t r') := by
  have z : V B 0 = 0 := by unfold V; rw [if_pos hB]
  have pos : ∀ n, 0 < n → 0 < V B n := fun n hn => by have := V_lt (r := 0) (r' := n) hB hn; omega
  have hr : (V B r = 0) ↔ r = 0 := ⟨fun h => by rcases Nat.eq_zero_or_pos r with e | e; exact e; have := pos r e; omega, fun h => by rw [h, z]⟩
  have hr' : (V B r' = 0) ↔ r' = 0 := ⟨fun h => by rcases Nat.eq_zero_or_pos r' with e | e; exact e; have := pos r' e; omega, fun h => by rw [h, z]⟩
  have key : (V B r < V B r' ↔ r < r') ∧ (V B r' < V B r ↔ r' < r) := by
    refine ⟨⟨fun h => ?_, V_lt hB⟩, ⟨fun h => ?_, V_lt hB⟩⟩
    · rcases Nat.lt_trichotomy r r' with a | a | a
      · exact a
      · rw [a] at h; omega
      · have := V_lt hB a; omega
    · rcases Nat.lt_trichotomy r r' with a | a | a
      · have := V_lt hB a; omega
      · rw [a] at h; omega
      · exact a
  generalize V B r = v at *
  generalize V B r' = v' at *
  unfold sg
  simp only [compare, compareOfLessAndEq]
  cases s <;> cases t <;> simp only [if_true, if_false, Bool.false_eq_true]
  all_goals (repeat' split) <;> first | rfl | (exfalso; omega)

theorem sg_scale (s t : Bool) (u v p : Nat) (hp : 0 < p) : compare (sg s (u * p)) (sg t (v * p)) = compare (sg s u) (sg t v) := by
  have h1 : (u * p < v * p ↔ u < v) := Nat.mul_lt_mul_right hp
  have h2 : (v * p < u * p ↔ v < u) := Nat.mul_lt_mul_right hp
  have h3 : (u * p = 0 ↔ u = 0) := by rw [Nat.mul_eq_zero]; omega
  have h4 : (v * p = 0 ↔ v = 0) := by rw [Nat.mul_eq_zero]; omega
  generalize u * p = a at *
  generalize v * p = b at *
  unfold sg
  simp only [compare, compareOfLessAndEq]
  cases s <;> cases t <;> simp only [if_true, if_false, Bool.false_eq_true]
  all_goals (repeat' split) <;> first | rfl | (exfalso; omega)
theorem signed_sg (s : Bool) (m k : Nat) : Ieee.signed s m k = sg s (m * 2 ^ k) := by
  unfold Ieee.signed sg
  rw [Nat.shiftLeft_eq]
theorem num_compare (s t : Bool) (M N a b : Nat) (L : Int) :
    compare (Ieee.signed s M ((L + a) - min (L + a) (L + b)).toNat) (Ieee.signed t N ((L + b) - min (L + a) (L + b)).toNat) = compare (sg s (M * 2 ^ a)) (sg t (N * 2 ^ b)) := by
  have e1 : ((L + a) - min (L + a) (L + b)).toNat = a - min a b := by omega
  have e2 : ((L + b) - min (L + a) (L + b)).toNat = b - min a b := by omega
  rw [e1, e2, signed_sg, signed_sg, ← sg_scale s t _ _ (2 ^ min a b) (Nat.two_pow_pos _), Nat.mul_assoc, Nat.mul_assoc, ← Nat.pow_add, ← Nat.pow_add, Nat.sub_add_cancel (Nat.min_le_left ..), Nat.sub_add_cancel (Nat.min_le_right ..)]
def infR : Nat := 9218868437227405312
def half : Nat := 9223372036854775808
def neg (x : Nat) : Bool := x / half % 2 == 1
def rung (x : Nat) : Nat := x % half
def nanB (x : Nat) : Bool := decide (infR < rung x)
def key (x : Nat) : Int := sg (neg x) (rung x)
def BB : Nat := 4503599627370496
/-- A word of the double format, read by its rung. -/
theorem read_cases (x : Nat) :
    (rung x < infR ∧ ∃ M a, Ieee.double.read x = .number (neg x) M (Ieee.double.leastPlace + (a : Nat)) ∧ M * 2 ^ a = V BB (rung x)) ∨
    (rung x = infR ∧ Ieee.double.read x = .infinity (neg x)) ∨ (infR < rung x ∧ ∃ f, Ieee.double.read x = .nan (neg x) f) := by
  have e1 : Ieee.double.signWeight = half := by decide +kernel
  have e2 : Ieee.double.binade = BB := by decide +kernel
  have e3 : Ieee.double.infRung = infR := by decide +kernel
  unfold Ieee.Format.read
  simp only [e1, e2, e3]
  unfold neg rung V
  by_cases h1 : x % half < BB
  · have hBi : BB < infR := by decide
    exact .inl ⟨by omega, x % half, 0, by rw [if_pos h1]; simp, by rw [if_pos h1]; simp⟩
  · rw [if_neg h1]
    by_cases h2 : x % half < infR
    · exact .inl ⟨h2, _, _, by rw [if_pos h2], by rw [if_neg h1]⟩
    · rw [if_neg h2]
      by_cases h3 : x % half = infR
      · exact .inr (.inl ⟨h3, by rw [if_pos h3]⟩)
      · exact .inr (.inr ⟨by omega, _, by rw [if_neg h3]⟩)
theorem order_key (x y : Nat) : FloatKind.f64.format.order x y = if nanB x || nanB y then none else some (compare (key x) (key y)) := by
  show Ieee.double.order x y = _
  unfold Ieee.Format.order nanB key
  have hB : 0 < BB := by decide
  have hi : 0 < infR := by decide
  rcases read_cases x with ⟨h1, M, a, hx, hM⟩ | ⟨h1, hx⟩ | ⟨h1, f, hx⟩
  · rcases read_cases y with ⟨h2, N, b, hy, hN⟩ | ⟨h2, hy⟩ | ⟨h2, g, hy⟩
    · rw [hx, hy]
      simp only [Ieee.Datum.order]
      rw [num_compare, hM, hN, sg_V_compare hB, if_neg (by simp; omega)]
    · rw [hx, hy, if_neg (by simp; omega), h2]
      simp only [Ieee.Datum.order]
      generalize rung x = r at *
      unfold sg
      simp only [compare, compareOfLessAndEq]
      cases neg x <;> cases neg y <;> simp only [if_true, if_false, Bool.false_eq_true]
      all_goals (repeat' split) <;> first | rfl | (exfalso; omega)
    · rw [hx, hy, if_pos (by simp; omega)]
      rfl
  · rcases read_cases y with ⟨h2, N, b, hy, hN⟩ | ⟨h2, hy⟩ | ⟨h2, g, hy⟩
    · rw [hx, hy, if_neg (by simp; omega), h1]
      simp only [Ieee.Datum.order]
      generalize rung y = r at *
      unfold sg
      simp only [compare, compareOfLessAndEq]
      cases neg x <;> cases neg y <;> simp only [if_true, if_false, Bool.false_eq_true]
      all_goals (repeat' split) <;> first | rfl | (exfalso; omega)
    · rw [hx, hy, if_neg (by simp; omega), h1, h2]
      simp only [Ieee.Datum.order]
      unfold sg
      simp only [compare, compareOfLessAndEq]
      cases neg x <;> cases neg y <;> simp only [if_true, if_false, Bool.false_eq_true, Bool.toNat_true, Bool.toNat_false]
      all_goals (repeat' split) <;> first | rfl | (exfalso; omega)
    · rw [hx, hy, if_pos (by simp; omega)]
      rfl
  · rw [hx, if_pos (by simp; omega)]
    rfl

theorem zero_of {x : Nat} (hx : x < 18446744073709551616) (h : (FloatKind.f64.format.order x 0 == some .eq) = true) : x = 0 ∨ x = 9223372036854775808 := by
  rw [order_key] at h
  have k0 : key 0 = 0 := by decide
  rw [k0] at h
  by_cases hn : (nanB x || nanB 0) = true
  · rw [if_pos hn] at h; cases h
  · rw [if_neg hn] at h
    have hk : key x = 0 := by
      have : compare (key x) 0 = .eq := by simpa using h
      simp only [compare, compareOfLessAndEq] at this
      by_cases h1 : key x < 0
      · rw [if_pos h1] at this; cases this
      · rw [if_neg h1] at this
        by_cases h2 : key x = 0
        · exact h2
        · rw [if_neg h2] at this; cases this
    unfold key sg rung at hk
    have : x % half = 0 := by
      revert hk; cases neg x <;> simp <;> omega
    unfold half at this
    omega
/-- The rank of a float: NaNs first, then by value, the negative zero ahead of the other. -/
def rank (x : Nat) : Int := if nanB x then -18446744073709551616 else if neg x then -(rung x : Int) - 1 else rung x
def cmpV (x y : Nat) : Int := if rank x < rank y then -1 else if rank y < rank x then 1 else 0
theorem cmpV_neg (x y : Nat) : cmpV y x = - cmpV x y := by
  unfold cmpV; (repeat' split) <;> omega
theorem cmpV_trans (x y z : Nat) (h1 : cmpV x y ≤ 0) (h2 : cmpV y z ≤ 0) : cmpV x z ≤ 0 := by
  unfold cmpV at *
  revert h1 h2; (repeat' split) <;> omega
/-- What the two comparisons say, by the order's answers. -/
theorem cmp_lt {x y : Nat} : (FloatKind.f64.format.order x y == some .lt) = (!nanB x && !nanB y && decide (key x < key y)) := by
  rw [order_key]
  cases nanB x <;> cases nanB y <;> simp [compare, compareOfLessAndEq]
  (repeat' split) <;> simp_all <;> omega
theorem cmp_gt {x y : Nat} : (FloatKind.f64.format.order x y == some .gt) = (!nanB x && !nanB y && decide (key y < key x)) := by
  rw [order_key]
  cases nanB x <;> cases nanB y <;> simp [compare, compareOfLessAndEq]
  (repeat' split) <;> simp_all <;> omega
theorem cmp_eq {x y : Nat} : (FloatKind.f64.format.order x y == some .eq) = (!nanB x && !nanB y && decide (key x = key y)) := by
  rw [order_key]
  cases nanB x <;> cases nanB y <;> simp [compare, compareOfLessAndEq]
  (repeat' split) <;> simp_all <;> omega
theorem cmp_nan {x : Nat} : (FloatKind.f64.format.order x x != some .eq) = nanB x := by
  rw [bne, cmp_eq]; cases nanB x <;> simp
end Go.Proofs.Ytiebiajpeocecaa
