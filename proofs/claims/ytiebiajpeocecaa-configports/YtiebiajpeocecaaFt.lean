/- Contracts of what a way costs, the program's and the document's. -/
import Derived.Test.YtiebiajpeocecaaFs
namespace Go.Proofs.Ytiebiajpeocecaa
open Go.RowKit Go.Sort

/-- The greater, and the less, of two floats, neither of them NaN. -/
def fmax (x y : Nat) : Option Nat := match FloatKind.f64.format.order x y with
  | none => none
  | some .lt => some y
  | some .gt => some x
  | some .eq => some (if (FloatKind.f64.decode x).neg then y else x)
def fmin (x y : Nat) : Option Nat := match FloatKind.f64.format.order x y with
  | none => none
  | some .lt => some x
  | some .gt => some y
  | some .eq => some (if (FloatKind.f64.decode x).neg then x else y)
theorem run_fmax (ts : Array TypeId) (t : TypeId) (x y r : Nat) (h : fmax x y = some r) (w : World) : (Builtin.max_ ts t #[.float .f64 x, .float .f64 y]).run Try.prog w = .ok (.float .f64 r) w := by
  unfold fmax at h
  split at h
  · cases h
  all_goals
    rename_i e
    obtain rfl := Option.some.inj h
    simp [Builtin.max_, Builtin.max2, e]
theorem run_fmin (ts : Array TypeId) (t : TypeId) (x y r : Nat) (h : fmin x y = some r) (w : World) : (Builtin.min_ ts t #[.float .f64 x, .float .f64 y]).run Try.prog w = .ok (.float .f64 r) w := by
  unfold fmin at h
  split at h
  · cases h
  all_goals
    rename_i e
    obtain rfl := Option.some.inj h
    simp [Builtin.min_, Builtin.min2, e]
def cEnd (n : Int) (e : Int) : Ending := .returned (.tuple #[.int .u32 n, .int .i64 e])
theorem cost_bad (b : Nat) (w : World) (h : rt b = false) :
    Calls Try.prog 27 #[.float .f64 b] w fun e w' => e = cEnd 0 4 ∧ w = w' := by
  have c := right_any b w
  rw [h] at c
  clear h
  go_enter Try.func27, Try.ntmps27
  go_wp2_with (go_at_call 35; refine c.mono ?_; rintro e w' ⟨rfl, rfl⟩)
  go_ret2
  exact ⟨rfl, rfl⟩
theorem cost_ok (b q m1 m2 : Nat) (n : Int) (w : World) (h : rt b = true) (hq : floatBits .quo .f64 4716133919349538816 b = some q) (h1 : fmax q 4607182418800017408 = some m1) (h2 : fmin m1 4730986895511650304 = some m2) (h3 : floatToIntVal .f64 m2 .u32 = some n) :
    Calls Try.prog 27 #[.float .f64 b] w fun e w' => e = cEnd n 0 ∧ w = w' := by
  have c := right_any b w
  rw [h] at c
  have hop : ∀ t w, (binOp .quo t (.float .f64 4716133919349538816) (.float .f64 b)).run Try.prog w = .ok (.float .f64 q) w := fun t w => run_float_arith w .quo t .f64 _ _ q hq
  have k1 := fun ts t => run_fmax ts t q _ m1 h1
  have k2 := fun ts t => run_fmin ts t m1 _ m2 h2
  have hc : ∀ w, (convert 57 31 (.float .f64 m2)).run Try.prog w = .ok (.int .u32 n) w := fun w => run_convert_float_int w 57 31 .f64 .u32 m2 n (by rw [Try.underlying57]; rfl) Try.underlying31 h3
  clear h hq h1 h2 h3
  go_enter Try.func27, Try.ntmps27
  go_wp2_with (go_at_call 35; refine c.mono ?_; rintro e w' ⟨rfl, rfl⟩)
  go_ret2
  exact ⟨rfl, rfl⟩
theorem cost_100 (w : World) : Calls Try.prog 27 #[.float .f64 4636737291354636288] w fun e w' => e = cEnd 200000 0 ∧ w = w' :=
  cost_ok 4636737291354636288 4686111960511545344 4686111960511545344 4686111960511545344 200000 w (by decide +kernel) (by decide +kernel) (by decide +kernel) (by decide +kernel) (by decide +kernel)
theorem quo_some {x : Nat} (h : rt x = true) : ∃ g, floatBits .quo .f64 cW x = some g ∧ g ≤ infR := by
  obtain ⟨N, a, h1, h2, h3, h4, _⟩ := read_bd h
  obtain ⟨g, g1, g2, _⟩ := div_round h1 h2 h3 h4
  exact ⟨g, g1, g2⟩
theorem quo_mono {x y gx gy : Nat} (hx : rt x = true) (hy : rt y = true) (hxy : rung x ≤ rung y) (h1 : floatBits .quo .f64 cW x = some gx) (h2 : floatBits .quo .f64 cW y = some gy) : gy ≤ gx := by
  obtain ⟨N, a, a1, a2, a3, a4, a5⟩ := read_bd hx
  obtain ⟨M, b, b1, b2, b3, b4, b5⟩ := read_bd hy
  obtain ⟨g, g1, g2, g3⟩ := div_round a1 a2 a3 a4
  obtain ⟨k, k1, k2, k3⟩ := div_round b1 b2 b3 b4
  obtain rfl := Option.some.inj (g1.symm.trans h1)
  obtain rfl := Option.some.inj (k1.symm.trans h2)
  rcases Nat.lt_or_ge (rung x) (rung y) with h | h
  · refine Rnd_mono k2 k3 g3 ?_
    have hv := V_lt (B := BB) (by decide) h
    rw [← a5, ← b5] at hv
    have hp : 0 < 2 ^ a * 2 ^ b := Nat.mul_pos (Nat.two_pow_pos _) (Nat.two_pow_pos _)
    have hm : 0 < mC := by decide
    obtain ⟨E, hE⟩ : ∃ E : Nat, 2120 = E := ⟨_, rfl⟩
    rw [hE]
    have e1 : 2 ^ (E - b) * 2 ^ b = 2 ^ E := by rw [← Nat.pow_add, Nat.sub_add_cancel (by omega)]
    have e2 : 2 ^ (E - a) * 2 ^ a = 2 ^ E := by rw [← Nat.pow_add, Nat.sub_add_cancel (by omega)]
    have big : 0 < mC * 2 ^ E := Nat.mul_pos hm (Nat.two_pow_pos _)
    have key1 : mC * 2 ^ (E - b) * N * (2 ^ a * 2 ^ b) = N * 2 ^ a * (mC * 2 ^ E) := by
      rw [← e1]; simp only [Nat.mul_left_comm, Nat.mul_comm, Nat.mul_assoc]
    have key2 : mC * 2 ^ (E - a) * M * (2 ^ a * 2 ^ b) = M * 2 ^ b * (mC * 2 ^ E) := by
      rw [← e2]; simp only [Nat.mul_left_comm, Nat.mul_comm, Nat.mul_assoc]
    have := Nat.mul_lt_mul_of_pos_right hv big
    rw [← key1, ← key2] at this
    exact Nat.lt_of_mul_lt_mul_right this
  · have hr : rung x = rung y := Nat.le_antisymm hxy h
    have e : Ieee.double.read x = Ieee.double.read y := by
      have n1 := ((rt_iff x).1 hx).1
      have n2 := ((rt_iff y).1 hy).1
      have e1 : Ieee.double.signWeight = half := by decide +kernel
      unfold neg at n1 n2
      unfold rung at hr
      unfold Ieee.Format.read
      simp only [e1, n1, n2, hr]
    have : floatBits .quo .f64 cW x = floatBits .quo .f64 cW y := by
      show Ieee.double.div cW x = Ieee.double.div cW y
      unfold Ieee.Format.div
      rw [e]
    rw [g1, k1] at this
    rw [Option.some.inj this]; exact Nat.le_refl _
theorem ord_small {x y : Nat} (hx : x ≤ infR) (hy : y ≤ infR) : FloatKind.f64.format.order x y = some (compare (x : Int) (y : Int)) := by
  obtain ⟨a1, a2⟩ := neg_small hx
  obtain ⟨b1, b2⟩ := neg_small hy
  have n1 : nanB x = false := by unfold nanB; rw [a2]; exact decide_eq_false (by omega)
  have n2 : nanB y = false := by unfold nanB; rw [b2]; exact decide_eq_false (by omega)
  rw [order_key, n1, n2]
  unfold key sg
  rw [a1, a2, b1, b2]
  rfl
theorem ord_lt {x y : Nat} (hx : x ≤ infR) (hy : y ≤ infR) (h : x < y) : FloatKind.f64.format.order x y = some .lt := by
  rw [ord_small hx hy]; congr 1; simp only [compare, compareOfLessAndEq]; rw [if_pos (by omega)]
theorem ord_gt {x y : Nat} (hx : x ≤ infR) (hy : y ≤ infR) (h : y < x) : FloatKind.f64.format.order x y = some .gt := by
  rw [ord_small hx hy]; congr 1; simp only [compare, compareOfLessAndEq]; rw [if_neg (by omega), if_neg (by omega)]
theorem ord_eq {x : Nat} (hx : x ≤ infR) : FloatKind.f64.format.order x x = some .eq := by
  rw [ord_small hx hx]; congr 1; simp only [compare, compareOfLessAndEq]; rw [if_neg (by omega)]; simp
theorem cut_zero (n d : Nat) : Ieee.Toward.zero.cut false n d = n / 2 ^ d := by
  unfold Ieee.Toward.cut
  simp only [Nat.shiftLeft_eq, Nat.one_mul, Bool.toNat_false, Nat.add_zero]
  rcases Nat.lt_or_ge d (n.log2 + 2) with h | h
  · rw [Nat.min_eq_left (by omega)]
  · rw [Nat.min_eq_right h]
    have l : n < 2 ^ (n.log2 + 1) := Nat.lt_log2_self
    have p1 : 2 ^ (n.log2 + 1) ≤ 2 ^ (n.log2 + 2) := Nat.pow_le_pow_right (by decide) (by omega)
    have p2 : 2 ^ (n.log2 + 2) ≤ 2 ^ d := Nat.pow_le_pow_right (by decide) h
    rw [Nat.div_eq_of_lt (by omega), Nat.div_eq_of_lt (by omega)]
def one : Nat := 4607182418800017408
/-- How many of the least units a 1 has. -/
def U : Nat := 2 ^ 1074
theorem U_pos : 0 < U := by decide +kernel
theorem U_def {E : Nat} (h : E = 1074) : U = 2 ^ E := by rw [h, U]
def lim : Nat := 4730986895511650304
theorem toInt_small {g : Nat} (h : g < infR) : (Ieee.double.read g).toInt .zero = some (((V BB g / U : Nat)) : Int) := by
  obtain ⟨n1, n2⟩ := neg_small (Nat.le_of_lt h)
  rcases read_cases g with ⟨_, M, a, hx, hM⟩ | ⟨h1, _⟩ | ⟨h1, _⟩
  · rw [hx, n1]
    rw [n2] at hM
    have hL : Ieee.double.leastPlace = -1074 := by decide +kernel
    obtain ⟨E, hE⟩ : ∃ E : Nat, E = 1074 := ⟨_, rfl⟩
    rw [U_def hE]
    simp only [Ieee.Datum.toInt, Ieee.Datum.integral, hL]
    have c0 : ∀ n d, Ieee.Toward.zero.cut false n d = n / 2 ^ d := cut_zero
    rw [c0, Nat.shiftLeft_eq, signed_sg, ← hM]
    unfold sg
    simp only [Bool.false_eq_true, if_false, Nat.pow_zero, Nat.mul_one]
    refine congrArg (fun n : Nat => some (n : Int)) ?_
    rcases Nat.lt_or_ge a E with ha | ha
    · have e1 : (-1074 + (a : Int)).toNat = 0 := by omega
      have e2 : (-(-1074 + (a : Int))).toNat = E - a := by omega
      rw [e1, e2, Nat.pow_zero, Nat.mul_one]
      have : 2 ^ E = 2 ^ (E - a) * 2 ^ a := by rw [← Nat.pow_add, Nat.sub_add_cancel (by omega)]
      rw [this, Nat.mul_div_mul_right _ _ (Nat.two_pow_pos _)]
    · have e1 : (-1074 + (a : Int)).toNat = a - E := by omega
      have e2 : (-(-1074 + (a : Int))).toNat = 0 := by omega
      rw [e1, e2, Nat.pow_zero, Nat.div_one]
      have : 2 ^ a = 2 ^ (a - E) * 2 ^ E := by rw [← Nat.pow_add, Nat.sub_add_cancel (by omega)]
      rw [this, ← Nat.mul_assoc, Nat.mul_div_cancel _ (Nat.two_pow_pos _)]
  · rw [n2] at h1; omega
  · rw [n2] at h1; omega
theorem V_lim : V BB lim = 200000000 * U := by decide +kernel
theorem V_one : V BB one = U := by decide +kernel
def costN (g : Nat) : Nat := if lim ≤ g then 200000000 else if g < one then 1 else V BB g / U
theorem cost_mid {g : Nat} (h1 : one ≤ g) (h2 : g < lim) : 1 ≤ V BB g / U ∧ V BB g / U ≤ 200000000 := by
  have hB : 0 < BB := by decide
  have hp := U_pos
  have a1 := V_le hB h1
  have a2 := V_le hB (Nat.le_of_lt h2)
  rw [V_one] at a1
  rw [V_lim] at a2
  exact ⟨(Nat.le_div_iff_mul_le hp).2 (by rw [Nat.one_mul]; exact a1), Nat.div_le_of_le_mul (by rw [Nat.mul_comm]; exact a2)⟩
theorem costN_mono {g k : Nat} (h : g ≤ k) : costN g ≤ costN k := by
  have hB : 0 < BB := by decide
  have hol : one < lim := by decide
  unfold costN
  by_cases a1 : lim ≤ g
  · rw [if_pos a1, if_pos (by omega)]; exact Nat.le_refl _
  · rw [if_neg a1]
    by_cases a2 : g < one
    · rw [if_pos a2]
      by_cases b1 : lim ≤ k
      · rw [if_pos b1]; decide
      · rw [if_neg b1]
        by_cases b2 : k < one
        · rw [if_pos b2]; exact Nat.le_refl _
        · rw [if_neg b2]; exact (cost_mid (by omega) (by omega)).1
    · rw [if_neg a2]
      by_cases b1 : lim ≤ k
      · rw [if_pos b1]; exact (cost_mid (by omega) (by omega)).2
      · rw [if_neg b1, if_neg (by omega)]
        exact Nat.div_le_div_right (V_le hB h)

theorem conv_small {g : Nat} (h : g < infR) (hv : V BB g / U ≤ 200000000) : floatToIntVal .f64 g .u32 = some ((V BB g / U : Nat) : Int) := by
  unfold floatToIntVal
  have e : (FloatKind.f64.decode g).toInt .zero = some ((V BB g / U : Nat) : Int) := toInt_small h
  rw [e]
  generalize V BB g / U = n at hv
  have m1 : IntKind.u32.min = 0 := by decide
  have m2 : IntKind.u32.max = 4294967295 := by decide
  simp only [m1, m2]
  rw [if_pos (by omega)]
theorem neg_decode {g : Nat} (h : g ≤ infR) : (FloatKind.f64.decode g).neg = false := by
  obtain ⟨n1, n2⟩ := neg_small h
  show (Ieee.double.read g).neg = false
  rcases read_cases g with ⟨_, M, a, hx, _⟩ | ⟨_, hx⟩ | ⟨_, f, hx⟩ <;> rw [hx, n1] <;> rfl
/-- What the program does with the quotient. -/
theorem cost_parts {g : Nat} (hg : g ≤ infR) : ∃ m1 m2, fmax g 4607182418800017408 = some m1 ∧ fmin m1 4730986895511650304 = some m2 ∧ floatToIntVal .f64 m2 .u32 = some ((costN g : Nat) : Int) := by
  have o1 : one ≤ infR := by decide
  have l1 : lim < infR := by decide
  have ol : one < lim := by decide
  show ∃ m1 m2, fmax g one = some m1 ∧ fmin m1 lim = some m2 ∧ _
  unfold costN
  by_cases a1 : lim ≤ g
  · refine ⟨g, lim, ?_, ?_, ?_⟩
    · unfold fmax; rw [ord_gt hg o1 (by omega)]
    · unfold fmin
      rcases Nat.lt_or_ge lim g with h | h
      · rw [ord_gt hg (by omega) h]
      · have : g = lim := by omega
        subst this
        rw [ord_eq hg, neg_decode hg]; rfl
    · rw [if_pos a1]; decide +kernel
  · rw [if_neg a1]
    by_cases a2 : g < one
    · refine ⟨one, one, ?_, by decide +kernel, by rw [if_pos a2]; decide +kernel⟩
      unfold fmax; rw [ord_lt hg o1 a2]
    · rw [if_neg a2]
      refine ⟨g, g, ?_, ?_, conv_small (by omega) (cost_mid (by omega) (by omega)).2⟩
      · unfold fmax
        rcases Nat.lt_or_ge one g with h | h
        · rw [ord_gt hg o1 h]
        · have : g = one := by omega
          subst this
          rw [ord_eq hg, neg_decode hg]; rfl
      · unfold fmin; rw [ord_lt hg (by omega) (by omega)]
/-- What a speed that may be costs. -/
def costX (x : Nat) : Nat := costN ((floatBits .quo .f64 cW x).getD 0)
theorem cost_rt (x : Nat) (w : World) (h : rt x = true) : Calls Try.prog 27 #[.float .f64 x] w fun e w' => e = cEnd ((costX x : Nat) : Int) 0 ∧ w = w' := by
  obtain ⟨g, g1, g2⟩ := quo_some h
  obtain ⟨m1, m2, k1, k2, k3⟩ := cost_parts g2
  unfold costX
  rw [g1]
  exact cost_ok x g m1 m2 _ w h g1 k1 k2 k3
set_option maxHeartbeats 400000 in
theorem ref_hi (x g : Nat) (w : World) (hq : floatBits .quo .f64 4716133919349538816 x = some g) (h : (FloatKind.f64.format.order g 4730986895511650304 == some .gt || FloatKind.f64.format.order g 4730986895511650304 == some .eq) = true) :
    Calls Try.prog 13 #[.float .f64 x] w fun e w' => e = .returned (.int .u32 200000000) ∧ w = w' := by
  have hop : ∀ t w, (binOp .quo t (.float .f64 4716133919349538816) (.float .f64 x)).run Try.prog w = .ok (.float .f64 g) w := fun t w => run_float_arith w .quo t .f64 _ _ g hq
  clear hq
  go_enter Try.func13, Try.ntmps13
  go_wp2
  go_ret
  exact ⟨rfl, rfl⟩
set_option maxHeartbeats 400000 in
theorem ref_lo (x g : Nat) (w : World) (hq : floatBits .quo .f64 4716133919349538816 x = some g) (h : (FloatKind.f64.format.order g 4730986895511650304 == some .gt || FloatKind.f64.format.order g 4730986895511650304 == some .eq) = false)
    (h2 : (FloatKind.f64.format.order g 4607182418800017408 == some .lt) = true) :
    Calls Try.prog 13 #[.float .f64 x] w fun e w' => e = .returned (.int .u32 1) ∧ w = w' := by
  have hop : ∀ t w, (binOp .quo t (.float .f64 4716133919349538816) (.float .f64 x)).run Try.prog w = .ok (.float .f64 g) w := fun t w => run_float_arith w .quo t .f64 _ _ g hq
  clear hq
  go_enter Try.func13, Try.ntmps13
  go_wp2
  go_ret
  exact ⟨rfl, rfl⟩
set_option maxHeartbeats 400000 in
theorem ref_mid (x g : Nat) (n : Int) (w : World) (hq : floatBits .quo .f64 4716133919349538816 x = some g) (h : (FloatKind.f64.format.order g 4730986895511650304 == some .gt || FloatKind.f64.format.order g 4730986895511650304 == some .eq) = false)
    (h2 : (FloatKind.f64.format.order g 4607182418800017408 == some .lt) = false) (h3 : floatToIntVal .f64 g .u32 = some n) :
    Calls Try.prog 13 #[.float .f64 x] w fun e w' => e = .returned (.int .u32 n) ∧ w = w' := by
  have hop : ∀ t w, (binOp .quo t (.float .f64 4716133919349538816) (.float .f64 x)).run Try.prog w = .ok (.float .f64 g) w := fun t w => run_float_arith w .quo t .f64 _ _ g hq
  have hc : ∀ w, (convert 57 31 (.float .f64 g)).run Try.prog w = .ok (.int .u32 n) w := fun w => run_convert_float_int w 57 31 .f64 .u32 g n (by rw [Try.underlying57]; rfl) Try.underlying31 h3
  clear hq h3
  go_enter Try.func13, Try.ntmps13
  go_wp2
  go_ret
  exact ⟨rfl, rfl⟩
theorem ref_rt (x : Nat) (w : World) (h : rt x = true) : Calls Try.prog 13 #[.float .f64 x] w fun e w' => e = .returned (.int .u32 ((costX x : Nat) : Int)) ∧ w = w' := by
  obtain ⟨g, g1, g2⟩ := quo_some h
  have o1 : one ≤ infR := by decide
  have l1 : lim < infR := by decide
  have ol : one < lim := by decide
  unfold costX costN
  rw [g1]
  simp only [Option.getD_some]
  by_cases a1 : lim ≤ g
  · rw [if_pos a1]
    refine ref_hi x g w g1 ?_
    show (FloatKind.f64.format.order g lim == some .gt || FloatKind.f64.format.order g lim == some .eq) = true
    rcases Nat.lt_or_ge lim g with h | h
    · rw [ord_gt g2 (by omega) h]; rfl
    · have : g = lim := by omega
      subst this
      rw [ord_eq g2]; rfl
  · rw [if_neg a1]
    have hh : (FloatKind.f64.format.order g 4730986895511650304 == some .gt || FloatKind.f64.format.order g 4730986895511650304 == some .eq) = false := by
      show (FloatKind.f64.format.order g lim == some .gt || FloatKind.f64.format.order g lim == some .eq) = false
      rw [ord_lt g2 (by omega) (by omega)]; rfl
    by_cases a2 : g < one
    · rw [if_pos a2]
      refine ref_lo x g w g1 hh ?_
      show (FloatKind.f64.format.order g one == some .lt) = true
      rw [ord_lt g2 o1 a2]; rfl
    · rw [if_neg a2]
      refine ref_mid x g _ w g1 hh ?_ (conv_small (by omega) (cost_mid (by omega) (by omega)).2)
      show (FloatKind.f64.format.order g one == some .lt) = false
      rcases Nat.lt_or_ge one g with h | h
      · rw [ord_gt g2 o1 h]; rfl
      · have : g = one := by omega
        subst this
        rw [ord_eq g2]; rfl
theorem costX_le (x : Nat) : costX x ≤ 200000000 := by
  unfold costX costN
  split
  · exact Nat.le_refl _
  · split
    · decide
    · exact (cost_mid (by omega) (by omega)).2
end Go.Proofs.Ytiebiajpeocecaa
