/- Dividing 20000000 by a speed: the answer is a nearest one. Plain facts of the floats. -/
import Derived.Test.YtiebiajpeocecaaFq
namespace Go.Proofs.Ytiebiajpeocecaa
open Go

theorem V_le {B r r' : Nat} (hB : 0 < B) (h : r ≤ r') : V B r ≤ V B r' := by
  rcases Nat.lt_or_ge r r' with a | a
  · exact Nat.le_of_lt (V_lt hB a)
  · rw [Nat.le_antisymm h a]; exact Nat.le_refl _
/-- The rung g is a nearest one of P / S, in units of the least one (at the infinity: from below). -/
def Rnd (g P S : Nat) : Prop := (1 ≤ g → (V BB (g - 1) + V BB g) * S ≤ 2 * P) ∧ (g < infR → 2 * P ≤ (V BB g + V BB (g + 1)) * S)
theorem Rnd_mono {g1 g2 P1 S1 P2 S2 : Nat} (hg : g1 ≤ infR) (h1 : Rnd g1 P1 S1) (h2 : Rnd g2 P2 S2) (hlt : P1 * S2 < P2 * S1) : g1 ≤ g2 := by
  rcases Nat.lt_or_ge g2 g1 with h | h
  · exfalso
    have hB : 0 < BB := by decide
    have a1 := h1.1 (by omega)
    have a2 := h2.2 (by omega)
    have m1 : V BB g2 ≤ V BB (g1 - 1) := V_le hB (by omega)
    have m2 : V BB (g2 + 1) ≤ V BB g1 := V_le hB (by omega)
    have k1 : (V BB g2 + V BB (g2 + 1)) * S1 ≤ 2 * P1 := Nat.le_trans (Nat.mul_le_mul_right _ (by omega)) a1
    have e1 : 2 * P2 * S1 ≤ (V BB g2 + V BB (g2 + 1)) * S2 * S1 := Nat.mul_le_mul_right _ a2
    have e2 : (V BB g2 + V BB (g2 + 1)) * S1 * S2 ≤ 2 * P1 * S2 := Nat.mul_le_mul_right _ k1
    have e3 : (V BB g2 + V BB (g2 + 1)) * S2 * S1 = (V BB g2 + V BB (g2 + 1)) * S1 * S2 := by
      rw [Nat.mul_assoc, Nat.mul_comm S2, Nat.mul_assoc]
    have e4 : 2 * P2 * S1 = 2 * (P2 * S1) := Nat.mul_assoc ..
    have e5 : 2 * P1 * S2 = 2 * (P1 * S2) := Nat.mul_assoc ..
    omega
  · exact h
/-- The nearest whole number of a part: within a half. -/
theorem cut_half (n d : Nat) (hd : d ≤ n.log2) : ∃ k, Ieee.Toward.even.cut false n d = k ∧ 2 * n ≤ (2 * k + 1) * 2 ^ d ∧ (2 * k) * 2 ^ d ≤ 2 * n + 2 ^ d ∧ n / 2 ^ d ≤ k ∧ k ≤ n / 2 ^ d + 1 := by
  refine ⟨_, rfl, ?_⟩
  unfold Ieee.Toward.cut
  have hmin : min d (n.log2 + 2) = d := by omega
  simp only [hmin, Nat.shiftLeft_eq, Nat.one_mul]
  have hp : 0 < 2 ^ d := Nat.two_pow_pos _
  have dm := Nat.div_add_mod n (2 ^ d)
  have ml := Nat.mod_lt n hp
  generalize n / 2 ^ d = q at *
  generalize n % 2 ^ d = r at *
  generalize 2 ^ d = g at *
  have eg : g * q = q * g := Nat.mul_comm ..
  generalize hmore : (decide (g < 2 * r) || (g == 2 * r && q % 2 == 1)) = b
  have hb : (b = true → g ≤ 2 * r) ∧ (b = false → 2 * r ≤ g) := by
    subst hmore
    constructor
    · intro h
      simp only [Bool.or_eq_true, decide_eq_true_eq, Bool.and_eq_true, beq_iff_eq] at h
      omega
    · intro h
      simp only [Bool.or_eq_false_iff, decide_eq_false_iff_not] at h
      omega
  cases b
  · have h2 := hb.2 rfl
    simp only [Bool.toNat_false, Nat.add_zero]
    have x1 : (2 * q + 1) * g = 2 * (q * g) + g := by rw [Nat.add_mul, Nat.mul_assoc]; omega
    have x2 : 2 * q * g = 2 * (q * g) := Nat.mul_assoc ..
    omega
  · have h2 := hb.1 rfl
    simp only [Bool.toNat_true]
    have x1 : (2 * (q + 1) + 1) * g = 2 * (q * g) + 3 * g := by rw [Nat.add_mul, Nat.mul_assoc, Nat.add_mul]; omega
    have x2 : 2 * (q + 1) * g = 2 * (q * g) + 2 * g := by rw [Nat.mul_assoc, Nat.add_mul]; omega
    omega

theorem V_at {e k : Nat} (h1 : BB ≤ k) (h2 : k ≤ 2 * BB) : V BB (e * BB + k) = k * 2 ^ e := by
  have hB : 0 < BB := by decide
  unfold V
  rw [if_neg (by have : 0 ≤ e * BB := Nat.zero_le _; omega)]
  rcases Nat.lt_or_ge k (2 * BB) with h | h
  · have e1 : (e * BB + k) / BB = e + 1 := by
      rw [Nat.add_comm, Nat.add_mul_div_right _ _ hB]
      have : k / BB = 1 := by
        apply Nat.div_eq_of_lt_le <;> omega
      omega
    have e2 : (e * BB + k) % BB = k - BB := by
      rw [Nat.add_comm, Nat.add_mul_mod_self_right, Nat.mod_eq_sub_mod h1, Nat.mod_eq_of_lt (by omega)]
    rw [e1, e2, Nat.add_sub_cancel, Nat.add_sub_cancel' h1]
  · have hk : k = 2 * BB := by omega
    subst hk
    have e0 : e * BB + 2 * BB = (e + 2) * BB := by rw [Nat.add_mul]
    rw [e0, Nat.mul_div_cancel _ hB, Nat.mul_mod_left, show e + 2 - 1 = e + 1 from rfl, Nat.pow_succ]
    rw [Nat.add_zero, Nat.mul_comm 2 BB, Nat.mul_assoc, Nat.mul_comm 2]
theorem V_next {e k : Nat} (h1 : BB ≤ k) (h2 : k ≤ 2 * BB) : (k + 1) * 2 ^ e ≤ V BB (e * BB + k + 1) := by
  have hB : 1 < BB := by decide
  rcases Nat.lt_or_ge k (2 * BB) with h | h
  · rw [Nat.add_assoc, V_at (by omega) (by omega)]; exact Nat.le_refl _
  · have hk : k = 2 * BB := by omega
    subst hk
    have e0 : e * BB + 2 * BB + 1 = (e + 1) * BB + (BB + 1) := by rw [Nat.add_mul]; omega
    rw [e0, V_at (by omega) (by omega), Nat.pow_succ]
    have : (2 * BB + 1) * 2 ^ e ≤ (2 * (BB + 1)) * 2 ^ e := Nat.mul_le_mul_right _ (by omega)
    calc (2 * BB + 1) * 2 ^ e ≤ (2 * (BB + 1)) * 2 ^ e := this
      _ = (BB + 1) * (2 ^ e * 2) := by rw [Nat.mul_comm 2 (BB + 1), Nat.mul_assoc, Nat.mul_comm 2]
theorem V_prev {e k : Nat} (h1 : BB < k) (h2 : k ≤ 2 * BB) : V BB (e * BB + k - 1) = (k - 1) * 2 ^ e := by
  rw [show e * BB + k - 1 = e * BB + (k - 1) from by omega, V_at (by omega) (by omega)]
theorem nearest_round (mag f : Nat) (hm : 2 ^ 54 ≤ mag) : ∃ k d, 2 ≤ d ∧ Ieee.double.nearest false mag (Ieee.double.leastPlace + (f : Int)) = min ((f + d) * BB + k) infR ∧ BB ≤ k ∧ k ≤ 2 * BB ∧
    2 * mag ≤ (2 * k + 1) * 2 ^ d ∧ (2 * k) * 2 ^ d ≤ 2 * mag + 2 ^ d ∧ BB * 2 ^ d ≤ mag := by
  have e2 : Ieee.double.binade = BB := by decide +kernel
  have e3 : Ieee.double.infRung = infR := by decide +kernel
  have e4 : Ieee.double.fractionBits = 52 := rfl
  have hpos : 0 < mag := Nat.lt_of_lt_of_le (Nat.two_pow_pos _) hm
  have hlog : 54 ≤ mag.log2 := (Nat.le_log2 (by omega)).2 hm
  obtain ⟨d, hd⟩ : ∃ d, mag.log2 = 52 + d := ⟨mag.log2 - 52, by omega⟩
  have l1 : 2 ^ (52 + d) ≤ mag := by rw [← hd]; exact Nat.log2_self_le (by omega)
  have l2 : mag < 2 ^ (52 + d + 1) := by rw [← hd]; exact Nat.lt_log2_self
  have hBB : BB = 2 ^ 52 := by decide
  obtain ⟨k, hk, k1, k2, k3, k4⟩ := cut_half mag d (by omega)
  have hp : 0 < 2 ^ d := Nat.two_pow_pos _
  have q1 : BB ≤ mag / 2 ^ d := by
    rw [Nat.le_div_iff_mul_le hp, hBB, ← Nat.pow_add]; exact l1
  have q2 : mag / 2 ^ d < 2 * BB := by
    rw [Nat.div_lt_iff_lt_mul hp, hBB, ← Nat.pow_succ', ← Nat.pow_add]
    rw [show 52 + 1 + d = 52 + d + 1 from by omega]; exact l2
  refine ⟨k, d, by omega, ?_, by omega, by omega, k1, k2, by rw [hBB, ← Nat.pow_add]; exact l1⟩
  unfold Ieee.Format.nearest
  rw [if_neg (by omega), e2, e3, e4, hd]
  generalize Ieee.double.leastPlace = L
  have m1 : max (L + (f : Int) + ((52 + d : Nat) : Int) - ((52 : Nat) : Int)) L = L + ((f + d : Nat) : Int) := by omega
  simp only [m1]
  have s1 : (L + (f : Int) - (L + ((f + d : Nat) : Int))).toNat = 0 := by omega
  have s2 : (L + ((f + d : Nat) : Int) - (L + (f : Int))).toNat = d := by omega
  have s3 : (L + ((f + d : Nat) : Int) - L).toNat = f + d := by omega
  rw [s1, s2, s3, Nat.shiftLeft_zero, hk]
  simp [Ieee.Format.word]

theorem read_bd {x : Nat} (h : rt x = true) : ∃ N a, Ieee.double.read x = .number false N (Ieee.double.leastPlace + (a : Nat)) ∧ 0 < N ∧ N < 2 * BB ∧ a ≤ 2045 ∧ N * 2 ^ a = V BB (rung x) := by
  rw [rt_iff] at h
  obtain ⟨h1, h2, h3⟩ := h
  have e1 : Ieee.double.signWeight = half := by decide +kernel
  have e2 : Ieee.double.binade = BB := by decide +kernel
  have e3 : Ieee.double.infRung = infR := by decide +kernel
  have hB : 0 < BB := by decide
  have hBi : infR = 2047 * BB := by decide
  unfold neg at h1
  unfold rung at h2 h3 ⊢
  unfold Ieee.Format.read
  simp only [e1, e2, e3, h1]
  unfold V
  by_cases g1 : x % half < BB
  · rw [if_pos g1, if_pos g1]
    exact ⟨x % half, 0, by simp, h2, by omega, by omega, by simp⟩
  · rw [if_neg g1, if_neg g1, if_pos h3]
    have hm : x % half % BB < BB := Nat.mod_lt _ hB
    have hd : x % half / BB < 2047 := by rw [Nat.div_lt_iff_lt_mul hB]; omega
    exact ⟨_, _, rfl, by omega, by omega, by omega, rfl⟩
/-- 20000000, as bits. -/
def cW : Nat := 4716133919349538816
def mC : Nat := 5368709120000000
theorem read_C : Ieee.double.read cW = .number false mC (Ieee.double.leastPlace + ((1046 : Nat) : Int)) := by decide +kernel
theorem div_round {x N a : Nat} (hx : Ieee.double.read x = .number false N (Ieee.double.leastPlace + (a : Nat))) (h0 : 0 < N) (h1 : N < 2 * BB) (ha : a ≤ 2045) :
    ∃ g, floatBits .quo .f64 cW x = some g ∧ g ≤ infR ∧ Rnd g (mC * 2 ^ (2120 - a)) N := by
  show ∃ g, Ieee.double.div cW x = some g ∧ _
  unfold Ieee.Format.div
  rw [read_C, hx]
  have hmC : mC.log2 = 52 := by decide +kernel
  have hfb : Ieee.double.fractionBits + 2 = 54 := rfl
  have hBB : BB = 2 ^ 52 := by decide
  have hlog : N.log2 < 53 := (Nat.log2_lt (by omega)).2 (by rw [hBB] at h1; exact h1)
  have hNl : N < 2 ^ (N.log2 + 1) := Nat.lt_log2_self
  simp only [Ieee.Datum.quotient, if_neg (Nat.ne_of_gt h0), hmC, hfb, Option.map_some, Ieee.Format.write, Nat.shiftLeft_eq]
  obtain ⟨lg, hlg⟩ : ∃ lg, lg = N.log2 := ⟨_, rfl⟩
  rw [← hlg] at hlog hNl ⊢
  have hmore : 54 + lg - 52 = lg + 2 := by omega
  rw [hmore]
  generalize hD : mC * 2 ^ (lg + 2) = D
  have hplace : Ieee.double.leastPlace + ((1046 : Nat) : Int) - (Ieee.double.leastPlace + (a : Int)) - ((lg + 2 : Nat) : Int) - 1 = Ieee.double.leastPlace + ((2117 - a - lg : Nat) : Int) := by
    have : Ieee.double.leastPlace = -1074 := by decide +kernel
    omega
  rw [hplace]
  obtain ⟨f, hf⟩ : ∃ f, f = 2117 - a - lg := ⟨_, rfl⟩
  rw [← hf]
  have hP : mC * 2 ^ (2120 - a) = D * 2 ^ (f + 1) := by
    rw [← hD, Nat.mul_assoc, ← Nat.pow_add]
    congr 2
    omega
  rw [hP]
  have hmCl : 2 ^ 52 ≤ mC := by decide
  have hDN : 2 ^ 53 * N ≤ D := by
    have : 2 ^ 53 * 2 ^ (lg + 1) ≤ D := by
      rw [← hD, ← Nat.pow_add, show 53 + (lg + 1) = 52 + (lg + 2) from by omega, Nat.pow_add]
      exact Nat.mul_le_mul_right _ hmCl
    exact Nat.le_trans (Nat.mul_le_mul_left _ (by omega)) this
  have hQ : 2 ^ 53 ≤ D / N := (Nat.le_div_iff_mul_le h0).2 hDN
  have dm := Nat.div_add_mod D N
  have ml := Nat.mod_lt D h0
  generalize D / N = Q at *
  generalize D % N = r at *
  obtain ⟨s, hs, hs2⟩ : ∃ s, (r != 0).toNat = s ∧ ((s = 0 ∧ r = 0) ∨ (s = 1 ∧ 0 < r)) := by
    refine ⟨_, rfl, ?_⟩
    by_cases h : r = 0
    · left; simp [h]
    · right; simp [h]; omega
  rw [hs]
  have hmag : 2 ^ 54 ≤ 2 * Q + s := by
    have : (2 : Nat) ^ 54 = 2 * 2 ^ 53 := by decide
    omega
  obtain ⟨k, d, hd, hn, b1, b2, k1, k2, k3⟩ := nearest_round (2 * Q + s) f hmag
  have hxor : (false ^^ false) = false := rfl
  rw [hxor]
  refine ⟨_, rfl, ?_, ?_⟩
  · rw [hn]; exact Nat.min_le_right _ _
  · rw [hn]
    obtain ⟨c, hc⟩ : ∃ c, d = c + 2 := ⟨d - 2, by omega⟩
    have p4 : 2 ^ d = 4 * 2 ^ c := by rw [hc, Nat.pow_add]; omega
    rw [p4] at k1 k2 k3
    obtain ⟨u, hu⟩ : ∃ u, u = 2 ^ c := ⟨_, rfl⟩
    rw [← hu] at k1 k2 k3 p4
    obtain ⟨t, ht⟩ : ∃ t, t = 2 ^ (f + d) := ⟨_, rfl⟩
    have ht2 : 2 ^ (f + 1) * (2 * u) = t := by
      rw [ht, hc, hu, ← Nat.pow_succ', ← Nat.pow_add]
      congr 1
      omega
    have hB : 0 < BB := by decide
    obtain ⟨z, hz⟩ : ∃ z, z = 2 ^ (f + 1) := ⟨_, rfl⟩
    rw [← hz] at ht2 ⊢
    have hV : V BB ((f + d) * BB + k) = k * t := by rw [V_at b1 b2, ht]
    have hV1 : (k + 1) * t ≤ V BB ((f + d) * BB + k + 1) := by rw [ht]; exact V_next b1 b2
    have upper : 2 * (D * z) ≤ (V BB ((f + d) * BB + k) + V BB ((f + d) * BB + k + 1)) * N := by
      have hW : D ≤ N * ((2 * k + 1) * u) := by
        have w1 : (2 * k + 1) * (4 * u) = 4 * ((2 * k + 1) * u) := Nat.mul_left_comm ..
        rw [w1] at k1
        generalize (2 * k + 1) * u = W at *
        rcases hs2 with ⟨rfl, rfl⟩ | ⟨rfl, hr⟩
        · rw [← dm, Nat.add_zero]; exact Nat.mul_le_mul_left _ (by omega)
        · have : N * (Q + 1) ≤ N * W := Nat.mul_le_mul_left _ (by omega)
          rw [Nat.mul_add] at this
          omega
      have e1 : 2 * (N * ((2 * k + 1) * u) * z) = (2 * k + 1) * t * N := by
        rw [← ht2]
        simp only [Nat.mul_left_comm, Nat.mul_comm]
      have e2 : 2 * (D * z) ≤ 2 * (N * ((2 * k + 1) * u) * z) := Nat.mul_le_mul_left _ (Nat.mul_le_mul_right _ hW)
      have e3 : (2 * k + 1) * t ≤ V BB ((f + d) * BB + k) + V BB ((f + d) * BB + k + 1) := by
        rw [hV]
        have : (2 * k + 1) * t = k * t + (k + 1) * t := by rw [← Nat.add_mul]; congr 1; omega
        omega
      exact Nat.le_trans e2 (by rw [e1]; exact Nat.mul_le_mul_right _ e3)
    have lower : (V BB ((f + d) * BB + k - 1) + V BB ((f + d) * BB + k)) * N ≤ 2 * (D * z) := by
      have hQD : N * Q ≤ D := by omega
      rcases Nat.lt_or_ge BB k with h | h
      · have hV2 : V BB ((f + d) * BB + k - 1) = (k - 1) * t := by rw [V_prev h b2, ht]
        obtain ⟨j, hj⟩ : ∃ j, k = j + 1 := ⟨k - 1, by omega⟩
        have w1 : (2 * j + 1) * u ≤ Q := by
          rw [hj] at k2
          have : 2 * (j + 1) * (4 * u) = 4 * ((2 * j + 1) * u) + 4 * u := by
            rw [Nat.mul_add, Nat.add_mul, Nat.add_mul, Nat.mul_add]
            have : 2 * j * (4 * u) = 4 * (2 * j * u) := Nat.mul_left_comm ..
            omega
          rw [this] at k2
          generalize (2 * j + 1) * u = W at *
          omega
        have e1 : (V BB ((f + d) * BB + k - 1) + V BB ((f + d) * BB + k)) * N = 2 * (N * ((2 * j + 1) * u) * z) := by
          rw [hV2, hV, hj, Nat.add_sub_cancel, ← Nat.add_mul, show j + (j + 1) = 2 * j + 1 from by omega, ← ht2]
          simp only [Nat.mul_left_comm, Nat.mul_comm, Nat.mul_assoc]
        rw [e1]
        exact Nat.mul_le_mul_left _ (Nat.mul_le_mul_right _ (Nat.le_trans (Nat.mul_le_mul_left _ w1) hQD))
      · have hk : k = BB := by omega
        have w1 : BB * (2 * u) ≤ Q := by
          have : BB * (4 * u) = 2 * (BB * (2 * u)) := by rw [Nat.mul_left_comm 2 BB]; congr 1; omega
          rw [this] at k3
          generalize BB * (2 * u) = W at *
          omega
        have m1 : V BB ((f + d) * BB + k - 1) ≤ V BB ((f + d) * BB + k) := V_le hB (by omega)
        have e1 : V BB ((f + d) * BB + k) * N = N * (BB * (2 * u)) * z := by
          rw [hV, hk, ← ht2]
          simp only [Nat.mul_left_comm, Nat.mul_comm]
        have e2 : N * (BB * (2 * u)) * z ≤ D * z := Nat.mul_le_mul_right _ (Nat.le_trans (Nat.mul_le_mul_left _ w1) hQD)
        have e3 : (V BB ((f + d) * BB + k - 1) + V BB ((f + d) * BB + k)) * N ≤ (V BB ((f + d) * BB + k) + V BB ((f + d) * BB + k)) * N := Nat.mul_le_mul_right _ (by omega)
        rw [Nat.add_mul (V BB ((f + d) * BB + k))] at e3
        omega
    generalize (f + d) * BB + k = g at *
    rcases Nat.lt_or_ge infR g with h | h
    · rw [Nat.min_eq_right (by omega)]
      refine ⟨fun _ => Nat.le_trans (Nat.mul_le_mul_right _ ?_) lower, fun hh => absurd hh (by omega)⟩
      have m1 : V BB (infR - 1) ≤ V BB (g - 1) := V_le hB (by omega)
      have m2 : V BB infR ≤ V BB g := V_le hB (by omega)
      omega
    · rw [Nat.min_eq_left h]
      exact ⟨fun _ => lower, fun _ => upper⟩
end Go.Proofs.Ytiebiajpeocecaa
