/- Sums, products and quotients of floats: each is a nearest one of the exact answer; those of whole numbers are exact. Plain facts of the floats. -/
import Derived.Test.YtbaamcjdofccjaaDoorT
namespace Go.Proofs.YtbaamcjdofccjaaDoor
open Go

theorem BB_pos : 0 < BB := by decide
theorem Rnd_exact (g : Nat) : Rnd g (V BB g) 1 := by
  have a1 : V BB (g - 1) ≤ V BB g := V_le BB_pos (by omega)
  have a2 : V BB g ≤ V BB (g + 1) := V_le BB_pos (by omega)
  exact ⟨fun _ => by omega, fun _ => by omega⟩
theorem Rnd_uniq {g g0 : Nat} (hg : g ≤ infR) (h0 : g0 < infR) (h : Rnd g (V BB g0) 1) : g = g0 := by
  rcases Nat.lt_trichotomy g g0 with a | a | a
  · exfalso
    have h2 := h.2 (by omega)
    have b1 := V_lt BB_pos a
    have b2 : V BB (g + 1) ≤ V BB g0 := V_le BB_pos (by omega)
    omega
  · exact a
  · exfalso
    have h1 := h.1 (by omega)
    have b1 := V_lt BB_pos a
    have b2 : V BB g0 ≤ V BB (g - 1) := V_le BB_pos (by omega)
    omega
theorem Rnd_cap {g P : Nat} (lower : 1 ≤ g → (V BB (g - 1) + V BB g) * 1 ≤ 2 * P) (upper : 2 * P ≤ (V BB g + V BB (g + 1)) * 1) : Rnd (min g infR) P 1 := by
  have hi : 0 < infR := by decide
  rcases Nat.lt_or_ge infR g with h | h
  · rw [Nat.min_eq_right (by omega)]
    refine ⟨fun _ => Nat.le_trans (Nat.mul_le_mul_right _ ?_) (lower (by omega)), fun hh => absurd hh (by omega)⟩
    have m1 : V BB (infR - 1) ≤ V BB (g - 1) := V_le BB_pos (by omega)
    have m2 : V BB infR ≤ V BB g := V_le BB_pos (by omega)
    omega
  · rw [Nat.min_eq_left h]
    exact ⟨lower, fun _ => upper⟩
theorem V_small {g : Nat} (h : g < 2 * BB) : V BB g = g := by
  rcases Nat.lt_or_ge g BB with a | a
  · unfold V; rw [if_pos a]
  · have := V_at (e := 0) a (by omega)
    simpa using this
/-- What is written of a number that is not nought, of a place not below the least: a nearest rung. -/
theorem nearest_rnd (mag f : Nat) (hm : 0 < mag) : Ieee.double.nearest false mag (Ieee.double.leastPlace + (f : Int)) ≤ infR ∧ Rnd (Ieee.double.nearest false mag (Ieee.double.leastPlace + (f : Int))) (mag * 2 ^ f) 1 := by
  have e2 : Ieee.double.binade = BB := by decide +kernel
  have e3 : Ieee.double.infRung = infR := by decide +kernel
  have e4 : Ieee.double.fractionBits = 52 := rfl
  have hBB : BB = 2 ^ 52 := by decide
  have hBi : 2 * BB < infR := by decide
  obtain ⟨lg, hlg⟩ : ∃ lg, mag.log2 = lg := ⟨_, rfl⟩
  have l1 : 2 ^ lg ≤ mag := by rw [← hlg]; exact Nat.log2_self_le (by omega)
  have l2 : mag < 2 ^ (lg + 1) := by rw [← hlg]; exact Nat.lt_log2_self
  have hw : ∀ r, Ieee.double.word false r = r := fun r => by simp [Ieee.Format.word]
  have key : ∃ g, Ieee.double.nearest false mag (Ieee.double.leastPlace + (f : Int)) = min g infR ∧ (1 ≤ g → (V BB (g - 1) + V BB g) * 1 ≤ 2 * (mag * 2 ^ f)) ∧ 2 * (mag * 2 ^ f) ≤ (V BB g + V BB (g + 1)) * 1 := by
    unfold Ieee.Format.nearest
    rw [if_neg (by omega), e2, e3, e4, hlg]
    simp only [hw]
    generalize Ieee.double.leastPlace = L
    rcases Nat.lt_or_ge 52 (lg + f) with a | a
    · have m1 : max (L + (f : Int) + (lg : Int) - ((52 : Nat) : Int)) L = L + ((f + lg - 52 : Nat) : Int) := by omega
      rw [m1]
      have s3 : (L + ((f + lg - 52 : Nat) : Int) - L).toNat = f + lg - 52 := by omega
      rw [s3]
      rcases Nat.lt_or_ge 52 lg with b | b
      · obtain ⟨d, hd⟩ : ∃ d, lg = 52 + d := ⟨lg - 52, by omega⟩
        have s1 : (L + (f : Int) - (L + ((f + lg - 52 : Nat) : Int))).toNat = 0 := by omega
        have s2 : (L + ((f + lg - 52 : Nat) : Int) - (L + (f : Int))).toNat = d := by omega
        have s4 : f + lg - 52 = f + d := by omega
        rw [s1, s2, s4, Nat.shiftLeft_zero]
        obtain ⟨k, hk, k1, k2, k3, k4⟩ := cut_half mag d (by omega)
        rw [hk]
        have hp : 0 < 2 ^ d := Nat.two_pow_pos _
        have q1 : BB ≤ mag / 2 ^ d := by
          rw [Nat.le_div_iff_mul_le hp, hBB, ← Nat.pow_add, ← hd]; exact l1
        have q2 : mag / 2 ^ d < 2 * BB := by
          rw [Nat.div_lt_iff_lt_mul hp, hBB, ← Nat.pow_succ', ← Nat.pow_add, show 52 + 1 + d = lg + 1 from by omega]; exact l2
        have b1 : BB ≤ k := by omega
        have b2 : k ≤ 2 * BB := by omega
        have hV : V BB ((f + d) * BB + k) = k * 2 ^ (f + d) := V_at b1 b2
        have hV1 : (k + 1) * 2 ^ (f + d) ≤ V BB ((f + d) * BB + k + 1) := V_next b1 b2
        have pf : 2 ^ (f + d) = 2 ^ d * 2 ^ f := by rw [Nat.pow_add, Nat.mul_comm]
        refine ⟨_, rfl, fun _ => ?_, ?_⟩
        · rcases Nat.lt_or_ge BB k with h | h
          · have hV2 : V BB ((f + d) * BB + k - 1) = (k - 1) * 2 ^ (f + d) := V_prev h b2
            rw [hV, hV2, ← Nat.add_mul, Nat.mul_one, pf, ← Nat.mul_assoc, ← Nat.mul_assoc]
            refine Nat.mul_le_mul_right _ ?_
            have x : (k - 1 + k) * 2 ^ d + 2 ^ d = 2 * k * 2 ^ d := by
              rw [← Nat.succ_mul]; congr 1; omega
            omega
          · have hk : k = BB := by omega
            have m1 : V BB ((f + d) * BB + k - 1) ≤ V BB ((f + d) * BB + k) := V_le BB_pos (by omega)
            have k3' : BB * 2 ^ d ≤ mag := by rw [hBB, ← Nat.pow_add, ← hd]; exact l1
            have : V BB ((f + d) * BB + k) ≤ mag * 2 ^ f := by
              rw [hV, hk, pf, ← Nat.mul_assoc]; exact Nat.mul_le_mul_right _ k3'
            omega
        · have x : (2 * k + 1) * 2 ^ (f + d) ≤ V BB ((f + d) * BB + k) + V BB ((f + d) * BB + k + 1) := by
            rw [hV]
            have : (2 * k + 1) * 2 ^ (f + d) = k * 2 ^ (f + d) + (k + 1) * 2 ^ (f + d) := by rw [← Nat.add_mul]; congr 1; omega
            omega
          rw [Nat.mul_one]
          refine Nat.le_trans ?_ x
          rw [pf, ← Nat.mul_assoc, ← Nat.mul_assoc]
          exact Nat.mul_le_mul_right _ k1
      · have s1 : (L + (f : Int) - (L + ((f + lg - 52 : Nat) : Int))).toNat = 52 - lg := by omega
        have s2 : (L + ((f + lg - 52 : Nat) : Int) - (L + (f : Int))).toNat = 0 := by omega
        rw [s1, s2, cut_none0, Nat.shiftLeft_eq]
        have c1 : BB ≤ mag * 2 ^ (52 - lg) := by
          have : 2 ^ lg * 2 ^ (52 - lg) ≤ mag * 2 ^ (52 - lg) := Nat.mul_le_mul_right _ l1
          rw [← Nat.pow_add, Nat.add_sub_cancel' b] at this
          rw [hBB]; exact this
        have c2 : mag * 2 ^ (52 - lg) ≤ 2 * BB := by
          have : mag * 2 ^ (52 - lg) ≤ 2 ^ (lg + 1) * 2 ^ (52 - lg) := Nat.mul_le_mul_right _ (by omega)
          rw [← Nat.pow_add, show lg + 1 + (52 - lg) = 52 + 1 from by omega, Nat.pow_succ'] at this
          rw [hBB]; exact this
        have hV : V BB ((f + lg - 52) * BB + mag * 2 ^ (52 - lg)) = mag * 2 ^ f := by
          rw [V_at c1 c2, Nat.mul_assoc, ← Nat.pow_add]
          congr 2
          omega
        refine ⟨_, rfl, ?_⟩
        rw [← hV]
        have := Rnd_exact ((f + lg - 52) * BB + mag * 2 ^ (52 - lg))
        refine ⟨this.1, ?_⟩
        have a2 : V BB ((f + lg - 52) * BB + mag * 2 ^ (52 - lg)) ≤ V BB ((f + lg - 52) * BB + mag * 2 ^ (52 - lg) + 1) := V_le BB_pos (by omega)
        omega
    · have m1 : max (L + (f : Int) + (lg : Int) - ((52 : Nat) : Int)) L = L := by omega
      rw [m1]
      have s1 : (L + (f : Int) - L).toNat = f := by omega
      have s2 : (L - (L + (f : Int))).toNat = 0 := by omega
      have s3 : (L - L).toNat = 0 := by omega
      rw [s1, s2, s3, cut_none0, Nat.shiftLeft_eq, Nat.zero_mul, Nat.zero_add]
      have c2 : mag * 2 ^ f < 2 * BB := by
        have : mag * 2 ^ f < 2 ^ (lg + 1) * 2 ^ f := Nat.mul_lt_mul_of_pos_right l2 (Nat.two_pow_pos _)
        rw [← Nat.pow_add] at this
        have p : 2 ^ (lg + 1 + f) ≤ 2 ^ 53 := Nat.pow_le_pow_right (by decide) (by omega)
        have : (2 : Nat) ^ 53 = 2 * BB := by decide
        omega
      refine ⟨_, rfl, ?_⟩
      have hV := V_small c2
      have R := Rnd_exact (mag * 2 ^ f)
      rw [hV] at R
      have a2 : V BB (mag * 2 ^ f) ≤ V BB (mag * 2 ^ f + 1) := V_le BB_pos (by omega)
      rw [hV] at a2
      exact ⟨R.1, by rw [hV]; omega⟩
  obtain ⟨g, h1, h2, h3⟩ := key
  rw [h1]
  exact ⟨Nat.min_le_right _ _, Rnd_cap h2 h3⟩

/-- The float of a whole number. -/
def iw (m : Nat) : Nat := floatOfInt .f64 (m : Int)
theorem iw_zero : iw 0 = 0 := by decide +kernel
theorem iw_near (m : Nat) : iw m = Ieee.double.nearest false m (Ieee.double.leastPlace + ((1074 : Nat) : Int)) := by
  have hL : Ieee.double.leastPlace + ((1074 : Nat) : Int) = 0 := by decide +kernel
  rw [hL]
  show Ieee.double.write (.number (decide ((m : Int) < 0)) (m : Int).natAbs 0) = _
  have hd : decide ((m : Int) < 0) = false := decide_eq_false (by omega)
  rw [hd, Int.natAbs_natCast]
  rfl
theorem V_iw {m : Nat} (h0 : 0 < m) (h : m < 2 * BB) : iw m < infR ∧ V BB (iw m) = m * U := by
  have e2 : Ieee.double.binade = BB := by decide +kernel
  have e3 : Ieee.double.infRung = infR := by decide +kernel
  have e4 : Ieee.double.fractionBits = 52 := rfl
  have hBB : BB = 2 ^ 52 := by decide
  obtain ⟨E, hE⟩ : ∃ E : Nat, E = 1074 := ⟨_, rfl⟩
  rw [iw_near, U_def hE, ← hE]
  obtain ⟨lg, hlg⟩ : ∃ lg, m.log2 = lg := ⟨_, rfl⟩
  have l1 : 2 ^ lg ≤ m := by rw [← hlg]; exact Nat.log2_self_le (by omega)
  have l2 : m < 2 ^ (lg + 1) := by rw [← hlg]; exact Nat.lt_log2_self
  have l3 : lg < 53 := by rw [← hlg]; exact (Nat.log2_lt (by omega)).2 (by rw [hBB] at h; exact h)
  have hw : ∀ r, Ieee.double.word false r = r := fun r => by simp [Ieee.Format.word]
  unfold Ieee.Format.nearest
  rw [if_neg (by omega), e2, e3, e4, hlg]
  simp only [hw]
  generalize Ieee.double.leastPlace = L
  have m1 : max (L + (E : Int) + (lg : Int) - ((52 : Nat) : Int)) L = L + ((E + lg - 52 : Nat) : Int) := by omega
  rw [m1]
  have s3 : (L + ((E + lg - 52 : Nat) : Int) - L).toNat = E + lg - 52 := by omega
  have s1 : (L + (E : Int) - (L + ((E + lg - 52 : Nat) : Int))).toNat = 52 - lg := by omega
  have s2 : (L + ((E + lg - 52 : Nat) : Int) - (L + (E : Int))).toNat = 0 := by omega
  rw [s1, s2, s3, cut_none0, Nat.shiftLeft_eq]
  have c1 : BB ≤ m * 2 ^ (52 - lg) := by
    have : 2 ^ lg * 2 ^ (52 - lg) ≤ m * 2 ^ (52 - lg) := Nat.mul_le_mul_right _ l1
    rw [← Nat.pow_add, Nat.add_sub_cancel' (by omega)] at this
    rw [hBB]; exact this
  have c2 : m * 2 ^ (52 - lg) ≤ 2 * BB := by
    have : m * 2 ^ (52 - lg) ≤ 2 ^ (lg + 1) * 2 ^ (52 - lg) := Nat.mul_le_mul_right _ (by omega)
    rw [← Nat.pow_add, show lg + 1 + (52 - lg) = 52 + 1 from by omega, Nat.pow_succ'] at this
    rw [hBB]; exact this
  have hfin : (E + lg - 52) * BB + m * 2 ^ (52 - lg) < infR := by
    have i1 : infR = 2047 * BB := by decide
    have i2 : (E + lg - 52) * BB ≤ 1074 * BB := Nat.mul_le_mul_right _ (by omega)
    rw [i1]
    have := BB_pos
    omega
  rw [Nat.min_eq_left (by omega)]
  refine ⟨hfin, ?_⟩
  rw [V_at c1 c2, Nat.mul_assoc, ← Nat.pow_add]
  congr 2
  omega
theorem V_zero : V BB 0 = 0 := by decide
theorem V_iw' {m : Nat} (h : m < 2 * BB) : iw m < infR ∧ V BB (iw m) = m * U := by
  rcases Nat.eq_zero_or_pos m with rfl | h0
  · rw [iw_zero, V_zero]; exact ⟨by decide, by rw [Nat.zero_mul]⟩
  · exact V_iw h0 h
/-- A float that is not below nought, nor infinite: what it is read as. -/
theorem read_fin {x : Nat} (h : x < infR) : ∃ M a, Ieee.double.read x = .number false M (Ieee.double.leastPlace + (a : Nat)) ∧ M * 2 ^ a = V BB x ∧ M < 2 * BB ∧ a ≤ 2045 ∧ (BB ≤ M ∨ a = 0) := by
  obtain ⟨n1, n2⟩ := neg_small (Nat.le_of_lt h)
  have e1 : Ieee.double.signWeight = half := by decide +kernel
  have e2 : Ieee.double.binade = BB := by decide +kernel
  have e3 : Ieee.double.infRung = infR := by decide +kernel
  have hBi : infR = 2047 * BB := by decide
  unfold neg at n1
  unfold rung at n2
  unfold Ieee.Format.read
  simp only [e1, e2, e3, n1, n2]
  unfold V
  by_cases g1 : x < BB
  · rw [if_pos g1, if_pos g1]
    exact ⟨x, 0, by simp, by simp, by omega, by omega, .inr rfl⟩
  · rw [if_neg g1, if_neg g1, if_pos h]
    have hm : x % BB < BB := Nat.mod_lt _ BB_pos
    have hd : x / BB < 2047 := by rw [Nat.div_lt_iff_lt_mul BB_pos]; omega
    exact ⟨_, _, rfl, rfl, by omega, by omega, .inl (by omega)⟩
theorem add_rnd {x y : Nat} (hx : x < infR) (hy : y < infR) (hp : 0 < V BB x + V BB y) : ∃ g, floatBits .add .f64 x y = some g ∧ g ≤ infR ∧ Rnd g (V BB x + V BB y) 1 := by
  obtain ⟨M, a, h1, h2, _⟩ := read_fin hx
  obtain ⟨N, b, k1, k2, _⟩ := read_fin hy
  show ∃ t, Ieee.double.add x y = some t ∧ _
  unfold Ieee.Format.add
  rw [h1, k1]
  simp only [Ieee.Datum.sum, Option.map_some, Ieee.Format.write]
  generalize hL : Ieee.double.leastPlace = L
  have hmin : min (L + (a : Int)) (L + (b : Int)) = L + ((min a b : Nat) : Int) := by omega
  rw [hmin]
  have e1 : Ieee.signed false M (L + (a : Int) - (L + ((min a b : Nat) : Int))).toNat + Ieee.signed false N (L + (b : Int) - (L + ((min a b : Nat) : Int))).toNat = ((M * 2 ^ (a - min a b) + N * 2 ^ (b - min a b) : Nat) : Int) := by
    rw [signed_sg, signed_sg]
    have x1 : (L + (a : Int) - (L + ((min a b : Nat) : Int))).toNat = a - min a b := by omega
    have x2 : (L + (b : Int) - (L + ((min a b : Nat) : Int))).toNat = b - min a b := by omega
    rw [x1, x2]
    unfold sg
    simp
  rw [e1]
  have hT : (M * 2 ^ (a - min a b) + N * 2 ^ (b - min a b)) * 2 ^ min a b = V BB x + V BB y := by
    rw [Nat.add_mul, Nat.mul_assoc, Nat.mul_assoc, ← Nat.pow_add, ← Nat.pow_add, Nat.sub_add_cancel (Nat.min_le_left ..), Nat.sub_add_cancel (Nat.min_le_right ..), h2, k2]
  generalize M * 2 ^ (a - min a b) + N * 2 ^ (b - min a b) = T at hT
  have hT0 : 0 < T := by
    rcases Nat.eq_zero_or_pos T with e | e
    · rw [e, Nat.zero_mul] at hT; omega
    · exact e
  rw [if_neg (by omega)]
  have hneg : decide ((T : Int) < 0) = false := by simp
  rw [hneg, Int.natAbs_natCast, ← hL]
  have := nearest_rnd T (min a b) hT0
  rw [hT] at this
  exact ⟨_, rfl, this⟩
theorem iw_add {p q : Nat} (h : p + q < 2 * BB) : floatBits .add .f64 (iw p) (iw q) = some (iw (p + q)) := by
  obtain ⟨a1, a2⟩ := V_iw' (m := p) (by omega)
  obtain ⟨b1, b2⟩ := V_iw' (m := q) (by omega)
  obtain ⟨c1, c2⟩ := V_iw' h
  rcases Nat.eq_zero_or_pos (p + q) with e | e
  · have hp : p = 0 := by omega
    have hq : q = 0 := by omega
    subst hp; subst hq
    decide +kernel
  · have hs : V BB (iw p) + V BB (iw q) = V BB (iw (p + q)) := by rw [a2, b2, c2, Nat.add_mul]
    obtain ⟨g, g1, g2, g3⟩ := add_rnd a1 b1 (by rw [hs, c2]; exact Nat.mul_pos e U_pos)
    rw [hs] at g3
    rw [g1, Rnd_uniq g2 c1 g3]
theorem mul_rnd {x y : Nat} (hx : x < infR) (hy : y < infR) (hx0 : U ≤ V BB x) (hy0 : U ≤ V BB y) : ∃ g P, floatBits .mul .f64 x y = some g ∧ g ≤ infR ∧ Rnd g P 1 ∧ P * U = V BB x * V BB y := by
  obtain ⟨M, a, h1, h2, h3, _, h4⟩ := read_fin hx
  obtain ⟨N, b, k1, k2, k3, _, k4⟩ := read_fin hy
  obtain ⟨E, hE⟩ : ∃ E : Nat, E = 1074 := ⟨_, rfl⟩
  have hBB : 2 * BB = 2 ^ 53 := by decide
  rw [U_def hE] at hx0 hy0 ⊢
  have ha : E ≤ a + 52 := by
    rcases Nat.lt_or_ge (a + 52) E with c | c
    · exfalso
      have : V BB x < 2 ^ E := by
        rw [← h2]
        calc M * 2 ^ a < 2 ^ 53 * 2 ^ a := Nat.mul_lt_mul_of_pos_right (by omega) (Nat.two_pow_pos _)
          _ = 2 ^ (53 + a) := by rw [Nat.pow_add]
          _ ≤ 2 ^ E := Nat.pow_le_pow_right (by decide) (by omega)
      omega
    · exact c
  have hb : E ≤ b + 52 := by
    rcases Nat.lt_or_ge (b + 52) E with c | c
    · exfalso
      have : V BB y < 2 ^ E := by
        rw [← k2]
        calc N * 2 ^ b < 2 ^ 53 * 2 ^ b := Nat.mul_lt_mul_of_pos_right (by omega) (Nat.two_pow_pos _)
          _ = 2 ^ (53 + b) := by rw [Nat.pow_add]
          _ ≤ 2 ^ E := Nat.pow_le_pow_right (by decide) (by omega)
      omega
    · exact c
  have hpE : 0 < 2 ^ E := Nat.two_pow_pos _
  have hM : 0 < M := by
    rcases Nat.eq_zero_or_pos M with e | e
    · rw [e, Nat.zero_mul] at h2; omega
    · exact e
  have hN : 0 < N := by
    rcases Nat.eq_zero_or_pos N with e | e
    · rw [e, Nat.zero_mul] at k2; omega
    · exact e
  show ∃ g P, Ieee.double.mul x y = some g ∧ _
  unfold Ieee.Format.mul
  rw [h1, k1]
  simp only [Ieee.Datum.product, Option.map_some, Ieee.Format.write]
  have hxor : (false ^^ false) = false := rfl
  have hpl : Ieee.double.leastPlace + (a : Int) + (Ieee.double.leastPlace + (b : Int)) = Ieee.double.leastPlace + ((a + b - E : Nat) : Int) := by
    have : Ieee.double.leastPlace = -1074 := by decide +kernel
    omega
  rw [hxor, hpl]
  obtain ⟨r1, r2⟩ := nearest_rnd (M * N) (a + b - E) (Nat.mul_pos hM hN)
  refine ⟨_, _, rfl, r1, r2, ?_⟩
  rw [Nat.mul_assoc, ← Nat.pow_add, Nat.sub_add_cancel (by omega), ← h2, ← k2, Nat.pow_add]
  simp only [Nat.mul_left_comm, Nat.mul_assoc]
theorem iw_mul {p q : Nat} (hp : 0 < p) (hq : 0 < q) (h : p * q < 2 * BB) : floatBits .mul .f64 (iw p) (iw q) = some (iw (p * q)) := by
  have hp2 : p < 2 * BB := Nat.lt_of_le_of_lt (Nat.le_mul_of_pos_right _ hq) h
  have hq2 : q < 2 * BB := Nat.lt_of_le_of_lt (Nat.le_mul_of_pos_left _ hp) h
  obtain ⟨a1, a2⟩ := V_iw' hp2
  obtain ⟨b1, b2⟩ := V_iw' hq2
  obtain ⟨c1, c2⟩ := V_iw' h
  obtain ⟨g, P, g1, g2, g3, g4⟩ := mul_rnd a1 b1 (by rw [a2]; exact Nat.le_mul_of_pos_left _ hp) (by rw [b2]; exact Nat.le_mul_of_pos_left _ hq)
  have hP : P = V BB (iw (p * q)) := by
    refine Nat.eq_of_mul_eq_mul_right U_pos ?_
    rw [g4, a2, b2, c2]
    simp only [Nat.mul_left_comm, Nat.mul_comm]
  rw [hP] at g3
  rw [g1, Rnd_uniq g2 c1 g3]

theorem cut_le (n d k : Nat) (hk : 0 < k) (h : n < k * 2 ^ d) : Ieee.Toward.even.cut false n d ≤ k := by
  unfold Ieee.Toward.cut
  simp only [Nat.shiftLeft_eq, Nat.one_mul]
  have hb : ∀ b : Bool, b.toNat ≤ 1 := fun b => by cases b <;> simp
  rcases Nat.lt_or_ge d (n.log2 + 2) with a | a
  · rw [Nat.min_eq_left (by omega)]
    have : n / 2 ^ d < k := (Nat.div_lt_iff_lt_mul (Nat.two_pow_pos _)).2 h
    exact Nat.le_trans (Nat.add_le_add_left (hb _) _) (by omega)
  · rw [Nat.min_eq_right a]
    have l : n < 2 ^ (n.log2 + 1) := Nat.lt_log2_self
    have p1 : 2 ^ (n.log2 + 1) ≤ 2 ^ (n.log2 + 2) := Nat.pow_le_pow_right (by decide) (by omega)
    have : n / 2 ^ (n.log2 + 2) = 0 := Nat.div_eq_of_lt (by omega)
    exact Nat.le_trans (Nat.add_le_add_left (hb _) _) (by omega)
theorem nearest_le (mag : Nat) (place : Int) : Ieee.double.nearest false mag place ≤ infR := by
  have e3 : Ieee.double.infRung = infR := by decide +kernel
  have hw : ∀ r, Ieee.double.word false r = r := fun r => by simp [Ieee.Format.word]
  unfold Ieee.Format.nearest
  simp only [hw, e3]
  split
  · exact Nat.zero_le _
  · exact Nat.min_le_right _ _
theorem nearest_fin (mag : Nat) (place : Int) (h : place + (mag.log2 : Int) ≤ 900) : Ieee.double.nearest false mag place < infR := by
  have e2 : Ieee.double.binade = BB := by decide +kernel
  have e3 : Ieee.double.infRung = infR := by decide +kernel
  have e4 : Ieee.double.fractionBits = 52 := rfl
  have hL : Ieee.double.leastPlace = -1074 := by decide +kernel
  have hB2 : 2 * BB = 2 ^ 53 := by decide
  have hw : ∀ r, Ieee.double.word false r = r := fun r => by simp [Ieee.Format.word]
  unfold Ieee.Format.nearest
  rw [e2, e3, e4, hL]
  simp only [hw]
  split
  · decide
  · have l2 : mag < 2 ^ (mag.log2 + 1) := Nat.lt_log2_self
    generalize mag.log2 = lg at *
    generalize hlast : max (place + (lg : Int) - ((52 : Nat) : Int)) (-1074) = last
    have hk : Ieee.Toward.even.cut false (mag <<< (place - last).toNat) (last - place).toNat ≤ 2 * BB := by
      rw [Nat.shiftLeft_eq]
      refine cut_le _ _ _ (by decide) ?_
      rw [hB2, ← Nat.pow_add]
      refine Nat.lt_of_lt_of_le (Nat.mul_lt_mul_of_pos_right l2 (Nat.two_pow_pos _)) ?_
      rw [← Nat.pow_add]
      exact Nat.pow_le_pow_right (by decide) (by omega)
    have i1 : infR = 2047 * BB := by decide
    have i2 : (last - -1074).toNat * BB ≤ 1922 * BB := Nat.mul_le_mul_right _ (by omega)
    refine Nat.lt_of_le_of_lt (Nat.min_le_left _ _) ?_
    rw [i1]
    have := BB_pos
    omega
/-- A float that is no infinity, nor below nought, times a unit: valid; finite where it is below 2^60. -/
theorem mul_unit {r u M : Nat} {b : Int} (hr : r ≤ infR) (hu : Ieee.double.read u = .number false M b) (hM : 0 < M) (hM2 : M < 2 * BB) (hb : b ≤ 0) :
    ∃ v, floatBits .mul .f64 r u = some v ∧ v ≤ infR ∧ (V BB r < 2 ^ 60 * U → r < infR → v < infR) := by
  show ∃ v, Ieee.double.mul r u = some v ∧ _
  unfold Ieee.Format.mul
  rw [hu]
  rcases Nat.lt_or_ge r infR with h | h
  · obtain ⟨N, a, h1, h2, h3, _, h4⟩ := read_fin h
    rw [h1]
    have hxor : (false ^^ false) = false := rfl
    simp only [Ieee.Datum.product, Option.map_some, Ieee.Format.write, hxor]
    refine ⟨_, rfl, nearest_le _ _, fun hv _ => nearest_fin _ _ ?_⟩
    obtain ⟨E, hE⟩ : ∃ E : Nat, E = 1074 := ⟨_, rfl⟩
    rw [U_def hE, ← h2] at hv
    have hL : Ieee.double.leastPlace = -1074 := by decide +kernel
    rcases Nat.eq_zero_or_pos N with e | e
    · subst e
      simp only [Nat.zero_mul, Nat.log2_zero]
      rw [hL]
      have : a = 0 := by
        rcases h4 with h | h
        · have := BB_pos; omega
        · exact h
      omega
    · have c1 : (N * M).log2 + a < 53 + (60 + E) := by
        have hl : 2 ^ (N * M).log2 ≤ N * M := Nat.log2_self_le (Nat.ne_of_gt (Nat.mul_pos e hM))
        have hB2 : 2 * BB = 2 ^ 53 := by decide
        have c2 : 2 ^ ((N * M).log2 + a) < 2 ^ (53 + (60 + E)) := by
          rw [Nat.pow_add, Nat.pow_add 2 53, Nat.pow_add 2 60]
          calc 2 ^ (N * M).log2 * 2 ^ a ≤ N * M * 2 ^ a := Nat.mul_le_mul_right _ hl
            _ = M * (N * 2 ^ a) := by rw [Nat.mul_comm N M, Nat.mul_assoc]
            _ < M * (2 ^ 60 * 2 ^ E) := Nat.mul_lt_mul_of_pos_left hv hM
            _ ≤ 2 ^ 53 * (2 ^ 60 * 2 ^ E) := Nat.mul_le_mul_right _ (by omega)
        exact (Nat.pow_lt_pow_iff_right (by decide)).1 c2
      rw [hL]
      omega
  · have : r = infR := by omega
    subst this
    have hi : Ieee.double.read infR = .infinity false := by decide +kernel
    rw [hi]
    have hxor : (false ^^ false) = false := rfl
    have e3 : Ieee.double.infRung = infR := by decide +kernel
    have hw : ∀ r, Ieee.double.word false r = r := fun r => by simp [Ieee.Format.word]
    simp only [Ieee.Datum.product, if_neg (Nat.ne_of_gt hM), Option.map_some, Ieee.Format.write, hxor, hw, e3]
    exact ⟨_, rfl, Nat.le_refl _, fun _ hh => absurd hh (by omega)⟩
theorem quo_gen {y x m c N a : Nat} (hy : Ieee.double.read y = .number false m (Ieee.double.leastPlace + (c : Nat))) (hm1 : BB ≤ m) (hm2 : m < 2 * BB) (hx : Ieee.double.read x = .number false N (Ieee.double.leastPlace + (a : Nat))) (h0 : 0 < N) (h1 : N < 2 * BB) (ha : a + 56 ≤ c + 1074) :
    ∃ g, floatBits .quo .f64 y x = some g ∧ g ≤ infR ∧ Rnd g (m * 2 ^ (c + 1074 - a)) N := by
  show ∃ g, Ieee.double.div y x = some g ∧ _
  unfold Ieee.Format.div
  rw [hy, hx]
  have hmC : m.log2 = 52 := by
    have hb : BB = 2 ^ 52 := by decide
    rw [hb] at hm1 hm2
    have l1 := (Nat.le_log2 (n := m) (k := 52) (by omega)).2 hm1
    have l2 := (Nat.log2_lt (n := m) (k := 53) (by omega)).2 (by omega)
    omega
  have hfb : Ieee.double.fractionBits + 2 = 54 := rfl
  have hBB : BB = 2 ^ 52 := by decide
  have hlog : N.log2 < 53 := (Nat.log2_lt (by omega)).2 (by rw [hBB] at h1; exact h1)
  have hNl : N < 2 ^ (N.log2 + 1) := Nat.lt_log2_self
  simp only [Ieee.Datum.quotient, if_neg (Nat.ne_of_gt h0), hmC, hfb, Option.map_some, Ieee.Format.write, Nat.shiftLeft_eq]
  obtain ⟨lg, hlg⟩ : ∃ lg, lg = N.log2 := ⟨_, rfl⟩
  rw [← hlg] at hlog hNl ⊢
  have hmore : 54 + lg - 52 = lg + 2 := by omega
  rw [hmore]
  generalize hD : m * 2 ^ (lg + 2) = D
  have hplace : Ieee.double.leastPlace + (c : Int) - (Ieee.double.leastPlace + (a : Int)) - ((lg + 2 : Nat) : Int) - 1 = Ieee.double.leastPlace + ((c + 1071 - a - lg : Nat) : Int) := by
    have : Ieee.double.leastPlace = -1074 := by decide +kernel
    omega
  rw [hplace]
  obtain ⟨f, hf⟩ : ∃ f, f = c + 1071 - a - lg := ⟨_, rfl⟩
  rw [← hf]
  have hP : m * 2 ^ (c + 1074 - a) = D * 2 ^ (f + 1) := by
    rw [← hD, Nat.mul_assoc, ← Nat.pow_add]
    congr 2
    omega
  rw [hP]
  have hmCl : 2 ^ 52 ≤ m := by rw [hBB] at hm1; exact hm1
  have hDN : 2 ^ 53 * N ≤ D := by
    have : 2 ^ 53 * 2 ^ (lg + 1) ≤ D := by
      rw [← hD, ← Nat.pow_add, show 53 + (lg + 1) = 52 + (lg + 2) from by omega, Nat.pow_add]
      exact Nat.mul_le_mul_right _ hmCl
    exact Nat.le_trans (Nat.mul_le_mul_left _ (by omega)) this
  have hQ : 2 ^ 53 ≤ D / N := (Nat.le_div_iff_mul_le h0).2 hDN
  have dm := Nat.div_add_mod D N
  have ml := Nat.mod_lt D h0
  generalize D / N = Q at *
  generalize D % N = r at *
  obtain ⟨s, hs, hs2⟩ : ∃ s, (r != 0).toNat = s ∧ ((s = 0 ∧ r = 0) ∨ (s = 1 ∧ 0 < r)) := by
    refine ⟨_, rfl, ?_⟩
    by_cases h : r = 0
    · left; simp [h]
    · right; simp [h]; omega
  rw [hs]
  have hmag : 2 ^ 54 ≤ 2 * Q + s := by
    have : (2 : Nat) ^ 54 = 2 * 2 ^ 53 := by decide
    omega
  obtain ⟨k, d, hd, hn, b1, b2, k1, k2, k3⟩ := nearest_round (2 * Q + s) f hmag
  have hxor : (false ^^ false) = false := rfl
  rw [hxor]
  refine ⟨_, rfl, ?_, ?_⟩
  · rw [hn]; exact Nat.min_le_right _ _
  · rw [hn]
    obtain ⟨cc, hc⟩ : ∃ cc, d = cc + 2 := ⟨d - 2, by omega⟩
    have p4 : 2 ^ d = 4 * 2 ^ cc := by rw [hc, Nat.pow_add]; omega
    rw [p4] at k1 k2 k3
    obtain ⟨u, hu⟩ : ∃ u, u = 2 ^ cc := ⟨_, rfl⟩
    rw [← hu] at k1 k2 k3 p4
    obtain ⟨t, ht⟩ : ∃ t, t = 2 ^ (f + d) := ⟨_, rfl⟩
    have ht2 : 2 ^ (f + 1) * (2 * u) = t := by
      rw [ht, hc, hu, ← Nat.pow_succ', ← Nat.pow_add]
      congr 1
      omega
    have hB : 0 < BB := by decide
    obtain ⟨z, hz⟩ : ∃ z, z = 2 ^ (f + 1) := ⟨_, rfl⟩
    rw [← hz] at ht2 ⊢
    have hV : V BB ((f + d) * BB + k) = k * t := by rw [V_at b1 b2, ht]
    have hV1 : (k + 1) * t ≤ V BB ((f + d) * BB + k + 1) := by rw [ht]; exact V_next b1 b2
    have upper : 2 * (D * z) ≤ (V BB ((f + d) * BB + k) + V BB ((f + d) * BB + k + 1)) * N := by
      have hW : D ≤ N * ((2 * k + 1) * u) := by
        have w1 : (2 * k + 1) * (4 * u) = 4 * ((2 * k + 1) * u) := Nat.mul_left_comm ..
        rw [w1] at k1
        generalize (2 * k + 1) * u = W at *
        rcases hs2 with ⟨rfl, rfl⟩ | ⟨rfl, hr⟩
        · rw [← dm, Nat.add_zero]; exact Nat.mul_le_mul_left _ (by omega)
        · have : N * (Q + 1) ≤ N * W := Nat.mul_le_mul_left _ (by omega)
          rw [Nat.mul_add] at this
          omega
      have e1 : 2 * (N * ((2 * k + 1) * u) * z) = (2 * k + 1) * t * N := by
        rw [← ht2]
        simp only [Nat.mul_left_comm, Nat.mul_comm]
      have e2 : 2 * (D * z) ≤ 2 * (N * ((2 * k + 1) * u) * z) := Nat.mul_le_mul_left _ (Nat.mul_le_mul_right _ hW)
      have e3 : (2 * k + 1) * t ≤ V BB ((f + d) * BB + k) + V BB ((f + d) * BB + k + 1) := by
        rw [hV]
        have : (2 * k + 1) * t = k * t + (k + 1) * t := by rw [← Nat.add_mul]; congr 1; omega
        omega
      exact Nat.le_trans e2 (by rw [e1]; exact Nat.mul_le_mul_right _ e3)
    have lower : (V BB ((f + d) * BB + k - 1) + V BB ((f + d) * BB + k)) * N ≤ 2 * (D * z) := by
      have hQD : N * Q ≤ D := by omega
      rcases Nat.lt_or_ge BB k with h | h
      · have hV2 : V BB ((f + d) * BB + k - 1) = (k - 1) * t := by rw [V_prev h b2, ht]
        obtain ⟨j, hj⟩ : ∃ j, k = j + 1 := ⟨k - 1, by omega⟩
        have w1 : (2 * j + 1) * u ≤ Q := by
          rw [hj] at k2
          have : 2 * (j + 1) * (4 * u) = 4 * ((2 * j + 1) * u) + 4 * u := by
            rw [Nat.mul_add, Nat.add_mul, Nat.add_mul, Nat.mul_add]
            have : 2 * j * (4 * u) = 4 * (2 * j * u) := Nat.mul_left_comm ..
            omega
          rw [this] at k2
          generalize (2 * j + 1) * u = W at *
          omega
        have e1 : (V BB ((f + d) * BB + k - 1) + V BB ((f + d) * BB + k)) * N = 2 * (N * ((2 * j + 1) * u) * z) := by
          rw [hV2, hV, hj, Nat.add_sub_cancel, ← Nat.add_mul, show j + (j + 1) = 2 * j + 1 from by omega, ← ht2]
          simp only [Nat.mul_left_comm, Nat.mul_comm, Nat.mul_assoc]
        rw [e1]
        exact Nat.mul_le_mul_left _ (Nat.mul_le_mul_right _ (Nat.le_trans (Nat.mul_le_mul_left _ w1) hQD))
      · have hk : k = BB := by omega
        have w1 : BB * (2 * u) ≤ Q := by
          have : BB * (4 * u) = 2 * (BB * (2 * u)) := by rw [Nat.mul_left_comm 2 BB]; congr 1; omega
          rw [this] at k3
          generalize BB * (2 * u) = W at *
          omega
        have m1 : V BB ((f + d) * BB + k - 1) ≤ V BB ((f + d) * BB + k) := V_le hB (by omega)
        have e1 : V BB ((f + d) * BB + k) * N = N * (BB * (2 * u)) * z := by
          rw [hV, hk, ← ht2]
          simp only [Nat.mul_left_comm, Nat.mul_comm]
        have e2 : N * (BB * (2 * u)) * z ≤ D * z := Nat.mul_le_mul_right _ (Nat.le_trans (Nat.mul_le_mul_left _ w1) hQD)
        have e3 : (V BB ((f + d) * BB + k - 1) + V BB ((f + d) * BB + k)) * N ≤ (V BB ((f + d) * BB + k) + V BB ((f + d) * BB + k)) * N := Nat.mul_le_mul_right _ (by omega)
        rw [Nat.add_mul (V BB ((f + d) * BB + k))] at e3
        omega
    generalize (f + d) * BB + k = g at *
    rcases Nat.lt_or_ge infR g with h | h
    · rw [Nat.min_eq_right (by omega)]
      refine ⟨fun _ => Nat.le_trans (Nat.mul_le_mul_right _ ?_) lower, fun hh => absurd hh (by omega)⟩
      have m1 : V BB (infR - 1) ≤ V BB (g - 1) := V_le hB (by omega)
      have m2 : V BB infR ≤ V BB g := V_le hB (by omega)
      omega
    · rw [Nat.min_eq_left h]
      exact ⟨fun _ => lower, fun _ => upper⟩
end Go.Proofs.YtbaamcjdofccjaaDoor
