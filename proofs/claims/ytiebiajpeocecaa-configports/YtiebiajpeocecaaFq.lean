/- Plain facts of the floats: what is nearest. -/
import Derived.Test.YtiebiajpeocecaaFo
import Derived.Test.YtiebiajpeocecaaFa
namespace Go.Proofs.Ytiebiajpeocecaa
open Go

theorem cut_none0 (neg : Bool) (n : Nat) : Ieee.Toward.even.cut neg n 0 = n := by
  unfold Ieee.Toward.cut
  simp [Nat.mod_one]
theorem nearest_pos (mag e : Nat) (hm : 0 < mag) : 0 < Ieee.double.nearest false mag (Ieee.double.leastPlace + (e : Int)) ∧ Ieee.double.nearest false mag (Ieee.double.leastPlace + (e : Int)) ≤ infR := by
  have e2 : Ieee.double.binade = BB := by decide +kernel
  have e3 : Ieee.double.infRung = infR := by decide +kernel
  have hB : 0 < BB := by decide
  have hi : 0 < infR := by decide
  unfold Ieee.Format.nearest
  rw [if_neg (by omega), e2, e3]
  generalize Ieee.double.leastPlace = L
  simp only [Ieee.Format.word, Bool.false_eq_true, if_false]
  refine ⟨?_, Nat.min_le_right _ _⟩
  rw [Nat.lt_min]
  refine ⟨?_, hi⟩
  generalize hlast : max (L + (e : Int) + (mag.log2 : Int) - (Ieee.double.fractionBits : Int)) L = last
  by_cases h : last = L
  · have hd : (last - (L + (e : Int))).toNat = 0 := by omega
    rw [hd, cut_none0, h, Nat.shiftLeft_eq]
    have : 0 < 2 ^ ((L + (e : Int)) - L).toNat := Nat.two_pow_pos _
    have := Nat.mul_pos hm this
    omega
  · have h1 : 1 ≤ (last - L).toNat := by omega
    have : BB ≤ (last - L).toNat * BB := Nat.le_mul_of_pos_left _ h1
    omega
theorem rt_iff (b : Nat) : rt b = true ↔ neg b = false ∧ 0 < rung b ∧ rung b < infR := by
  unfold rt
  rw [cmp_gt, cmp_lt, cmp_eq]
  have k0 : key 0 = 0 := by decide
  have n0 : nanB 0 = false := by decide
  have k1 : key 9218868437227405311 = 9218868437227405311 := by decide
  have n1 : nanB 9218868437227405311 = false := by decide
  rw [k0, n0, k1, n1]
  unfold nanB key sg
  have hi : infR = 9218868437227405312 := rfl
  rw [hi]
  generalize neg b = p
  generalize rung b = r
  cases p <;> simp <;> omega
/-- A sum of speeds is nothing, or a speed. -/
def okS (s : Nat) : Prop := s = 0 ∨ rt s = true
theorem okS_read {s : Nat} (h : okS s) : ∃ M a, Ieee.double.read s = .number false M (Ieee.double.leastPlace + (a : Nat)) := by
  rcases h with rfl | h
  · exact ⟨0, 0, by decide +kernel⟩
  · rw [rt_iff] at h
    rcases read_cases s with ⟨h1, M, a, hx, _⟩ | ⟨h1, _⟩ | ⟨h1, _⟩
    · exact ⟨M, a, by rw [hx, h.1]⟩
    · omega
    · omega
theorem rt_read {x : Nat} (h : rt x = true) : ∃ M a, Ieee.double.read x = .number false M (Ieee.double.leastPlace + (a : Nat)) ∧ 0 < M ∧ M * 2 ^ a = V BB (rung x) := by
  rw [rt_iff] at h
  rcases read_cases x with ⟨h1, M, a, hx, hM⟩ | ⟨h1, _⟩ | ⟨h1, _⟩
  · refine ⟨M, a, by rw [hx, h.1], ?_, hM⟩
    rcases Nat.eq_zero_or_pos M with e | e
    · exfalso
      have hv := V_lt (B := BB) (r := 0) (r' := rung x) (by decide) h.2.1
      rw [← hM, e] at hv
      simp at hv
    · exact e
  · omega
  · omega
theorem add_pos {s x : Nat} (hs : okS s) (hx : rt x = true) : ∃ t, floatBits .add .f64 s x = some t ∧ 0 < t ∧ t ≤ infR := by
  obtain ⟨M, a, h1⟩ := okS_read hs
  obtain ⟨N, b, h2, hN, _⟩ := rt_read hx
  show ∃ t, Ieee.double.add s x = some t ∧ _
  unfold Ieee.Format.add
  rw [h1, h2]
  simp only [Ieee.Datum.sum, Option.map_some, Ieee.Format.write]
  generalize hL : Ieee.double.leastPlace = L
  have hmin : min (L + (a : Int)) (L + (b : Int)) = L + ((min a b : Nat) : Int) := by omega
  rw [hmin]
  have e1 : Ieee.signed false M (L + (a : Int) - (L + ((min a b : Nat) : Int))).toNat + Ieee.signed false N (L + (b : Int) - (L + ((min a b : Nat) : Int))).toNat = ((M * 2 ^ (a - min a b) + N * 2 ^ (b - min a b) : Nat) : Int) := by
    rw [signed_sg, signed_sg]
    have x1 : (L + (a : Int) - (L + ((min a b : Nat) : Int))).toNat = a - min a b := by omega
    have x2 : (L + (b : Int) - (L + ((min a b : Nat) : Int))).toNat = b - min a b := by omega
    rw [x1, x2]
    unfold sg
    simp
  rw [e1]
  have hp : 0 < N * 2 ^ (b - min a b) := Nat.mul_pos hN (Nat.two_pow_pos _)
  generalize hT : M * 2 ^ (a - min a b) + N * 2 ^ (b - min a b) = T
  have hT0 : 0 < T := by omega
  rw [if_neg (by omega)]
  have hneg : decide ((T : Int) < 0) = false := by simp
  rw [hneg, Int.natAbs_natCast, ← hL]
  have := nearest_pos T (min a b) hT0
  exact ⟨_, rfl, this⟩
theorem neg_small {t : Nat} (h : t ≤ infR) : neg t = false ∧ rung t = t := by
  have : infR < half := by decide
  have h2 : t < half := by omega
  unfold neg rung
  exact ⟨by rw [Nat.div_eq_of_lt h2]; rfl, Nat.mod_eq_of_lt h2⟩
theorem rt_small {t : Nat} (h0 : 0 < t) (h : t ≤ infR) : rt t = true ↔ t < infR := by
  rw [rt_iff, (neg_small h).1, (neg_small h).2]; simp [h0]
end Go.Proofs.Ytiebiajpeocecaa
