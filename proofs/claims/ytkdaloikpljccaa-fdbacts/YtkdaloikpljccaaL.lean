/- AddrNumbers returns true for every two addresses and every number, and turns nothing that was there. -/
import Derived.Test.YtkdaloikpljccaaC
namespace Go.Proofs.Ytkdaloikpljccaa
open Go.RowKit Go.Sort

theorem ofN_lt (n i : Nat) : ofN n i < 256 := Nat.mod_lt _ (by omega)
theorem pref6 (x : Nat → Nat) : pref x 6 = 1099511627776 * x 0 + 4294967296 * x 1 + 16777216 * x 2 + 65536 * x 3 + 256 * x 4 + x 5 := by
  simp only [pref]; omega
theorem pref6_lt {x : Nat → Nat} (hx : ∀ i, x i < 256) : pref x 6 < 281474976710656 := pref_lt hx 6
theorem pref_ofN (n : Nat) : pref (ofN n) 6 = n % 281474976710656 := by
  rw [pref6]
  unfold ofN
  simp only [Nat.sub_self, Nat.reduceSub, Nat.reducePow, Nat.pow_zero]
  omega
theorem ofN_pref {x : Nat → Nat} (hx : ∀ i, x i < 256) : macV (ofN (pref x 6)) = macV x := by
  have h0 := hx 0; have h1 := hx 1; have h2 := hx 2; have h3 := hx 3; have h4 := hx 4; have h5 := hx 5
  have e0 : ofN (pref x 6) 0 = x 0 := by rw [pref6]; unfold ofN; simp only [Nat.reduceSub, Nat.reducePow]; omega
  have e1 : ofN (pref x 6) 1 = x 1 := by rw [pref6]; unfold ofN; simp only [Nat.reduceSub, Nat.reducePow]; omega
  have e2 : ofN (pref x 6) 2 = x 2 := by rw [pref6]; unfold ofN; simp only [Nat.reduceSub, Nat.reducePow]; omega
  have e3 : ofN (pref x 6) 3 = x 3 := by rw [pref6]; unfold ofN; simp only [Nat.reduceSub, Nat.reducePow]; omega
  have e4 : ofN (pref x 6) 4 = x 4 := by rw [pref6]; unfold ofN; simp only [Nat.reduceSub, Nat.reducePow]; omega
  have e5 : ofN (pref x 6) 5 = x 5 := by rw [pref6]; unfold ofN; simp only [Nat.sub_self, Nat.pow_zero]; omega
  unfold macV
  rw [e0, e1, e2, e3, e4, e5]
/-- The first byte's last bit is the number's bit 40. -/
theorem grouped_bit {x : Nat → Nat} (hx : ∀ i, x i < 256) : ((x 0 : Int) % 2 == 1) = ((pref x 6 : Int) / 1099511627776 % 2 == 1) := by
  have h0 := hx 0; have h1 := hx 1; have h2 := hx 2; have h3 := hx 3; have h4 := hx 4; have h5 := hx 5
  have e : (pref x 6 : Int) / 1099511627776 = x 0 := by rw [pref6]; omega
  rw [e]
/-- The reserved addresses are sixteen numbers in a row. -/
theorem reserved_range {x : Nat → Nat} (hx : ∀ i, x i < 256) : resB x = decide (1652522221568 ≤ pref x 6 ∧ pref x 6 < 1652522221584) := by
  have h0 := hx 0; have h1 := hx 1; have h2 := hx 2; have h3 := hx 3; have h4 := hx 4; have h5 := hx 5
  rw [Bool.eq_iff_iff, decide_eq_true_eq, pref6]
  unfold resB resX
  simp
  omega
end Go.Proofs.Ytkdaloikpljccaa
