/- What the place of the least element is worth: no element comes ahead of it, and of those that are like it, it is the first one. -/
import Derived.Test.YtidgdanhnpfpmaaI
namespace Go.Proofs.Ytidgdanhnpfpmaa
open Go.RowKit Go.Sort

theorem cmpV_neg (r c b p r' c' b' p' : Int) : cmpV r c b p r' c' b' p' < 0 ↔ r < r' ∨ (r = r' ∧ (c < c' ∨ (c = c' ∧ (b < b' ∨ (b = b' ∧ p < p'))))) := by
  have hs : ∀ x y : Int, sgn x y < 0 ↔ x < y := fun x y => by
    have := sgn_neg x y
    simpa [decide_eq_decide] using this
  by_cases h0 : r = r'
  · subst h0
    by_cases h1 : c = c'
    · subst h1
      by_cases h2 : b = b'
      · subst h2
        rw [cmpV_p, hs]; omega
      · rw [cmpV_b _ _ _ _ _ _ h2, hs]; omega
    · rw [cmpV_c _ _ _ _ _ _ _ h1, hs]; omega
  · rw [cmpV_r _ _ _ _ _ _ _ _ h0, hs]; omega
theorem cmpV_zero {r c b p r' c' b' p' : Int} (h : cmpV r c b p r' c' b' p' = 0) : r = r' ∧ c = c' ∧ b = b' ∧ p = p' := by
  by_cases h0 : r = r'
  · subst h0
    by_cases h1 : c = c'
    · subst h1
      by_cases h2 : b = b'
      · subst h2
        by_cases h3 : p = p'
        · subst h3; exact ⟨rfl, rfl, rfl, rfl⟩
        · rw [cmpV_p] at h; exact (sgn_ne h3 h).elim
      · rw [cmpV_b _ _ _ _ _ _ h2] at h; exact (sgn_ne h2 h).elim
    · rw [cmpV_c _ _ _ _ _ _ _ h1] at h; exact (sgn_ne h1 h).elim
  · rw [cmpV_r _ _ _ _ _ _ _ _ h0] at h; exact (sgn_ne h0 h).elim

variable {R C G P Q : Nat → Nat}
/-- The vector at i comes ahead of that at j. -/
def lexA (R C G P : Nat → Nat) (i j : Nat) : Prop := R i < R j ∨ (R i = R j ∧ (C i < C j ∨ (C i = C j ∧ (G i < G j ∨ (G i = G j ∧ P i < P j)))))
/-- The vectors at i and j are alike. -/
def sameA (R C G P : Nat → Nat) (i j : Nat) : Prop := R i = R j ∧ C i = C j ∧ G i = G j ∧ P i = P j
theorem lexA_iff (i j : Nat) : cmpV (R i) (C i) (G i) (P i) (R j) (C j) (G j) (P j) < 0 ↔ lexA R C G P i j := by
  rw [cmpV_neg]; unfold lexA; omega
theorem sameA_self {i j : Nat} (h : sameA R C G P i j) : cmpV (R i) (C i) (G i) (P i) (R j) (C j) (G j) (P j) = 0 := by
  obtain ⟨h0, h1, h2, h3⟩ := h
  rw [h0, h1, h2, h3, cmpV_p, sgn_same]
theorem sameA_of {i j : Nat} (h : cmpV (R i) (C i) (G i) (P i) (R j) (C j) (G j) (P j) = 0) : sameA R C G P i j := by
  obtain ⟨h0, h1, h2, h3⟩ := cmpV_zero h
  exact ⟨by omega, by omega, by omega, by omega⟩
theorem cmpE_neg (i j : Nat) : cmpE R C G P Q i j < 0 ↔ lexA R C G P i j ∨ (sameA R C G P i j ∧ Q i < Q j) := by
  have hs : ∀ x y : Int, sgn x y < 0 ↔ x < y := fun x y => by
    have := sgn_neg x y
    simpa [decide_eq_decide] using this
  unfold cmpE orL
  by_cases h : cmpV (R i) (C i) (G i) (P i) (R j) (C j) (G j) (P j) = 0
  · rw [if_pos h]
    have hn : ¬ lexA R C G P i j := by rw [← lexA_iff]; omega
    have hq := sameA_of h
    unfold orL orL
    have : (if sgn (Q i : Int) (Q j : Int) = 0 then 0 else sgn (Q i : Int) (Q j : Int)) = sgn (Q i : Int) (Q j : Int) := by split <;> simp_all
    rw [this, hs]
    constructor
    · intro k; exact .inr ⟨hq, by omega⟩
    · rintro (k | ⟨_, k⟩)
      · exact (hn k).elim
      · omega
  · rw [if_neg h, lexA_iff]
    constructor
    · exact .inl
    · rintro (k | ⟨k, _⟩)
      · exact k
      · exact (h (sameA_self k)).elim
theorem lexA_tri (i j : Nat) : lexA R C G P i j ∨ lexA R C G P j i ∨ sameA R C G P i j := by unfold lexA sameA; omega
theorem lexA_trans {i j k : Nat} (h : lexA R C G P i j) (h' : lexA R C G P j k) : lexA R C G P i k := by unfold lexA at *; omega
theorem lexA_same {i j k : Nat} (h : lexA R C G P i j) (h' : sameA R C G P j k) : lexA R C G P i k := by unfold lexA sameA at *; omega
theorem same_lexA {i j k : Nat} (h : sameA R C G P i j) (h' : lexA R C G P j k) : lexA R C G P i k := by unfold lexA sameA at *; omega
theorem same_trans {i j k : Nat} (h : sameA R C G P i j) (h' : sameA R C G P j k) : sameA R C G P i k := by unfold sameA at *; omega
theorem same_symm {i j : Nat} (h : sameA R C G P i j) : sameA R C G P j i := by unfold sameA at *; omega
theorem same_refl (i : Nat) : sameA R C G P i i := ⟨rfl, rfl, rfl, rfl⟩
/-- How the least element and any other one stand. -/
def leastE (R C G P Q : Nat → Nat) (j i : Nat) : Prop := lexA R C G P j i ∨ (sameA R C G P j i ∧ (Q j < Q i ∨ (Q j = Q i ∧ j ≤ i)))
theorem bN_least : ∀ {k : Nat}, 0 < k → ∀ i, i < k → leastE R C G P Q (bN R C G P Q k) i
  | 1, _, i, hi => by
    obtain rfl : i = 0 := by omega
    exact .inr ⟨same_refl _, .inr ⟨rfl, Nat.le_refl _⟩⟩
  | k + 2, _, i, hi => by
    have ih := bN_least (k := k + 1) (by omega)
    have hb := bN_lt (R := R) (C := C) (G := G) (P := P) (Q := Q) (k := k + 1) (by omega)
    by_cases h : cmpE R C G P Q (k + 1) (bN R C G P Q (k + 1)) < 0
    · rw [bN_take (by omega) h]
      rw [cmpE_neg] at h
      generalize bN R C G P Q (k + 1) = j at *
      by_cases hik : i = k + 1
      · subst hik; exact .inr ⟨same_refl _, .inr ⟨rfl, Nat.le_refl _⟩⟩
      · rcases ih i (by omega) with a | ⟨a, a'⟩
        · rcases h with h | ⟨h, _⟩
          · exact .inl (lexA_trans h a)
          · exact .inl (same_lexA h a)
        · rcases h with h | ⟨h, h'⟩
          · exact .inl (lexA_same h a)
          · exact .inr ⟨same_trans h a, .inl (by omega)⟩
    · rw [bN_keep (by omega) h]
      rw [cmpE_neg] at h
      generalize bN R C G P Q (k + 1) = j at *
      by_cases hik : i = k + 1
      · subst hik
        rcases lexA_tri (R := R) (C := C) (G := G) (P := P) (k + 1) j with a | a | a
        · exact (h (.inl a)).elim
        · exact .inl a
        · have : ¬ Q (k + 1) < Q j := fun q => h (.inr ⟨a, q⟩)
          exact .inr ⟨same_symm a, by omega⟩
      · exact ih i (by omega)
theorem lt_of_lex {i j : Nat} (h : lexA R C G P i j) : ltV (R i) (C i) (G i) (P i) (R j) (C j) (G j) (P j) = true := by
  unfold ltV; simpa using (lexA_iff i j).2 h
theorem lt_of_same {i j : Nat} (h : sameA R C G P i j) : ltV (R i) (C i) (G i) (P i) (R j) (C j) (G j) (P j) = false := by
  unfold ltV; rw [sameA_self h]; rfl
theorem eq_of_same {i j : Nat} (h : sameA R C G P i j) : eqV (R j) (C j) (G j) (P j) (R i) (C i) (G i) (P i) = true := by
  obtain ⟨h0, h1, h2, h3⟩ := h
  unfold eqV; simp [h0, h1, h2, h3]
end Go.Proofs.Ytidgdanhnpfpmaa
