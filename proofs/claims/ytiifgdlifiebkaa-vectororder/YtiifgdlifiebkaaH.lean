/- VectorOrder's whole call: vectors are ordered as an order should be. -/
import Derived.Test.YtiifgdlifiebkaaG1
import Derived.Test.YtiifgdlifiebkaaG2
import Derived.Test.YtiifgdlifiebkaaG3
import Derived.Test.YtiifgdlifiebkaaG4
namespace Go.Proofs.Ytiifgdlifiebkaa
open Go.RowKit Go.Sort

/-- One vector comes ahead of another one. -/
def lexP (r c b p r' c' b' p' : Int) : Prop := r < r' ∨ (r = r' ∧ (c < c' ∨ (c = c' ∧ (b < b' ∨ (b = b' ∧ p < p')))))
theorem cmpV_lt {r c b p r' c' b' p' : Int} (h : lexP r c b p r' c' b' p') : cmpV r c b p r' c' b' p' = -1 := by
  rcases h with h | ⟨rfl, h | ⟨rfl, h | ⟨rfl, h⟩⟩⟩
  · rw [cmpV_r _ _ _ _ _ _ _ _ (by omega), sgn_lt h]
  · rw [cmpV_c _ _ _ _ _ _ _ (by omega), sgn_lt h]
  · rw [cmpV_b _ _ _ _ _ _ (by omega), sgn_lt h]
  · rw [cmpV_p, sgn_lt h]
theorem cmpV_gt {r c b p r' c' b' p' : Int} (h : lexP r' c' b' p' r c b p) : cmpV r c b p r' c' b' p' = 1 := by
  rcases h with h | ⟨rfl, h | ⟨rfl, h | ⟨rfl, h⟩⟩⟩
  · rw [cmpV_r _ _ _ _ _ _ _ _ (by omega), sgn_gt h]
  · rw [cmpV_c _ _ _ _ _ _ _ (by omega), sgn_gt h]
  · rw [cmpV_b _ _ _ _ _ _ (by omega), sgn_gt h]
  · rw [cmpV_p, sgn_gt h]
theorem cmpV_self (r c b p : Int) : cmpV r c b p r c b p = 0 := by rw [cmpV_p, sgn_same]
theorem lex_tri (r c b p r' c' b' p' : Int) : lexP r c b p r' c' b' p' ∨ lexP r' c' b' p' r c b p ∨ (r = r' ∧ c = c' ∧ b = b' ∧ p = p') := by
  unfold lexP; omega
theorem lex_trans {r c b p r' c' b' p' r2 c2 b2 p2 : Int} (h : lexP r c b p r' c' b' p') (k : lexP r' c' b' p' r2 c2 b2 p2) : lexP r c b p r2 c2 b2 p2 := by
  unfold lexP at *; omega
theorem lex_irr {r c b p : Int} (h : lexP r c b p r c b p) : False := by unfold lexP at h; omega
theorem not_pos {r c b p r' c' b' p' : Int} (h : ¬ 0 < cmpV r c b p r' c' b' p') : lexP r c b p r' c' b' p' ∨ (r = r' ∧ c = c' ∧ b = b' ∧ p = p') := by
  rcases lex_tri r c b p r' c' b' p' with k | k | k
  · exact .inl k
  · rw [cmpV_gt k] at h; omega
  · exact .inr k
theorem pos_not {r c b p r' c' b' p' : Int} (h : lexP r c b p r' c' b' p') : ¬ 0 < cmpV r c b p r' c' b' p' := by rw [cmpV_lt h]; omega
theorem eqV_ne {r c b p r' c' b' p' : Int} (h : lexP r c b p r' c' b' p' ∨ lexP r' c' b' p' r c b p) : eqV r c b p r' c' b' p' = false := by
  unfold eqV
  by_cases e : r = r' ∧ c = c' ∧ b = b' ∧ p = p'
  · obtain ⟨rfl, rfl, rfl, rfl⟩ := e
    exact (h.elim lex_irr lex_irr).elim
  · cases h0 : r == r' && (c == c' && (b == b' && p == p'))
    · rfl
    · simp at h0; exact (e h0).elim

theorem order_any (r c b p r' c' b' p' r2 c2 b2 p2 : Nat) (hb : b < 18446744073709551616) (hb' : b' < 18446744073709551616) (hp : p < 65536) (hp' : p' < 65536) (w : World) :
    Calls Try.prog 3 #[vV r c b p, vV r' c' b' p', vV r2 c2 b2 p2] w fun e w' => e = .returned (.bool true) ∧ Below w.heap.size w w' := by
  have cl := less_any r c b p r' c' b' p'
  have cg := less_any r' c' b' p' r c b p
  have cab := compare_any r c b p r' c' b' p'
  have cba := compare_any r' c' b' p' r c b p
  have cbc := compare_any r' c' b' p' r2 c2 b2 p2
  have cac := compare_any r c b p r2 c2 b2 p2
  have crf := refFrom_any r c b p r' c' b' p' hb hb' hp hp'
  have cbt := better_any r c b p r' c' b' p'
  have cfr := from_any r c b p r' c' b' p' hb hb' hp hp'
  have csu := superior_any r c b p r' c' b' p' hb hb' hp hp'
  have q := v_equal r c b p r' c' b' p'
  unfold supV at csu
  unfold ltV at cl cg cbt csu
  generalize frV b p b' p' = F at *
  rcases lex_tri r c b p r' c' b' p' with h | h | ⟨h1, h2, h3, h4⟩
  · rw [cmpV_lt h] at cl cab cbt csu
    rw [cmpV_gt h] at cg cba
    rw [eqV_ne (.inl h)] at q csu
    by_cases hm : 0 < cmpV r' c' b' p' r2 c2 b2 p2
    · exact order_lt_pos r c b p r' c' b' p' r2 c2 b2 p2 _ _ F hm cl cg cab cba cbc cac crf cbt cfr csu q w
    · refine order_lt_neg r c b p r' c' b' p' r2 c2 b2 p2 _ _ F hm ?_ cl cg cab cba cbc cac crf cbt cfr csu q w
      rcases not_pos hm with k | ⟨k1, k2, k3, k4⟩
      · exact pos_not (lex_trans h k)
      · rw [k1, k2, k3, k4] at h; exact pos_not h
  · rw [cmpV_gt h] at cl cab cbt csu
    rw [cmpV_lt h] at cg cba
    rw [eqV_ne (.inr h)] at q csu
    cases F
    · exact order_gt_f r c b p r' c' b' p' r2 c2 b2 p2 _ _ cl cg cab cba cbc cac crf cbt cfr csu q w
    · exact order_gt_t r c b p r' c' b' p' r2 c2 b2 p2 _ _ cl cg cab cba cbc cac crf cbt cfr csu q w
  · obtain rfl : r = r' := by omega
    obtain rfl : c = c' := by omega
    obtain rfl : b = b' := by omega
    obtain rfl : p = p' := by omega
    rw [cmpV_self] at cl cg cab cba cbt csu
    rw [show eqV r c b p r c b p = true by simp [eqV]] at q csu
    rw [Bool.not_true, Bool.and_false] at csu
    by_cases hm : 0 < cmpV r c b p r2 c2 b2 p2
    · cases F
      · exact order_eq_pos_f r c b p r c b p r2 c2 b2 p2 _ _ hm cl cg cab cba cbc cac crf cbt cfr csu q w
      · exact order_eq_pos_t r c b p r c b p r2 c2 b2 p2 _ _ hm cl cg cab cba cbc cac crf cbt cfr csu q w
    · cases F
      · exact order_eq_neg_f r c b p r c b p r2 c2 b2 p2 _ _ hm hm cl cg cab cba cbc cac crf cbt cfr csu q w
      · exact order_eq_neg_t r c b p r c b p r2 c2 b2 p2 _ _ hm hm cl cg cab cba cbc cac crf cbt cfr csu q w
end Go.Proofs.Ytiifgdlifiebkaa
