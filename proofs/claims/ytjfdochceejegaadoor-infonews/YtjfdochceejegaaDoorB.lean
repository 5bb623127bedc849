/- Contracts of vector.Compare and Better, the reference's Less; equality of vectors. -/
import Derived.Test.YtjfdochceejegaaDoorA
namespace Go.Proofs.YtjfdochceejegaaDoor
open Go.RowKit Go.Sort

/-- A vector's cells, and a vector. -/
abbrev vC (r c b p : Int) : Array Value := #[.int .u64 r, .int .u32 c, .int .u64 b, .int .u16 p]
abbrev vV (r c b p : Int) : Value := .agg (vC r c b p)
theorem VarAt.v {w : World} {n : Nat} {r c b p : Int} {t : TypeId} (x : VarAt w n (vC r c b p) t) :
    w.cell? ⟨n, 0, none⟩ = some (.int .u64 r) ∧ w.cell? ⟨n, 1, none⟩ = some (.int .u32 c) ∧ w.cell? ⟨n, 2, none⟩ = some (.int .u64 b) ∧ w.cell? ⟨n, 3, none⟩ = some (.int .u16 p) :=
  ⟨x.cell 0, x.cell 1, x.cell 2, x.cell 3⟩

/-- How two vectors stand. -/
def cmpV (r c b p r' c' b' p' : Int) : Int := orL [sgn r r', sgn c c', sgn b b', sgn p p']

theorem l4_cells (b : Nat) (x0 x1 x2 x3 : Int) (w : World) (h : VarAt w b #[.int .i64 x0, .int .i64 x1, .int .i64 x2, .int .i64 x3] 3) : ∀ (k : Nat) (a : Int), [x0, x1, x2, x3][k]? = some a → w.cell? ⟨b, k, none⟩ = some (.int .i64 a) := by
  intro k a hk
  rw [h.cell]
  match k, hk with
  | 0, hk => simp at hk; subst hk; rfl
  | 1, hk => simp at hk; subst hk; rfl
  | 2, hk => simp at hk; subst hk; rfl
  | 3, hk => simp at hk; subst hk; rfl
  | k + 4, hk => simp at hk

theorem sgn_ne {x y : Int} (h : x ≠ y) : sgn x y ≠ 0 := by unfold sgn; (repeat' split) <;> omega
theorem sgn_same (x : Int) : sgn x x = 0 := by unfold sgn; simp
theorem sgn_neg (x y : Int) : (decide (sgn x y < 0)) = decide (x < y) := by
  unfold sgn; by_cases h : x < y
  · simp [h]
  · by_cases h2 : y < x <;> simp [h, h2]
section
variable (r c b p r' c' b' p' : Int)
theorem cmpV_r (h : r ≠ r') : cmpV r c b p r' c' b' p' = sgn r r' := by simp [cmpV, orL, sgn_ne h]
theorem cmpV_c (h : c ≠ c') : cmpV r c b p r c' b' p' = sgn c c' := by simp [cmpV, orL, sgn_ne h, sgn_same]
theorem cmpV_b (h : b ≠ b') : cmpV r c b p r c b' p' = sgn b b' := by simp [cmpV, orL, sgn_ne h, sgn_same]
theorem cmpV_p : cmpV r c b p r c b p' = sgn p p' := by
  by_cases h : p = p'
  · subst h; simp [cmpV, orL, sgn_same]
  · simp [cmpV, orL, sgn_ne h, sgn_same]
end
/-- Is a vector better than another one? -/
def ltV (r c b p r' c' b' p' : Int) : Bool := decide (cmpV r c b p r' c' b' p' < 0)

end Go.Proofs.YtjfdochceejegaaDoor
