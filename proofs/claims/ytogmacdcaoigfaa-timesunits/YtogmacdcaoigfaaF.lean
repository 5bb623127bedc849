/- What TimesUnits reckons with. -/
import Derived.Test.YtogmacdcaoigfaaE
namespace Go.Proofs.Ytogmacdcaoigfaa
open Go.RowKit Go.Sort

theorem unt_nat (n : Int) : ∃ u : Nat, unt n = u ∧ u < 65536 ∧ (0 ≤ n → n ≤ 255 → (u : Int) = 256 * n) := by
  refine ⟨(unt n).toNat, ?_⟩
  unfold unt
  split
  · refine ⟨by omega, by omega, by omega⟩
  · split
    · refine ⟨by omega, by omega, by omega⟩
    · refine ⟨by omega, by omega, by omega⟩
/-- The age of a message, as the law reckons it. -/
theorem age_facts {n : Nat} (hn : n < 65536) : ∃ (Q : Nat) (A : Int), Q < 256 ∧ (((n + 255) / 256 : Nat) : Int) = A ∧ (n : Int) / 256 = Q ∧ ((decide (0 < (n : Int) % 256) = true ∧ A = (Q : Int) + 1) ∨ (decide (0 < (n : Int) % 256) = false ∧ A = Q)) := by
  refine ⟨n / 256, _, by omega, rfl, by omega, ?_⟩
  by_cases h : n % 256 = 0
  · exact .inr ⟨by simp; omega, by omega⟩
  · exact .inl ⟨by simp; omega, by omega⟩
/-- Its hello. -/
theorem hello_facts {n : Nat} (hn : n < 65536) : ∃ (Q : Nat) (X : Int), Q < 256 ∧ ((max (n / 256) 1 : Nat) : Int) = X ∧ (n : Int) / 256 = Q ∧ ((((Q : Int) == 0) = true ∧ X = 1) ∨ (((Q : Int) == 0) = false ∧ X = Q)) := by
  refine ⟨n / 256, _, by omega, rfl, by omega, ?_⟩
  by_cases h : n / 256 = 0
  · exact .inl ⟨by simp; omega, by omega⟩
  · exact .inr ⟨by simp; omega, by omega⟩
theorem down_facts {n : Nat} (hn : n < 65536) : ∃ Q : Nat, Q < 256 ∧ ((n / 256 : Nat) : Int) = Q ∧ (n : Int) / 256 = Q := ⟨n / 256, by omega, rfl, by omega⟩
theorem VarAt.tmCells {w : World} {b : Nat} {x0 x1 x2 x3 : Int} {t : TypeId} (v : VarAt w b (tmC x0 x1 x2 x3) t) : w.cell? ⟨b, 0, none⟩ = some (.int .i64 x0) ∧ w.cell? ⟨b, 1, none⟩ = some (.int .i64 x1) ∧ w.cell? ⟨b, 2, none⟩ = some (.int .i64 x2) ∧ w.cell? ⟨b, 3, none⟩ = some (.int .i64 x3) := ⟨v.cell 0, v.cell 1, v.cell 2, v.cell 3⟩
theorem VarAt.bpCells {w : World} {k f r c b p a m h d : Int} {g : Nat} {t : TypeId} (v : VarAt w g (bpC k f r c b p a m h d) t) : w.cell? ⟨g, 0, none⟩ = some (.int .i64 k) ∧ w.cell? ⟨g, 1, none⟩ = some (.int .u8 f) ∧ w.cell? ⟨g, 2, none⟩ = some (.int .u64 r) ∧ w.cell? ⟨g, 3, none⟩ = some (.int .u32 c) ∧ w.cell? ⟨g, 4, none⟩ = some (.int .u64 b) ∧ w.cell? ⟨g, 5, none⟩ = some (.int .u16 p) ∧ w.cell? ⟨g, 6, none⟩ = some (.int .u16 a) ∧ w.cell? ⟨g, 7, none⟩ = some (.int .u16 m) ∧ w.cell? ⟨g, 8, none⟩ = some (.int .u16 h) ∧ w.cell? ⟨g, 9, none⟩ = some (.int .u16 d) :=
  ⟨v.cell 0, v.cell 1, v.cell 2, v.cell 3, v.cell 4, v.cell 5, v.cell 6, v.cell 7, v.cell 8, v.cell 9⟩
end Go.Proofs.Ytogmacdcaoigfaa
