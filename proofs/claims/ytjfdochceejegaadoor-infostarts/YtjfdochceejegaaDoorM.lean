/- Contract of behind. -/
import Derived.Test.YtjfdochceejegaaDoorL
namespace Go.Proofs.YtjfdochceejegaaDoor
open Go.RowKit Go.Sort
/-- A vector stored into a variable of its own. -/
theorem store4 {w w1 : World} {b : Nat} {r c g p : Int} {t : TypeId} (r' c' g' p' : Int) (h : VarAt w1 b (vC r c g p) t) :
    VarAt ((((w1.setCell ⟨b, 0, none⟩ (.int .u64 r')).setCell ⟨b, 1, none⟩ (.int .u32 c')).setCell ⟨b, 2, none⟩ (.int .u64 g')).setCell ⟨b, 3, none⟩ (.int .u16 p')) b (vC r' c' g' p') t ∧
    ∀ B, B ≤ b → Below B w w1 → Below B w ((((w1.setCell ⟨b, 0, none⟩ (.int .u64 r')).setCell ⟨b, 1, none⟩ (.int .u32 c')).setCell ⟨b, 2, none⟩ (.int .u64 g')).setCell ⟨b, 3, none⟩ (.int .u16 p')) :=
  ⟨(((h.set 0 (.int .u64 r')).set 1 (.int .u32 c')).set 2 (.int .u64 g')).set 3 (.int .u16 p'), fun _ hB hb => (((hb.setCell hB _).setCell hB _).setCell hB _).setCell hB _⟩
end Go.Proofs.YtjfdochceejegaaDoor
