/- What came in: numbers, places. -/
import Derived.Test.YtjfdochceejegaaDoorX
import Derived.Deep.Slices
import Derived.ChangeSlices
namespace Go.Proofs.YtjfdochceejegaaDoor
open Go.RowKit Go.Lib
open Go.ChangeShapes Go.WideShapes Go.ChangeAt

variable {H : Type} {enc : TypeId × Value → H}
theorem wf16 {n : Int} (h : (Lit.int .u16 n).wf = true) : ∃ k : Nat, n = k ∧ k < 65536 := nat16 (by simpa [Lit.wf] using h)
theorem wf32 {n : Int} (h : (Lit.int .u32 n).wf = true) : ∃ k : Nat, n = k ∧ k < 4294967296 := nat32 (by simpa [Lit.wf] using h)
theorem addN (b o k : Nat) : (⟨b, o, none⟩ : Addr).add k = ⟨b, o + k, none⟩ := by unfold Addr.add; split <;> simp_all
theorem spot_none {w : World} {a : Addr} {v : Value} (h : w.cell? (a.add 0) = some v) : a = ⟨a.block, a.off, none⟩ := by
  have := World.cell?_spot h
  obtain ⟨b, o, s⟩ := a
  have : s = none := by simpa [Addr.add] using this
  rw [this]
end Go.Proofs.YtjfdochceejegaaDoor
