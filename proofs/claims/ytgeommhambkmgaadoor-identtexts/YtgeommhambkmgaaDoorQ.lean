/- From the rows' condition on the library's variables to what the walks ask of the world. -/
import Derived.Test.YtgeommhambkmgaaDoorRows
import Derived.Test.YtgeommhambkmgaaDoorK
import Derived.Lib.LaidU8
import Derived.LaidMore
namespace Go.Proofs.YtgeommhambkmgaaDoor
open Go.RowKit Go.Lib

theorem gb5 : Tryd.prog.globalNamed "math/bits.deBruijn64tab" = some 5 := by kernel_rfl
theorem gb5t : (Tryd.prog.globals[5]?).map (·.type) = some 103 := by kernel_rfl
theorem var_cell {W : World} {n : String} {g : Nat} {v : Value} {cs : Array Value} (hg : Tryd.prog.globalNamed n = some g) (h : W.var? Tryd.prog n = some cs) (i : Nat) (hv : cs[i]? = some v) : W.cell? ⟨g, i, none⟩ = some v := by
  rw [← hv]; exact World.var?_cell hg h i
theorem env_of {W : World} (h : VarReads Tryd.prog W "math/bits.deBruijn64tab" Rows.laid_math_bits_deBruijn64tab) : Env W := by
  obtain ⟨g, t, cs, fuel, p, h1, h2, h3, h4⟩ := h
  obtain rfl := Option.some.inj (gb5.symm.trans h1)
  obtain rfl := Option.some.inj (gb5t.symm.trans h2)
  obtain ⟨xs, m, _, hx, hl, hxl, hall⟩ := DataW.trod_array Tryd.underlying103 h4
  have hk1 := hall 15 (by omega)
  unfold Rows.laid_math_bits_deBruijn64tab at hx
  simp only [Prod.mk.injEq, DataW.agg.injEq] at hx
  obtain ⟨hx, _⟩ := hx
  have hx15 : xs[15]? = some (xs[15]'(by omega)) := List.getElem?_eq_getElem _
  rw [hx15] at hk1
  obtain ⟨z, hc, hz, _⟩ := DataW.trod_int (k := .u8) (by first | exact Tryd.underlying5 | kernel_rfl) hk1
  have e : z = 4 := by
    have := congrArg (·[15]?) hx
    simp only [List.getElem?_map, hx15, Option.map_some, hz] at this
    simpa using this.symm
  subst e
  refine var_cell gb5 h3 15 ?_
  have := congrArg (·[0]?) hc
  simpa [List.getElem?_take, List.getElem?_drop, c5] using this
end Go.Proofs.YtgeommhambkmgaaDoor
