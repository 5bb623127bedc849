/- From the rows condition on the table of powers of ten to what the walks ask of the world. -/
import Derived.Test.YtbaamcjdofccjaaDoorL
import Derived.Test.YtbaamcjdofccjaaDoorZa
import Derived.OpenShut
namespace Go.Proofs.YtbaamcjdofccjaaDoor
open Go.RowKit Go.Lib
theorem g10 : Tryd.prog.globalNamed "internal/strconv.pow10Tab" = some 10 := by kernel_rfl
theorem g10t : (Tryd.prog.globals[10]?).map (·.type) = some 135 := by kernel_rfl
theorem c134 : Tryd.prog.cellsOf 134 = 2 := by kernel_rfl
theorem c22 : Tryd.prog.cellsOf 22 = 1 := by kernel_rfl
theorem wf_u64 {n : Int} (h : (Lit.int .u64 n).wf = true) : u64ok n := by
  have : 0 ≤ n ∧ n ≤ 18446744073709551615 := by simpa [Lit.wf, IntKind.min, IntKind.max, IntKind.signed, IntKind.bits] using h
  unfold u64ok; omega
theorem tab_of {W : World} {d : DataW Unit} (h : VarReads Tryd.prog W "internal/strconv.pow10Tab" d) : tabOk W := by
  obtain ⟨g, t, cs, fuel, p, h1, h2, h3, h4⟩ := h
  obtain rfl := Option.some.inj (g10.symm.trans h1)
  obtain rfl := Option.some.inj (g10t.symm.trans h2)
  obtain ⟨xs, m, _, _, hl, hxl, hall⟩ := DataW.trod_array Tryd.underlying135 h4
  intro k hk
  have hk1 := hall k hk
  have hx : xs[k]? = some (xs[k]'(by omega)) := List.getElem?_eq_getElem _
  rw [hx, c134] at hk1
  obtain ⟨y0, y1, n, _, _, t0, t1⟩ := Go.ChangeShapes.trod_struct2 Tryd.underlying134 hk1
  obtain ⟨z0, e0, _, w0⟩ := DataW.trod_int (k := .u64) Tryd.underlying22 t0
  obtain ⟨z1, e1, _, w1⟩ := DataW.trod_int (k := .u64) Tryd.underlying22 t1
  simp only [c22] at e0 e1
  refine ⟨z0, z1, var_cell g10 h3 _ ?_, var_cell g10 h3 _ ?_, wf_u64 w0, wf_u64 w1⟩
  · have := congrArg (·[0]?) e0
    simpa [List.getElem?_take, List.getElem?_drop] using this
  · have := congrArg (·[0]?) e1
    simpa [List.getElem?_take, List.getElem?_drop] using this
theorem tab_size {W : World} (h : tabOk W) : 10 < W.heap.size := by
  obtain ⟨a, b, h1, _⟩ := h 0 (by decide)
  unfold World.cell? at h1
  rcases Nat.lt_or_ge 10 W.heap.size with c | c
  · exact c
  · exfalso
    have : W.heap[10]? = none := Array.getElem?_eq_none c
    rw [this] at h1
    cases h1
end Go.Proofs.YtbaamcjdofccjaaDoor
