/- From the rows condition on the library variables to what the walks ask of the world. -/
import Derived.Test.YtbaamcjdofccjaaDoorRows
import Derived.Test.YtbaamcjdofccjaaDoorF
import Derived.Lib.LaidU8
import Derived.LaidMore
namespace Go.Proofs.YtbaamcjdofccjaaDoor
open Go.RowKit Go.Lib

theorem trod_float {H : Type} {enc : TypeId × Value → H} {P : Program} {w : World} {base : Nat} {sp : Nat → Bool} {held : Bool} {fuel : Nat} {t : TypeId} {k : FloatKind} {v : Value} {x : DataW H × List MemPlace}
    (ht : P.underlying t = some (.float k)) (h : DataW.trod enc P w base sp held fuel t [v] = some x) : ∃ b, v = .float k b ∧ x = (.lit (.float k b), []) := by
  cases fuel with
  | zero => simp [DataW.trod] at h
  | succ n =>
    cases v <;> simp [DataW.trod, ht] at h
    rename_i k' b
    obtain ⟨⟨rfl, _⟩, h⟩ := h
    exact ⟨b, rfl, h.symm⟩
theorem g5 : Tryd.prog.globalNamed "internal/strconv.optimize" = some 5 := by kernel_rfl
theorem g5t : (Tryd.prog.globals[5]?).map (·.type) = some 4 := by kernel_rfl
theorem g6 : Tryd.prog.globalNamed "internal/strconv.float64info" = some 6 := by kernel_rfl
theorem g6t : (Tryd.prog.globals[6]?).map (·.type) = some 90 := by kernel_rfl
theorem g9 : Tryd.prog.globalNamed "internal/strconv.float64pow10" = some 9 := by kernel_rfl
theorem g9t : (Tryd.prog.globals[9]?).map (·.type) = some 130 := by kernel_rfl
theorem c24 : Tryd.prog.cellsOf 24 = 1 := by kernel_rfl
theorem var_cell {W : World} {n : String} {g : Nat} {v : Value} {cs : Array Value} (hg : Tryd.prog.globalNamed n = some g) (h : W.var? Tryd.prog n = some cs) (i : Nat) (hv : cs[i]? = some v) : W.cell? ⟨g, i, none⟩ = some v := by
  rw [← hv]; exact World.var?_cell hg h i

theorem mb_of {W : World} (h : VarReads Tryd.prog W "internal/strconv.float64info" Rows.laid_internal_strconv_float64info) : W.cell? ⟨6, 0, none⟩ = some (.int .u64 52) := by
  obtain ⟨g, t, cs, fuel, p, h1, h2, h3, h4⟩ := h
  obtain rfl := Option.some.inj (g6.symm.trans h1)
  obtain rfl := Option.some.inj (g6t.symm.trans h2)
  obtain ⟨xs, n, _, hx, hl, hxl, hall⟩ := DataW.trod_struct Tryd.underlying90 h4
  have h0 := hall 0 _ rfl
  unfold Rows.laid_internal_strconv_float64info at hx
  simp only [Prod.mk.injEq, DataW.agg.injEq] at hx
  obtain ⟨hx, _⟩ := hx
  match xs, hx with
  | x0 :: rest, hx =>
    simp only [List.map_cons, List.cons.injEq] at hx
    have h0' := h0
    simp only [List.getElem?_cons_zero] at h0'
    obtain ⟨z, hc, hz, _⟩ := DataW.trod_int (k := .u64) (by first | exact Tryd.underlying82 | kernel_rfl) h0'
    have e : z = 52 := by
      have := hx.1
      rw [hz] at this
      simpa using this.symm
    subst e
    refine var_cell g6 h3 0 ?_
    have := congrArg (·[0]?) hc
    exact (by simpa [List.getElem?_take] using this : 0 < Tryd.prog.cellsOf 82 ∧ cs[0]? = some (Value.int IntKind.u64 52)).2
theorem opt_of {W : World} (h : VarReads Tryd.prog W "internal/strconv.optimize" Rows.laid_internal_strconv_optimize) : W.cell? ⟨5, 0, none⟩ = some (.bool true) := by
  obtain ⟨g, t, cs, fuel, p, h1, h2, h3, h4⟩ := h
  obtain rfl := Option.some.inj (g5.symm.trans h1)
  obtain rfl := Option.some.inj (g5t.symm.trans h2)
  obtain ⟨b, hc, hx⟩ := DataW.trod_bool Tryd.underlying4 h4
  unfold Rows.laid_internal_strconv_optimize at hx
  have e : b = true := by simpa using (congrArg Prod.fst hx).symm
  subst e
  refine var_cell g5 h3 0 ?_
  have := congrArg (·[0]?) hc
  simpa using this
theorem addE (b o i : Nat) : (⟨b, o, none⟩ : Addr).add i = ⟨b, o + i, none⟩ := by
  cases i <;> simp [Addr.add]
theorem p10_eq : (Rows.laid_internal_strconv_float64pow10 : DataW Unit) = .slice (tens.map fun b => .lit (.float .f64 b)) [] := rfl
theorem p10_of {W : World} (h : VarReads Tryd.prog W "internal/strconv.float64pow10" Rows.laid_internal_strconv_float64pow10) :
    ∃ b o c, W.cell? ⟨9, 0, none⟩ = some (.slice (some ⟨b, o, none⟩) 23 c) ∧ ∀ i, i < 23 → W.cell? ⟨b, o + i, none⟩ = some (.float .f64 (tens.getD i 0)) := by
  obtain ⟨g, t, cs, fuel, p, h1, h2, h3, h4⟩ := h
  obtain rfl := Option.some.inj (g9.symm.trans h1)
  obtain rfl := Option.some.inj (g9t.symm.trans h2)
  rw [p10_eq] at h4
  obtain ⟨a, cap, hcs, _, hall⟩ := open_row Tryd.underlying130 c24 h4
  have hcell : ∀ i, i < 23 → W.cell? (a.add i) = some (.float .f64 (tens.getD i 0)) := by
    intro i hi
    have hi' : i < tens.length := hi
    obtain ⟨v, n, q, hv, ht⟩ := hall i (.lit (.float .f64 (tens.getD i 0))) (by
      rw [List.getElem?_map, List.getElem?_eq_getElem hi']
      simp [List.getD, List.getElem?_eq_getElem hi'])
    obtain ⟨b, rfl, hb⟩ := trod_float Tryd.underlying24 ht
    simp only [Prod.mk.injEq, DataW.lit.injEq, Lit.float.injEq, true_and] at hb
    rw [hv, hb.1]
  obtain ⟨b, o, sp⟩ := a
  have hs : sp = none := by
    have h0 := hcell 0 (by omega)
    cases sp with
    | none => rfl
    | some n =>
      exfalso
      simp only [World.cell?, Addr.add] at h0
      split at h0 <;> simp at h0
  subst hs
  refine ⟨b, o, cap, var_cell g9 h3 0 ?_, fun i hi => by rw [← addE]; exact hcell i hi⟩
  have hlen : tens.length = 23 := rfl
  have := congrArg (·[0]?) hcs
  simpa [hlen] using this
theorem env_of {l : List (String × DataW Unit)} {W : World} (h : laidMet Tryd.prog l W) (m5 : ("internal/strconv.optimize", Rows.laid_internal_strconv_optimize) ∈ l)
    (m6 : ("internal/strconv.float64info", Rows.laid_internal_strconv_float64info) ∈ l) (m9 : ("internal/strconv.float64pow10", Rows.laid_internal_strconv_float64pow10) ∈ l) : Env W :=
  ⟨opt_of (laidMet.reads h m5), mb_of (laidMet.reads h m6), p10_of (laidMet.reads h m9)⟩
end Go.Proofs.YtbaamcjdofccjaaDoor
