/- A port and a message that came in; the table of roles. -/
import Derived.Test.YtjfdochceejegaaDoorXc
import Derived.Test.YtjfdochceejegaaDoorIc
import Derived.LaidMore
namespace Go.Proofs.YtjfdochceejegaaDoor
open Go.RowKit Go.Lib
open Go.ChangeShapes Go.WideShapes Go.ChangeAt

variable {H : Type} {enc : TypeId × Value → H}
theorem open_port {W : World} {g : Nat} {v : Value} {d : DataW H} {ps : List MemPlace} (hval : Value.okWide Tryd.prog W .any g 39 v) (hd : DataW.Trod enc Tryd.prog W 0 (fun _ => true) true 39 v d ps) :
    ∃ xs : Array Value, v = .agg xs ∧ Typed xs ∧ Rg xs := by
  obtain ⟨cs, rfl, _⟩ : ∃ cs, v = .agg cs ∧ cs.size = Tryd.prog.cellsOf 39 ∧ Go.Row.okWide Tryd.prog W .any g 39 cs := by
    simpa [Value.okWide, uP] using hval
  obtain ⟨fuel, hf⟩ := hd
  obtain ⟨xs, _, he, _, ht, hr⟩ := port_in hf
  obtain ⟨l⟩ := cs
  obtain ⟨m⟩ := xs
  have : m = l := by simpa [Value.cells] using he
  subst this
  exact ⟨⟨m⟩, rfl, ht, hr⟩
theorem tu34 : Tryd.prog.underlying 34 = some (.int .i64) := by kernel_rfl
theorem tu5 : Tryd.prog.underlying 5 = some (.int .u8) := by kernel_rfl
theorem tu22 : Tryd.prog.underlying 22 = some (.int .u16) := by kernel_rfl
theorem open_bpdu {W : World} {g : Nat} {v : Value} (hval : Value.okWide Tryd.prog W .any g 36 v) : ∃ (k : Int) (f r c b p a m h d : Nat), f < 256 ∧ b < 18446744073709551616 ∧ p < 65536 ∧ a < 65536 ∧ m < 65536 ∧ h < 65536 ∧ d < 65536 ∧
    v = .agg #[.int .i64 k, .int .u8 f, .int .u64 r, .int .u32 c, .int .u64 b, .int .u16 p, .int .u16 a, .int .u16 m, .int .u16 h, .int .u16 d] := by
  obtain ⟨l, rfl, hl, hx⟩ := open_struct (ts := [34, 5, 29, 24, 29, 23, 22, 22, 22, 22]) uM (by kernel_rfl) (by kernel_rfl) hval
  match l, hl with
  | [x0, x1, x2, x3, x4, x5, x6, x7, x8, x9], _ =>
    obtain ⟨k, rfl, _⟩ := cell_int tu34 (hx 0 34 x0 rfl rfl)
    obtain ⟨f, rfl, hf⟩ := cell_int tu5 (hx 1 5 x1 rfl rfl)
    obtain ⟨r, rfl, hr⟩ := cell_int tu23 (hx 2 29 x2 rfl rfl)
    obtain ⟨c, rfl, hc⟩ := cell_int tu26 (hx 3 24 x3 rfl rfl)
    obtain ⟨b, rfl, hb⟩ := cell_int tu23 (hx 4 29 x4 rfl rfl)
    obtain ⟨p, rfl, hp⟩ := cell_int tu28 (hx 5 23 x5 rfl rfl)
    obtain ⟨a, rfl, ha⟩ := cell_int tu22 (hx 6 22 x6 rfl rfl)
    obtain ⟨m, rfl, hm⟩ := cell_int tu22 (hx 7 22 x7 rfl rfl)
    obtain ⟨h, rfl, hh⟩ := cell_int tu22 (hx 8 22 x8 rfl rfl)
    obtain ⟨d, rfl, hd⟩ := cell_int tu22 (hx 9 22 x9 rfl rfl)
    obtain ⟨f, rfl, lf⟩ : ∃ k : Nat, f = k ∧ k < 256 := by
      have e1 : IntKind.u8.min = 0 := by decide
      have e2 : IntKind.u8.max = 255 := by decide
      exact ⟨f.toNat, by omega, by omega⟩
    obtain ⟨r, rfl, _⟩ := nat64 hr
    obtain ⟨c, rfl, _⟩ := nat32 hc
    obtain ⟨b, rfl, lb⟩ := nat64 hb
    obtain ⟨p, rfl, lp⟩ := nat16 hp
    obtain ⟨a, rfl, la⟩ := nat16 ha
    obtain ⟨m, rfl, lm⟩ := nat16 hm
    obtain ⟨h, rfl, lh⟩ := nat16 hh
    obtain ⟨d, rfl, ld⟩ := nat16 hd
    exact ⟨k, f, r, c, b, p, a, m, h, d, lf, lb, lp, la, lm, lh, ld, rfl⟩
theorem c27 : Tryd.prog.cellsOf 27 = 1 := by kernel_rfl
theorem gb0 : Tryd.prog.globalNamed "catenary/bpdu.roles" = some 0 := by kernel_rfl
theorem gb0t : (Tryd.prog.globals[0]?).map (·.type) = some 78 := by kernel_rfl
theorem var_cell {W : World} {n : String} {g : Nat} {v : Value} {cs : Array Value} (hg : Tryd.prog.globalNamed n = some g) (h : W.var? Tryd.prog n = some cs) (i : Nat) (hv : cs[i]? = some v) : W.cell? ⟨g, i, none⟩ = some v := by
  rw [← hv]; exact World.var?_cell hg h i
theorem env_of {W : World} (h : laidMet Tryd.prog [("catenary/bpdu.roles", Rows.laid_catenary_bpdu_roles)] W) : Env W := by
  obtain ⟨_, ⟨g, t, cs, fuel, p, _, h1, h2, h3, h4, _, _⟩, _⟩ := h
  obtain rfl := Option.some.inj (gb0.symm.trans h1)
  obtain rfl := Option.some.inj (gb0t.symm.trans h2)
  obtain ⟨xs, m, _, hx, hl, hxl, hall⟩ := DataW.trod_array (show Tryd.prog.underlying 78 = some (.array 4 27) by kernel_rfl) h4
  unfold Rows.laid_catenary_bpdu_roles at hx
  simp only [Prod.mk.injEq, DataW.agg.injEq] at hx
  obtain ⟨hx, _⟩ := hx
  intro i hi
  have hk1 := hall i (by omega)
  have hxi : xs[i]? = some (xs[i]'(by omega)) := List.getElem?_eq_getElem _
  rw [hxi] at hk1
  obtain ⟨z, hc, hz, _⟩ := DataW.trod_int (k := .i64) (show Tryd.prog.underlying 27 = some (.int .i64) by kernel_rfl) hk1
  have e : z = rl i := by
    have := congrArg (·[i]?) hx
    simp only [List.getElem?_map, hxi, Option.map_some, hz] at this
    clear hc hk1 hz hxi
    rcases (show i = 0 ∨ i = 1 ∨ i = 2 ∨ i = 3 by omega) with rfl | rfl | rfl | rfl <;> simpa [rl] using this.symm
  subst e
  refine var_cell gb0 h3 i ?_
  have := congrArg (·[0]?) hc
  simpa [List.getElem?_take, List.getElem?_drop, c27] using this
end Go.Proofs.YtjfdochceejegaaDoor
