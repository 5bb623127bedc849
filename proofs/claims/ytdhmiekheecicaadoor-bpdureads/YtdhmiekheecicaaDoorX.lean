/- From the rows' conditions to what the walks ask: the two tables; messages and bytes that came in. -/
import Derived.Test.YtdhmiekheecicaaDoorRows
import Derived.Test.YtdhmiekheecicaaDoorG
import Derived.Lib.LaidU8
import Derived.LaidMore
import Derived.ProofKit
import Derived.ChangeArms
namespace Go.Proofs.YtdhmiekheecicaaDoor
open Go.RowKit Go.Lib
open Go.ChangeShapes Go.WideShapes Go.ChangeAt

theorem laidOut : laidOutB Tryd.prog = true := by kernel_rfl
theorem own : ownKnob Tryd.prog.godebug = none := by kernel_rfl
theorem c5 : Tryd.prog.cellsOf 5 = 1 := by kernel_rfl
theorem c44 : Tryd.prog.cellsOf 44 = 1 := by kernel_rfl
theorem gb0 : Tryd.prog.globalNamed "catenary/bpdu.roles" = some 0 := by kernel_rfl
theorem gb0t : (Tryd.prog.globals[0]?).map (·.type) = some 58 := by kernel_rfl
theorem gb1 : Tryd.prog.globalNamed "catenary/bpdu.numbers" = some 1 := by kernel_rfl
theorem gb1t : (Tryd.prog.globals[1]?).map (·.type) = some 74 := by kernel_rfl
theorem var_cell {W : World} {n : String} {g : Nat} {v : Value} {cs : Array Value} (hg : Tryd.prog.globalNamed n = some g) (h : W.var? Tryd.prog n = some cs) (i : Nat) (hv : cs[i]? = some v) : W.cell? ⟨g, i, none⟩ = some v := by
  rw [← hv]; exact World.var?_cell hg h i
theorem env_of {W : World} (h : VarReads Tryd.prog W "catenary/bpdu.roles" Rows.laid_catenary_bpdu_roles) : Env W := by
  obtain ⟨g, t, cs, fuel, p, h1, h2, h3, h4⟩ := h
  obtain rfl := Option.some.inj (gb0.symm.trans h1)
  obtain rfl := Option.some.inj (gb0t.symm.trans h2)
  obtain ⟨xs, m, _, hx, hl, hxl, hall⟩ := DataW.trod_array Tryd.underlying58 h4
  unfold Rows.laid_catenary_bpdu_roles at hx
  simp only [Prod.mk.injEq, DataW.agg.injEq] at hx
  obtain ⟨hx, _⟩ := hx
  intro i hi
  have hk1 := hall i (by omega)
  have hxi : xs[i]? = some (xs[i]'(by omega)) := List.getElem?_eq_getElem _
  rw [hxi] at hk1
  obtain ⟨z, hc, hz, _⟩ := DataW.trod_int (k := .i64) (by first | exact Tryd.underlying44 | kernel_rfl) hk1
  have e : z = rl i := by
    have := congrArg (·[i]?) hx
    simp only [List.getElem?_map, hxi, Option.map_some, hz] at this
    clear hc hk1 hz hxi
    rcases (show i = 0 ∨ i = 1 ∨ i = 2 ∨ i = 3 by omega) with rfl | rfl | rfl | rfl <;> simpa [rl] using this.symm
  subst e
  refine var_cell gb0 h3 i ?_
  have := congrArg (·[0]?) hc
  simpa [List.getElem?_take, List.getElem?_drop, c44] using this
theorem env2_of {W : World} (h : VarReads Tryd.prog W "catenary/bpdu.numbers" Rows.laid_catenary_bpdu_numbers) : Env2 W := by
  obtain ⟨g, t, cs, fuel, p, h1, h2, h3, h4⟩ := h
  obtain rfl := Option.some.inj (gb1.symm.trans h1)
  obtain rfl := Option.some.inj (gb1t.symm.trans h2)
  obtain ⟨xs, m, _, hx, hl, hxl, hall⟩ := DataW.trod_array Tryd.underlying74 h4
  unfold Rows.laid_catenary_bpdu_numbers at hx
  simp only [Prod.mk.injEq, DataW.agg.injEq] at hx
  obtain ⟨hx, _⟩ := hx
  intro i hi
  have hk1 := hall i (by omega)
  have hxi : xs[i]? = some (xs[i]'(by omega)) := List.getElem?_eq_getElem _
  rw [hxi] at hk1
  obtain ⟨z, hc, hz, _⟩ := DataW.trod_int (k := .u8) (by first | exact Tryd.underlying5 | kernel_rfl) hk1
  have e : z = (nb i : Int) := by
    have := congrArg (·[i]?) hx
    simp only [List.getElem?_map, hxi, Option.map_some, hz] at this
    clear hc hk1 hz hxi
    rcases (show i = 0 ∨ i = 1 ∨ i = 2 ∨ i = 3 ∨ i = 4 by omega) with rfl | rfl | rfl | rfl | rfl <;> simpa [nb] using this.symm
  subst e
  refine var_cell gb1 h3 i ?_
  have := congrArg (·[0]?) hc
  simpa [List.getElem?_take, List.getElem?_drop, c5] using this

/-- The cells of a struct that came in, each with its type. -/
theorem open_struct {P : Program} {T : TypeId} {fs : Array Field} {ts : List TypeId} {W : World} {b : Nat} {v : Value} (hu : P.underlying T = some (.struct fs)) (hc : P.cellTypes P.depth T = some ts) (hn : P.cellsOf T = ts.length) (hval : Value.okWide P W .any b T v) :
    ∃ l : List Value, v = .agg ⟨l⟩ ∧ l.length = ts.length ∧ ∀ (i : Nat) (t : TypeId) (x : Value), ts[i]? = some t → l[i]? = some x → Cell.okWide P W .any b t x := by
  obtain ⟨cs, rfl, hsz, us, hus, _, hrow⟩ : ∃ cs, v = .agg cs ∧ cs.size = P.cellsOf T ∧ Go.Row.okWide P W .any b T cs := by
    simpa [Value.okWide, hu] using hval
  rw [hc] at hus
  cases hus
  obtain ⟨l⟩ := cs
  have hl : l.length = ts.length := by rw [← hn, ← hsz]; rfl
  refine ⟨l, rfl, hl, fun i t x ht hx => ?_⟩
  obtain ⟨u, hu', hok⟩ := hrow i x (by simpa using hx)
  have hi : i < ts.length := (List.getElem?_eq_some_iff.1 ht).1
  rw [Nat.mod_eq_of_lt hi, ht] at hu'
  cases hu'
  exact hok
theorem cell_int {P : Program} {t : TypeId} {k : IntKind} {W : World} {b : Nat} {v : Value} (hu : P.underlying t = some (.int k)) (h : Cell.okWide P W .any b t v) : ∃ n, v = .int k n ∧ k.min ≤ n ∧ n ≤ k.max := by
  unfold Cell.okWide at h
  rw [hu] at h
  simp only [Cell.ok, hu] at h
  cases v <;> simp [IntKind.has] at h
  obtain ⟨rfl, h⟩ := h
  exact ⟨_, rfl, h⟩
theorem int_nat {n B : Int} {k : IntKind} (e1 : k.min = 0) (e2 : k.max = B) (h : k.min ≤ n ∧ n ≤ k.max) : ∃ j : Nat, n = j ∧ (j : Int) ≤ B :=
  ⟨n.toNat, by omega, by omega⟩
theorem open_bpdu {W : World} {g : Nat} {v : Value} (hval : Value.okWide Tryd.prog W .any g 31 v) : ∃ (k : Int) (f r c b p a m h d : Nat), f < 256 ∧ r < 18446744073709551616 ∧ c < 4294967296 ∧ b < 18446744073709551616 ∧ p < 65536 ∧ a < 65536 ∧ m < 65536 ∧ h < 65536 ∧ d < 65536 ∧ v = bpV k f r c b p a m h d := by
  obtain ⟨l, rfl, hl, hx⟩ := open_struct (ts := [22, 5, 24, 25, 24, 27, 26, 26, 26, 26]) (show Tryd.prog.underlying 31 = some (.struct (Tryd.prog.fieldsOf 31)) by kernel_rfl) (by kernel_rfl) (by kernel_rfl) hval
  match l, hl with
  | [x0, x1, x2, x3, x4, x5, x6, x7, x8, x9], _ =>
    have hh : Tryd.prog.underlying 26 = some (.int .u16) := by kernel_rfl
    have hq : Tryd.prog.underlying 24 = some (.int .u64) := by kernel_rfl
    obtain ⟨k, rfl, _⟩ := cell_int (k := .i64) (by kernel_rfl) (hx 0 22 x0 rfl rfl)
    obtain ⟨f, rfl, hf⟩ := cell_int (k := .u8) (by kernel_rfl) (hx 1 5 x1 rfl rfl)
    obtain ⟨r, rfl, hr⟩ := cell_int hq (hx 2 24 x2 rfl rfl)
    obtain ⟨c, rfl, hc⟩ := cell_int (k := .u32) (by kernel_rfl) (hx 3 25 x3 rfl rfl)
    obtain ⟨b, rfl, hb⟩ := cell_int hq (hx 4 24 x4 rfl rfl)
    obtain ⟨p, rfl, hp⟩ := cell_int (k := .u16) (by kernel_rfl) (hx 5 27 x5 rfl rfl)
    obtain ⟨a, rfl, ha⟩ := cell_int hh (hx 6 26 x6 rfl rfl)
    obtain ⟨m, rfl, hm⟩ := cell_int hh (hx 7 26 x7 rfl rfl)
    obtain ⟨h, rfl, hd⟩ := cell_int hh (hx 8 26 x8 rfl rfl)
    obtain ⟨d, rfl, he⟩ := cell_int hh (hx 9 26 x9 rfl rfl)
    obtain ⟨f, rfl, hf'⟩ := int_nat (B := 255) (by decide) (by decide) hf
    obtain ⟨r, rfl, hr'⟩ := int_nat (B := 18446744073709551615) (by decide) (by decide) hr
    obtain ⟨c, rfl, hc'⟩ := int_nat (B := 4294967295) (by decide) (by decide) hc
    obtain ⟨b, rfl, hb'⟩ := int_nat (B := 18446744073709551615) (by decide) (by decide) hb
    obtain ⟨p, rfl, hp'⟩ := int_nat (B := 65535) (by decide) (by decide) hp
    obtain ⟨a, rfl, ha'⟩ := int_nat (B := 65535) (by decide) (by decide) ha
    obtain ⟨m, rfl, hm'⟩ := int_nat (B := 65535) (by decide) (by decide) hm
    obtain ⟨h, rfl, hd'⟩ := int_nat (B := 65535) (by decide) (by decide) hd
    obtain ⟨d, rfl, he'⟩ := int_nat (B := 65535) (by decide) (by decide) he
    exact ⟨k, f, r, c, b, p, a, m, h, d, by omega, by omega, by omega, by omega, by omega, by omega, by omega, by omega, by omega, rfl⟩
end Go.Proofs.YtdhmiekheecicaaDoor
