/- From the rows' condition on the library's two errors to what the walks ask of the world. -/
import Derived.Test.YtgeommhambkmgaaDoorQ
import Derived.Test.YtgeommhambkmgaaDoorS
namespace Go.Proofs.YtgeommhambkmgaaDoor
open Go.RowKit Go.Lib

theorem gb2 : Tryd.prog.globalNamed "strconv.ErrSyntax" = some 2 := by kernel_rfl
theorem gb2t : (Tryd.prog.globals[2]?).map (·.type) = some 56 := by kernel_rfl
theorem gb3 : Tryd.prog.globalNamed "strconv.ErrRange" = some 3 := by kernel_rfl
theorem gb3t : (Tryd.prog.globals[3]?).map (·.type) = some 56 := by kernel_rfl
theorem und56 : ∃ m, Tryd.prog.underlying 56 = some (.interface m) := ⟨#[("Error", 105)], by kernel_rfl⟩
theorem trod_iface {H : Type} {enc : TypeId × Value → H} {w : World} {base : Nat} {sp : Nat → Bool} {held : Bool} {fuel : Nat} {cs : List Value} {n : String} {d : DataW H} {p : List MemPlace}
    (h : DataW.trod enc Tryd.prog w base sp held fuel 56 cs = some (.iface n d, p)) : ∃ t v, cs = [.iface t v] := by
  obtain ⟨m, hm⟩ := und56
  cases fuel with
  | zero => simp [DataW.trod] at h
  | succ k =>
    unfold DataW.trod at h
    rw [hm] at h
    match cs, h with
    | [.iface t v], _ => exact ⟨t, v, rfl⟩
    | [.nilIface], h => simp at h
theorem errs_of {W : World} (h2 : VarReads Tryd.prog W "strconv.ErrSyntax" Rows.laid_strconv_ErrSyntax) (h3 : VarReads Tryd.prog W "strconv.ErrRange" Rows.laid_strconv_ErrRange) : Errs W := by
  refine ⟨?_, ?_⟩
  · obtain ⟨g, t, cs, fuel, p, h1, h2, h3, h4⟩ := h2
    obtain rfl := Option.some.inj (gb2.symm.trans h1)
    obtain rfl := Option.some.inj (gb2t.symm.trans h2)
    obtain ⟨t, v, hc⟩ := trod_iface h4
    exact ⟨t, v, var_cell gb2 h3 0 (by have := congrArg (·[0]?) hc; simpa using this)⟩
  · obtain ⟨g, t, cs, fuel, p, h1, h2, h3, h4⟩ := h3
    obtain rfl := Option.some.inj (gb3.symm.trans h1)
    obtain rfl := Option.some.inj (gb3t.symm.trans h2)
    obtain ⟨t, v, hc⟩ := trod_iface h4
    exact ⟨t, v, var_cell gb3 h3 0 (by have := congrArg (·[0]?) hc; simpa using this)⟩
end Go.Proofs.YtgeommhambkmgaaDoor
