/- From the rows' condition on the variables, and the world's shape, to what the walks ask of the world. -/
import Derived.Test.YtlmdpaemhjcmbaaGreatDoorRows
import Derived.Test.YtlmdpaemhjcmbaaGreatDoorDWa
import Derived.LaidMore
import Derived.Lib.LaidTab
import Derived.Shelf.Vars
import Derived.ChangeArms
import Derived.MakeChecks
namespace Go.Proofs.YtlmdpaemhjcmbaaGreatDoor.Cd
open Go.RowKit Go.Lib

/-- What a listed variable holds, as it is read. -/
def Seen (P : Program) (w : World) (n : String) (d : DataW Unit) : Prop :=
  ∃ g t cs fuel p, P.globalNamed n = some g ∧ (P.globals[g]?).map (·.type) = some t ∧ w.var? P n = some cs ∧ DataW.trod (fun _ => ()) P w 0 (fun _ => true) false fuel t cs.toList = some (d, p)
theorem seen_all {P : Program} {w : World} : ∀ {l : List (String × DataW Unit)} {ps : List MemPlace}, DataW.LaidVars P w l ps → ∀ x ∈ l, Seen P w x.1 x.2
  | [], _, _, _, hm => by cases hm
  | y :: r, _, h, x, hm => by
    obtain ⟨g, t, cs, fuel, p, q, h1, h2, h3, h4, h5, _⟩ := h
    rcases List.mem_cons.1 hm with rfl | e
    · exact ⟨g, t, cs, fuel, p, h1, h2, h3, h4⟩
    · exact seen_all h5 x e
theorem seen_of {P : Program} {w : World} {l : List (String × DataW Unit)} (h : laidMet P l w) {n : String} {d : DataW Unit} (hm : (n, d) ∈ l) : Seen P w n d :=
  let ⟨_, hv, _⟩ := h
  seen_all hv (n, d) hm
theorem trod_str {H : Type} {enc : TypeId × Value → H} {P : Program} {w : World} {base : Nat} {sp : Nat → Bool} {held : Bool} {fuel : Nat} {t : TypeId} {cs : List Value} {l : List UInt8} {p : List MemPlace}
    (ht : P.underlying t = some .string) (h : DataW.trod enc P w base sp held fuel t cs = some (.lit (.string l), p)) : cs = [strV l] := by
  cases fuel with
  | zero => simp [DataW.trod] at h
  | succ k =>
    unfold DataW.trod at h
    rw [ht] at h
    match cs, h with
    | [.string s], h =>
      simp only at h
      split at h
      · have := Option.some.inj h
        simp only [Prod.mk.injEq, DataW.lit.injEq, Lit.string.injEq] at this
        rw [← this.1]
      · cases h
/-- The cells of an array of strings. -/
theorem cells_of_strs {H : Type} {enc : TypeId × Value → H} {P : Program} {w : World} {base : Nat} {sp : Nat → Bool} {held : Bool} {fuel : Nat} {t e : TypeId} {n : Nat} {cs : List Value} {zs : List (List UInt8)} {p : List MemPlace}
    (ht : P.underlying t = some (.array n e)) (he : P.underlying e = some .string) (hce : P.cellsOf e = 1)
    (h : DataW.trod enc P w base sp held fuel t cs = some (.agg (zs.map fun z => .lit (.string z)), p)) (i : Nat) (hi : i < n) (z : List UInt8) (hz : zs[i]? = some z) : cs[i]? = some (strV z) := by
  cases fuel with
  | zero => simp [DataW.trod] at h
  | succ k =>
    simp only [DataW.trod, ht] at h
    split at h
    · obtain ⟨xs, hm, hx⟩ := Option.map_eq_some_iff.1 h
      obtain ⟨b, hb, hf⟩ := mapM_at hm i i (by simp [hi])
      have hds : xs.map (·.1) = zs.map fun z => (DataW.lit (.string z) : DataW H) := by
        have := congrArg Prod.fst hx
        simpa using this
      have h2 : (xs.map (·.1))[i]? = some b.1 := by simp [hb]
      rw [hds, List.getElem?_map, hz] at h2
      have h3 : DataW.lit (.string z) = b.1 := Option.some.inj h2
      obtain ⟨b1, b2⟩ := b
      simp only at h3 hf
      subst h3
      have hc := trod_str he hf
      rw [hce] at hc
      have := congrArg (·[0]?) hc
      simpa [List.getElem?_take, List.getElem?_drop] using this
    · cases h
theorem trod_ifc {H : Type} {enc : TypeId × Value → H} {P : Program} {w : World} {base : Nat} {sp : Nat → Bool} {held : Bool} {fuel : Nat} {t : TypeId} {ms : Array (String × TypeId)} {cs : List Value} {n : String} {d : DataW H} {p : List MemPlace}
    (ht : P.underlying t = some (.interface ms)) (h : DataW.trod enc P w base sp held fuel t cs = some (.iface n d, p)) : ∃ u v, cs = [.iface u v] := by
  cases fuel with
  | zero => simp [DataW.trod] at h
  | succ k =>
    unfold DataW.trod at h
    rw [ht] at h
    match cs, h with
    | [.iface u v], _ => exact ⟨u, v, rfl⟩
    | [.nilIface], h => simp at h
theorem gb0 : Tryz.prog.globalNamed "catenary/command.forms" = some 0 := by kernel_rfl
theorem gb0t : (Tryz.prog.globals[0]?).map (·.type) = some 71 := by kernel_rfl
theorem gb1 : Tryz.prog.globalNamed "catenary/command.links" = some 1 := by kernel_rfl
theorem gb1t : (Tryz.prog.globals[1]?).map (·.type) = some 106 := by kernel_rfl
theorem gb5t : (Tryz.prog.globals[5]?).map (·.type) = some 141 := by kernel_rfl
theorem gb6 : Tryz.prog.globalNamed "strconv.ErrSyntax" = some 6 := by kernel_rfl
theorem gb6t : (Tryz.prog.globals[6]?).map (·.type) = some 92 := by kernel_rfl
theorem gb7 : Tryz.prog.globalNamed "strconv.ErrRange" = some 7 := by kernel_rfl
theorem gb7t : (Tryz.prog.globals[7]?).map (·.type) = some 92 := by kernel_rfl
theorem uF : Tryz.prog.underlying 71 = some (.array 15 9) := by kernel_rfl
theorem uL : Tryz.prog.underlying 106 = some (.array 3 9) := by kernel_rfl
theorem uP : Tryz.prog.underlying 141 = some (.array 20 61) := by kernel_rfl
theorem uE : ∃ ms, Tryz.prog.underlying 92 = some (.interface ms) := ⟨#[("Error", 95)], by kernel_rfl⟩
theorem c9 : Tryz.prog.cellsOf 9 = 1 := by kernel_rfl
theorem forms_data : (Rows.laid_catenary_command_forms : DataW Unit) = .agg (((List.range 15).map formT).map fun z => .lit (.string z)) := rfl
theorem links_data : (Rows.laid_catenary_command_links : DataW Unit) = .agg ([linkT 0, linkT 1, linkT 2].map fun z => .lit (.string z)) := rfl
theorem pow_data : (Rows.laid_internal_strconv_uint64pow10 : DataW Unit) = tabData .u64 pow10Tab := by
  unfold Rows.laid_internal_strconv_uint64pow10 tabData pow10Tab
  congr 1
theorem most_of {W : World} (h : W.ShapedOpen Tryz.prog) : ∃ m, W.cell? ⟨2, 0, none⟩ = some (.int .i64 m) :=
  cell_of_shapedOpen_int (P := Tryz.prog) (g := 2) (t := 3) (zero := #[.int .i64 0]) (k := .i64) h (of_decide_eq_true (by kernel_rfl)) (by kernel_rfl) rfl (by kernel_rfl) (by kernel_rfl) (by kernel_rfl)
theorem env_of {W : World} {l : List (String × DataW Unit)} (hL : laidMet Tryz.prog l W) (hsh : W.ShapedOpen Tryz.prog)
    (m0 : ("catenary/command.forms", Rows.laid_catenary_command_forms) ∈ l) (m1 : ("catenary/command.links", Rows.laid_catenary_command_links) ∈ l) (m5 : ("internal/strconv.uint64pow10", Rows.laid_internal_strconv_uint64pow10) ∈ l)
    (m6 : ("strconv.ErrSyntax", Rows.laid_strconv_ErrSyntax) ∈ l) (m7 : ("strconv.ErrRange", Rows.laid_strconv_ErrRange) ∈ l) : Env W := by
  refine ⟨fun k hk => ?_, fun k hk => ?_, most_of hsh, ?_, ?_, ?_⟩
  · obtain ⟨g, t, cs, fuel, p, h1, h2, h3, h4⟩ := seen_of hL m0
    obtain rfl := Option.some.inj (gb0.symm.trans h1)
    obtain rfl := Option.some.inj (gb0t.symm.trans h2)
    rw [forms_data] at h4
    rw [World.var?_cell gb0 h3 k]
    have := cells_of_strs uF u9 c9 h4 k hk (formT k) (by simp [hk])
    simpa using this
  · obtain ⟨g, t, cs, fuel, p, h1, h2, h3, h4⟩ := seen_of hL m1
    obtain rfl := Option.some.inj (gb1.symm.trans h1)
    obtain rfl := Option.some.inj (gb1t.symm.trans h2)
    rw [links_data] at h4
    rw [World.var?_cell gb1 h3 k]
    have := cells_of_strs uL u9 c9 h4 k hk (linkT k) (by
      match k, hk with
      | 0, _ => rfl
      | 1, _ => rfl
      | 2, _ => rfl)
    simpa using this
  · obtain ⟨g, t, cs, fuel, p, h1, h2, h3, h4⟩ := seen_of hL m5
    obtain rfl := Option.some.inj (gb5.symm.trans h1)
    obtain rfl := Option.some.inj (gb5t.symm.trans h2)
    rw [pow_data] at h4
    unfold TabIs
    rw [h3, ← cells_of_tab uP (by kernel_rfl) (by kernel_rfl) (by kernel_rfl) h4]
  · obtain ⟨g, t, cs, fuel, p, h1, h2, h3, h4⟩ := seen_of hL m6
    obtain rfl := Option.some.inj (gb6.symm.trans h1)
    obtain rfl := Option.some.inj (gb6t.symm.trans h2)
    obtain ⟨ms, hu⟩ := uE
    obtain ⟨u, v, hc⟩ := trod_ifc hu h4
    exact ⟨u, v, by rw [World.var?_cell gb6 h3 0]; have := congrArg (·[0]?) hc; simpa using this⟩
  · obtain ⟨g, t, cs, fuel, p, h1, h2, h3, h4⟩ := seen_of hL m7
    obtain rfl := Option.some.inj (gb7.symm.trans h1)
    obtain rfl := Option.some.inj (gb7t.symm.trans h2)
    obtain ⟨ms, hu⟩ := uE
    obtain ⟨u, v, hc⟩ := trod_ifc hu h4
    exact ⟨u, v, by rw [World.var?_cell gb7 h3 0]; have := congrArg (·[0]?) hc; simpa using this⟩
end Go.Proofs.YtlmdpaemhjcmbaaGreatDoor.Cd
