/- A bridge that came in. -/
import Derived.Test.YtidgdanhnpfpmaaXa
namespace Go.Proofs.Ytidgdanhnpfpmaa
open Go.RowKit Go.Lib
open Go.ChangeShapes Go.WideShapes Go.ChangeAt

variable {H : Type} {enc : TypeId × Value → H}
theorem cell_bool {P : Program} {t : TypeId} {W : World} {b : Nat} {v : Value} (hu : P.underlying t = some .bool) (h : Cell.okWide P W .any b t v) : ∃ n, v = .bool n := by
  unfold Cell.okWide at h
  rw [hu] at h
  simp only [Cell.ok, hu] at h
  cases v <;> simp at h
  exact ⟨_, rfl⟩
theorem tu23 : Try.prog.underlying 23 = some (.int .u64) := by kernel_rfl
theorem tu26 : Try.prog.underlying 26 = some (.int .u32) := by kernel_rfl
theorem tu28 : Try.prog.underlying 28 = some (.int .u16) := by kernel_rfl
theorem tu3 : Try.prog.underlying 3 = some (.int .i64) := by kernel_rfl
theorem tu31 : Try.prog.underlying 31 = some (.int .i64) := by kernel_rfl
theorem tu4 : Try.prog.underlying 4 = some .bool := by kernel_rfl
theorem field8 : ((Try.prog.fieldsOf 34)[8]?).map (fun f => (f.type, f.offset)) = some (32, 17) := by kernel_rfl
theorem size34 : (Try.prog.fieldsOf 34).size = 9 := by kernel_rfl
theorem c32 : Try.prog.cellsOf 32 = 1 := by kernel_rfl
theorem ports_in {W : World} {fuel : Nat} {s : Value} {x : DataW H × List MemPlace} (h : DataW.trod enc Try.prog W 0 (fun _ => true) true fuel 32 [s] = some x) :
    ∃ (n : Nat) (XS : Nat → Array Value) (X : Nat → Pd), PIn W s n XS ∧ ∀ i, i < n → (X i).In (XS i) ∧ Typed (XS i) := by
  rcases Go.Deep.open_slice und32 h with ⟨hcs, _⟩ | ⟨a, len, cap, m, k, D, Pl, hcs, _, hl, _, hm, _, hx⟩
  · simp at hcs
    subst hcs
    exact ⟨0, fun _ => #[], fun _ => ⟨0, 0, 0, 0, 0, 0, 0, 0, 0, 0, 0⟩, ⟨none, 0, rfl, fun _ => ⟨rfl, rfl⟩, fun h => absurd h (by omega)⟩, fun i hi => absurd hi (by omega)⟩
  · simp at hcs
    subst hcs
    have hmc : m = cap := by simpa using hm
    subst hmc
    have each : ∀ i, i < len → ∃ q : Array Value × Pd, (∀ k, k < 90 → W.cell? ((a.add (i * 90)).add k) = q.1[k]?) ∧ q.2.In q.1 ∧ Typed q.1 := by
      intro i hi
      obtain ⟨cs', h1, h2⟩ := hx i (by omega)
      rw [c48] at h1
      obtain ⟨xs, p, rfl, hp, ht⟩ := port_in h2
      obtain ⟨_, _, hcell⟩ := World.cells?_some h1
      refine ⟨(xs, p), fun k hk => ?_, hp, ht⟩
      rw [hcell k hk]
      simp
    haveI : Inhabited (Array Value × Pd) := ⟨(#[], ⟨0, 0, 0, 0, 0, 0, 0, 0, 0, 0, 0⟩)⟩
    obtain ⟨q, hq⟩ := Go.Deep.choose_lt each
    refine ⟨len, fun i => (q i).1, fun i => (q i).2, ⟨some a, m, rfl, fun h => (by cases h), fun hn => ?_⟩, fun i hi => (hq i hi).2⟩
    have h0 := (hq 0 hn).1 0 (by omega)
    have hz := (hq 0 hn).2.2.1
    rw [Array.getElem?_eq_getElem (by rw [hz]; omega)] at h0
    have ha : a = ⟨a.block, a.off, none⟩ := by
      rw [Nat.zero_mul] at h0
      have h00 : (a.add 0).add 0 = a.add 0 := by rw [Go.Deep.add_add]
      rw [h00] at h0
      exact spot_none h0
    refine ⟨a.block, a.off, by rw [← ha], fun i hi k hk => ?_⟩
    have := (hq i hi).1 k hk
    rw [ha, addN, addN] at this
    exact this
theorem open_bridge {W : World} {g : Nat} {v : Value} {d : DataW H} {ps : List MemPlace} (hval : Value.okWide Try.prog W .any g 34 v) (hd : DataW.Trod enc Try.prog W 0 (fun _ => true) true 34 v d ps) :
    ∃ (B : Bd) (s : Value) (n : Nat) (XS : Nat → Array Value) (X : Nat → Pd), v = .agg (B.cells s) ∧ B.id < 18446744073709551616 ∧ PIn W s n XS ∧ ∀ i, i < n → (X i).In (XS i) ∧ Typed (XS i) := by
  obtain ⟨l, rfl, hl, hx⟩ := open_struct (ts := [23, 3, 3, 3, 3, 3, 4, 23, 26, 23, 28, 28, 3, 3, 3, 3, 31, 32]) uB (by kernel_rfl) (by kernel_rfl) hval
  obtain ⟨fuel, hf⟩ := hd
  match l, hl with
  | [x0, x1, x2, x3, x4, x5, x6, x7, x8, x9, x10, x11, x12, x13, x14, x15, x16, x17], _ =>
    obtain ⟨xs, n, _, _, _, hxl, hff⟩ := DataW.trod_struct uB hf
    obtain ⟨f8, hf8, h8⟩ : ∃ f, (Try.prog.fieldsOf 34)[8]? = some f ∧ (f.type, f.offset) = (32, 17) := by
      have := field8
      cases h : (Try.prog.fieldsOf 34)[8]? with
      | none => rw [h] at this; cases this
      | some f => rw [h] at this; exact ⟨f, rfl, by simpa using this⟩
    simp only [Prod.mk.injEq] at h8
    have g8 := hff 8 f8 hf8
    rw [h8.1, h8.2, c32, List.getElem?_eq_getElem (by rw [hxl, size34]; omega)] at g8
    simp only [Value.cells, List.drop_succ_cons, List.drop_zero, List.take_succ_cons, List.take_zero] at g8
    obtain ⟨m, XS, X, hp, hX⟩ := ports_in g8
    obtain ⟨i, rfl, hi⟩ := cell_int tu23 (hx 0 23 x0 rfl rfl)
    obtain ⟨i, rfl, hi'⟩ := nat64 hi
    obtain ⟨n1, rfl, _⟩ := cell_int tu3 (hx 1 3 x1 rfl rfl)
    obtain ⟨n2, rfl, _⟩ := cell_int tu3 (hx 2 3 x2 rfl rfl)
    obtain ⟨n3, rfl, _⟩ := cell_int tu3 (hx 3 3 x3 rfl rfl)
    obtain ⟨n4, rfl, _⟩ := cell_int tu3 (hx 4 3 x4 rfl rfl)
    obtain ⟨n5, rfl, _⟩ := cell_int tu3 (hx 5 3 x5 rfl rfl)
    obtain ⟨b6, rfl⟩ := cell_bool tu4 (hx 6 4 x6 rfl rfl)
    obtain ⟨n7, rfl, h7⟩ := cell_int tu23 (hx 7 23 x7 rfl rfl)
    obtain ⟨n7, rfl, _⟩ := nat64 h7
    obtain ⟨n8, rfl, h8'⟩ := cell_int tu26 (hx 8 26 x8 rfl rfl)
    obtain ⟨n8, rfl, _⟩ := nat32 h8'
    obtain ⟨n9, rfl, h9⟩ := cell_int tu23 (hx 9 23 x9 rfl rfl)
    obtain ⟨n9, rfl, _⟩ := nat64 h9
    obtain ⟨n10, rfl, h10⟩ := cell_int tu28 (hx 10 28 x10 rfl rfl)
    obtain ⟨n10, rfl, _⟩ := nat16 h10
    obtain ⟨n11, rfl, h11⟩ := cell_int tu28 (hx 11 28 x11 rfl rfl)
    obtain ⟨n11, rfl, _⟩ := nat16 h11
    obtain ⟨n12, rfl, _⟩ := cell_int tu3 (hx 12 3 x12 rfl rfl)
    obtain ⟨n13, rfl, _⟩ := cell_int tu3 (hx 13 3 x13 rfl rfl)
    obtain ⟨n14, rfl, _⟩ := cell_int tu3 (hx 14 3 x14 rfl rfl)
    obtain ⟨n15, rfl, _⟩ := cell_int tu3 (hx 15 3 x15 rfl rfl)
    obtain ⟨n16, rfl, _⟩ := cell_int tu31 (hx 16 31 x16 rfl rfl)
    exact ⟨⟨i, n1, n2, n3, n4, n5, b6, n7, n8, n9, n10, n11, n12, n13, n14, n15, n16⟩, x17, m, XS, X, rfl, hi', hp, hX⟩
end Go.Proofs.Ytidgdanhnpfpmaa
