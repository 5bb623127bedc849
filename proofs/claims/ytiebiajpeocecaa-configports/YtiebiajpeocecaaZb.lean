/- What a bridge that came in gives. -/
import Derived.Test.YtiebiajpeocecaaZa
namespace Go.Proofs.Ytiebiajpeocecaa
open Go.RowKit Go.Lib
open Go.ChangeShapes Go.WideShapes Go.ChangeAt


/-- A cell of a kind, and no number out of its kind's bounds. -/
def kindWf : Option IntKind → Value → Prop
  | some k, v => ∃ n, v = .int k n ∧ (Lit.int k n).wf = true
  | none, v => ∃ b, v = .bool b
theorem kindWf.ok {q : Option IntKind} {v : Value} (h : kindWf q v) : kindOk q v := by
  cases q with
  | none => exact h
  | some k => obtain ⟨n, e, _⟩ := h; exact ⟨n, e⟩
/-- The fields of a type cover its cells. -/
noncomputable def cov : Nat → TypeId → Bool
  | 0, _ => false
  | d + 1, t => match Try.prog.underlying t with
    | some (.struct fs) => (List.range (Try.prog.cellsOf t)).all (fun j => fs.toList.any (fun f => decide (f.offset ≤ j) && decide (j < f.offset + Try.prog.cellsOf f.type))) && fs.toList.all (fun f => cov d f.type)
    | _ => true
variable {H : Type} {enc : TypeId × Value → H}
theorem trod_kinds {w : World} {base : Nat} {spare : Nat → Bool} {held : Bool} (ks : List (Option IntKind)) : ∀ (d : Nat) (t off fuel : Nat) (cs : List Value) (x : DataW H × List MemPlace), chk ks d t off = true → cov d t = true → DataW.trod enc Try.prog w base spare held fuel t cs = some x →
    cs.length = Try.prog.cellsOf t ∧ ∀ j, j < Try.prog.cellsOf t → ∃ q v, ks[off + j]? = some q ∧ cs[j]? = some v ∧ kindWf q v
  | 0, _, _, _, _, _, h, _, _ => by simp [chk] at h
  | d + 1, t, off, fuel, cs, x, h, hc, ht => by
    unfold chk at h
    split at h
    · rename_i hu
      simp at h
      obtain ⟨b, rfl, _⟩ := DataW.trod_bool hu ht
      refine ⟨by rw [h.2]; rfl, fun j hj => ?_⟩
      obtain rfl : j = 0 := by omega
      exact ⟨none, _, by simpa using h.1, rfl, b, rfl⟩
    · rename_i k hu
      simp at h
      obtain ⟨n, rfl, _, hw⟩ := DataW.trod_int hu ht
      refine ⟨by rw [h.2]; rfl, fun j hj => ?_⟩
      obtain rfl : j = 0 := by omega
      exact ⟨some k, _, by simpa using h.1, rfl, n, rfl, hw⟩
    · rename_i fs hu
      simp only [Bool.and_eq_true, Bool.not_eq_true', List.all_eq_true, decide_eq_true_eq] at h
      unfold cov at hc
      rw [hu] at hc
      simp only [Bool.and_eq_true, List.all_eq_true, List.any_eq_true, decide_eq_true_eq, List.mem_range] at hc
      obtain ⟨_, h3⟩ := h
      obtain ⟨hc1, hc2⟩ := hc
      obtain ⟨xs, n, _, _, hl, hxl, hf⟩ := DataW.trod_struct hu ht
      refine ⟨hl, fun j hj => ?_⟩
      obtain ⟨f, hfm, h1, h2⟩ := hc1 j hj
      obtain ⟨i, hi, he⟩ := List.mem_iff_getElem.1 hfm
      have hi' : i < fs.size := by simpa using hi
      have hfi : fs[i]? = some f := by rw [← he]; simp
      have hg := hf i f hfi
      rw [List.getElem?_eq_getElem (by rw [hxl]; exact hi')] at hg
      obtain ⟨hl2, hk⟩ := trod_kinds ks d f.type (off + f.offset) n _ _ (h3 f hfm).2 (hc2 f hfm) hg
      obtain ⟨q, v, hq, hv, hw⟩ := hk (j - f.offset) (by omega)
      refine ⟨q, v, by rw [← hq]; congr 1; omega, ?_, hw⟩
      rw [← hv, List.getElem?_take, if_pos (by omega), List.getElem?_drop]
      congr 1; omega
    · cases h
theorem cov48 : cov 4 54 = true := by kernel_rfl
/-- A port that came in. -/
theorem port_in {w : World} {base : Nat} {spare : Nat → Bool} {held : Bool} {fuel : Nat} {cs : List Value} {x : DataW H × List MemPlace} (h : DataW.trod enc Try.prog w base spare held fuel 54 cs = some x) :
    ∃ (xs : Array Value) (p : Pd), xs.toList = cs ∧ p.In xs ∧ Typed xs := by
  obtain ⟨hl, hk⟩ := trod_kinds kinds 4 54 0 fuel cs x chk48 cov48 h
  rw [c48] at hl hk
  have get : ∀ j q, kinds[j]? = some q → j < 90 → ∃ v, cs.toArray[j]? = some v ∧ kindWf q v := fun j q hq hj => by
    obtain ⟨q', v, hq', hv, hw⟩ := hk j hj
    rw [Nat.zero_add, hq] at hq'
    cases hq'
    exact ⟨v, by simpa using hv, hw⟩
  obtain ⟨_, e0, n0, rfl, w0⟩ := get 0 (some .u16) rfl (by omega)
  obtain ⟨_, e1, n1, rfl, w1⟩ := get 1 (some .u32) rfl (by omega)
  obtain ⟨_, e44, n44, rfl, w44⟩ := get 44 (some .i64) rfl (by omega)
  obtain ⟨_, e56, n56, rfl, w56⟩ := get 56 (some .u64) rfl (by omega)
  obtain ⟨_, e57, n57, rfl, w57⟩ := get 57 (some .u32) rfl (by omega)
  obtain ⟨_, e58, n58, rfl, w58⟩ := get 58 (some .u64) rfl (by omega)
  obtain ⟨_, e59, n59, rfl, w59⟩ := get 59 (some .u16) rfl (by omega)
  obtain ⟨_, e68, n68, rfl, _⟩ := get 68 (some .i64) rfl (by omega)
  obtain ⟨_, e69, n69, rfl, _⟩ := get 69 (some .i64) rfl (by omega)
  obtain ⟨_, e70, n70, rfl, _⟩ := get 70 (some .i64) rfl (by omega)
  obtain ⟨_, e71, n71, rfl, _⟩ := get 71 (some .i64) rfl (by omega)
  obtain ⟨i, rfl, li⟩ := wf16 w0
  obtain ⟨c, rfl, lc⟩ := wf32 w1
  obtain ⟨vr, rfl, lr⟩ := word_wf w56
  obtain ⟨vc, rfl, lvc⟩ := wf32 w57
  obtain ⟨vb, rfl, lb⟩ := word_wf w58
  obtain ⟨vp, rfl, lp⟩ := wf16 w59
  refine ⟨cs.toArray, ⟨i, c, n44, vr, vc, vb, vp, n68, n69, n70, n71⟩, rfl, ⟨by simpa using hl, e0, e1, e44, e56, e57, e58, e59, e68, e69, e70, e71, li, lc, lr, lvc, lb, lp⟩, by simpa using hl, fun k q y hq hy => ?_⟩
  have hk90 : k < 90 := by rw [← kinds_len]; exact (List.getElem?_eq_some_iff.1 hq).1
  obtain ⟨v, hv, hw⟩ := get k q hq hk90
  rw [hv] at hy
  cases hy
  exact hw.ok

theorem cell_bool {P : Program} {t : TypeId} {W : World} {b : Nat} {v : Value} (hu : P.underlying t = some .bool) (h : Cell.okWide P W .any b t v) : ∃ n, v = .bool n := by
  unfold Cell.okWide at h
  rw [hu] at h
  simp only [Cell.ok, hu] at h
  cases v <;> simp at h
  exact ⟨_, rfl⟩
theorem tu23 : Try.prog.underlying 46 = some (.int .u64) := by kernel_rfl
theorem tu26 : Try.prog.underlying 31 = some (.int .u32) := by kernel_rfl
theorem tu28 : Try.prog.underlying 42 = some (.int .u16) := by kernel_rfl
theorem tu3 : Try.prog.underlying 3 = some (.int .i64) := by kernel_rfl
theorem tu31 : Try.prog.underlying 52 = some (.int .i64) := by kernel_rfl
theorem tu4 : Try.prog.underlying 4 = some .bool := by kernel_rfl
theorem field8 : ((Try.prog.fieldsOf 71)[8]?).map (fun f => (f.type, f.offset)) = some (69, 17) := by kernel_rfl
theorem size34 : (Try.prog.fieldsOf 71).size = 9 := by kernel_rfl
theorem c32 : Try.prog.cellsOf 69 = 1 := by kernel_rfl
theorem ports_in {W : World} {fuel : Nat} {s : Value} {x : DataW H × List MemPlace} (h : DataW.trod enc Try.prog W 0 (fun _ => true) true fuel 69 [s] = some x) :
    ∃ (n : Nat) (XS : Nat → Array Value) (X : Nat → Pd), PIn W s n XS ∧ ∀ i, i < n → (X i).In (XS i) ∧ Typed (XS i) := by
  rcases Go.Deep.open_slice und32 h with ⟨hcs, _⟩ | ⟨a, len, cap, m, k, D, Pl, hcs, _, hl, _, hm, _, hx⟩
  · simp at hcs
    subst hcs
    exact ⟨0, fun _ => #[], fun _ => ⟨0, 0, 0, 0, 0, 0, 0, 0, 0, 0, 0⟩, ⟨none, 0, rfl, fun _ => ⟨rfl, rfl⟩, fun h => absurd h (by omega)⟩, fun i hi => absurd hi (by omega)⟩
  · simp at hcs
    subst hcs
    have hmc : m = cap := by simpa using hm
    subst hmc
    have each : ∀ i, i < len → ∃ q : Array Value × Pd, (∀ k, k < 90 → W.cell? ((a.add (i * 90)).add k) = q.1[k]?) ∧ q.2.In q.1 ∧ Typed q.1 := by
      intro i hi
      obtain ⟨cs', h1, h2⟩ := hx i (by omega)
      rw [c48] at h1
      obtain ⟨xs, p, rfl, hp, ht⟩ := port_in h2
      obtain ⟨_, _, hcell⟩ := World.cells?_some h1
      refine ⟨(xs, p), fun k hk => ?_, hp, ht⟩
      rw [hcell k hk]
      simp
    haveI : Inhabited (Array Value × Pd) := ⟨(#[], ⟨0, 0, 0, 0, 0, 0, 0, 0, 0, 0, 0⟩)⟩
    obtain ⟨q, hq⟩ := Go.Deep.choose_lt each
    refine ⟨len, fun i => (q i).1, fun i => (q i).2, ⟨some a, m, rfl, fun h => (by cases h), fun hn => ?_⟩, fun i hi => (hq i hi).2⟩
    have h0 := (hq 0 hn).1 0 (by omega)
    have hz := (hq 0 hn).2.2.1
    rw [Array.getElem?_eq_getElem (by rw [hz]; omega)] at h0
    have ha : a = ⟨a.block, a.off, none⟩ := by
      rw [Nat.zero_mul] at h0
      have h00 : (a.add 0).add 0 = a.add 0 := by rw [Go.Deep.add_add]
      rw [h00] at h0
      exact spot_none h0
    refine ⟨a.block, a.off, by rw [← ha], fun i hi k hk => ?_⟩
    have := (hq i hi).1 k hk
    rw [ha, addN, addN] at this
    exact this
theorem open_bridge {W : World} {g : Nat} {v : Value} {d : DataW H} {ps : List MemPlace} (hval : Value.okWide Try.prog W .any g 71 v) (hd : DataW.Trod enc Try.prog W 0 (fun _ => true) true 71 v d ps) :
    ∃ (B : Bd) (s : Value) (n : Nat) (XS : Nat → Array Value) (X : Nat → Pd), v = .agg (B.cells s) ∧ B.id < 18446744073709551616 ∧ PIn W s n XS ∧ ∀ i, i < n → (X i).In (XS i) ∧ Typed (XS i) := by
  obtain ⟨l, rfl, hl, hx⟩ := open_struct (ts := [46, 3, 3, 3, 3, 3, 4, 46, 31, 46, 42, 42, 3, 3, 3, 3, 52, 69]) uB (by kernel_rfl) (by kernel_rfl) hval
  obtain ⟨fuel, hf⟩ := hd
  match l, hl with
  | [x0, x1, x2, x3, x4, x5, x6, x7, x8, x9, x10, x11, x12, x13, x14, x15, x16, x17], _ =>
    obtain ⟨xs, n, _, _, _, hxl, hff⟩ := DataW.trod_struct uB hf
    obtain ⟨f8, hf8, h8⟩ : ∃ f, (Try.prog.fieldsOf 71)[8]? = some f ∧ (f.type, f.offset) = (69, 17) := by
      have := field8
      cases h : (Try.prog.fieldsOf 71)[8]? with
      | none => rw [h] at this; cases this
      | some f => rw [h] at this; exact ⟨f, rfl, by simpa using this⟩
    simp only [Prod.mk.injEq] at h8
    have g8 := hff 8 f8 hf8
    rw [h8.1, h8.2, c32, List.getElem?_eq_getElem (by rw [hxl, size34]; omega)] at g8
    simp only [Value.cells, List.drop_succ_cons, List.drop_zero, List.take_succ_cons, List.take_zero] at g8
    obtain ⟨m, XS, X, hp, hX⟩ := ports_in g8
    obtain ⟨i, rfl, hi⟩ := cell_int tu23 (hx 0 46 x0 rfl rfl)
    obtain ⟨i, rfl, hi'⟩ := nat64 hi
    obtain ⟨n1, rfl, _⟩ := cell_int tu3 (hx 1 3 x1 rfl rfl)
    obtain ⟨n2, rfl, _⟩ := cell_int tu3 (hx 2 3 x2 rfl rfl)
    obtain ⟨n3, rfl, _⟩ := cell_int tu3 (hx 3 3 x3 rfl rfl)
    obtain ⟨n4, rfl, _⟩ := cell_int tu3 (hx 4 3 x4 rfl rfl)
    obtain ⟨n5, rfl, _⟩ := cell_int tu3 (hx 5 3 x5 rfl rfl)
    obtain ⟨b6, rfl⟩ := cell_bool tu4 (hx 6 4 x6 rfl rfl)
    obtain ⟨n7, rfl, h7⟩ := cell_int tu23 (hx 7 46 x7 rfl rfl)
    obtain ⟨n7, rfl, _⟩ := nat64 h7
    obtain ⟨n8, rfl, h8'⟩ := cell_int tu26 (hx 8 31 x8 rfl rfl)
    obtain ⟨n8, rfl, _⟩ := nat32 h8'
    obtain ⟨n9, rfl, h9⟩ := cell_int tu23 (hx 9 46 x9 rfl rfl)
    obtain ⟨n9, rfl, _⟩ := nat64 h9
    obtain ⟨n10, rfl, h10⟩ := cell_int tu28 (hx 10 42 x10 rfl rfl)
    obtain ⟨n10, rfl, _⟩ := nat16 h10
    obtain ⟨n11, rfl, h11⟩ := cell_int tu28 (hx 11 42 x11 rfl rfl)
    obtain ⟨n11, rfl, _⟩ := nat16 h11
    obtain ⟨n12, rfl, _⟩ := cell_int tu3 (hx 12 3 x12 rfl rfl)
    obtain ⟨n13, rfl, _⟩ := cell_int tu3 (hx 13 3 x13 rfl rfl)
    obtain ⟨n14, rfl, _⟩ := cell_int tu3 (hx 14 3 x14 rfl rfl)
    obtain ⟨n15, rfl, _⟩ := cell_int tu3 (hx 15 3 x15 rfl rfl)
    obtain ⟨n16, rfl, _⟩ := cell_int tu31 (hx 16 52 x16 rfl rfl)
    exact ⟨⟨i, n1, n2, n3, n4, n5, b6, n7, n8, n9, n10, n11, n12, n13, n14, n15, n16⟩, x17, m, XS, X, rfl, hi', hp, hX⟩
end Go.Proofs.Ytiebiajpeocecaa
