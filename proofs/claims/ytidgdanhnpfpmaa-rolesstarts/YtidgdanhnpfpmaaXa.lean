/- What a bridge that came in gives. -/
import Derived.Test.YtidgdanhnpfpmaaXb
import Derived.Test.YtidgdanhnpfpmaaCa
import Derived.Test.YtidgdanhnpfpmaaFa
namespace Go.Proofs.Ytidgdanhnpfpmaa
open Go.RowKit Go.Lib
open Go.ChangeShapes Go.WideShapes Go.ChangeAt

/-- A cell of a kind, and no number out of its kind's bounds. -/
def kindWf : Option IntKind → Value → Prop
  | some k, v => ∃ n, v = .int k n ∧ (Lit.int k n).wf = true
  | none, v => ∃ b, v = .bool b
theorem kindWf.ok {q : Option IntKind} {v : Value} (h : kindWf q v) : kindOk q v := by
  cases q with
  | none => exact h
  | some k => obtain ⟨n, e, _⟩ := h; exact ⟨n, e⟩
/-- The fields of a type cover its cells. -/
noncomputable def cov : Nat → TypeId → Bool
  | 0, _ => false
  | d + 1, t => match Try.prog.underlying t with
    | some (.struct fs) => (List.range (Try.prog.cellsOf t)).all (fun j => fs.toList.any (fun f => decide (f.offset ≤ j) && decide (j < f.offset + Try.prog.cellsOf f.type))) && fs.toList.all (fun f => cov d f.type)
    | _ => true
variable {H : Type} {enc : TypeId × Value → H}
theorem trod_kinds {w : World} {base : Nat} {spare : Nat → Bool} {held : Bool} (ks : List (Option IntKind)) : ∀ (d : Nat) (t off fuel : Nat) (cs : List Value) (x : DataW H × List MemPlace), chk ks d t off = true → cov d t = true → DataW.trod enc Try.prog w base spare held fuel t cs = some x →
    cs.length = Try.prog.cellsOf t ∧ ∀ j, j < Try.prog.cellsOf t → ∃ q v, ks[off + j]? = some q ∧ cs[j]? = some v ∧ kindWf q v
  | 0, _, _, _, _, _, h, _, _ => by simp [chk] at h
  | d + 1, t, off, fuel, cs, x, h, hc, ht => by
    unfold chk at h
    split at h
    · rename_i hu
      simp at h
      obtain ⟨b, rfl, _⟩ := DataW.trod_bool hu ht
      refine ⟨by rw [h.2]; rfl, fun j hj => ?_⟩
      obtain rfl : j = 0 := by omega
      exact ⟨none, _, by simpa using h.1, rfl, b, rfl⟩
    · rename_i k hu
      simp at h
      obtain ⟨n, rfl, _, hw⟩ := DataW.trod_int hu ht
      refine ⟨by rw [h.2]; rfl, fun j hj => ?_⟩
      obtain rfl : j = 0 := by omega
      exact ⟨some k, _, by simpa using h.1, rfl, n, rfl, hw⟩
    · rename_i fs hu
      simp only [Bool.and_eq_true, Bool.not_eq_true', List.all_eq_true, decide_eq_true_eq] at h
      unfold cov at hc
      rw [hu] at hc
      simp only [Bool.and_eq_true, List.all_eq_true, List.any_eq_true, decide_eq_true_eq, List.mem_range] at hc
      obtain ⟨_, h3⟩ := h
      obtain ⟨hc1, hc2⟩ := hc
      obtain ⟨xs, n, _, _, hl, hxl, hf⟩ := DataW.trod_struct hu ht
      refine ⟨hl, fun j hj => ?_⟩
      obtain ⟨f, hfm, h1, h2⟩ := hc1 j hj
      obtain ⟨i, hi, he⟩ := List.mem_iff_getElem.1 hfm
      have hi' : i < fs.size := by simpa using hi
      have hfi : fs[i]? = some f := by rw [← he]; simp
      have hg := hf i f hfi
      rw [List.getElem?_eq_getElem (by rw [hxl]; exact hi')] at hg
      obtain ⟨hl2, hk⟩ := trod_kinds ks d f.type (off + f.offset) n _ _ (h3 f hfm).2 (hc2 f hfm) hg
      obtain ⟨q, v, hq, hv, hw⟩ := hk (j - f.offset) (by omega)
      refine ⟨q, v, by rw [← hq]; congr 1; omega, ?_, hw⟩
      rw [← hv, List.getElem?_take, if_pos (by omega), List.getElem?_drop]
      congr 1; omega
    · cases h
theorem cov48 : cov 4 50 = true := by kernel_rfl
/-- A port that came in. -/
theorem port_in {w : World} {base : Nat} {spare : Nat → Bool} {held : Bool} {fuel : Nat} {cs : List Value} {x : DataW H × List MemPlace} (h : DataW.trod enc Try.prog w base spare held fuel 50 cs = some x) :
    ∃ (xs : Array Value) (p : Pd), xs.toList = cs ∧ p.In xs ∧ Typed xs := by
  obtain ⟨hl, hk⟩ := trod_kinds kinds 4 50 0 fuel cs x chk48 cov48 h
  rw [c48] at hl hk
  have get : ∀ j q, kinds[j]? = some q → j < 90 → ∃ v, cs.toArray[j]? = some v ∧ kindWf q v := fun j q hq hj => by
    obtain ⟨q', v, hq', hv, hw⟩ := hk j hj
    rw [Nat.zero_add, hq] at hq'
    cases hq'
    exact ⟨v, by simpa using hv, hw⟩
  obtain ⟨_, e0, n0, rfl, w0⟩ := get 0 (some .u16) rfl (by omega)
  obtain ⟨_, e1, n1, rfl, w1⟩ := get 1 (some .u32) rfl (by omega)
  obtain ⟨_, e44, n44, rfl, w44⟩ := get 44 (some .i64) rfl (by omega)
  obtain ⟨_, e56, n56, rfl, w56⟩ := get 56 (some .u64) rfl (by omega)
  obtain ⟨_, e57, n57, rfl, w57⟩ := get 57 (some .u32) rfl (by omega)
  obtain ⟨_, e58, n58, rfl, w58⟩ := get 58 (some .u64) rfl (by omega)
  obtain ⟨_, e59, n59, rfl, w59⟩ := get 59 (some .u16) rfl (by omega)
  obtain ⟨_, e68, n68, rfl, _⟩ := get 68 (some .i64) rfl (by omega)
  obtain ⟨_, e69, n69, rfl, _⟩ := get 69 (some .i64) rfl (by omega)
  obtain ⟨_, e70, n70, rfl, _⟩ := get 70 (some .i64) rfl (by omega)
  obtain ⟨_, e71, n71, rfl, _⟩ := get 71 (some .i64) rfl (by omega)
  obtain ⟨i, rfl, li⟩ := wf16 w0
  obtain ⟨c, rfl, lc⟩ := wf32 w1
  obtain ⟨vr, rfl, lr⟩ := word_wf w56
  obtain ⟨vc, rfl, lvc⟩ := wf32 w57
  obtain ⟨vb, rfl, lb⟩ := word_wf w58
  obtain ⟨vp, rfl, lp⟩ := wf16 w59
  refine ⟨cs.toArray, ⟨i, c, n44, vr, vc, vb, vp, n68, n69, n70, n71⟩, rfl, ⟨by simpa using hl, e0, e1, e44, e56, e57, e58, e59, e68, e69, e70, e71, li, lc, lr, lvc, lb, lp⟩, by simpa using hl, fun k q y hq hy => ?_⟩
  have hk90 : k < 90 := by rw [← kinds_len]; exact (List.getElem?_eq_some_iff.1 hq).1
  obtain ⟨v, hv, hw⟩ := get k q hq hk90
  rw [hv] at hy
  cases hy
  exact hw.ok
end Go.Proofs.Ytidgdanhnpfpmaa
