/- Cells put one behind the other; a place of a list of entries written; append of a slice that may be nil. -/
import Derived.Test.YtkdaloikpljccaaV
namespace Go.Proofs.Ytkdaloikpljccaa
open Go.RowKit Go.Sort Go.Maps
def putL (A : Array Value) : Nat → List Value → Array Value
  | _, [] => A
  | o, v :: l => putL (A.setIfInBounds o v) (o + 1) l
theorem putL_size : ∀ (l : List Value) (A : Array Value) (o : Nat), (putL A o l).size = A.size
  | [], _, _ => rfl
  | v :: l, A, o => by rw [putL, putL_size l]; simp
theorem putL_at : ∀ (l : List Value) (A : Array Value) (o j : Nat), (putL A o l)[j]? = if o ≤ j ∧ j < o + l.length ∧ j < A.size then l[j - o]? else A[j]?
  | [], A, o, j => by rw [putL, if_neg (by simp; omega)]
  | v :: l, A, o, j => by
    rw [putL, putL_at l, Array.getElem?_setIfInBounds]
    by_cases hj : o = j
    · subst hj
      rw [if_neg (by omega), if_pos rfl]
      by_cases hs : o < A.size
      · rw [if_pos hs, if_pos ⟨Nat.le_refl _, by simp, hs⟩]; simp
      · rw [if_neg hs, if_neg (by omega)]
        simp [hs]
    · rw [if_neg hj]
      by_cases h : o + 1 ≤ j ∧ j < o + 1 + l.length ∧ j < A.size
      · rw [if_pos (by simpa using h), if_pos (by simp; omega), show j - o = (j - (o + 1)) + 1 by omega]
        simp
      · rw [if_neg (by simpa using h), if_neg (by simp; omega)]
theorem VarAt.putL {b : Nat} {t : TypeId} : ∀ (l : List Value) {w : World} {A : Array Value} (o : Nat), VarAt w b A t → VarAt (w.setCells b o l) b (putL A o l) t
  | [], _, _, _, h => h
  | v :: l, _, _, o, h => VarAt.putL l (o + 1) (h.set o v)
theorem Below.setL {B b : Nat} {a : World} (hB : B ≤ b) : ∀ (l : List Value) {w : World} (o : Nat), Below B a w → Below B a (w.setCells b o l)
  | [], _, _, h => h
  | v :: l, _, o, h => Below.setL hB l (o + 1) (h.setCell hB v)
theorem VarAt.set_other {w : World} {b : Nat} {xs : Array Value} {t : TypeId} (h : VarAt w b xs t) {p : Addr} (hp : b ≠ p.block) (u : Value) : VarAt (w.setCell p u) b xs t := by
  unfold VarAt at *; rw [Below.heap_setCell _ _ _ _ hp]; exact h
theorem VarAt.setL_other {b c : Nat} {xs : Array Value} {t : TypeId} (hc : b ≠ c) : ∀ (l : List Value) {w : World} (o : Nat), VarAt w b xs t → VarAt (w.setCells c o l) b xs t
  | [], _, _, h => h
  | v :: l, _, o, h => VarAt.setL_other hc l (o + 1) (h.set_other hc v)
theorem VarAt.there {w : World} {b : Nat} {xs : Array Value} {t : TypeId} (h : VarAt w b xs t) (o n : Nat) (hn : o + n ≤ xs.size) : w.there b o n := fun j hj => by
  refine ⟨?_, h.frozen _⟩
  rw [h.cell]
  simp; omega


theorem enc_len (e : Ent) : (encE e).length = 10 := rfl
/-- A place of the list written, in memory. -/
theorem flat_set : ∀ (l : List Ent) (i : Nat) (e : Ent), i < l.length → ∀ j, j < l.length * 10 → ((l.set i e).flatMap encE)[j]? = if i * 10 ≤ j ∧ j < i * 10 + 10 then (encE e)[j - i * 10]? else (l.flatMap encE)[j]? := by
  intro l i e hi j hj
  have hq : j / 10 < l.length := by omega
  have h1 : l[j / 10]? = some l[j / 10] := List.getElem?_eq_getElem hq
  have e1 := flat_at l (j / 10) _ h1 (j % 10) (by omega)
  rw [show j / 10 * 10 + j % 10 = j by omega] at e1
  by_cases h : j / 10 = i
  · have h2 : (l.set i e)[j / 10]? = some e := by rw [h]; simp [hi]
    have e2 := flat_at (l.set i e) (j / 10) _ h2 (j % 10) (by omega)
    rw [show j / 10 * 10 + j % 10 = j by omega] at e2
    rw [e2, if_pos (by omega)]
    congr 1
    omega
  · have h2 : (l.set i e)[j / 10]? = some l[j / 10] := by rw [List.getElem?_set_ne (fun x => h x.symm)]; exact h1
    have e2 := flat_at (l.set i e) (j / 10) _ h2 (j % 10) (by omega)
    rw [show j / 10 * 10 + j % 10 = j by omega] at e2
    rw [e2, if_neg (by omega), e1]
theorem own_set {w : World} {B g cap i : Nat} {l : List Ent} {e : Ent} (h : w.ownsRow B 39 10 (.slice (some ⟨g, 0, none⟩) l.length cap) l.length (l.flatMap encE)) (hi : i < l.length) :
    (w.setCells g (i * 10) (encE e)).ownsRow B 39 10 (.slice (some ⟨g, 0, none⟩) (l.set i e).length cap) (l.set i e).length ((l.set i e).flatMap encE) := by
  obtain ⟨hl, h1 | ⟨g', cap', cur, hv, hB, hg, h2, h3, h4, h5⟩⟩ := h
  · cases h1.1
  · simp only [Value.slice.injEq, Option.some.injEq, Addr.mk.injEq] at hv
    obtain ⟨⟨rfl, _⟩, _, rfl⟩ := hv
    have hv : VarAt w g cur 39 := hg
    have hv2 := VarAt.putL (encE e) (i * 10) hv
    refine ⟨flat_len _, Or.inr ⟨g, cap, putL cur (i * 10) (encE e), rfl, hB, hv2, by simpa using h2, h3, by rw [putL_size]; exact h4, ?_⟩⟩
    apply List.ext_getElem?
    intro j
    by_cases hj : j < l.length * 10
    · have e1 : cur[j]? = (l.flatMap encE)[j]? := by
        rw [← h5, List.getElem?_take]
        simp [hj]
      rw [flat_set l i e hi j hj, List.getElem?_take, if_pos (by simpa using hj)]
      have e2 := putL_at (encE e) cur (i * 10) j
      rw [enc_len] at e2
      have hc : j < cur.size := by rw [h4]; omega
      simp only [Array.getElem?_toList]
      rw [e2, e1]
      by_cases h6 : i * 10 ≤ j ∧ j < i * 10 + 10
      · rw [if_pos ⟨h6.1, h6.2, hc⟩, if_pos h6]
      · rw [if_neg (fun x => h6 ⟨x.1, x.2.1⟩), if_neg h6]
    · rw [List.getElem?_eq_none (by simp; omega), List.getElem?_eq_none (by rw [flat_len]; simp; omega)]

/-- Entries that can be appended: none, or cells one behind the other. -/
def News (w : World) (x : Value) (m : Nat) (ys : List Value) : Prop := ys.length = m * 10 ∧ (∀ u ∈ ys, u.oneCell' = true) ∧ ((x = .slice none 0 0 ∧ m = 0) ∨ ∃ ad c, x = .slice (some ad) m c ∧ ∀ j u, ys[j]? = some u → w.cell? (ad.add j) = some u)
theorem app_run {w : World} {B n m : Nat} {v x : Value} {xs ys : List Value} (ty : TypeId) (h : w.ownsRow B 39 10 v n xs) (hx : News w x m ys) (h1 : n + m ≤ 1000) (hB : B ≤ w.heap.size) :
    ∃ v' w', (Builtin.append_ #[29, 29] ty #[v, x]).run Try.prog w = .ok v' w' ∧ w'.ownsRow B 39 10 v' (n + m) (xs ++ ys) ∧ w.grownBy w' v.ownBlock ∧ (v'.ownBlock = v.ownBlock ∨ v'.ownBlock = some w.heap.size) := by
  obtain ⟨ia, hia⟩ := info_parts info39
  obtain ⟨hl, h1c, ⟨rfl, rfl⟩ | ⟨ad, c, rfl, hc⟩⟩ := hx
  · have : ys = [] := List.eq_nil_of_length_eq_zero (by simpa using hl)
    subst this
    refine ⟨v, w, ?_, by simpa using h, ⟨rfl, rfl, rfl, Nat.le_refl _, fun _ _ _ => rfl⟩, Or.inl rfl⟩
    rcases h.2 with ⟨rfl, rfl⟩ | ⟨g, cap, cur, rfl, _, hg, hn, _⟩
    · simp [Builtin.append_, run_underlying und29, sizeOf, typeInfo, hia.1, Builtin.lenOf, Builtin.firstCells]
    · simp [Builtin.append_, run_underlying und29, sizeOf, typeInfo, hia.1, Builtin.lenOf, Builtin.firstCells, loadCells, hn, storeCells]
  · obtain ⟨v', w', hr, h2, h3, _, h5⟩ := run_append_own_at (P := Try.prog) w B 29 ty 39 ia noEnt 10 40 und29 hia.1 hia.2.1 hia.2.2.1 hia.2.2.2 rfl (by decide) v n xs h ad m c ys hl hc h1c (by unfold maxLen; omega) (by omega) hB
    exact ⟨v', w', hr, h2, h3, h5⟩
end Go.Proofs.Ytkdaloikpljccaa
