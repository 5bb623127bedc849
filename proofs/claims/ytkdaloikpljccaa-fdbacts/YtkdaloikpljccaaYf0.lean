/- A second goes by in the model: entries aged in their places. -/
import Derived.Test.YtkdaloikpljccaaY
namespace Go.Proofs.Ytkdaloikpljccaa
open Go.RowKit Go.Sort Go.Maps
variable {w w' : World} {mb B : Nat} {v : Value} {most : Int} {l : List Ent}
theorem Up.of_map {l k : List Ent} (h : Up l) (e : k.map (fun x => x.n) = l.map fun x => x.n) : Up k := by
  refine ⟨?_, fun x hx => ?_⟩
  · have h1 : (l.map fun x => x.n).Pairwise (· < ·) := List.pairwise_map.2 h.up
    rw [← e] at h1
    exact List.pairwise_map.1 h1
  · have h1 : x.n ∈ l.map fun x => x.n := by rw [← e]; exact List.mem_map.2 ⟨x, hx, rfl⟩
    obtain ⟨y, hy, hyx⟩ := List.mem_map.1 h1
    rw [← hyx]
    exact h.lt y hy
/-- The first i of them are a second older. -/
def agedL (l : List Ent) (i : Nat) : List Ent := (l.take i).map older ++ l.drop i
theorem agedL_zero (l : List Ent) : agedL l 0 = l := by simp [agedL]
theorem agedL_all (l : List Ent) : agedL l l.length = l.map older := by simp [agedL]
theorem agedL_len (l : List Ent) (i : Nat) : (agedL l i).length = l.length := by simp [agedL]; omega
theorem agedL_ns (l : List Ent) (i : Nat) : (agedL l i).map (fun x => x.n) = l.map fun x => x.n := by
  unfold agedL
  rw [List.map_append, List.map_map]
  have : (fun x : Ent => x.n) ∘ older = fun x => x.n := by funext x; exact older_n x
  rw [this, ← List.map_append, List.take_append_drop]
theorem agedL_at {i : Nat} {e : Ent} (h : l[i]? = some e) : (agedL l i)[i]? = some e := by
  have hi := (List.getElem?_eq_some_iff.1 h).1
  unfold agedL
  rw [List.getElem?_append_right (by simp; omega)]
  simp only [List.length_map, List.length_take, List.getElem?_drop]
  rw [show i + (i - min i l.length) = i by omega]
  exact h
theorem agedL_succ {i : Nat} {e : Ent} (h : l[i]? = some e) : agedL l (i + 1) = (agedL l i).set i (older e) := by
  have hi := (List.getElem?_eq_some_iff.1 h).1
  unfold agedL
  rw [List.take_add_one, h, Option.toList_some, List.map_append, List.map_singleton, List.set_append, if_neg (by simp; omega)]
  simp only [List.length_map, List.length_take]
  rw [show i - min i l.length = 0 by omega, List.drop_eq_getElem_cons hi, List.set_cons_zero, List.append_assoc]
  rfl
theorem agedL_static {i : Nat} {e : Ent} (h : l[i]? = some e) (hs : e.st = true) : agedL l (i + 1) = agedL l i := by
  rw [agedL_succ h, older_st hs]
  apply List.ext_getElem?
  intro j
  by_cases hj : i = j
  · subst hj
    rw [agedL_at h]
    have := (List.getElem?_eq_some_iff.1 (agedL_at h)).1
    simp [this]
  · rw [List.getElem?_set_ne hj]
theorem flat_age {i : Nat} {e : Ent} (h : l[i]? = some e) (hs : e.st = false) : (l.set i (older e)).flatMap encE = (l.flatMap encE).set (i * 10 + 8) (.int .i64 (wrap64 (e.age + 1))) := by
  have hi := (List.getElem?_eq_some_iff.1 h).1
  apply List.ext_getElem?
  intro j
  by_cases hj : j < l.length * 10
  · rw [flat_set l i (older e) hi j hj]
    by_cases hw : i * 10 ≤ j ∧ j < i * 10 + 10
    · rw [if_pos hw, older_not hs]
      obtain ⟨c, hc, rfl⟩ : ∃ c, c < 10 ∧ j = i * 10 + c := ⟨j - i * 10, by omega, by omega⟩
      have h1 := flat_at l i e h c hc
      rw [show i * 10 + c - i * 10 = c by omega]
      by_cases h8 : c = 8
      · subst h8
        have hl : i * 10 + 8 < (l.flatMap encE).length := by rw [flat_len]; omega
        rw [List.getElem?_set_self hl]
        rfl
      · rw [List.getElem?_set_ne (by omega), h1]
        rcases (show c = 0 ∨ c = 1 ∨ c = 2 ∨ c = 3 ∨ c = 4 ∨ c = 5 ∨ c = 6 ∨ c = 7 ∨ c = 9 by omega) with rfl | rfl | rfl | rfl | rfl | rfl | rfl | rfl | rfl <;> simp [encE, hs]
    · rw [if_neg hw, List.getElem?_set_ne (by omega)]
  · rw [List.getElem?_eq_none (by rw [flat_len]; simp; omega), List.getElem?_eq_none (by simp; rw [show (List.map (fun a => (encE a).length) l).sum = (l.flatMap encE).length by simp, flat_len]; omega)]
theorem own_cell {g n cap j : Nat} {xs : List Value} {u : Value} (h : w.ownsRow B 39 10 (.slice (some ⟨g, 0, none⟩) n cap) n xs) (_ : j < n * 10) : (w.setCell ⟨g, j, none⟩ u).ownsRow B 39 10 (.slice (some ⟨g, 0, none⟩) n cap) n (xs.set j u) := by
  obtain ⟨hl, h1 | ⟨g', cap', cur, hv, hB, hg, h2, h3, h4, h5⟩⟩ := h
  · cases h1.1
  · simp only [Value.slice.injEq, Option.some.injEq, Addr.mk.injEq] at hv
    obtain ⟨⟨rfl, _⟩, _, rfl⟩ := hv
    have hv : VarAt w g cur 39 := hg
    refine ⟨by simpa using hl, Or.inr ⟨g, cap, cur.setIfInBounds j u, rfl, hB, hv.set j u, h2, h3, by simpa using h4, ?_⟩⟩
    rw [← h5]
    simp [List.take_set]
theorem Mdl.agedStep {g n cap i : Nat} {e : Ent} (h : Mdl w mb (.slice (some ⟨g, 0, none⟩) n cap) most B (agedL l i)) (he : l[i]? = some e) (hs : e.st = false) :
    Mdl (w.setCell ⟨g, i * 10 + 8, none⟩ (.int .i64 (wrap64 (e.age + 1)))) mb (.slice (some ⟨g, 0, none⟩) n cap) most B (agedL l (i + 1)) ∧ Off (MOff mb (.slice (some ⟨g, 0, none⟩) n cap)) w (w.setCell ⟨g, i * 10 + 8, none⟩ (.int .i64 (wrap64 (e.age + 1)))) := by
  have hi := (List.getElem?_eq_some_iff.1 he).1
  obtain ⟨_, hn, _, _, _, _, hmg⟩ := h.known
  have ho : Off (fun k => k = g) w (w.setCell ⟨g, i * 10 + 8, none⟩ (.int .i64 (wrap64 (e.age + 1)))) := ⟨rfl, rfl, rfl, by simp [World.setCell], fun k _ hk => Below.heap_setCell _ _ _ _ hk⟩
  rw [agedL_len] at hn
  subst hn
  refine ⟨⟨ho.var h.row hmg, ?_, h.up.of_map (by rw [agedL_ns, agedL_ns]), by rw [agedL_len]; have := h.few; rw [agedL_len] at this; exact this⟩, ho.mono (fun k _ hk => Or.inr (by rw [hk]; rfl))⟩
  have h1 := h.own
  rw [agedL_len] at h1 ⊢
  have h2 := own_cell (j := i * 10 + 8) (u := .int .i64 (wrap64 (e.age + 1))) h1 (by omega)
  rw [← flat_age (agedL_at he) hs, ← agedL_succ he] at h2
  exact h2
end Go.Proofs.Ytkdaloikpljccaa
