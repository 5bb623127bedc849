/- All: the entries are collected in whatever order, then sorted. -/
import Derived.Test.YtkdaloikpljccaaSb
import Derived.Test.YtkdaloikpljccaaQ
import Derived.Laws.MakeOwn
import Derived.OwnWalk
namespace Go.Proofs.Ytkdaloikpljccaa
open Go.RowKit Go.Sort Go.Maps Go.Shelf
variable {w w' : World} {tb b : Nat} {most : Int} {E : Nat → Option Ent} {l : List Ent}

/-! lists -/
theorem Up.ext : ∀ {l k : List Ent}, Up l → Up k → (∀ e, e ∈ l ↔ e ∈ k) → l = k
  | [], [], _, _, _ => rfl
  | [], y :: s, _, _, h => by have := (h y).2 (by simp); cases this
  | x :: r, [], _, _, h => by have := (h x).1 (by simp); cases this
  | x :: r, y :: s, hl, hk, h => by
    have h1 := hl.head
    have h2 := hk.head
    have e : x = y := by
      rcases List.mem_cons.1 ((h x).1 (by simp)) with e | hx
      · exact e
      · rcases List.mem_cons.1 ((h y).2 (by simp)) with e | hy
        · exact e.symm
        · have := h2 x hx; have := h1 y hy; omega
    subst e
    rw [Up.ext hl.tail hk.tail (fun e => ?_)]
    have he := h e
    simp only [List.mem_cons] at he
    constructor
    · intro hm
      rcases he.1 (Or.inr hm) with rfl | h3
      · have := h1 _ hm; omega
      · exact h3
    · intro hm
      rcases he.2 (Or.inr hm) with rfl | h3
      · have := h2 _ hm; omega
      · exact h3
theorem mac_num {n : Nat} (h : n < 281474976710656) : pref (ofN n) 6 = n := by rw [pref_ofN, Nat.mod_eq_of_lt h]

/-- The entries met so far. -/
structure Got (l : List Ent) (left : Lit → Bool) (ss : List Ent) : Prop where
  mem : ∀ e ∈ ss, e ∈ l ∧ left (lk e.n) = false
  all : ∀ e ∈ l, left (lk e.n) = false → e ∈ ss
  nodup : (ss.map fun e => e.n).Nodup
theorem Got.start {es : List (Lit × DataW Nat)} (hs : Says E es l) : Got l (Maps.has (.map es)) [] := by
  refine ⟨by simp, fun e he h => ?_, List.Pairwise.nil⟩
  obtain ⟨q, _, hm⟩ := hs.back e he
  have : Maps.has (.map es) (lk e.n) = true := List.any_eq_true.2 ⟨_, hm, WideAt.sameKey_self (law24.key (lk_key e.n))⟩
  rw [this] at h
  cases h
theorem Got.step {left : Lit → Bool} {ss : List Ent} (h : Got l left ss) (hu : Up l) {e : Ent} (he : e ∈ l) (hl : left (lk e.n) = true) : Got l (fun z => left z && !z.sameKey (lk e.n)) (ss ++ [e]) := by
  refine ⟨fun x hx => ?_, fun x hx hx2 => ?_, ?_⟩
  · rcases List.mem_append.1 hx with h1 | h1
    · exact ⟨(h.mem x h1).1, by simp [(h.mem x h1).2]⟩
    · rw [List.mem_singleton] at h1
      subst h1
      exact ⟨he, by simp [WideAt.sameKey_self (law24.key (lk_key x.n))]⟩
  · simp only [Bool.and_eq_false_iff, Bool.not_eq_false'] at hx2
    rcases hx2 with h1 | h1
    · exact List.mem_append.2 (Or.inl (h.all x hx h1))
    · have := lk_inj (hu.lt x hx) (hu.lt e he) (WideAt.sameKey_eq h1)
      rw [hu.one hx he this]
      simp
  · rw [List.map_append, List.nodup_append]
    refine ⟨h.nodup, by simp, fun a ha c hc hac => ?_⟩
    simp at hc
    obtain ⟨x, hx, rfl⟩ := List.mem_map.1 ha
    have h1 := (h.mem x hx).2
    rw [show x.n = e.n from hac.trans hc, hl] at h1
    cases h1
theorem Got.few {left : Lit → Bool} {ss : List Ent} (h : Got l left ss) : ss.length ≤ l.length := by
  have := len_le h.nodup (k := l.map fun e => e.n) (fun x hx => by
    obtain ⟨e, he, rfl⟩ := List.mem_map.1 hx
    exact List.mem_map.2 ⟨e, (h.mem e he).1, rfl⟩)
  simpa using this

/-! cells of entries, one behind the other -/
theorem flat_len : ∀ l : List Ent, (l.flatMap encE).length = l.length * 10
  | [] => rfl
  | e :: r => by rw [List.flatMap_cons, List.length_append, flat_len r, List.length_cons]; simp [encE]; omega
theorem flat_at : ∀ (l : List Ent) (i : Nat) (e : Ent), l[i]? = some e → ∀ c, c < 10 → (l.flatMap encE)[i * 10 + c]? = (encE e)[c]?
  | [], i, e, h, _, _ => by simp at h
  | x :: r, 0, e, h, c, hc => by
    simp at h
    subst h
    rw [List.flatMap_cons, Nat.zero_mul, Nat.zero_add, List.getElem?_append_left (by simpa [encE] using hc)]
  | x :: r, i + 1, e, h, c, hc => by
    have h' : r[i]? = some e := by simpa using h
    rw [List.flatMap_cons, List.getElem?_append_right (by simp [encE]; omega)]
    have : (i + 1) * 10 + c - (encE x).length = i * 10 + c := by simp [encE]; omega
    rw [this]
    exact flat_at r i e h' c hc
theorem flat_one (l : List Ent) : ∀ u ∈ l.flatMap encE, u.oneCell' = true := by
  intro u hu
  obtain ⟨e, _, h⟩ := List.mem_flatMap.1 hu
  simp [encE] at h
  rcases h with rfl | rfl | rfl | rfl | rfl | rfl | rfl | rfl | rfl | rfl <;> rfl
/-- A row of entries in memory, as it is read. -/
def Row10 (w : World) (g : Nat) (l : List Ent) : Prop := ∀ (i : Nat) (e : Ent), l[i]? = some e → ∀ c, c < 10 → w.cell? ⟨g, i * 10 + c, none⟩ = (entC e)[c]?
/-- A slice of entries. -/
def Sl (w : World) (v : Value) (l : List Ent) : Prop := (l = [] ∧ ∃ p cap, v = .slice p 0 cap) ∨ ∃ g cap, v = .slice (some ⟨g, 0, none⟩) l.length cap ∧ Row10 w g l
theorem Row10.below {g : Nat} (h : Row10 w g l) (hb : Below w.heap.size w w') : Row10 w' g l := fun i e hi c hc => by
  have h1 := h i e hi c hc
  have hc' : c < (entC e).size := hc
  rw [Array.getElem?_eq_getElem hc'] at h1 ⊢
  exact (hb.cell (p := ⟨g, i * 10 + c, none⟩) (block_lt_of_cell h1)).trans h1
theorem Sl.below {v : Value} (h : Sl w v l) (hb : Below w.heap.size w w') : Sl w' v l := by
  rcases h with h | ⟨g, cap, h1, h2⟩
  · exact Or.inl h
  · exact Or.inr ⟨g, cap, h1, h2.below hb⟩

theorem holds_of_own {B g cap : Nat} (h : w.ownsRow B 39 10 (.slice (some ⟨g, 0, none⟩) l.length cap) l.length (l.flatMap encE)) : HoldsK encE 10 w g 0 l.toArray ∧ g < w.heap.size ∧ B ≤ g := by
  obtain ⟨hl, h1 | ⟨g', cap', cur, hv, hB, hg, h2, h3, h4, h5⟩⟩ := h
  · cases h1.1
  · simp only [Value.slice.injEq, Option.some.injEq, Addr.mk.injEq] at hv
    obtain ⟨⟨rfl, _⟩, _, rfl⟩ := hv
    refine ⟨fun j hj => ?_, (Array.getElem?_eq_some_iff.1 hg).1, hB⟩
    rw [size_flatK] at hj
    have hj' : j < l.length * 10 := by simpa using hj
    have hv : VarAt w g cur 39 := hg
    refine ⟨?_, by rw [Nat.zero_add]; exact hv.frozen j⟩
    rw [Nat.zero_add, hv.cell j]
    have e1 : cur[j]? = (l.flatMap encE)[j]? := by
      rw [← h5, List.getElem?_take]
      simp [hj']
    have hi : j / 10 < l.length := by omega
    have e2 : l[j / 10]? = some (l[j / 10]) := List.getElem?_eq_getElem hi
    have e3 := flat_at l (j / 10) _ e2 (j % 10) (by omega)
    rw [show j / 10 * 10 + j % 10 = j by omega] at e3
    rw [e1, e3, get_flatK _ _ _ _ (by simpa using hj')]
    have e4 : (l.toArray)[j / 10]! = l[j / 10] := by simp [hi]
    rw [e4]
    have e5 : j % 10 < (encE l[j / 10]).length := by simp [encE]; omega
    rw [List.getElem?_eq_getElem e5]
    simp [e5]
theorem row_of_holds {g : Nat} {d : Array Ent} (h : HoldsK encE 10 w g 0 d) : Row10 w g d.toList := by
  intro i e hi c hc
  have hi' : i < d.size := by
    have := (List.getElem?_eq_some_iff.1 hi).1
    simpa using this
  have e1 : d[i]! = e := by
    have h3 : d.toList[i]? = some d[i] := by simp [hi']
    rw [h3] at hi
    cases hi
    simp [hi']
  have := (h.cell hi' hc).1
  rw [e1, Nat.zero_add] at this
  rw [this]
  have e5 : c < (encE e).length := by simpa [encE] using hc
  have e6 : c < (entC e).size := hc
  rw [getElem!_pos (encE e) c e5, Array.getElem?_eq_getElem e6]
  rfl
theorem putRow_off (enc : Value → Value) (w : World) (g off : Nat) (d : Array Value) : Off (fun k => k = g) w (putRow enc w g off d) := by
  refine ⟨rfl, rfl, rfl, by simp, fun k _ hk => ?_⟩
  simp only [putRow, mapBlock, Array.getElem?_modify]
  rw [if_neg (fun e => hk e.symm)]
theorem sortWorld_off (w : World) (g n : Nat) (d : Array Ent) (os : Array Obj) : Off (fun k => k = g) w (sortWorldK encE 10 w g 0 n d os) := by
  have h1 : Off (fun k => k = g) w (putRowK encE 10 (Sort.ahead w n) g 0 d) := by
    obtain ⟨a, c, x, y, z⟩ := putRow_off id (Sort.ahead w n) g 0 (flatK encE 10 d)
    exact ⟨a, c, x, y, z⟩
  unfold sortWorldK
  have h2 := below_regrown (putRowK encE 10 (Sort.ahead w n) g 0 d) (putRowK encE 10 (Sort.ahead w n) g 0 d).drawn os
  exact h1.trans (Below.off h2 (fun k => k = g)) (fun _ _ x => x)
end Go.Proofs.Ytkdaloikpljccaa
