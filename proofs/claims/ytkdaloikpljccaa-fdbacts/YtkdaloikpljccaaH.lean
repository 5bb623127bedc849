/- What becomes of a table: an entry is put, entries go; the laws at the map's operations. -/
import Derived.Test.YtkdaloikpljccaaG
namespace Go.Proofs.Ytkdaloikpljccaa
open Go.RowKit Go.Sort Go.Maps Go.ChangeMaps Go.WideElems

theorem Up.tail {x : Ent} {r : List Ent} (h : Up (x :: r)) : Up r := h.sub (List.sublist_cons_self x r)
theorem Up.head {x : Ent} {r : List Ent} (h : Up (x :: r)) : ∀ e ∈ r, x.n < e.n := (List.pairwise_cons.1 h.up).1
theorem Up.cons {x : Ent} {r : List Ent} (h : Up r) (h1 : ∀ e ∈ r, x.n < e.n) (h2 : x.n < 281474976710656) : Up (x :: r) :=
  ⟨List.pairwise_cons.2 ⟨h1, h.up⟩, fun e he => by rcases List.mem_cons.1 he with rfl | he; exact h2; exact h.lt e he⟩
/-- An entry put: in its place, or in place of its address' entry. -/
def putE (e : Ent) : List Ent → List Ent
  | [] => [e]
  | x :: r => if x.n < e.n then x :: putE e r else if x.n = e.n then e :: r else e :: x :: r
theorem mem_putE {e y : Ent} : ∀ {l : List Ent}, Up l → (y ∈ putE e l ↔ y = e ∨ (y ∈ l ∧ y.n ≠ e.n))
  | [], _ => by simp [putE]
  | x :: r, h => by
    have ih := mem_putE (e := e) (y := y) h.tail
    have hh := h.head
    unfold putE
    split
    · simp only [List.mem_cons, ih]
      constructor
      · rintro (rfl | rfl | h1)
        · exact Or.inr ⟨Or.inl rfl, by omega⟩
        · exact Or.inl rfl
        · exact Or.inr ⟨Or.inr h1.1, h1.2⟩
      · rintro (rfl | ⟨rfl | h1, h2⟩)
        · exact Or.inr (Or.inl rfl)
        · exact Or.inl rfl
        · exact Or.inr (Or.inr ⟨h1, h2⟩)
    · split
      · rename_i h1 h2
        simp only [List.mem_cons]
        constructor
        · rintro (rfl | h3)
          · exact Or.inl rfl
          · exact Or.inr ⟨Or.inr h3, by have := hh y h3; omega⟩
        · rintro (rfl | ⟨rfl | h3, h4⟩)
          · exact Or.inl rfl
          · exact absurd h2 h4
          · exact Or.inr h3
      · rename_i h1 h2
        simp only [List.mem_cons]
        constructor
        · rintro (rfl | rfl | h3)
          · exact Or.inl rfl
          · exact Or.inr ⟨Or.inl rfl, h2⟩
          · exact Or.inr ⟨Or.inr h3, by have := hh y h3; omega⟩
        · rintro (rfl | ⟨h3, _⟩)
          · exact Or.inl rfl
          · exact Or.inr h3
theorem Up.putE {e : Ent} (he : e.n < 281474976710656) : ∀ {l : List Ent}, Up l → Up (putE e l)
  | [], _ => ⟨by simp [Ytkdaloikpljccaa.putE], fun x hx => by simp [Ytkdaloikpljccaa.putE] at hx; rw [hx]; exact he⟩
  | x :: r, h => by
    have ih := Up.putE he h.tail
    have hh := h.head
    have hx := h.lt x (by simp)
    unfold Ytkdaloikpljccaa.putE
    split
    · refine ih.cons (fun y hy => ?_) hx
      rcases (mem_putE h.tail).1 hy with rfl | ⟨h1, _⟩
      · assumption
      · exact hh y h1
    · split
      · exact h.tail.cons (fun y hy => by have := hh y hy; omega) he
      · refine h.cons (fun y hy => ?_) he
        rcases List.mem_cons.1 hy with rfl | hy
        · omega
        · have := hh y hy; omega
theorem has_mem {l : List Ent} (h : Up l) {e : Ent} (he : e ∈ l) : has l e.n = true := by unfold has; rw [fnd_some h he]; rfl
theorem has_not {l : List Ent} {n : Nat} (h : ∀ e ∈ l, e.n ≠ n) : has l n = false := by unfold has; rw [fnd_none h]; rfl
theorem has_iff {l : List Ent} (h : Up l) {n : Nat} : has l n = true ↔ ∃ e ∈ l, e.n = n := by
  constructor
  · intro h1
    by_cases h2 : ∃ e ∈ l, e.n = n
    · exact h2
    · rw [has_not (fun e he hen => h2 ⟨e, he, hen⟩)] at h1
      cases h1
  · rintro ⟨e, he, rfl⟩
    exact has_mem h he
theorem putE_length {e : Ent} : ∀ {l : List Ent}, Up l → (putE e l).length = if has l e.n then l.length else l.length + 1
  | [], _ => by simp [putE, has, fnd]
  | x :: r, h => by
    have ih := putE_length (e := e) h.tail
    have hh := h.head
    unfold putE
    split
    · have : has (x :: r) e.n = has r e.n := by
        unfold has fnd
        rw [List.find?_cons_of_neg]
        simp; omega
      rw [this, List.length_cons, ih, List.length_cons]
      split <;> rfl
    · split
      · rename_i h1 h2
        rw [if_pos ((has_iff h).2 ⟨x, by simp, h2⟩)]; rfl
      · rename_i h1 h2
        rw [if_neg]
        · rfl
        · rw [has_iff h]
          rintro ⟨y, hy, hye⟩
          rcases List.mem_cons.1 hy with rfl | hy
          · exact h2 hye
          · have := hh y hy; omega

def upd (E : Nat → Option Ent) (q : Nat) (e : Ent) (k : Nat) : Option Ent := if k = q then some e else E k

variable {w w' : World} {tb b : Nat} {most : Int} {E : Nat → Option Ent} {l : List Ent}
/-- AN ENTRY IS PUT: the new block holds it, and the map is stored into. -/
theorem Tab.put (h : Tab w tb b most E l) {e : Ent} (he : e.n < 281474976710656) (hroom : (putE e l).length ≤ 60) {w1 : World} (hw1 : w1.heap = (w.alloc (.cells (entC e) 39)).heap) (hos : w1.os = w.os ∧ w1.tape = w.tape ∧ w1.output = w.output) :
    ∃ w2, (Instr.mapUpdate 49 (.map (some b)) (macN e.n) (.pointer (some ⟨w.heap.size, 0, none⟩))).run Try.prog w1 = .ok () w2 ∧ Tab w2 tb b most (upd E w.heap.size e) (putE e l) ∧ Off (fun k => k = b) w w2 := by
  obtain ⟨es, hown, hs⟩ := h.owns
  have hb0 : Below w.heap.size w w1 := by
    have := box_below w (.cells (entC e) 39)
    exact ⟨hos.1, hos.2.1, hos.2.2, by rw [hw1]; exact this.size, fun k hk => by rw [hw1]; exact this.block k hk⟩
  have hnew : ∀ q x, E q = some x → q ≠ w.heap.size := fun q x hq => Nat.ne_of_lt (h.ents q x hq).lt
  have hown1 : w1.ownsMap Try.prog 24 (ptrR (upd E w.heap.size e)) b l.length (.map es) := own_reads (own_block hown (hb0.block b hown.lt)) (fun v z hz => by
    obtain ⟨q, x, hq, rfl, rfl⟩ := ptrR_inv hz
    exact ptrR_mk (e := x) (by unfold upd; rw [if_neg (hnew q x hq)]; exact hq))
  have hmax : l.length < maxLen := by have := h.few; unfold maxLen; omega
  obtain ⟨w2, hrun, hown2, hturn⟩ := hown1.store law24 und49 hmax (lk_key e.n) (ptrR_mk (E := upd E w.heap.size e) (q := w.heap.size) (e := e) (by simp [upd]))
  have hg := hturn.grown
  have hu := h.up.putE he
  refine ⟨w2, hrun, ⟨?_, ?_, ?_, hu, hroom, h.small⟩, ?_⟩
  · have : tb ≠ b := fun e0 => by
      subst e0
      obtain ⟨xs, c, hx⟩ := h.at_map
      have := h.row
      unfold VarAt at this
      rw [hx] at this
      cases this
    exact (off_grown hg).var (h.row.below hb0 h.row.lt) this
  · obtain ⟨es2, he2, hp2⟩ := hown2.tidy law24
    rw [he2] at hown2
    have hmem : ∀ p, p ∈ es2 ↔ p = (lk e.n, DataW.held w.heap.size) ∨ (p ∈ es ∧ p.1.sameKey (lk e.n) = false) := fun p => by
      unfold DataW.put at he2
      simp only [DataW.map.injEq] at he2
      rw [← he2, mem_insert_iff]
      simp
    have hs2 : Says (upd E w.heap.size e) es2 (putE e l) := by
      constructor
      · intro p hp
        rcases (hmem p).1 hp with rfl | ⟨h1, h2⟩
        · exact ⟨w.heap.size, e, rfl, by simp [upd], (mem_putE h.up).2 (Or.inl rfl)⟩
        · obtain ⟨q, x, rfl, hq, hx⟩ := hs.held p h1
          refine ⟨q, x, rfl, by unfold upd; rw [if_neg (hnew q x hq)]; exact hq, (mem_putE h.up).2 (Or.inr ⟨hx, fun hn => ?_⟩)⟩
          simp only [hn] at h2
          rw [WideAt.sameKey_self (law24.key (lk_key e.n))] at h2
          cases h2
      · intro x hx
        rcases (mem_putE h.up).1 hx with rfl | ⟨h1, h2⟩
        · exact ⟨w.heap.size, by simp [upd], (hmem _).2 (Or.inl rfl)⟩
        · obtain ⟨q, hq, hm⟩ := hs.back x h1
          exact ⟨q, by unfold upd; rw [if_neg (hnew q x hq)]; exact hq, (hmem _).2 (Or.inr ⟨hm, Maps.sameKey_ne (fun e0 => h2 (lk_inj (h.up.lt x h1) he e0))⟩)⟩
    exact ⟨es2, own_fit hown2 (Nat.le_of_eq (hs2.same_length hu hp2)), hs2⟩
  · intro q x hq
    have hqb : ∀ {xs : Array Value} {t : TypeId}, VarAt w1 q xs t → q ≠ b := fun hv e0 => by
      subst e0
      obtain ⟨xs', c, hx⟩ := h.at_map
      have h1 := hb0.block q hown.lt
      unfold VarAt at hv
      rw [h1, hx] at hv
      cases hv
    unfold upd at hq
    split at hq
    · rename_i hqe
      cases hq
      subst hqe
      have hv : VarAt w1 w.heap.size (entC e) 39 := by unfold VarAt; rw [hw1]; exact (var_new w (entC e) 39)
      exact (off_grown hg).var hv (hqb hv)
    · have hv := (h.ents q x hq).below hb0 (h.ents q x hq).lt
      exact (off_grown hg).var hv (hqb hv)
  · exact (Below.off hb0 _).trans (off_grown hg) (fun i _ hi => hi)
end Go.Proofs.Ytkdaloikpljccaa
