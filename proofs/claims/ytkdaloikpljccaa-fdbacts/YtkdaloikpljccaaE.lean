/- A table in memory, and what is read of it: lists that rise, the map's datum, the look-up. -/
import Derived.Test.YtkdaloikpljccaaD
namespace Go.Proofs.Ytkdaloikpljccaa
open Go.RowKit Go.Sort Go.Maps Go.ChangeMaps Go.WideElems

/-! lists -/
/-- By rising numbers, each an address'. -/
structure Up (l : List Ent) : Prop where
  up : l.Pairwise fun x y => x.n < y.n
  lt : ∀ e ∈ l, e.n < 281474976710656
theorem len_le {α : Type} : ∀ {l k : List α}, l.Nodup → (∀ x ∈ l, x ∈ k) → l.length ≤ k.length
  | [], _, _, _ => Nat.zero_le _
  | a :: r, k, hd, hs => by
    obtain ⟨s, t, rfl⟩ := List.append_of_mem (hs a (by simp))
    have hd' := List.nodup_cons.1 hd
    have := len_le (l := r) (k := s ++ t) hd'.2 (fun x hx => by
      have h1 := hs x (by simp [hx])
      simp only [List.mem_append, List.mem_cons] at h1 ⊢
      rcases h1 with h1 | rfl | h1
      · exact Or.inl h1
      · exact absurd hx hd'.1
      · exact Or.inr h1)
    simp at this ⊢
    omega
theorem Up.nodup {l : List Ent} (h : Up l) : (l.map (fun e => e.n)).Nodup := by
  rw [List.Nodup, List.pairwise_map]
  exact h.up.imp (fun {a b} h => by omega)
theorem Up.one {l : List Ent} (h : Up l) {x y : Ent} (hx : x ∈ l) (hy : y ∈ l) (e : x.n = y.n) : x = y := by
  have h1 := h.up
  clear h
  induction l with
  | nil => cases hx
  | cons a r ih =>
    rw [List.pairwise_cons] at h1
    rcases List.mem_cons.1 hx with rfl | hx'
    · rcases List.mem_cons.1 hy with rfl | hy'
      · rfl
      · have := h1.1 y hy'; omega
    · rcases List.mem_cons.1 hy with rfl | hy'
      · have := h1.1 x hx'; omega
      · exact ih hx' hy' h1.2
theorem Up.sub {l k : List Ent} (h : Up l) (hs : k.Sublist l) : Up k := ⟨h.up.sublist hs, fun e he => h.lt e (hs.subset he)⟩

/-! how a pointer to an entry reads: by its block -/
def ptrR (E : Nat → Option Ent) : Value → Option (DataW Nat × List MemPlace)
  | .pointer (some ⟨q, 0, none⟩) => if (E q).isSome then some (.held q, []) else none
  | _ => none
theorem ptrR_mk {E : Nat → Option Ent} {q : Nat} {e : Ent} (h : E q = some e) : ptrR E (.pointer (some ⟨q, 0, none⟩)) = some (.held q, []) := by simp [ptrR, h]
theorem ptrR_inv {E : Nat → Option Ent} {v : Value} {z : DataW Nat × List MemPlace} (h : ptrR E v = some z) : ∃ q e, E q = some e ∧ v = .pointer (some ⟨q, 0, none⟩) ∧ z = (.held q, []) := by
  unfold ptrR at h
  split at h
  · rename_i q
    split at h
    · rename_i hq
      obtain ⟨e, he⟩ := Option.isSome_iff_exists.1 hq
      cases h
      exact ⟨q, e, he, rfl, rfl⟩
    · cases h
  · cases h

/-! the map -/
theorem own_block {H : Type} {P : Program} {k : TypeId} {R : Value → Option (DataW H × List MemPlace)} {w w' : World} {b n : Nat} {D : DataW H} (h : w.ownsMap P k R b n D) (e : w'.heap[b]? = w.heap[b]?) : w'.ownsMap P k R b n D := by
  obtain ⟨es, clock, hb, r⟩ := h
  exact ⟨es, clock, e.trans hb, r⟩
theorem own_fit {H : Type} {P : Program} {k : TypeId} {R : Value → Option (DataW H × List MemPlace)} {w : World} {b n : Nat} {es : List (Lit × DataW H)} (h : w.ownsMap P k R b n (.map es)) {m : Nat} (hm : es.length ≤ m) : w.ownsMap P k R b m (.map es) := by
  obtain ⟨xs, clock, hb, F, _, hD⟩ := h
  refine ⟨xs, clock, hb, F, ?_, hD⟩
  cases hD
  rw [length_sorted] at hm
  simpa using hm
theorem own_reads {H : Type} {P : Program} {k : TypeId} {R R' : Value → Option (DataW H × List MemPlace)} {w : World} {b n : Nat} {D : DataW H} (h : w.ownsMap P k R b n D) (hs : ∀ v z, R v = some z → R' v = some z) : w.ownsMap P k R' b n D := by
  obtain ⟨es, clock, hb, F, hn, hD⟩ := h
  obtain ⟨F1, hmap, _⟩ := F.stay (R' := R') (fun x _ z hz => hs x.val z hz)
  exact ⟨es, clock, hb, F1, hn, by rw [hmap]; exact hD⟩

/-- What the map's datum says of the list. -/
structure Says (E : Nat → Option Ent) (es : List (Lit × DataW Nat)) (l : List Ent) : Prop where
  held : ∀ p ∈ es, ∃ q e, p = (lk e.n, .held q) ∧ E q = some e ∧ e ∈ l
  back : ∀ e ∈ l, ∃ q, E q = some e ∧ (lk e.n, DataW.held q) ∈ es

/-- A table: its row of two cells; its map; the entries' blocks; the list that it reads as. -/
structure Tab (w : World) (tb b : Nat) (most : Int) (E : Nat → Option Ent) (l : List Ent) : Prop where
  row : VarAt w tb #[.int .i64 most, .map (some b)] 51
  owns : ∃ es, w.ownsMap Try.prog 24 (ptrR E) b l.length (.map es) ∧ Says E es l
  ents : ∀ q e, E q = some e → VarAt w q (entC e) 39
  up : Up l
  few : l.length ≤ 60
  small : most ≤ 60

variable {w w' : World} {tb b : Nat} {most : Int} {E : Nat → Option Ent} {l : List Ent}

theorem Tab.at_map (h : Tab w tb b most E l) : ∃ es clock, w.heap[b]? = some (.map es clock) := by
  obtain ⟨es, ⟨xs, clock, hb, _⟩, _⟩ := h.owns
  exact ⟨xs, clock, hb⟩
theorem Tab.off {F : Nat → Prop} (h : Tab w tb b most E l) (ho : Off F w w') (h1 : ¬ F tb) (h2 : ¬ F b) (h3 : ∀ q, F q → E q = none) : Tab w' tb b most E l := by
  obtain ⟨es, hown, hs⟩ := h.owns
  exact ⟨ho.var h.row h1, ⟨es, own_block hown (ho.block b hown.lt h2), hs⟩, fun q e hq => ho.var (h.ents q e hq) (fun hf => by rw [h3 q hf] at hq; cases hq), h.up, h.few, h.small⟩
theorem Tab.below (h : Tab w tb b most E l) (hb : Below w.heap.size w w') : Tab w' tb b most E l :=
  h.off (Below.off hb (fun _ => False)) id id (fun _ hf => False.elim hf)
theorem Tab.drew (h : Tab w tb b most E l) : Tab w.drew tb b most E l := ⟨h.row, h.owns, h.ents, h.up, h.few, h.small⟩
theorem Tab.regrown (h : Tab w tb b most E l) (d : Nat) (os : Array Obj) : Tab (grow (redrawn w d) os) tb b most E l := h.below (below_regrown w d os)
theorem Says.same_length {es : List (Lit × DataW Nat)} (h : Says E es l) (hu : Up l) (hp : es.Pairwise (fun p q => p.1 ≠ q.1)) : es.length = l.length := by
  have h1 : (es.map (·.1)).Nodup := by rw [List.Nodup, List.pairwise_map]; exact hp
  have h2 : (l.map fun e => lk e.n).Nodup := by
    rw [List.Nodup, List.pairwise_map]
    refine List.Pairwise.imp_of_mem (fun {a b} ha hb h => ?_) hu.up
    intro e
    have := lk_inj (hu.lt a ha) (hu.lt b hb) e
    omega
  have a := len_le h1 (k := l.map fun e => lk e.n) (fun x hx => by
    obtain ⟨p, hp, rfl⟩ := List.mem_map.1 hx
    obtain ⟨q, e, rfl, _, he⟩ := h.held p hp
    exact List.mem_map.2 ⟨e, he, rfl⟩)
  have c := len_le h2 (k := es.map (·.1)) (fun x hx => by
    obtain ⟨e, he, rfl⟩ := List.mem_map.1 hx
    obtain ⟨q, _, hm⟩ := h.back e he
    exact List.mem_map.2 ⟨_, hm, rfl⟩)
  simp at a c
  omega
theorem zero59 (w : World) : (zeroValue 59).run Try.prog w = .ok (.pointer none) w := by kernel_rfl

/-- THE LOOK-UP: the entry of the address, in its block, or none. -/
theorem Tab.look (h : Tab w tb b most E l) {n : Nat} (hn : n < 281474976710656) :
    (∃ q e, E q = some e ∧ e ∈ l ∧ e.n = n ∧ ∀ w', w'.heap[b]? = w.heap[b]? → (Instr.lookup 49 (.map (some b)) (macN n) true).run Try.prog w' = .ok (.tuple #[.pointer (some ⟨q, 0, none⟩), .bool true]) w') ∨
    ((∀ e ∈ l, e.n ≠ n) ∧ ∀ w', w'.heap[b]? = w.heap[b]? → (Instr.lookup 49 (.map (some b)) (macN n) true).run Try.prog w' = .ok (.tuple #[.pointer none, .bool false]) w') := by
  obtain ⟨es, ⟨xs, clock, hb, F, _, hD⟩, hs⟩ := h.owns
  cases hD
  rcases fit_look true law24 und49 (zero59 w) hb F (lk_key n) with ⟨_, hno, hat⟩ | ⟨e0, y, hm0, hk0, _, hR, hat, _⟩
  · refine Or.inr ⟨fun e he hen => ?_, fun w' hw' => ?_⟩
    · obtain ⟨q, _, hm⟩ := hs.back e he
      have hf := Maps.has_false_of_atKey hat
      rw [Maps.has_eq, List.any_eq_false] at hf
      have := hf _ hm
      rw [hen] at this
      exact this (WideAt.sameKey_self (law24.key (lk_key n)))
    · rcases fit_look true law24 und49 (zero59 w') (hw'.trans hb) F (lk_key n) with ⟨hrun, _⟩ | ⟨e0, y, hm0, hk0, _⟩
      · exact hrun
      · exact absurd hk0 (hno e0 hm0)
  · obtain ⟨q, e1, hq, hv, rfl⟩ := ptrR_inv hR
    have hmem : (lk n, DataW.held q) ∈ (xs.toList.map (rg Try.prog 24 (ptrR E))).foldr DataW.insert [] := by
      have h1 := hat .nil
      unfold DataW.atKey at h1
      simp only at h1
      split at h1
      · rename_i p hp
        have e2 := List.find?_some hp
        have e3 := WideAt.sameKey_eq e2
        have e4 := List.mem_of_find?_eq_some hp
        rw [← e3, ← h1]
        exact e4
      · cases h1
    obtain ⟨q', e', hp, hq', he'⟩ := hs.held _ hmem
    simp only [Prod.mk.injEq, DataW.held.injEq] at hp
    obtain ⟨hk, rfl⟩ := hp
    have hen := lk_inj hn (h.up.lt e' he') hk
    refine Or.inl ⟨q, e', hq', he', hen.symm, fun w' hw' => ?_⟩
    rcases fit_look true law24 und49 (zero59 w') (hw'.trans hb) F (lk_key n) with ⟨_, hno, _⟩ | ⟨e0', y', hm0', hk0', hrun, _⟩
    · exact absurd hk0 (hno e0 hm0)
    · have : e0' = e0 := Go.entry_eq_of_key ((Go.MapKept.stamped_iff xs clock).1 F.stamped).2.2 hm0' hm0 (hk0'.trans hk0.symm)
      subst this
      rw [hv] at hrun
      exact hrun
end Go.Proofs.Ytkdaloikpljccaa
