/- Entries that go: the law, and Forget. -/
import Derived.Test.YtkdaloikpljccaaJ
namespace Go.Proofs.Ytkdaloikpljccaa
open Go.RowKit Go.Sort Go.Maps Go.ChangeMaps Go.WideElems
variable {w w' : World} {tb b : Nat} {most : Int} {E : Nat → Option Ent} {l : List Ent}

theorem Tab.ne_tb (h : Tab w tb b most E l) : tb ≠ b := fun e0 => by
  subst e0
  obtain ⟨xs, c, hx⟩ := h.at_map
  have := h.row
  unfold VarAt at this
  rw [hx] at this
  cases this
theorem Tab.ne_ent (h : Tab w tb b most E l) {q : Nat} {e : Ent} (hq : E q = some e) : q ≠ b := fun e0 => by
  subst e0
  obtain ⟨xs, c, hx⟩ := h.at_map
  have := h.ents q e hq
  unfold VarAt at this
  rw [hx] at this
  cases this
/-- Only the map's block has turned, and it reads as those entries that P keeps. -/
theorem Tab.fewer (h : Tab w tb b most E l) (keep : Ent → Bool) {w2 : World} (ho : Off (fun k => k = b) w w2) {es2 : List (Lit × DataW Nat)} {n2 : Nat} (hown : w2.ownsMap Try.prog 24 (ptrR E) b n2 (.map es2))
    (h1 : ∀ es, w.ownsMap Try.prog 24 (ptrR E) b l.length (.map es) → Says E es l → ∀ p, p ∈ es2 ↔ p ∈ es ∧ ∀ q e, p = (lk e.n, .held q) → E q = some e → keep e = true) : Tab w2 tb b most E (l.filter keep) := by
  obtain ⟨es, hown0, hs⟩ := h.owns
  have hm := h1 es hown0 hs
  have hu := h.up.sub (List.filter_sublist (p := keep))
  have hs2 : Says E es2 (l.filter keep) := by
    constructor
    · intro p hp
      obtain ⟨h2, h3⟩ := (hm p).1 hp
      obtain ⟨q, e, rfl, hq, he⟩ := hs.held p h2
      exact ⟨q, e, rfl, hq, List.mem_filter.2 ⟨he, h3 q e rfl hq⟩⟩
    · intro e he
      obtain ⟨he1, he2⟩ := List.mem_filter.1 he
      obtain ⟨q, hq, hmem⟩ := hs.back e he1
      refine ⟨q, hq, (hm _).2 ⟨hmem, fun q' e' hp hq' => ?_⟩⟩
      simp only [Prod.mk.injEq, DataW.held.injEq] at hp
      obtain ⟨_, rfl⟩ := hp
      rw [hq] at hq'
      cases hq'
      exact he2
  obtain ⟨es3, he3, hp3⟩ := hown.tidy law24
  cases he3
  exact ⟨ho.var h.row h.ne_tb, ⟨es2, own_fit hown (Nat.le_of_eq (hs2.same_length hu hp3)), hs2⟩, fun q e hq => ho.var (h.ents q e hq) (h.ne_ent hq), hu,
    Nat.le_trans (List.length_filter_le _ _) h.few, h.small⟩
theorem Says.key {es : List (Lit × DataW Nat)} (hs : Says E es l) {p : Lit × DataW Nat} (hp : p ∈ es) (hl : ∀ e ∈ l, e.n < 281474976710656) {n : Nat} (hn : n < 281474976710656) (q : Nat) (e : Ent) (hpe : p = (lk e.n, .held q)) (hq : E q = some e) : p.1.sameKey (lk n) = (e.n == n) := by
  obtain ⟨q', e', hp', hq', he'⟩ := hs.held p hp
  have : e = e' := by
    rw [hpe] at hp'
    simp only [Prod.mk.injEq, DataW.held.injEq] at hp'
    rw [hp'.2, hq'] at hq
    cases hq
    rfl
  subst this
  rw [hpe]
  simp only
  by_cases h : e.n = n
  · rw [h, WideAt.sameKey_self (law24.key (lk_key n))]; simp
  · rw [Maps.sameKey_ne (fun e0 => h (lk_inj (hl e he') hn e0))]; simp [h]

theorem Tab.del (h : Tab w tb b most E l) {n : Nat} (hn : n < 281474976710656) (ty : TypeId) {w1 : World} (hw1 : w1.heap = w.heap) (hos : w1.os = w.os ∧ w1.tape = w.tape ∧ w1.output = w.output) :
    ∃ w2, (Builtin.delete_ #[49, 24] ty #[.map (some b), macN n]).run Try.prog w1 = .ok (.tuple #[]) w2 ∧ Tab w2 tb b most E (l.filter fun e => e.n != n) ∧ Off (fun k => k = b) w w2 := by
  obtain ⟨es, hown, hs⟩ := h.owns
  have hown1 : w1.ownsMap Try.prog 24 (ptrR E) b l.length (.map es) := own_block hown (by rw [hw1])
  obtain ⟨w2, hrun, hown2, hturn⟩ := hown1.drop law24 und49 (lk_key n) ty
  have ho : Off (fun k => k = b) w w2 := (show Off (fun k => k = b) w w1 from ⟨hos.1, hos.2.1, hos.2.2, by rw [hw1]; exact Nat.le_refl _, fun k _ _ => by rw [hw1]⟩).trans (off_grown hturn.grown) (fun _ _ h => h)
  unfold DataW.del at hown2
  refine ⟨w2, hrun, h.fewer _ ho hown2 (fun es' hown' hs' p => ?_), ho⟩
  have : es' = es := by
    have c1 := hown.canon law24
    have c2 := hown'.canon law24
    obtain ⟨xs, cl, hb, F, _, hD⟩ := hown
    obtain ⟨xs', cl', hb', F', _, hD'⟩ := hown'
    rw [hb] at hb'
    cases hb'
    cases hD
    cases hD'
    rfl
  subst this
  rw [List.mem_filter]
  constructor
  · rintro ⟨h1, h2⟩
    refine ⟨h1, fun q e hpe hq => ?_⟩
    rw [hs'.key h1 h.up.lt hn q e hpe hq] at h2
    simpa using h2
  · rintro ⟨h1, h2⟩
    refine ⟨h1, ?_⟩
    obtain ⟨q, e, hpe, hq, _⟩ := hs'.held p h1
    rw [hs'.key h1 h.up.lt hn q e hpe hq]
    simpa using h2 q e hpe hq

theorem filter_none {l : List Ent} {n : Nat} (h : ∀ e ∈ l, e.n ≠ n) : (l.filter fun e => e.n != n) = l := List.filter_eq_self.2 (fun e he => by simpa using h e he)
theorem forget_any (h : Tab w tb b most E l) {n : Nat} (hn : n < 281474976710656) :
    Calls Try.prog 13 #[.pointer (some ⟨tb, 0, none⟩), macN n] w fun e w' => e = .returned (.int .i64 (if has l n then 0 else 6)) ∧ Tab w' tb b most E (l.filter fun e => e.n != n) ∧ Off (fun k => k = b) w w' := by
  have hb := box_below w (macO (ofN n) 24)
  have h1 := h.below hb
  have ha := box_at w (ofN n) 24
  have HN := Lib.hid hn
  have m0 := ha 0 (by omega); have m1 := ha 1 (by omega); have m2 := ha 2 (by omega); have m3 := ha 3 (by omega); have m4 := ha 4 (by omega); have m5 := ha 5 (by omega)
  have HA := Lib.hid ha
  have HB := Lib.hid hb
  have H1 := Lib.hid h1
  have HT := Lib.hid h
  cases hf : fnd l n with
  | none =>
    have ho : has l n = false := by simp [has, hf]
    have hno : (l.filter fun e => e.n != n) = l := filter_none (fun e he hen => by have := fnd_some h.up he; rw [hen, hf] at this; cases this)
    rw [ho, if_neg (by simp), hno]
    clear h ha hb h1 hn
    go_enter Try.func13, Try.ntmps13
    go_wp2_with fail
    refine (find_any H1.out HN.out).mono ?_; rintro e w1 ⟨rfl, hb1⟩
    rw [hf]
    have B1 := Lib.hid hb1
    clear hb1
    unfold foundV
    go_wp2
    go_ret
    have hall := (below_next HB.out B1.out).trans ((box_below w1 (.cells noC 39)).mono (Nat.le_trans HB.out.size B1.out.size))
    exact ⟨rfl, HT.out.below hall, Below.off hall _⟩
  | some e =>
    have ho : has l n = true := by simp [has, hf]
    rw [ho, if_pos rfl]
    clear h ha hb h1 hn
    go_enter Try.func13, Try.ntmps13
    go_wp2_with fail
    refine (find_any H1.out HN.out).mono ?_; rintro e1 w1 ⟨rfl, hb1⟩
    rw [hf]
    have ht2 := (H1.out.below hb1).below (box_below w1 (.cells (entC e) 39))
    have a2 := (HA.out.below hb1 HA.out.lt).below (box_below w1 (.cells (entC e) 39)) (HA.out.below hb1 HA.out.lt).lt
    have hdel := fun ty => ht2.del HN.out ty (w1 := (w1.alloc (.cells (entC e) 39)).drew) rfl ⟨rfl, rfl, rfl⟩
    obtain ⟨W2, hrun, ht4, ho4⟩ := hdel 0
    have r1 := ht2.row.cell 1
    simp at r1
    have HS0 := Lib.hid (show SL tb w.heap.size b n (w1.alloc (.cells (entC e) 39)).drew from ⟨r1, a2.n⟩)
    have HS2 := Lib.hid (show SL tb w.heap.size b n W2 from ⟨by have := ht4.row.cell 1; simpa using this, (a2.other ho4 (ht2.ne_map a2)).n⟩)
    have hall := (below_next HB.out hb1).trans ((box_below w1 (.cells (entC e) 39)).mono (Nat.le_trans HB.out.size hb1.size))
    have HALL := Lib.hid (show Off (fun k => k = b) w W2 from (Below.off hall _).trans ho4 (fun _ _ h => h))
    have HT4 := Lib.hid ht4
    simp only [macN, macV, entC] at hrun
    clear hdel ht2 ht4 ho4 hall a2 hb1 m0 m1 m2 m3 m4 m5
    unfold foundV
    go_wp2_with fail
    go_region_held (SL tb w.heap.size b n) (first | with_reducible exact HS0.out | with_reducible exact HS2.out | with_reducible assumption) (fail)
    go_wp2
    go_ret
    exact ⟨rfl, HT4.out, HALL.out⟩
theorem forget_nil (n : Nat) (w : World) :
    Calls Try.prog 13 #[.pointer none, macN n] w fun e w' => e = .returned (.int .i64 6) ∧ Below w.heap.size w w' := by
  have hb := box_below w (macO (ofN n) 24)
  obtain ⟨c0, c1, c2, c3, c4, c5⟩ := (box_at w (ofN n) 24).n
  have HB := Lib.hid hb
  clear hb
  go_enter Try.func13, Try.ntmps13
  go_wp2_with fail
  refine (find_nil _ _).mono ?_; rintro e w1 ⟨rfl, hb1⟩
  have B1 := Lib.hid hb1
  clear hb1
  unfold foundV
  go_wp2
  go_ret
  exact ⟨rfl, (below_next HB.out B1.out).trans ((box_below w1 (.cells noC 39)).mono (Nat.le_trans HB.out.size B1.out.size))⟩
end Go.Proofs.Ytkdaloikpljccaa
