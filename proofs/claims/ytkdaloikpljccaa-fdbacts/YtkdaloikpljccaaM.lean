/- maps.DeleteFunc at a table's map: entries go that a closure picks, in whatever order they come. -/
import Derived.Test.YtkdaloikpljccaaK
import Derived.Lib.SlMapFilter
import Derived.Laws.IdiomRangeMap
import Derived.Shelf.Abstract
import Derived.Deep.LoopGhost
namespace Go.Proofs.Ytkdaloikpljccaa
open Go.RowKit Go.Sort Go.Maps Go.ChangeMaps Go.WideElems

/-- A range's step over a map of entries. -/
theorem wpList_next_fdb {ops : Array Oper} {rest : List Oper} {o : Oper} {a : Act} {w : World} {Q : Exit → Act → World → Prop} (hg : o.guard = none) (it : Operand) (hop : o.op = Op.next it false) (E : Nat → Option Ent) (b r n : Nat) (es : List (Lit × DataW Nat)) (left : Lit → Bool) (cnt : Nat)
    (hit : a.eval it = .pointer (some ⟨r, 0, none⟩)) (h : w.ranges Try.prog 24 (ptrR E) b r n (.map es) left cnt) (hh : ∀ p ∈ es, ∃ q e, p = (lk e.n, DataW.held q) ∧ E q = some e)
    (hDone : cnt = 0 → (∀ kl, left kl = false) → wpList Try.prog ops Q rest (a.put o.dst (.tuple #[.bool false])) w)
    (hMore : ∀ (q : Nat) (e : Ent) (w' : World) (cnt' : Nat), E q = some e → left (lk e.n) = true → (lk e.n, DataW.held q) ∈ es → (∀ zd, (DataW.map es).atKey (lk e.n) zd = .held q) → w'.ranges Try.prog 24 (ptrR E) b r n (.map es) (fun z => left z && !z.sameKey (lk e.n)) cnt' → cnt' < cnt →
      w.grownBy w' (some r) → w'.heap.size = w.heap.size → (Instr.entry (.pointer (some ⟨r, 0, none⟩))).run Try.prog w' = .ok (.tuple #[macN e.n, .pointer (some ⟨q, 0, none⟩)]) w' → wpList Try.prog ops Q rest (a.put o.dst (.tuple #[.bool true, macN e.n, .pointer (some ⟨q, 0, none⟩)])) w') :
    wpList Try.prog ops Q (o :: rest) a w := by
  refine wpList_plain hg fun K' hK' => ?_
  unfold Oper.wp
  rcases h.next law24 o.type with ⟨h0, hl, hrun⟩ | ⟨key, v, kl, y, w', cnt', hkey, hlk, hv, hat, hrun, hrg, hlt, hgr, hsz, hen⟩
  · simp [execOp, hop, hit, hrun, Result.andThen]
    exact hK' _ _ (hDone h0 hl)
  · obtain ⟨q, e0, hq, rfl, rfl⟩ := ptrR_inv hv
    have hmem : (kl, DataW.held q) ∈ es := by
      have h1 := hat .nil
      unfold DataW.atKey at h1
      simp only at h1
      split at h1
      · rename_i p hp
        have e2 := List.find?_some hp
        have e3 := WideAt.sameKey_eq e2
        have e4 := List.mem_of_find?_eq_some hp
        rw [← e3, ← h1]
        exact e4
      · cases h1
    obtain ⟨q', e, hp, hq'⟩ := hh _ hmem
    simp only [Prod.mk.injEq, DataW.held.injEq] at hp
    obtain ⟨rfl, rfl⟩ := hp
    obtain rfl : key = macN e.n := law24.inj hkey (lk_key e.n)
    simp [execOp, hop, hit, hrun, Result.andThen]
    exact hK' _ _ (hMore q e w' cnt' hq' hlk hmem hat hrg hlt hgr hsz hen)

def pdD (E : Nat → Option Ent) (pd : Ent → Bool) (_ : Lit) (d : DataW Nat) : Bool := match d with
  | .held q => (match E q with | some e => pd e | none => false)
  | _ => false
theorem pdD_held {E : Nat → Option Ent} {pd : Ent → Bool} {q : Nat} {e : Ent} (h : E q = some e) (k : Lit) : pdD E pd k (.held q) = pd e := by simp [pdD, h]

variable {w w' : World} {tb b : Nat} {most : Int} {E : Nat → Option Ent} {l : List Ent}
set_option maxHeartbeats 1000000 in
theorem deleteFunc_any (h : Tab w tb b most E l) (pd : Ent → Bool) (g : Nat) (cb : Array Value) (eg : ∀ args w, (callFunc g args).run Try.prog w = .ok (.enter g args) w)
    (hdel : ∀ (W : World) (q : Nat) (e : Ent), w.grownBy W (some b) → E q = some e → Calls Try.prog g (#[macN e.n, .pointer (some ⟨q, 0, none⟩)] ++ cb) W fun r w' => r = .returned (.bool (pd e)) ∧ W.grownBy w' none) :
    Calls Try.prog 38 #[.map (some b), .func (.func g) #[] cb] w fun e w' => e = .returned (.tuple #[]) ∧ Tab w' tb b most E (l.filter fun e => !pd e) ∧ Off (fun k => k = b) w w' := by
  obtain ⟨es0, hown, hs⟩ := h.owns
  have hkeys : ∀ p ∈ es0, WideAt.IsKeyLit p.1 := by
    obtain ⟨es', he, _, hk⟩ := hown.entries law24
    cases he
    exact hk
  have hap : es0.Pairwise (fun p q => p.1 ≠ q.1) := by
    obtain ⟨es', he, hp⟩ := hown.tidy law24
    cases he
    exact hp
  have hsub : ∀ left : Lit → Bool, ∀ p ∈ (es0.filter fun p => !pdD E pd p.1 p.2 || left p.1), ∃ q e, p = (lk e.n, DataW.held q) ∧ E q = some e := fun left p hp => by
    obtain ⟨q, e, h1, h2, _⟩ := hs.held p (List.mem_filter.1 hp).1
    exact ⟨q, e, h1, h2⟩
  have hend : ∀ W, W.ownsMap Try.prog 24 (ptrR E) b l.length (Lib.deleteFuncD (pdD E pd) (.map es0)) → w.grownBy W (some b) → Tab W tb b most E (l.filter fun e => !pd e) := fun W hW hg => by
    refine h.fewer _ (off_grown hg) hW (fun es hown' hs' p => ?_)
    have : es = es0 := by
      obtain ⟨xs, cl, hb, F, _, hD⟩ := hown
      obtain ⟨xs', cl', hb', F', _, hD'⟩ := hown'
      rw [hb] at hb'
      cases hb'
      cases hD
      cases hD'
      rfl
    subst this
    rw [List.mem_filter]
    constructor
    · rintro ⟨h1, h2⟩
      refine ⟨h1, fun q e hpe hq => ?_⟩
      rw [hpe] at h2
      simp only [pdD_held hq] at h2
      exact h2
    · rintro ⟨h1, h2⟩
      refine ⟨h1, ?_⟩
      obtain ⟨q, e, hpe, hq, _⟩ := hs'.held p h1
      have h3 := h2 q e hpe hq
      rw [hpe]
      simp only [pdD_held hq]
      exact h3
  have HE : Aside _ := hend
  have HD : Aside _ := hdel
  have HS : Aside _ := hsub
  have HAP : Aside _ := hap
  have HK : Aside _ := hkeys
  clear hdel hend hsub hap hkeys hs h
  go_enter Try.func38, Try.ntmps38
  go_wp2_with (first
    | (at_range; refine wpList_range_own _ rfl _ 49 rfl 24 59 law24 und49 (ptrR E) b l.length _ rfl hown ?_; intro w0 hrg0 hg0 hs0)
    | go_in)
  go_frame
  go_loopw [8] (fun _ wr => ∃ (left : Lit → Bool) (cnt : Nat), wr.ranges Try.prog 24 (ptrR E) b w.heap.size l.length (Fk (pdD E pd) es0 left) left cnt ∧ w.grownBy wr (some b))
    (fun _ wr => wr.rangeLeft b w.heap.size)
  case atStart => exact ⟨_, _, by rw [Fk_start HK.out]; exact hrg0, hg0.but _⟩
  case round =>
    obtain ⟨left, cnt, hrg, hgw⟩ := hrel
    have hrg' := hrg.left_eq
    go_wp2_with (first
      | (at_next; refine wpList_next_fdb rfl _ rfl E b w.heap.size l.length _ _ _ rfl hrg (HS.out left) ?_ ?_)
      | go_in)
    · intro _ hl0
      go_wp2
      go_end0
      exact ⟨rfl, HE.out _ (by rw [← Fk_end hl0]; exact hrg.owns) hgw, off_grown hgw⟩
    · intro q e w1 cnt1 hq hlx hmem hmem2 hat hrg1 hlt hg1 hs1 hen
      have hgw1 := hgw.andThen hg1 (fun j hj => by cases hj; exact Or.inl (Nat.le_refl _))
      have hgw2 := hgw1.andThen (World.grownBy_alloc w1 (macO (ofN e.n) 24) none) (fun j hj => by cases hj)
      have hrg2 := hrg1.alloc (macO (ofN e.n) 24)
      have hc := HD.out (w1.alloc (macO (ofN e.n) 24)) q e hgw2 hq
      have ha := box_at w1 (ofN e.n) 24
      obtain ⟨c0, c1, c2, c3, c4, c5⟩ := ha.n
      have hbl := hrg1.owns.lt
      have hrl := hrg1.lt
      have hpd := pdD_held (pd := pd) hq (lk e.n)
      have HA := Lib.hid ha
      have HRG := Lib.hid hrg2
      have HGW := Lib.hid hgw2
      have HAT := Lib.hid hat
      have HLX := Lib.hid hlx
      have HQ := Lib.hid hq
      clear hrg hgw hg1 hgw1 hrg2 hgw2 ha hat hmem hmem2 hlx hq
      cases hp : pd e <;> rw [hp] at hc hpd
      · go_wp2_with (first
          | (go_at_fn g; refine hc.mono ?_; rintro e w2 ⟨rfl, hg2⟩)
          | go_in)
        have hrg3 := HRG.out.kept hg2 (by simp) (by simp)
        go_roundw
        case rel => exact ⟨_, cnt1, by rw [← Fk_stays HAP.out (law24.key (lk_key e.n)) HLX.out hpd HAT.out]; exact hrg3, HGW.out.andThen hg2 (fun j hj => by cases hj)⟩
        case measure => rw [hrg3.left_eq, hrg']; exact hlt
      · have ha9 : ∀ w2, World.grownBy (w1.alloc (macO (ofN e.n) 24)) w2 none → At w2 wr.heap.size (ofN e.n) := fun w2 hg2 => hs1 ▸ HA.out.below (below_of_grown hg2) HA.out.lt
        have HA9 := Lib.hid ha9
        clear ha9
        go_wp2_with (first
          | (go_at_fn g; refine hc.mono ?_; rintro e9 w2 ⟨rfl, hg2⟩; obtain ⟨d0, d1, d2, d3, d4, d5⟩ := (HA9.out w2 hg2).n; have hrg3 := HRG.out.kept hg2 (by simp) (by simp))
          | (at_delete; refine wpList_delete_ranges _ rfl _ _ 49 24 rfl 59 law24 und49 (ptrR E) b w.heap.size l.length _ _ _ rfl hrg3 _ _ rfl (lk_key e.n) ?_; intro w3 cnt3 hrg4 hle hturn; go_frame)
          | go_in)
        rw [strike_twice] at hrg4
        go_roundw
        case rel => exact ⟨_, cnt3, by rw [← Fk_struck HAP.out (law24.key (lk_key e.n)) HLX.out hpd HAT.out]; exact hrg4, (HGW.out.andThen hg2 (fun j hj => by cases hj)).andThen hturn.grown (fun j hj => by cases hj; exact Or.inr rfl)⟩
        case measure => rw [hrg4.left_eq, hrg']; omega
end Go.Proofs.Ytkdaloikpljccaa
