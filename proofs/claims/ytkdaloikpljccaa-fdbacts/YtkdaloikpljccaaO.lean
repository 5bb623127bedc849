/- A second goes by: age, in whatever order the entries come. -/
import Derived.Test.YtkdaloikpljccaaN
namespace Go.Proofs.Ytkdaloikpljccaa
open Go.RowKit Go.Sort Go.Maps Go.ChangeMaps Go.WideElems
variable {w w' : World} {tb b : Nat} {most : Int} {E : Nat → Option Ent} {l : List Ent}
/-- A learnt entry, a second later. -/
def older (e : Ent) : Ent := if e.st then e else ⟨e.n, e.port, e.ports, wrap64 (e.age + 1), e.st⟩
theorem older_n (e : Ent) : (older e).n = e.n := by unfold older; split <;> rfl
theorem older_st {e : Ent} (h : e.st = true) : older e = e := by simp [older, h]
theorem older_not {e : Ent} (h : e.st = false) : older e = ⟨e.n, e.port, e.ports, wrap64 (e.age + 1), false⟩ := by simp [older, h]
open Classical in
noncomputable def aged (es : List (Lit × DataW Nat)) (left : Lit → Bool) (q : Nat) (e : Ent) : Ent := if (lk e.n, DataW.held q) ∈ es ∧ left (lk e.n) = false then older e else e
/-- The blocks of a table that may turn. -/
def Foot (b : Nat) (E : Nat → Option Ent) (k : Nat) : Prop := k = b ∨ (E k).isSome = true
theorem Up.older {l : List Ent} (h : Up l) : Up (l.map older) := by
  refine ⟨?_, fun e he => ?_⟩
  · rw [List.pairwise_map]
    exact h.up.imp (fun {a b} h => by rw [older_n, older_n]; exact h)
  · obtain ⟨x, hx, rfl⟩ := List.mem_map.1 he
    rw [older_n]
    exact h.lt x hx
theorem key_one {es : List (Lit × DataW Nat)} (hp : es.Pairwise fun p q => p.1 ≠ q.1) {k : Lit} {d d' : DataW Nat} (h : (k, d) ∈ es) (h' : (k, d') ∈ es) : d = d' := by
  induction es with
  | nil => cases h
  | cons a r ih =>
    rw [List.pairwise_cons] at hp
    rcases List.mem_cons.1 h with rfl | h1
    · rcases List.mem_cons.1 h' with e | h2
      · cases e; rfl
      · exact absurd rfl (hp.1 (k, d') h2)
    · rcases List.mem_cons.1 h' with rfl | h2
      · exact absurd rfl (hp.1 (k, d) h1)
      · exact ih hp.2 h1 h2
theorem aged_other {es : List (Lit × DataW Nat)} (hp : es.Pairwise fun p q => p.1 ≠ q.1) {left : Lit → Bool} {q q0 : Nat} {e e0 : Ent} (h0 : (lk e0.n, DataW.held q0) ∈ es) (hne : q ≠ q0) :
    aged es (fun z => left z && !z.sameKey (lk e0.n)) q e = aged es left q e := by
  unfold aged
  by_cases hm : (lk e.n, DataW.held q) ∈ es
  · have : (lk e.n).sameKey (lk e0.n) = false := by
      refine Maps.sameKey_ne (fun e1 => hne ?_)
      rw [e1] at hm
      have := key_one hp hm h0
      cases this
      rfl
    simp [hm, this]
  · simp [hm]
theorem aged_now {es : List (Lit × DataW Nat)} {left : Lit → Bool} {q : Nat} {e : Ent} (h0 : (lk e.n, DataW.held q) ∈ es) : aged es (fun z => left z && !z.sameKey (lk e.n)) q e = older e := by
  unfold aged
  rw [if_pos ⟨h0, by simp [WideAt.sameKey_self (law24.key (lk_key e.n))]⟩]
theorem aged_yet {es : List (Lit × DataW Nat)} {left : Lit → Bool} {q : Nat} {e : Ent} (h : left (lk e.n) = true) : aged es left q e = e := by
  unfold aged
  rw [if_neg]
  rintro ⟨_, h1⟩
  rw [h] at h1
  cases h1
theorem set_age {W : World} {q : Nat} {e : Ent} (h : VarAt W q (entC e) 39) (hs : e.st = false) : VarAt (W.setCell ⟨q, 8, none⟩ (.int .i64 (wrap64 (e.age + 1)))) q (entC (older e)) 39 := by
  have := h.set 8 (.int .i64 (wrap64 (e.age + 1)))
  rw [older_not hs]
  simpa [hs] using this

/-- What stands behind the loop: each entry of the map is a second older. -/
theorem Tab.aged (h : Tab w tb b most E l) {es : List (Lit × DataW Nat)} (hown : w'.ownsMap Try.prog 24 (ptrR E) b l.length (.map es)) (hs : Says E es l) (ho : Off (fun k => (E k).isSome = true) w w')
    (hv : ∀ q e, E q = some e → VarAt w' q (entC (aged es (fun _ => false) q e)) 39) : ∃ E', Tab w' tb b most E' (l.map older) ∧ ∀ k, (E' k).isSome = (E k).isSome := by
  refine ⟨fun q => (E q).map (Ytkdaloikpljccaa.aged es (fun _ => false) q), ⟨ho.var h.row (fun h1 => ?_), ⟨es, own_reads (by rw [List.length_map]; exact hown) (fun v z hz => ?_), ?_⟩, ?_, h.up.older, by rw [List.length_map]; exact h.few, h.small⟩, fun k => by simp⟩
  · obtain ⟨e, he⟩ := Option.isSome_iff_exists.1 h1
    exact var_ne h.row (h.ents tb e he) (by decide) rfl
  · obtain ⟨q, e, hq, rfl, rfl⟩ := ptrR_inv hz
    exact ptrR_mk (e := Ytkdaloikpljccaa.aged es (fun _ => false) q e) (by simp [hq])
  · constructor
    · intro p hp
      obtain ⟨q, e, rfl, hq, he⟩ := hs.held p hp
      refine ⟨q, older e, by rw [older_n], ?_, List.mem_map.2 ⟨e, he, rfl⟩⟩
      simp only [hq, Option.map_some, Option.some.injEq]
      unfold Ytkdaloikpljccaa.aged
      rw [if_pos ⟨hp, rfl⟩]
    · intro x hx
      obtain ⟨e, he, rfl⟩ := List.mem_map.1 hx
      obtain ⟨q, hq, hm⟩ := hs.back e he
      refine ⟨q, ?_, by rw [older_n]; exact hm⟩
      simp only [hq, Option.map_some, Option.some.injEq]
      unfold Ytkdaloikpljccaa.aged
      rw [if_pos ⟨hm, rfl⟩]
  · intro q e hq
    cases hq0 : E q with
    | none => simp [hq0] at hq
    | some e0 =>
      simp only [hq0, Option.map_some, Option.some.injEq] at hq
      rw [← hq]
      exact hv q e0 hq0

set_option maxHeartbeats 1000000 in
theorem age_any (h : Tab w tb b most E l) :
    Calls Try.prog 33 #[.pointer (some ⟨tb, 0, none⟩)] w fun e w' => e = .returned (.tuple #[]) ∧ (∃ E', Tab w' tb b most E' (l.map older) ∧ ∀ k, (E' k).isSome = (E k).isSome) ∧ Off (fun k => (E k).isSome = true) w w' := by
  obtain ⟨es0, hown, hs⟩ := h.owns
  have hap : es0.Pairwise (fun p q => p.1 ≠ q.1) := by
    obtain ⟨es', he, hp⟩ := hown.tidy law24
    cases he
    exact hp
  have hh : ∀ p ∈ es0, ∃ q e, p = (lk e.n, DataW.held q) ∧ E q = some e := fun p hp => by
    obtain ⟨q, e, h1, h2, _⟩ := hs.held p hp
    exact ⟨q, e, h1, h2⟩
  have hfin : ∀ W, W.ownsMap Try.prog 24 (ptrR E) b l.length (.map es0) → Off (fun k => (E k).isSome = true) w W → (∀ q e, E q = some e → VarAt W q (entC (aged es0 (fun _ => false) q e)) 39) → ∃ E', Tab W tb b most E' (l.map older) ∧ ∀ k, (E' k).isSome = (E k).isSome := fun W a1 a2 a3 => h.aged a1 hs a2 a3
  have hst : ∀ q e, E q = some e → VarAt w q (entC e) 39 := h.ents
  have hnb : ∀ q e, E q = some e → q ≠ b := fun q e hq => h.ne_ent hq
  have hhas : ∀ (q : Nat) (e : Ent), (lk e.n, DataW.held q) ∈ es0 → Maps.has (.map es0) (lk e.n) = true := fun q e hm => List.any_eq_true.2 ⟨_, hm, WideAt.sameKey_self (law24.key (lk_key e.n))⟩
  have r1 := h.row.cell 1
  simp at r1
  have HFIN : Aside _ := hfin
  have HST : Aside _ := hst
  have HNB : Aside _ := hnb
  have HAP : Aside _ := hap
  have HH : Aside _ := hh
  have HHAS : Aside _ := hhas
  clear hfin hst hnb hap hh hhas hs h
  go_enter Try.func33, Try.ntmps33
  go_wp2_with (first
    | (at_range; refine wpList_range_own _ rfl _ 49 rfl 24 59 law24 und49 (ptrR E) b l.length _ rfl hown ?_; intro w0 hrg0 hg0 hs0)
    | go_in)
  go_frame
  go_loopw [11] (fun _ wr => ∃ (left : Lit → Bool) (cnt : Nat), wr.ranges Try.prog 24 (ptrR E) b w.heap.size l.length (.map es0) left cnt ∧ Off (fun k => (E k).isSome = true) w wr ∧ ∀ q e, E q = some e → VarAt wr q (entC (aged es0 left q e)) 39)
    (fun _ wr => wr.rangeLeft b w.heap.size)
  case atStart =>
    refine ⟨_, _, hrg0, Below.off (below_of_grown hg0) _, fun q e hq => ?_⟩
    have hv := (HST.out q e hq).below (below_of_grown hg0) (HST.out q e hq).lt
    have : aged es0 (Maps.has (.map es0)) q e = e := by
      unfold aged
      rw [if_neg]
      rintro ⟨h1, h2⟩
      rw [HHAS.out q e h1] at h2
      cases h2
    rw [this]
    exact hv
  case round =>
    obtain ⟨left, cnt, hrg, hgw, hva⟩ := hrel
    have hrg' := hrg.left_eq
    go_wp2_with (first
      | (at_next; refine wpList_next_fdb rfl _ rfl E b w.heap.size l.length _ _ _ rfl hrg HH.out ?_ ?_)
      | go_in)
    · intro _ hl0
      have hl1 : left = fun _ => false := funext hl0
      subst hl1
      have hf := HFIN.out _ hrg.owns hgw hva
      clear hva hrg
      go_wp2
      go_end0
      exact ⟨rfl, hf, hgw⟩
    · intro q e w1 cnt1 hq hlx hmem hat hrg1 hlt hg1 hs1 hen
      have hv := hva q e hq
      rw [aged_yet hlx] at hv
      have hqs : ∀ q' e', E q' = some e' → some q' ≠ some w.heap.size := fun q' e' h' he => by
        cases he
        exact absurd (HST.out _ _ h').lt (Nat.lt_irrefl _)
      have hv1 : VarAt w1 q (entC e) 39 := (hg1.block q hv.lt (hqs q e hq)).trans hv
      have hall1 : ∀ q' e', E q' = some e' → q' ≠ q → VarAt w1 q' (entC (aged es0 (fun z => left z && !z.sameKey (lk e.n)) q' e')) 39 := fun q' e' h' hne => by
        rw [aged_other HAP.out hmem hne]
        exact (hg1.block q' (hva q' e' h').lt (hqs q' e' h')).trans (hva q' e' h')
      have hgw1 : Off (fun k => (E k).isSome = true) w w1 := hgw.trans (off_grown hg1) (fun i hi hir => by rw [hir] at hi; exact absurd hi (Nat.lt_irrefl _))
      have hnow := aged_now (left := left) hmem
      have k8 := (entCells hv1).2.2.2.2.2.2.2.2.1
      have k9 := (entCells hv1).2.2.2.2.2.2.2.2.2
      have hf8 := hv1.frozen 8
      have HV1 := Lib.hid hv1
      have HALL := Lib.hid hall1
      have HGW := Lib.hid hgw1
      have HRG := Lib.hid hrg1
      have HNOW := Lib.hid hnow
      have HQ := Lib.hid hq
      have HQS := Lib.hid hqs
      clear hva hgw hrg hg1 hv hv1 hall1 hgw1 hnow hlx hmem hat hqs
      cases hs : e.st <;> rw [hs] at k9
      · have hv2 := set_age HV1.out hs
        have hgs : w1.grownBy (w1.setCell ⟨q, 8, none⟩ (.int .i64 (wrap64 (e.age + 1)))) (some q) := ⟨rfl, rfl, rfl, by simp [World.setCell], fun k _ hk => Below.heap_setCell _ _ _ _ (fun e0 => hk (by rw [e0]))⟩
        have hrg2 := HRG.out.kept hgs (fun e0 => HNB.out q e HQ.out (by cases e0; rfl)) (fun e0 => HQS.out q e HQ.out e0.symm)
        have HV2 := Lib.hid hv2
        have HGS := Lib.hid hgs
        have HRG2 := Lib.hid hrg2
        clear hv2 hgs hrg2
        go_wp2
        go_roundw
        case rel =>
          refine ⟨_, cnt1, HRG2.out, HGW.out.trans (off_grown HGS.out) (fun i _ hi => by rw [hi]; simp [HQ.out]), fun q' e' h' => ?_⟩
          by_cases hne : q' = q
          · subst hne
            have : e' = e := by rw [HQ.out] at h'; cases h'; rfl
            rw [this, HNOW.out]
            exact HV2.out
          · exact (HGS.out.block q' (HALL.out q' e' h' hne).lt (fun e0 => hne (by cases e0; rfl))).trans (HALL.out q' e' h' hne)
        case measure => rw [HRG2.out.left_eq, hrg']; exact hlt
      · go_wp2
        go_roundw
        case rel =>
          refine ⟨_, cnt1, HRG.out, HGW.out, fun q' e' h' => ?_⟩
          by_cases hne : q' = q
          · subst hne
            have : e' = e := by rw [HQ.out] at h'; cases h'; rfl
            rw [this, HNOW.out, older_st hs]
            exact HV1.out
          · exact HALL.out q' e' h' hne
        case measure => rw [HRG.out.left_eq, hrg']; exact hlt
end Go.Proofs.Ytkdaloikpljccaa
