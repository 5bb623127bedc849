/- All's whole call. -/
import Derived.Test.YtkdaloikpljccaaSc
import Derived.Deep.AppendLies
namespace Go.Proofs.Ytkdaloikpljccaa
open Go.RowKit Go.Sort Go.Maps Go.Shelf
variable {w w' : World} {tb b : Nat} {most : Int} {E : Nat → Option Ent} {l : List Ent}
theorem und29 : Try.prog.underlying 29 = some (.slice 39) := by kernel_rfl
theorem info39 : (Try.prog.info? 39).map (fun i => (i.zero, i.size, i.bytes)) = some (some noEnt, 10, 40) := by kernel_rfl
theorem info_parts {o : Option TypeInfo} {z : Option Value} {s b : Nat} (h : o.map (fun i => (i.zero, i.size, i.bytes)) = some (z, s, b)) : ∃ i, o = some i ∧ i.zero = z ∧ i.size = s ∧ i.bytes = b := by
  obtain ⟨i, hi, hzz⟩ := Option.map_eq_some_iff.1 h
  simp only [Prod.mk.injEq] at hzz
  exact ⟨i, hi, hzz.1, hzz.2.1, hzz.2.2⟩
theorem new10 (w : World) (e : Ent) : ∀ (j : Nat) u, (encE e)[j]? = some u → (w.alloc (.cells (entC e) 39)).cell? ((⟨w.heap.size, 0, none⟩ : Addr).add j) = some u :=
  World.news_of_block (cs := entC e) (heap_alloc_new w _)
theorem enc_one (e : Ent) : ∀ u ∈ encE e, u.oneCell' = true := by
  intro u hu
  simp [encE] at hu
  rcases hu with rfl | rfl | rfl | rfl | rfl | rfl | rfl | rfl | rfl | rfl <;> rfl
theorem own_heap {B n : Nat} {v : Value} {xs : List Value} (h : w.ownsRow B 39 10 v n xs) (hb : ∀ k, B ≤ k → k < w.heap.size → v.ownBlock = some k → w'.heap[k]? = w.heap[k]?) : w'.ownsRow B 39 10 v n xs := by
  obtain ⟨hl, h1 | ⟨g, cap, cur, hv, hB, hg, h2⟩⟩ := h
  · exact ⟨hl, Or.inl h1⟩
  · exact ⟨hl, Or.inr ⟨g, cap, cur, hv, hB, (hb g hB (Array.getElem?_eq_some_iff.1 hg).1 (by rw [hv]; rfl)).trans hg, h2⟩⟩

/-- Sorted, what was collected is the list. -/
theorem sorted_is {left : Lit → Bool} {ss : List Ent} (hu : Up l) (h : Got l left ss) (hl : ∀ kl, left kl = false) {d' : Array Ent} (hp : PermIn 0 ss.toArray.size ss.toArray d') (hs : SortedIn (ltOf cfE) 0 ss.toArray.size d') : d'.toList = l := by
  obtain ⟨hsz, _, hperm⟩ := hp
  have e1 : d'.extract 0 ss.toArray.size = d' := by rw [← hsz]; exact Array.extract_size
  rw [e1, Array.extract_size] at hperm
  have hmem : ∀ e, e ∈ d'.toList ↔ e ∈ l := fun e => by
    rw [hperm.mem_iff]
    constructor
    · intro he
      exact (h.mem e he).1
    · intro he
      exact h.all e he (hl _)
  have hnd : (d'.toList.map fun e => e.n).Nodup := ((hperm.map _).nodup_iff).2 h.nodup
  refine Up.ext ⟨?_, fun e he => hu.lt e ((hmem e).1 he)⟩ hu hmem
  rw [List.pairwise_iff_getElem]
  intro i j hi hj hij
  have hi' : i < d'.size := by simpa using hi
  have hj' : j < d'.size := by simpa using hj
  have h1 := hs i j (Nat.zero_le _) hij (by rw [← hsz]; exact hj')
  rw [ltE] at h1
  have a1 := hu.lt _ ((hmem _).1 (List.getElem_mem hi))
  have a2 := hu.lt _ ((hmem _).1 (List.getElem_mem hj))
  have e2 : d'[i]! = d'.toList[i] := by simp [hi']
  have e3 : d'[j]! = d'.toList[j] := by simp [hj']
  rw [e2, e3, mac_num a1, mac_num a2] at h1
  simp at h1
  have hne : (d'.toList.map fun e => e.n)[i]'(by simpa using hi) ≠ (d'.toList.map fun e => e.n)[j]'(by simpa using hj) := (List.pairwise_iff_getElem.1 hnd) i j (by simpa using hi) (by simpa using hj) hij
  simp at hne
  simp
  omega

set_option maxHeartbeats 1000000 in
theorem all_any (h : Tab w tb b most E l) :
    Calls Try.prog 17 #[.pointer (some ⟨tb, 0, none⟩)] w fun e w' => (∃ v, e = .returned v ∧ Sl w' v l) ∧ Below w.heap.size w w' := by
  obtain ⟨es0, hown, hs⟩ := h.owns
  have hh : ∀ p ∈ es0, ∃ q e, p = (lk e.n, DataW.held q) ∧ E q = some e := fun p hp => by
    obtain ⟨q, e, h1, h2, _⟩ := hs.held p hp
    exact ⟨q, e, h1, h2⟩
  have hin : ∀ q e, E q = some e → (lk e.n, DataW.held q) ∈ es0 → e ∈ l := fun q e hq hm => by
    obtain ⟨q', e', hp, hq', he'⟩ := hs.held _ hm
    simp only [Prod.mk.injEq, DataW.held.injEq] at hp
    obtain ⟨_, rfl⟩ := hp
    rw [hq] at hq'
    cases hq'
    exact he'
  have hl := fun ty => h.len w rfl ty
  obtain ⟨ia, hia⟩ := info_parts info39
  have r1 := h.row.cell 1
  simp at r1
  have hst : ∀ q e, E q = some e → VarAt w q (entC e) 39 := h.ents
  have hgo := Got.start hs
  have hfew := h.few
  have HU := Lib.hid h.up
  have HST : Aside _ := hst
  have HH : Aside _ := hh
  have HIN : Aside _ := hin
  have HGO : Aside _ := hgo
  have HIA := Lib.hid hia
  clear hst hh hin hgo hia hs
  go_enter Try.func17, Try.ntmps17
  go_wp2_with (first
    | (at_make; refine wpList_make_own _ rfl _ _ 29 rfl w.heap.size 39 ia noEnt 10 und29 HIA.out.1 HIA.out.2.1 HIA.out.2.2.1 .i64 .i64 _ l.length rfl rfl rfl (by rw [HIA.out.2.2.2]; omega) (by unfold maxLen; omega) (Nat.le_refl _) ?_; intro w0 hrow0 hgw0; have r2 := ((below_of_grown hgw0).cell (p := ⟨tb, 1, none⟩) (block_lt_of_cell r1)).trans r1; have hown0 := hown.kept hgw0 (by simp))
    | (at_range; refine wpList_range_own _ rfl _ 49 rfl 24 59 law24 und49 (ptrR E) b l.length _ rfl hown0 ?_; intro w1 hrg1 hg1 hs1)
    | go_in)
  have hv0 : (Value.slice (some ⟨w.heap.size, 0, none⟩) 0 l.length).ownBlock = some w.heap.size := rfl
  have hown1 := own_heap (w' := w1) hrow0 (fun k _ hk _ => hg1.block k hk (by simp))
  have hb1 := (below_of_grown hgw0).trans ((below_of_grown hg1).mono (below_of_grown hgw0).size)
  have hw0 : w0.heap.size = w0.heap.size := rfl
  go_frame
  go_loopw [3, 19] (fun v _ wr => ∃ (left : Lit → Bool) (cnt : Nat) (ss : List Ent), wr.ranges Try.prog 24 (ptrR E) b w0.heap.size l.length (.map es0) left cnt ∧ wr.ownsRow w.heap.size 39 10 v ss.length (ss.flatMap encE) ∧ v.ownBlock ≠ some w0.heap.size ∧ Below w.heap.size w wr ∧ Got l left ss)
    (fun _ _ wr => wr.rangeLeft b w0.heap.size)
  case atStart =>
    refine ⟨_, _, [], hrg1, hown1, ?_, hb1, HGO.out⟩
    intro e
    simp [Value.ownBlock] at e
    have := (hrow0.lt w.heap.size rfl).2
    omega
  case round =>
    obtain ⟨left, cnt, ss, hrg, hrow, hvr, hbw, hgot⟩ := hrel
    have hrg' := hrg.left_eq
    have hbw0 : w.heap.size ≤ w0.heap.size := (below_of_grown hgw0).size
    have hbl := hown.lt
    go_wp2_with (first
      | (at_next; refine wpList_next_fdb rfl _ rfl E b w0.heap.size l.length _ _ _ rfl hrg HH.out ?_ ?_)
      | go_in)
    · intro _ hl0
      have HG9 := Lib.hid hgot
      have HB9 := Lib.hid hbw
      rcases hrow.2 with ⟨rfl, hn0⟩ | ⟨g, cap, cur, rfl, _⟩
      · have hl9 : l = [] := by
          have : ss = [] := List.eq_nil_of_length_eq_zero hn0
          cases hlc : l with
          | nil => rfl
          | cons x r =>
            have h9 := HG9.out.all x (by rw [hlc]; simp) (hl0 _)
            rw [this] at h9
            cases h9
        have hc := sort_none none 0 (.func (.func 36) #[] #[]) wr
        have HL9 := Lib.hid hl9
        clear hgot hbw hrow hrg hl9
        go_wp2_with fail
        refine hc.mono ?_
        rintro e w9 ⟨rfl, rfl⟩
        go_wp2
        go_ret
        exact ⟨⟨_, rfl, Or.inl ⟨HL9.out, none, 0, rfl⟩⟩, HB9.out⟩
      · obtain ⟨hH, hgl, hgB⟩ := holds_of_own hrow
        have hf9 := hgot.few
        have hc := sort_any g 0 cap ss.toArray wr hH hgl (by simp; omega)
        simp only [List.size_toArray] at hc
        have HH9 := Lib.hid hH
        clear hgot hbw hrow hrg hH
        go_wp2_with fail
        refine hc.mono ?_
        rintro e w9 ⟨rfl, d', n, os, hp, hs9, hw9⟩
        have hd : d'.toList = l := sorted_is HU.out HG9.out hl0 (by simpa using hp) (by simpa using hs9)
        have hsz : d'.size = ss.toArray.size := by have := hp.1; simpa using this
        have ho9 : Off (fun k => k = g) wr w9 := by rw [hw9]; exact sortWorld_off wr g n d' os
        have hH9 : HoldsK encE 10 w9 g 0 d' := by
          rw [hw9]
          unfold sortWorldK
          have h8 := holdsK_putRowK encE 10 (Sort.ahead wr n) g 0 ss.toArray d' (holdsK_ahead encE 10 wr n g 0 _ HH9.out) hsz
          exact holdsK_grow encE 10 _ os g 0 d' (by unfold putRowK; simpa [Sort.ahead] using hgl) h8
        have hfin : Sl w9 (.slice (some ⟨g, 0, none⟩) ss.length cap) l := by
          refine Or.inr ⟨g, cap, ?_, by rw [← hd]; exact row_of_holds hH9⟩
          rw [← hd]
          simp at hsz
          simp [hsz]
        have hb9 : Below w.heap.size w w9 := HB9.out.trans (ho9.below HB9.out.size (fun k hk hkg => by omega))
        have HFIN := Lib.hid hfin
        have HB10 := Lib.hid hb9
        clear hp hs9 hw9 hd hsz ho9 hH9 hfin hb9 hc
        go_wp2
        go_ret
        exact ⟨⟨_, rfl, HFIN.out⟩, HB10.out⟩
    · intro q e w2 cnt1 hq hlx hmem hat hrg2 hlt hg2 hs2 hen
      have hv := (HST.out q e hq).below hbw (HST.out q e hq).lt
      have hv2 : VarAt w2 q (entC e) 39 := (hg2.block q hv.lt (fun e0 => by cases e0; have := (HST.out _ _ hq).lt; omega)).trans hv
      obtain ⟨k0, k1, k2, k3, k4, k5, k6, k7, k8, k9⟩ := entCells hv2
      have hrow2 := own_heap (w' := w2) hrow (fun k _ hk hvk => hg2.block k hk (fun e0 => by cases e0; exact hvr hvk))
      have hbw2 := hbw.trans ((off_grown hg2).below (B := w.heap.size) hbw.size (fun k hk e0 => by omega))
      have hgot2 := hgot.step HU.out (HIN.out q e hq hmem) hlx
      have hf2 := hgot2.few
      simp at hf2
      have HROW2 := Lib.hid hrow2
      have HRG2 := Lib.hid hrg2
      have HB2 := Lib.hid hbw2
      have HGOT2 := Lib.hid hgot2
      have hw2s := hbw2.size
      clear hbw hrow hrg hv hv2 hrow2 hbw2 hgot hgot2 hmem hat hlx hg2 hs2
      go_wp2_with (first
        | (at_builtin; refine wpList_append_own_at _ rfl _ _ 29 rfl w.heap.size 39 ia noEnt 10 40 und29 HIA.out.1 HIA.out.2.1 HIA.out.2.2.1 HIA.out.2.2.2 rfl (by decide) _ _ _ rfl (own_heap HROW2.out (fun k _ hk _ => (box_below w2 (.cells (entC e) 39)).block k hk)) ⟨w2.heap.size, 0, none⟩ 1 1 (encE e) rfl rfl (new10 _ _) (enc_one e) ?c3 ?c4 ?c5 ?_)
        | go_in)
      case c3 => unfold maxLen; omega
      case c4 => omega
      case c5 => simp; omega
      intro v' w4 hrow4 hg4 _ hloc
      have hrl := HRG2.out.lt
      have hrg4 := (HRG2.out.alloc (.cells (entC e) 39)).kept hg4 (fun e0 => by have := (HROW2.out.lt b e0.symm).1; omega) (fun e0 => hvr e0.symm)
      have hb4 : Below w.heap.size w w4 := (HB2.out.alloc hw2s (.cells (entC e) 39)).grown hg4 (by simp; omega) (fun k hk => (HROW2.out.lt k hk).1)
      have hv4 : v'.ownBlock ≠ some w0.heap.size := fun e0 => by
        rcases hloc with h1 | h1
        · exact hvr (h1.symm.trans e0)
        · rw [h1] at e0
          simp at e0
          omega
      have hrow5 : w4.ownsRow w.heap.size 39 10 v' (ss ++ [e]).length ((ss ++ [e]).flatMap encE) := by simpa using hrow4
      have HREL := Lib.hid (And.intro hrg4 (And.intro hrow5 (And.intro hv4 (And.intro hb4 HGOT2.out))))
      have hm4 : w4.rangeLeft b w0.heap.size < wr.rangeLeft b w0.heap.size := by rw [hrg4.left_eq, hrg']; exact hlt
      have HM4 := Lib.hid hm4
      clear hrg4 hrow5 hv4 hb4 hrow4 hg4 hloc hm4
      go_wp2
      go_roundw
      case rel => exact ⟨_, cnt1, ss ++ [e], HREL.out⟩
      case measure => exact HM4.out
end Go.Proofs.Ytkdaloikpljccaa
