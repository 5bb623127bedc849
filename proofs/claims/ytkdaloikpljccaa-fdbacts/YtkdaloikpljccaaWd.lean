/- The model's put as one contract, and its drop. -/
import Derived.Test.YtkdaloikpljccaaWc
namespace Go.Proofs.Ytkdaloikpljccaa
open Go.RowKit Go.Sort Go.Maps
variable {w w' : World} {mb B : Nat} {v : Value} {most : Int} {l : List Ent}
theorem put_any (h : Mdl w mb v most B l) (e : Ent) (he : e.n < 281474976710656) (hm : most ≤ 60) (hB : B ≤ w.heap.size) :
    Calls Try.prog 20 #[.pointer (some ⟨mb, 0, none⟩), entV e] w fun r w' => r = .returned (.bool (room l most e.n)) ∧ (∃ v', Mdl w' mb v' most B (if room l most e.n then putE e l else l) ∧ (∀ k, v'.ownBlock = some k → v.ownBlock = some k ∨ w.heap.size ≤ k)) ∧ Off (MOff mb v) w w' := by
  cases hh : has l e.n
  · cases hr : decide ((l.length : Int) < most)
    · have hroom : room l most e.n = false := by unfold room; rw [hh, hr]; rfl
      rw [hroom]
      refine (put_full h e he hh hr).mono ?_
      rintro r w2 ⟨rfl, hb⟩
      exact ⟨rfl, ⟨v, by rw [if_neg (by simp)]; exact h.below hb, fun k hk => Or.inl hk⟩, Below.off hb _⟩
    · have hroom : room l most e.n = true := by unfold room; rw [hh, hr]; rfl
      rw [hroom, if_pos rfl]
      have fin : ∀ {R : Ending → World → Prop}, R = (fun r w' => r = .returned (.bool true) ∧ (∃ v', Mdl w' mb v' most B (putE e l) ∧ ∀ k, v'.ownBlock = some k → w.heap.size ≤ k) ∧ Off (fun k => k = mb) w w') → ∀ r w', R r w' → r = .returned (.bool true) ∧ (∃ v', Mdl w' mb v' most B (putE e l) ∧ (∀ k, v'.ownBlock = some k → v.ownBlock = some k ∨ w.heap.size ≤ k)) ∧ Off (MOff mb v) w w' := by
        rintro R rfl r w' ⟨h1, ⟨v', h2, h3⟩, h4⟩
        exact ⟨h1, ⟨v', h2, fun k hk => Or.inr (h3 k hk)⟩, h4.mono (fun k _ hk => Or.inl hk)⟩
      obtain ⟨_, ⟨hv, hn⟩ | ⟨g, cap, cur, hv, _⟩⟩ := h.own
      · have hl0 : l = [] := List.eq_nil_of_length_eq_zero hn
        rw [hl0, hv] at h
        rw [hl0] at fin hr ⊢
        exact (put_nil h e he (by simpa using hr) hm hB).mono (fin rfl)
      · rw [hv] at h
        exact (put_new h e he hh hr hm hB).mono (fin rfl)
  · have hroom : room l most e.n = true := by unfold room; rw [hh]; rfl
    rw [hroom, if_pos rfl]
    exact put_has h e he hh

theorem kept_step {pd : Ent → Bool} {k : Nat} {e : Ent} (h : l[k]? = some e) : (l.take (k + 1)).filter (fun e => !pd e) = (l.take k).filter (fun e => !pd e) ++ if pd e then [] else [e] := by
  rw [List.take_add_one, h]
  simp only [Option.toList_some, List.filter_append]
  congr 1
  cases hp : pd e <;> simp [hp]
theorem kept_len (pd : Ent → Bool) (k : Nat) : ((l.take k).filter fun e => !pd e).length ≤ l.length :=
  Nat.le_trans (List.length_filter_le _ _) (by simp; omega)

set_option maxHeartbeats 1000000 in
theorem drop_any (h : Mdl w mb v most B l) (hB : B ≤ w.heap.size) (pd : Ent → Bool) (g : Nat) (cb : Array Value) (eg : ∀ args w, (callFunc g args).run Try.prog w = .ok (.enter g args) w)
    (hgo : ∀ (W : World) (e : Ent), e ∈ l → Below w.heap.size w W → Calls Try.prog g (#[entV e] ++ cb) W fun r w' => r = .returned (.bool (pd e)) ∧ Below W.heap.size W w') :
    Calls Try.prog 21 #[.pointer (some ⟨mb, 0, none⟩), .func (.func g) #[] cb] w fun r w' => r = .returned (.int .i64 ((l.length : Int) - ((l.filter fun e => !pd e).length : Nat))) ∧ (∃ v', Mdl w' mb v' most B (l.filter fun e => !pd e) ∧ (∀ k, v'.ownBlock = some k → w.heap.size ≤ k)) ∧ Off (fun k => k = mb) w w' := by
  obtain ⟨⟨p, cap, hvs⟩, hrow⟩ := h.slice
  obtain ⟨ia, hia⟩ := info_parts info39
  have c0 : ∀ wr, Below w.heap.size w wr → wr.cell? ⟨mb, 0, none⟩ = some v := fun wr hw => by
    have := (h.row.below hw h.row.lt).cell 0
    simpa using this
  have hrows : ∀ wr g, Row10 w g l → Below w.heap.size w wr → Row10 wr g l := fun wr g hr hw => hr.below hw
  have hfew := h.few
  have r0 := c0 _ (Below.refl _ _)
  have HC : Aside _ := c0
  have HROWS : Aside _ := hrows
  have HH := Lib.hid h
  have HGO : Aside _ := hgo
  have HIA := Lib.hid hia
  clear c0 hrows h hgo hia
  subst hvs
  go_enter Try.func21, Try.ntmps21
  go_wp2
  go_loopw [5, 14] (fun v5 i wr => ∃ k : Nat, k ≤ l.length ∧ i = .int .i64 k ∧ wr.ownsRow w.heap.size 39 10 v5 ((l.take k).filter fun e => !pd e).length (((l.take k).filter fun e => !pd e).flatMap encE) ∧ Below w.heap.size w wr) (fun _ i _ => l.length - (intOf i).toNat)
  case atStart => exact ⟨0, Nat.zero_le _, rfl, by simpa using World.ownsRow_nil w w.heap.size 39 10, Below.refl _ _⟩
  case round =>
    obtain ⟨k, hk, rfl, hown, hbw⟩ := hrel
    have hws := hbw.size
    by_cases hlt : k < l.length
    · obtain ⟨g0, rfl, hr0⟩ : ∃ g, p = some ⟨g, 0, none⟩ ∧ Row10 w g l := by
        rcases hrow with rfl | ⟨g, cap', he, hr, _⟩
        · simp at hlt
        · simp only [Value.slice.injEq] at he
          exact ⟨g, he.1, hr⟩
      obtain ⟨e, he⟩ : ∃ e, l[k]? = some e := ⟨_, List.getElem?_eq_getElem hlt⟩
      obtain ⟨k0, k1, k2, k3, k4, k5, k6, k7, k8, k9⟩ := (HROWS.out wr g0 hr0 hbw).cells he
      have i0 := idx29 g0 0 l.length cap k hlt
      simp only [Nat.zero_add] at i0
      have hstep := kept_step (pd := pd) he
      have hkl := kept_len (l := l) pd k
      have hbw1 := hbw.alloc hws (.cells (entC e) 39)
      have hc := HGO.out (wr.alloc (.cells (entC e) 39)) e (List.mem_of_getElem? he) hbw1
      obtain ⟨x0, x1, x2, x3, x4, x5, x6, x7, x8, x9⟩ := entCells (var_new wr (entC e) 39)
      have hown1 := own_alloc hown (.cells (entC e) 39)
      have HV := Lib.hid (var_new wr (entC e) 39)
      have HOWN := Lib.hid hown1
      have HBW := Lib.hid hbw1
      have HSTEP := Lib.hid hstep
      clear hown hbw he hrow hr0 hstep hown1 hbw1 r0
      go_wp2_with fail
      refine hc.mono ?_
      rintro r w2 ⟨rfl, hb2⟩
      have hb3 := HBW.out.trans (hb2.mono HBW.out.size)
      have hown2 := own_heap (w' := w2) HOWN.out (fun k _ hk _ => hb2.block k hk)
      have hstep := HSTEP.out
      cases hp : pd e <;> rw [hp] at hstep
      · have hv2 := HV.out.below hb2 HV.out.lt
        obtain ⟨y0, y1, y2, y3, y4, y5, y6, y7, y8, y9⟩ := entCells hv2
        have HOWN2 := Lib.hid hown2
        have HB3 := Lib.hid hb3
        have hs3 := hb3.size
        have HST := Lib.hid hstep
        clear hown2 hb3 hb2 hv2 hc hstep
        go_wp2_with (first
          | (at_builtin; refine wpList_append_own _ rfl _ _ 29 rfl w.heap.size 39 ia noEnt 10 40 und29 HIA.out.1 HIA.out.2.1 HIA.out.2.2.1 HIA.out.2.2.2 rfl (by decide) _ _ _ rfl (own_alloc HOWN2.out (.cells (entC e) 39)) ⟨w2.heap.size, 0, none⟩ 1 1 (encE e) rfl rfl (new10 _ _) (enc_one e) ?c3 ?c4 ?c5 ?_)
          | go_in)
        case c3 => unfold maxLen; omega
        case c4 => omega
        case c5 => simp; omega
        intro v' w4 hrow4 hg4 _
        have hb4 := (HB3.out.alloc hs3 (.cells (entC e) 39)).grown hg4 (by simp; omega) (fun k hk => (HOWN2.out.lt k hk).1)
        have hrow5 : w4.ownsRow w.heap.size 39 10 v' ((l.take (k + 1)).filter fun e => !pd e).length (((l.take (k + 1)).filter fun e => !pd e).flatMap encE) := by rw [HST.out]; simpa using hrow4
        have HR5 := Lib.hid hrow5
        have HB4 := Lib.hid hb4
        clear hrow4 hg4 hrow5 hb4
        go_wp2
        go_roundw
        case rel => exact ⟨k + 1, hlt, by go_num, HR5.out, HB4.out⟩
        case measure => simp [intOf]; omega
      · have hrow5 : w2.ownsRow w.heap.size 39 10 u5 ((l.take (k + 1)).filter fun e => !pd e).length (((l.take (k + 1)).filter fun e => !pd e).flatMap encE) := by rw [hstep]; simpa using hown2
        have HR5 := Lib.hid hrow5
        have HB4 := Lib.hid hb3
        clear hrow5 hb3 hown2 hb2 hc hstep
        go_wp2
        go_roundw
        case rel => exact ⟨k + 1, hlt, by go_num, HR5.out, HB4.out⟩
        case measure => simp [intOf]; omega
    · have hkl : k = l.length := by omega
      subst hkl
      rw [List.take_length] at hown
      have c0 := HC.out wr hbw
      have hm2 := HH.out.below hbw
      have hlen : (l.filter fun e => !pd e).length ≤ l.length := List.length_filter_le _ _
      have hu2 := HH.out.up.sub (List.filter_sublist (p := fun e => !pd e))
      have f0 := hm2.row.frozen 0
      have hmb := HH.out.row.lt
      have hfin : ∀ vs, wr.ownsRow w.heap.size 39 10 vs (l.filter fun e => !pd e).length ((l.filter fun e => !pd e).flatMap encE) → Mdl (wr.setCell ⟨mb, 0, none⟩ vs) mb vs most B (l.filter fun e => !pd e) ∧ (∀ k, vs.ownBlock = some k → w.heap.size ≤ k) ∧ Off (fun k => k = mb) w (wr.setCell ⟨mb, 0, none⟩ vs) := fun vs ho => by
        have ho2 : Off (fun k => k = mb) wr (wr.setCell ⟨mb, 0, none⟩ vs) := ⟨rfl, rfl, rfl, by simp [World.setCell], fun k _ hk => Below.heap_setCell _ _ _ _ hk⟩
        refine ⟨⟨by simpa using hm2.row.set 0 vs, ?_, hu2, Nat.le_trans hlen hfew⟩, fun k hk => (ho.lt k hk).1, (Below.off hbw _).trans ho2 (fun _ _ x => x)⟩
        have ho3 := own_heap (w' := wr.setCell ⟨mb, 0, none⟩ vs) ho (fun k hk1 hk2 hk3 => ho2.block k hk2 (fun e0 => by omega))
        obtain ⟨h1, h2 | ⟨g9, cap9, cur, hv, hB9, hr⟩⟩ := ho3
        · exact ⟨h1, Or.inl h2⟩
        · exact ⟨h1, Or.inr ⟨g9, cap9, cur, hv, Nat.le_trans hB hB9, hr⟩⟩
      rcases hown.2 with ⟨rfl, hn0⟩ | ⟨g9, cap9, cur, rfl, _⟩
      · have hf := hfin _ hown
        have HF := Lib.hid hf
        have HN0 := Lib.hid hn0
        clear hfin hown hm2 hbw hrow hf hu2 hn0 hlen
        go_wp2
        go_ret
        exact ⟨by rw [HN0.out]; simp, ⟨_, HF.out.1, HF.out.2.1⟩, HF.out.2.2⟩
      · have hf := hfin _ hown
        have HF := Lib.hid hf
        clear hfin hown hm2 hbw hrow hf hu2
        go_wp2
        go_ret
        exact ⟨rfl, ⟨_, HF.out.1, HF.out.2.1⟩, HF.out.2.2⟩
end Go.Proofs.Ytkdaloikpljccaa
