/- The model's put, where a new entry comes between the others. -/
import Derived.Test.YtkdaloikpljccaaWa
namespace Go.Proofs.Ytkdaloikpljccaa
open Go.RowKit Go.Sort Go.Maps
variable {w w' : World} {mb B : Nat} {v : Value} {most : Int} {l : List Ent}
theorem step_app {w : World} {ops : Array Oper} {o : Oper} {a : Act} {K : Act → World → Prop} {Q : Exit → Act → World → Prop} {E : Prop} (hgd : o.guard = none) (s x : Operand)
    (ho : o.op = .call { callee := .builtin .append, args := #[s, x], argTypes := #[29, 29] }) (v1 v2 r : Value) (w' : World) (hs : a.eval s = v1) (hx : a.eval x = v2)
    (hr : (Builtin.append_ #[29, 29] o.type #[v1, v2]).run Try.prog w = .ok r w') (h : K (a.put o.dst r) w') : if Region.wanted o (yielded ops a.tmps) = true then Oper.wp Try.prog o a w K Q else E := by
  have hw : Region.wanted o (yielded ops a.tmps) = true := by simp [Region.wanted, hgd]
  rw [if_pos hw]
  unfold Oper.wp execOp
  simp only [ho, resolve, invoke, builtin, Sem.run_bind, Sem.run_pure, Result.andThen_ok, List.map_toArray, List.map_cons, List.map_nil, hs, hx, hr]
  exact h

theorem news_row {g o n off c : Nat} (h : Row10 w g l) (hon : o + n ≤ l.length) (hoff : off = o * 10) : News w (.slice (some ⟨g, off, none⟩) n c) n (((l.drop o).take n).flatMap encE) := by
  have hlen : ((l.drop o).take n).length = n := by simp; omega
  refine ⟨by rw [flat_len, hlen], flat_one _, Or.inr ⟨_, _, rfl, fun j u hu => ?_⟩⟩
  have hj : j < n * 10 := by
    have := (List.getElem?_eq_some_iff.1 hu).1
    rw [flat_len, hlen] at this
    exact this
  have hjo : o + j / 10 < l.length := by omega
  have h1 : ((l.drop o).take n)[j / 10]? = some l[o + j / 10] := by
    rw [List.getElem?_take, if_pos (by omega), List.getElem?_drop, List.getElem?_eq_getElem hjo]
  have h2 := flat_at _ (j / 10) _ h1 (j % 10) (by omega)
  rw [show j / 10 * 10 + j % 10 = j by omega, hu] at h2
  have h3 := h (o + j / 10) _ (List.getElem?_eq_getElem hjo) (j % 10) (by omega)
  have hadd : (⟨g, off, none⟩ : Addr).add j = ⟨g, off + j, none⟩ := Addr.add_lit _ _ _
  rw [hadd, show off + j = (o + j / 10) * 10 + j % 10 by omega, h3]
  have e5 : j % 10 < (entC l[o + j / 10]).size := by have : j % 10 < 10 := by omega
                                                     exact this
  rw [Array.getElem?_eq_getElem e5, h2]
  have e6 : j % 10 < (encE l[o + j / 10]).length := by rw [enc_len]; omega
  rw [List.getElem?_eq_getElem e6]
  rfl
theorem news_rest {g i cap : Nat} (h : Row10 w g l) (hi : i ≤ l.length) (hc : l.length ≤ cap) : News w (.slice (if cap = i then some ⟨g, 0, none⟩ else some ⟨g, i * 10, none⟩) (l.length - i) (cap - i)) (l.length - i) (((l.drop i).take (l.length - i)).flatMap encE) := by
  split
  · rename_i hci
    have h0 : l.length - i = 0 := by omega
    rw [h0]
    exact ⟨by simp, by simp, Or.inr ⟨_, _, rfl, by simp⟩⟩
  · exact news_row h (by omega) rfl
theorem news_one {nb : Nat} {e : Ent} (h : VarAt w nb (entC e) 39) : News w (.slice (some ⟨nb, 0, none⟩) 1 1) 1 (encE e) :=
  ⟨rfl, enc_one e, Or.inr ⟨_, _, rfl, World.news_of_block (cs := entC e) h⟩⟩
theorem own_none (w : World) {B : Nat} (hB : B ≤ w.heap.size) : (w.alloc (.cells #[] 39)).ownsRow B 39 10 (.slice (some ⟨w.heap.size, 0, none⟩) 0 0) 0 [] := World.ownsRow_made w #[] 0 hB (Nat.zero_le _) rfl
theorem own_alloc {B n : Nat} {v : Value} {xs : List Value} (h : w.ownsRow B 39 10 v n xs) (o : Obj) : (w.alloc o).ownsRow B 39 10 v n xs := own_heap h (fun k _ hk _ => (box_below w o).block k hk)

theorem var_of {w2 W : World} (e : Ent) (_ : Below w2.heap.size w2 W) : VarAt (W.alloc (.cells (entC e) 39)) W.heap.size (entC e) 39 := var_new W _ _
theorem var_at {w2 W : World} (e : Ent) (_ : Below w2.heap.size w2 W) {s : Nat} (hs : W.heap.size = s) : VarAt (W.alloc (.cells (entC e) 39)) s (entC e) 39 := by subst hs; exact var_new W _ _
theorem own_at {w2 W : World} (hS : Below w2.heap.size w2 W) {s : Nat} (hs : W.heap.size = s) : (W.alloc (.cells #[] 39)).ownsRow w2.heap.size 39 10 (.slice (some ⟨s, 0, none⟩) 0 0) 0 [] := by subst hs; exact own_none W hS.size
theorem put_fin {w2 W : World} {v17 : Value} {e : Ent} {n : Nat} {xs : List Value} (h2 : Mdl w2 mb v most B l) (hS : Below w2.heap.size w2 W) (o : W.ownsRow w2.heap.size 39 10 v17 n xs) (hn : n = (putE e l).length) (hxs : xs = (putE e l).flatMap encE) (h0 : 0 < n) (hB : B ≤ w2.heap.size) (hu : Up (putE e l)) (hf : (putE e l).length ≤ 60) :
    ∃ g9 cap9, v17 = .slice (some ⟨g9, 0, none⟩) n cap9 ∧ w2.heap.size ≤ g9 ∧ W.cell? ⟨mb, 0, none⟩ = some v ∧ W.frozen? ⟨mb, 0, none⟩ = false ∧ Mdl (W.setCell ⟨mb, 0, none⟩ v17) mb v17 most B (putE e l) ∧ Off (fun k => k = mb) w2 (W.setCell ⟨mb, 0, none⟩ v17) := by
  have hrow := h2.row.below hS h2.row.lt
  have hlt := h2.row.lt
  subst hn hxs
  obtain ⟨hl, ⟨_, h1⟩ | ⟨g9, cap9, cur, rfl, hB9, hg9, hr⟩⟩ := o
  · omega
  · have hne : mb ≠ g9 := by omega
    have ho : Off (fun k => k = mb) W (W.setCell ⟨mb, 0, none⟩ (.slice (some ⟨g9, 0, none⟩) (putE e l).length cap9)) := ⟨rfl, rfl, rfl, by simp [World.setCell], fun k _ hk => Below.heap_setCell _ _ _ _ hk⟩
    refine ⟨g9, cap9, rfl, hB9, by simpa using hrow.cell 0, hrow.frozen 0, ⟨?_, ⟨hl, Or.inr ⟨g9, cap9, cur, rfl, Nat.le_trans hB hB9, ?_, hr⟩⟩, hu, hf⟩, (Below.off hS _).trans ho (fun _ _ x => x)⟩
    · simpa using hrow.set 0 (.slice (some ⟨g9, 0, none⟩) (putE e l).length cap9)
    · exact (ho.block g9 (Array.getElem?_eq_some_iff.1 hg9).1 (fun e0 => hne e0.symm)).trans hg9

set_option maxHeartbeats 400000 in
theorem put_new {g cap : Nat} (h : Mdl w mb (.slice (some ⟨g, 0, none⟩) l.length cap) most B l) (e : Ent) (he : e.n < 281474976710656) (hh : has l e.n = false) (hr : decide ((l.length : Int) < most) = true) (hm : most ≤ 60) (hB : B ≤ w.heap.size) :
    Calls Try.prog 20 #[.pointer (some ⟨mb, 0, none⟩), entV e] w fun r w' => r = .returned (.bool true) ∧ (∃ v', Mdl w' mb v' most B (putE e l) ∧ (∀ k, v'.ownBlock = some k → w.heap.size ≤ k)) ∧ Off (fun k => k = mb) w w' := by
  have hb := box_below w (.cells (entC e) 39)
  have h1 := h.below hb
  have hv := var_new w (entC e) 39
  obtain ⟨x0, x1, x2, x3, x4, x5, _⟩ := entCells hv
  have hput := putE_ins hh
  have hu2 := h.up.putE he
  have hpl := pos_le (n := e.n) l
  have hr' : decide (most ≤ (l.length : Int)) = false := by simp at hr ⊢; exact hr
  have hlm : l.length < 60 := by simp at hr; omega
  have HB := Lib.hid hb
  have H1 := Lib.hid h1
  have HV := Lib.hid hv
  have HU2 := Lib.hid hu2
  have HPUT := Lib.hid hput
  have hgw := h.known.2.2.2.2.1
  clear h hb h1 hv hu2 hput hr
  go_enter Try.func20, Try.ntmps20
  go_wp2_with fail
  refine (at_any H1.out he).mono ?_
  rintro r w2 ⟨rfl, hb2⟩
  rw [hh]
  have h2 := H1.out.below hb2
  have hv2 := HV.out.below hb2 HV.out.lt
  obtain ⟨hrow, _, hcap, hBg, hgl, hfz, hmg⟩ := h2.known
  have hpc : pos l e.n ≤ cap := Nat.le_trans hpl hcap
  have r0 := h2.row.cell 0
  have r1 := h2.row.cell 1
  simp at r0 r1
  have F1 : ∀ w', Below w2.heap.size w2 w' → w'.cell? ⟨mb, 0, none⟩ = some (.slice (some ⟨g, 0, none⟩) l.length cap) := fun w' hw => (hw.cell (block_lt_of_cell r0)).trans r0
  have F2 : ∀ w', Below w2.heap.size w2 w' → _ := fun w' hw => entCells (hv2.below hw hv2.lt)
  have H2 := Lib.hid h2
  have HF1 := Lib.hid F1
  have HF2 := Lib.hid F2
  have HW2 := Lib.hid (below_next HB.out hb2)
  have HROW := Lib.hid hrow
  clear h2 hv2 hb2 x0 x1 x2 x3 x4 x5 F1 F2 hrow hfz
  go_wp2_with fail
  go_quiet (fail)
  go_wp2_with fail
  refine wp_region_held_drew (S := fun w' => Below w2.heap.size w2 w') (by kernel_rfl) (below_dn (Below.refl _ _)).drew (fun hS => ?_)
  refine wpAnyH_take (i := 1) (v := ?_) rfl (by kernel_rfl) (by kernel_rfl) (by kernel_rfl) (fun _ _ _ h => h) (Or.inl ⟨by rfl, ?_⟩) hS ?_
  rotate_left
  · (intro w9 hS9; go_simp; try with_reducible rfl)
  refine wpAnyH_take (i := 2) (v := ?_) rfl (by kernel_rfl) (by kernel_rfl) (by kernel_rfl) (fun _ _ _ h => h) (Or.inl ⟨by rfl, ?_⟩) hS ?_
  rotate_left
  · (intro w9 hS9; go_simp; try with_reducible rfl)
  refine wpAnyH_take (i := 3) (v := ?_) rfl (by kernel_rfl) (by kernel_rfl) (by kernel_rfl) (fun _ _ _ h => h) (Or.inl ⟨by rfl, ?_⟩) hS ?_
  rotate_left
  · (intro w9 hS9; go_simp; try with_reducible rfl)
  refine wpAnyH_take (i := 4) (v := ?_) rfl (by kernel_rfl) (by kernel_rfl) (by kernel_rfl) (fun _ _ _ h => h) (Or.inl ⟨by rfl, ?_⟩) hS ?_
  rotate_left
  · (intro w9 hS9; have q1 := HF1.out w9 hS9; go_simp; try with_reducible rfl)
  refine wpAnyH_take (i := 5) (v := ?_) rfl (by kernel_rfl) (by kernel_rfl) (by kernel_rfl) (fun _ _ _ h => h) (Or.inl ⟨by rfl, ?_⟩) hS ?_
  rotate_left
  · (intro w9 hS9; go_simp; try with_reducible rfl)
  refine wpAnyH_take (i := 6) (v := ?_) rfl (by kernel_rfl) (by kernel_rfl) (by kernel_rfl) (fun _ _ _ h => h) (Or.inl ⟨by rfl, ?_⟩) hS ?_
  rotate_left
  · (intro w9 hS9; go_simp; try with_reducible rfl)
  refine wpAnyH_take (i := 11) (v := ?_) rfl (by kernel_rfl) (by kernel_rfl) (by kernel_rfl) (fun _ _ _ h => h) (Or.inl ⟨by rfl, ?_⟩) hS ?_
  rotate_left
  · (intro w9 hS9; go_simp; try with_reducible rfl)
  refine wpAnyH_take (i := 12) (v := ?_) rfl (by kernel_rfl) (by kernel_rfl) (by kernel_rfl) (fun _ _ _ h => h) (Or.inl ⟨by rfl, ?_⟩) hS ?_
  rotate_left
  · (intro w9 hS9; go_simp; try with_reducible rfl)
  refine wpAnyH_take (i := 13) (v := ?_) rfl (by kernel_rfl) (by kernel_rfl) (by kernel_rfl) (fun _ _ _ h => h) (Or.inl ⟨by rfl, ?_⟩) hS ?_
  rotate_left
  · (intro w9 hS9; go_simp; try with_reducible rfl)
  refine wpAnyH_take (i := 14) (v := ?_) rfl (by kernel_rfl) (by kernel_rfl) (by kernel_rfl) (fun _ _ _ h => h) (Or.inl ⟨by rfl, ?_⟩) hS ?_
  rotate_left
  · (intro w9 hS9; have q1 := HF1.out w9 hS9; go_simp; try with_reducible rfl)
  refine wpAnyH_take (i := 15) (v := ?_) rfl (by kernel_rfl) (by kernel_rfl) (by kernel_rfl) (fun _ _ _ h => h) (Or.inl ⟨by rfl, ?_⟩) hS ?_
  rotate_left
  · (intro w9 hS9; go_simp; try with_reducible rfl)
  refine wpAnyH_take (i := 16) (v := ?_) rfl (by kernel_rfl) (by kernel_rfl) (by kernel_rfl) (fun _ _ _ h => h) (Or.inl ⟨by rfl, ?_⟩) hS ?_
  rotate_left
  · (intro w9 hS9; go_simp; try with_reducible rfl)
  refine wpAnyH_take (i := 8) (v := ?_) rfl (by kernel_rfl) (by kernel_rfl) (by kernel_rfl) (fun _ _ _ h => h) (Or.inl ⟨by rfl, ?_⟩) hS ?_
  rotate_left
  · (intro w9 hS9; obtain ⟨q0, q1, q2, q3, q4, q5, q6, q7, q8, q9⟩ := HF2.out w9 hS9; go_simp; try with_reducible rfl)
  simp only [Act.put, List.getElem_toArray, List.getElem_cons_zero, List.getElem_cons_succ, List.setIfInBounds_toArray, List.set_cons_zero, List.set_cons_succ]
  refine wpAnyH_ready (rs := [0, 9]) (by kernel_rfl) (by simp) (AllReadyH.cons rfl (fun K hK => ?_) (AllReadyH.cons rfl (fun K hK => ?_) (AllReadyH.nil)))
  · go_simp
    have o0 := own_none _ (B := w2.heap.size) hS.size
    refine hK.out _ _ (hS.alloc hS.size (.cells #[] 39)) (fun hS => ?_)
    clear hK K
    refine wpAnyH_ready (rs := [7, 9]) (by kernel_rfl) (by simp) (AllReadyH.cons rfl (fun K hK => ?_) (AllReadyH.cons rfl (fun K hK => ?_) (AllReadyH.nil)))
    · obtain ⟨v7, W7, hr7, o7, g7, l7⟩ := app_run 29 o0 (news_row (o := 0) (n := pos l e.n) (c := cap) (HROW.out.below hS) (by omega) rfl) (by simp; omega) hS.size
      refine step_app rfl _ _ rfl _ _ _ W7 rfl rfl hr7 ?_
      refine hK.out _ _ (hS.grown g7 hS.size (fun k hk => (o0.lt k hk).1)) (fun hS => ?_)
      clear hK K hr7
      refine wpAnyH_ready (rs := [9]) (by kernel_rfl) (by simp) (AllReadyH.cons rfl (fun K hK => ?_) (AllReadyH.nil))
      go_simp
      have c9 := var_new W7 (entC e) 39
      have o7 := own_alloc o7 (.cells (entC e) 39)
      refine hK.out _ _ (hS.alloc hS.size (.cells (entC e) 39)) (fun hS => ?_)
      clear hK K
      refine wpAnyH_ready (rs := [10]) (by kernel_rfl) (by simp) (AllReadyH.cons rfl (fun K hK => ?_) (AllReadyH.nil))
      obtain ⟨v10, W10, hr10, o10, g10, l10⟩ := app_run 29 o7 (news_one c9) (by simp; omega) hS.size
      refine step_app rfl _ _ rfl _ _ _ W10 rfl rfl hr10 ?_
      refine hK.out _ _ (hS.grown g10 hS.size (fun k hk => (o7.lt k hk).1)) (fun hS => ?_)
      clear hK K hr10
      refine wpAnyH_ready (rs := [17]) (by kernel_rfl) (by simp) (AllReadyH.cons rfl (fun K hK => ?_) (AllReadyH.nil))
      obtain ⟨v17, W17, hr17, o17, g17, l17⟩ := app_run 29 o10 (news_rest (i := pos l e.n) (cap := cap) (HROW.out.below hS) (by omega) hcap) (by simp; omega) hS.size
      refine step_app rfl _ _ rfl _ _ _ W17 rfl rfl hr17 ?_
      refine hK.out _ _ (hS.grown g17 hS.size (fun k hk => (o10.lt k hk).1)) (fun hS => ?_)
      clear hK K hr17
      refine wpAnyH_take (i := 18) (v := ?_) rfl (by kernel_rfl) (by kernel_rfl) (by kernel_rfl) (fun _ _ _ h => h) (Or.inl ⟨by rfl, ?_⟩) hS ?_
      rotate_left
      · (intro w9 hS9; go_simp; try with_reducible rfl)
      refine wpAnyH_done (by kernel_rfl) ?_ _
      obtain ⟨g9, cap9, rfl, hg9, m0, f0, hM, hO⟩ := put_fin (e := e) H2.out hS o17 (by rw [HPUT.out]; simp; omega) (by rw [HPUT.out, List.flatMap_append, List.flatMap_cons]; simp [List.take_of_length_le]) (by omega) (Nat.le_trans hB HW2.out.size) HU2.out (by rw [HPUT.out]; simp; omega)
      simp only [Nat.zero_add] at hM hO
      have HM := Lib.hid hM
      have HO := Lib.hid hO
      clear hM hO o17 o10 o7 g17 g10 g7 l17 l10 l7 o0 c9 hS
      generalize (if cap = pos l e.n then (some ⟨g, 0, none⟩ : Option Addr) else some ⟨g, pos l e.n * 10, none⟩) = q
      go_wp2
      go_ret
      exact ⟨rfl, ⟨_, HM.out, fun k hk => (by simp [Value.ownBlock] at hk; have := HW2.out.size; omega)⟩, (Below.off HW2.out _).trans (HO.out.mono (fun _ _ hk => hk)) (fun _ _ x => x)⟩
    · go_simp
      have c9 := var_at e hS (s := w2.heap.size + 1) (alloc_size _ _)
      have o0' := own_alloc o0 (.cells (entC e) 39)
      refine hK.out _ _ (hS.alloc hS.size (.cells (entC e) 39)) (fun hS => ?_)
      clear hK K
      refine wpAnyH_ready (rs := [7]) (by kernel_rfl) (by simp) (AllReadyH.cons rfl (fun K hK => ?_) (AllReadyH.nil))
      obtain ⟨v7, W7, hr7, o7, g7, l7⟩ := app_run 29 o0' (news_row (o := 0) (n := pos l e.n) (c := cap) (HROW.out.below hS) (by omega) rfl) (by simp; omega) hS.size
      refine step_app rfl _ _ rfl _ _ _ W7 rfl rfl hr7 ?_
      refine hK.out _ _ (hS.grown g7 hS.size (fun k hk => (o0'.lt k hk).1)) (fun hS => ?_)
      clear hK K hr7
      have c9 := (g7.block _ c9.lt (fun e0 => by have h9 := (o0.lt _ e0.symm).2; rw [alloc_size] at h9; exact Nat.lt_irrefl _ h9)).trans c9
      refine wpAnyH_ready (rs := [10]) (by kernel_rfl) (by simp) (AllReadyH.cons rfl (fun K hK => ?_) (AllReadyH.nil))
      obtain ⟨v10, W10, hr10, o10, g10, l10⟩ := app_run 29 o7 (news_one c9) (by simp; omega) hS.size
      refine step_app rfl _ _ rfl _ _ _ W10 rfl rfl hr10 ?_
      refine hK.out _ _ (hS.grown g10 hS.size (fun k hk => (o7.lt k hk).1)) (fun hS => ?_)
      clear hK K hr10
      refine wpAnyH_ready (rs := [17]) (by kernel_rfl) (by simp) (AllReadyH.cons rfl (fun K hK => ?_) (AllReadyH.nil))
      obtain ⟨v17, W17, hr17, o17, g17, l17⟩ := app_run 29 o10 (news_rest (i := pos l e.n) (cap := cap) (HROW.out.below hS) (by omega) hcap) (by simp; omega) hS.size
      refine step_app rfl _ _ rfl _ _ _ W17 rfl rfl hr17 ?_
      refine hK.out _ _ (hS.grown g17 hS.size (fun k hk => (o10.lt k hk).1)) (fun hS => ?_)
      clear hK K hr17
      refine wpAnyH_take (i := 18) (v := ?_) rfl (by kernel_rfl) (by kernel_rfl) (by kernel_rfl) (fun _ _ _ h => h) (Or.inl ⟨by rfl, ?_⟩) hS ?_
      rotate_left
      · (intro w9 hS9; go_simp; try with_reducible rfl)
      refine wpAnyH_done (by kernel_rfl) ?_ _
      obtain ⟨g9, cap9, rfl, hg9, m0, f0, hM, hO⟩ := put_fin (e := e) H2.out hS o17 (by rw [HPUT.out]; simp; omega) (by rw [HPUT.out, List.flatMap_append, List.flatMap_cons]; simp [List.take_of_length_le]) (by omega) (Nat.le_trans hB HW2.out.size) HU2.out (by rw [HPUT.out]; simp; omega)
      simp only [Nat.zero_add] at hM hO
      have HM := Lib.hid hM
      have HO := Lib.hid hO
      clear hM hO o17 o10 o7 g17 g10 g7 l17 l10 l7 o0 c9 hS
      generalize (if cap = pos l e.n then (some ⟨g, 0, none⟩ : Option Addr) else some ⟨g, pos l e.n * 10, none⟩) = q
      go_wp2
      go_ret
      exact ⟨rfl, ⟨_, HM.out, fun k hk => (by simp [Value.ownBlock] at hk; have := HW2.out.size; omega)⟩, (Below.off HW2.out _).trans (HO.out.mono (fun _ _ hk => hk)) (fun _ _ x => x)⟩
  · go_simp
    have c9 := var_of e hS
    refine hK.out _ _ (hS.alloc hS.size (.cells (entC e) 39)) (fun hS => ?_)
    clear hK K
    refine wpAnyH_ready (rs := [0]) (by kernel_rfl) (by simp) (AllReadyH.cons rfl (fun K hK => ?_) (AllReadyH.nil))
    go_simp
    have o0 := own_at hS (s := w2.heap.size + 1) (alloc_size _ _)
    have c9 := c9.alloc (.cells #[] 39)
    refine hK.out _ _ (hS.alloc hS.size (.cells #[] 39)) (fun hS => ?_)
    clear hK K
    refine wpAnyH_ready (rs := [7]) (by kernel_rfl) (by simp) (AllReadyH.cons rfl (fun K hK => ?_) (AllReadyH.nil))
    obtain ⟨v7, W7, hr7, o7, g7, l7⟩ := app_run 29 o0 (news_row (o := 0) (n := pos l e.n) (c := cap) (HROW.out.below hS) (by omega) rfl) (by simp; omega) hS.size
    refine step_app rfl _ _ rfl _ _ _ W7 rfl rfl hr7 ?_
    refine hK.out _ _ (hS.grown g7 hS.size (fun k hk => (o0.lt k hk).1)) (fun hS => ?_)
    clear hK K hr7
    have c9 := (g7.block _ c9.lt (fun e0 => by simp [Value.ownBlock] at e0)).trans c9
    refine wpAnyH_ready (rs := [10]) (by kernel_rfl) (by simp) (AllReadyH.cons rfl (fun K hK => ?_) (AllReadyH.nil))
    obtain ⟨v10, W10, hr10, o10, g10, l10⟩ := app_run 29 o7 (news_one c9) (by simp; omega) hS.size
    refine step_app rfl _ _ rfl _ _ _ W10 rfl rfl hr10 ?_
    refine hK.out _ _ (hS.grown g10 hS.size (fun k hk => (o7.lt k hk).1)) (fun hS => ?_)
    clear hK K hr10
    refine wpAnyH_ready (rs := [17]) (by kernel_rfl) (by simp) (AllReadyH.cons rfl (fun K hK => ?_) (AllReadyH.nil))
    obtain ⟨v17, W17, hr17, o17, g17, l17⟩ := app_run 29 o10 (news_rest (i := pos l e.n) (cap := cap) (HROW.out.below hS) (by omega) hcap) (by simp; omega) hS.size
    refine step_app rfl _ _ rfl _ _ _ W17 rfl rfl hr17 ?_
    refine hK.out _ _ (hS.grown g17 hS.size (fun k hk => (o10.lt k hk).1)) (fun hS => ?_)
    clear hK K hr17
    refine wpAnyH_take (i := 18) (v := ?_) rfl (by kernel_rfl) (by kernel_rfl) (by kernel_rfl) (fun _ _ _ h => h) (Or.inl ⟨by rfl, ?_⟩) hS ?_
    rotate_left
    · (intro w9 hS9; go_simp; try with_reducible rfl)
    refine wpAnyH_done (by kernel_rfl) ?_ _
    obtain ⟨g9, cap9, rfl, hg9, m0, f0, hM, hO⟩ := put_fin (e := e) H2.out hS o17 (by rw [HPUT.out]; simp; omega) (by rw [HPUT.out, List.flatMap_append, List.flatMap_cons]; simp [List.take_of_length_le]) (by omega) (Nat.le_trans hB HW2.out.size) HU2.out (by rw [HPUT.out]; simp; omega)
    simp only [Nat.zero_add] at hM hO
    have HM := Lib.hid hM
    have HO := Lib.hid hO
    clear hM hO o17 o10 o7 g17 g10 g7 l17 l10 l7 o0 c9 hS
    generalize (if cap = pos l e.n then (some ⟨g, 0, none⟩ : Option Addr) else some ⟨g, pos l e.n * 10, none⟩) = q
    go_wp2
    go_ret
    exact ⟨rfl, ⟨_, HM.out, fun k hk => (by simp [Value.ownBlock] at hk; have := HW2.out.size; omega)⟩, (Below.off HW2.out _).trans (HO.out.mono (fun _ _ hk => hk)) (fun _ _ x => x)⟩
end Go.Proofs.Ytkdaloikpljccaa
