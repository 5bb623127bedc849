/- The model's put, of the first entry. -/
import Derived.Test.YtkdaloikpljccaaWb
namespace Go.Proofs.Ytkdaloikpljccaa
open Go.RowKit Go.Sort Go.Maps
variable {w w' : World} {mb B : Nat} {most : Int}
theorem news_nil {w : World} : News w (.slice none 0 0) 0 [] := ⟨rfl, by simp, Or.inl ⟨rfl, rfl⟩⟩
set_option maxHeartbeats 400000 in
theorem put_nil (h : Mdl w mb (.slice none 0 0) most B []) (e : Ent) (he : e.n < 281474976710656) (hr : decide ((0 : Int) < most) = true) (_ : most ≤ 60) (hB : B ≤ w.heap.size) :
    Calls Try.prog 20 #[.pointer (some ⟨mb, 0, none⟩), entV e] w fun r w' => r = .returned (.bool true) ∧ (∃ v', Mdl w' mb v' most B (putE e []) ∧ (∀ k, v'.ownBlock = some k → w.heap.size ≤ k)) ∧ Off (fun k => k = mb) w w' := by
  have hb := box_below w (.cells (entC e) 39)
  have h1 := h.below hb
  have hv := var_new w (entC e) 39
  obtain ⟨x0, x1, x2, x3, x4, x5, _⟩ := entCells hv
  have hput : putE e [] = [e] := rfl
  have hu2 := h.up.putE he
  have hr' : decide (most ≤ (0 : Int)) = false := by simp at hr ⊢; exact hr
  have HB := Lib.hid hb
  have H1 := Lib.hid h1
  have HV := Lib.hid hv
  have HU2 := Lib.hid hu2
  have HPUT := Lib.hid hput
  clear h hb h1 hv hu2 hput hr
  go_enter Try.func20, Try.ntmps20
  go_wp2_with fail
  refine (at_any H1.out he).mono ?_
  rintro r w2 ⟨rfl, hb2⟩
  have hp0 : pos [] e.n = 0 := rfl
  have hh0 : has [] e.n = false := rfl
  rw [hp0, hh0]
  have h2 := H1.out.below hb2
  have hv2 := HV.out.below hb2 HV.out.lt
  have r0 := h2.row.cell 0
  have r1 := h2.row.cell 1
  simp at r0 r1
  have F1 : ∀ w', Below w2.heap.size w2 w' → w'.cell? ⟨mb, 0, none⟩ = some (.slice none 0 0) := fun w' hw => (hw.cell (block_lt_of_cell r0)).trans r0
  have F2 : ∀ w', Below w2.heap.size w2 w' → _ := fun w' hw => entCells (hv2.below hw hv2.lt)
  have H2 := Lib.hid h2
  have HF1 := Lib.hid F1
  have HF2 := Lib.hid F2
  have HW2 := Lib.hid (below_next HB.out hb2)
  clear h2 hv2 hb2 x0 x1 x2 x3 x4 x5 F1 F2
  go_wp2_with fail
  go_quiet (fail)
  go_wp2_with fail
  refine wp_region_held_drew (S := fun w' => Below w2.heap.size w2 w') (by kernel_rfl) (below_dn (Below.refl _ _)).drew (fun hS => ?_)
  refine wpAnyH_take (i := 1) (v := ?_) rfl (by kernel_rfl) (by kernel_rfl) (by kernel_rfl) (fun _ _ _ h => h) (Or.inl ⟨by rfl, ?_⟩) hS ?_
  rotate_left
  · (intro w9 hS9; go_simp; try with_reducible rfl)
  refine wpAnyH_take (i := 2) (v := ?_) rfl (by kernel_rfl) (by kernel_rfl) (by kernel_rfl) (fun _ _ _ h => h) (Or.inl ⟨by rfl, ?_⟩) hS ?_
  rotate_left
  · (intro w9 hS9; go_simp; try with_reducible rfl)
  refine wpAnyH_take (i := 3) (v := ?_) rfl (by kernel_rfl) (by kernel_rfl) (by kernel_rfl) (fun _ _ _ h => h) (Or.inl ⟨by rfl, ?_⟩) hS ?_
  rotate_left
  · (intro w9 hS9; go_simp; try with_reducible rfl)
  refine wpAnyH_take (i := 4) (v := ?_) rfl (by kernel_rfl) (by kernel_rfl) (by kernel_rfl) (fun _ _ _ h => h) (Or.inl ⟨by rfl, ?_⟩) hS ?_
  rotate_left
  · (intro w9 hS9; have q1 := HF1.out w9 hS9; go_simp; try with_reducible rfl)
  refine wpAnyH_take (i := 5) (v := ?_) rfl (by kernel_rfl) (by kernel_rfl) (by kernel_rfl) (fun _ _ _ h => h) (Or.inl ⟨by rfl, ?_⟩) hS ?_
  rotate_left
  · (intro w9 hS9; go_simp; try with_reducible rfl)
  refine wpAnyH_take (i := 6) (v := ?_) rfl (by kernel_rfl) (by kernel_rfl) (by kernel_rfl) (fun _ _ _ h => h) (Or.inl ⟨by rfl, ?_⟩) hS ?_
  rotate_left
  · (intro w9 hS9; go_simp; try with_reducible rfl)
  refine wpAnyH_take (i := 11) (v := ?_) rfl (by kernel_rfl) (by kernel_rfl) (by kernel_rfl) (fun _ _ _ h => h) (Or.inl ⟨by rfl, ?_⟩) hS ?_
  rotate_left
  · (intro w9 hS9; go_simp; try with_reducible rfl)
  refine wpAnyH_take (i := 12) (v := ?_) rfl (by kernel_rfl) (by kernel_rfl) (by kernel_rfl) (fun _ _ _ h => h) (Or.inl ⟨by rfl, ?_⟩) hS ?_
  rotate_left
  · (intro w9 hS9; go_simp; try with_reducible rfl)
  refine wpAnyH_take (i := 13) (v := ?_) rfl (by kernel_rfl) (by kernel_rfl) (by kernel_rfl) (fun _ _ _ h => h) (Or.inl ⟨by rfl, ?_⟩) hS ?_
  rotate_left
  · (intro w9 hS9; go_simp; try with_reducible rfl)
  refine wpAnyH_take (i := 14) (v := ?_) rfl (by kernel_rfl) (by kernel_rfl) (by kernel_rfl) (fun _ _ _ h => h) (Or.inl ⟨by rfl, ?_⟩) hS ?_
  rotate_left
  · (intro w9 hS9; have q1 := HF1.out w9 hS9; go_simp; try with_reducible rfl)
  refine wpAnyH_take (i := 15) (v := ?_) rfl (by kernel_rfl) (by kernel_rfl) (by kernel_rfl) (fun _ _ _ h => h) (Or.inl ⟨by rfl, ?_⟩) hS ?_
  rotate_left
  · (intro w9 hS9; go_simp; try with_reducible rfl)
  refine wpAnyH_take (i := 16) (v := ?_) rfl (by kernel_rfl) (by kernel_rfl) (by kernel_rfl) (fun _ _ _ h => h) (Or.inl ⟨by rfl, ?_⟩) hS ?_
  rotate_left
  · (intro w9 hS9; go_simp; try with_reducible rfl)
  refine wpAnyH_take (i := 8) (v := ?_) rfl (by kernel_rfl) (by kernel_rfl) (by kernel_rfl) (fun _ _ _ h => h) (Or.inl ⟨by rfl, ?_⟩) hS ?_
  rotate_left
  · (intro w9 hS9; obtain ⟨q0, q1, q2, q3, q4, q5, q6, q7, q8, q9⟩ := HF2.out w9 hS9; go_simp; try with_reducible rfl)
  simp only [Act.put, List.getElem_toArray, List.getElem_cons_zero, List.getElem_cons_succ, List.setIfInBounds_toArray, List.set_cons_zero, List.set_cons_succ]
  refine wpAnyH_ready (rs := [0, 9]) (by kernel_rfl) (by simp) (AllReadyH.cons rfl (fun K hK => ?_) (AllReadyH.cons rfl (fun K hK => ?_) (AllReadyH.nil)))
  · go_simp
    have o0 := own_none _ (B := w2.heap.size) hS.size
    refine hK.out _ _ (hS.alloc hS.size (.cells #[] 39)) (fun hS => ?_)
    clear hK K
    refine wpAnyH_ready (rs := [7, 9]) (by kernel_rfl) (by simp) (AllReadyH.cons rfl (fun K hK => ?_) (AllReadyH.cons rfl (fun K hK => ?_) (AllReadyH.nil)))
    · obtain ⟨v7, W7, hr7, o7, g7, l7⟩ := app_run 29 o0 news_nil (by omega) hS.size
      refine step_app rfl _ _ rfl _ _ _ W7 rfl rfl hr7 ?_
      refine hK.out _ _ (hS.grown g7 hS.size (fun k hk => (o0.lt k hk).1)) (fun hS => ?_)
      clear hK K hr7
      refine wpAnyH_ready (rs := [9]) (by kernel_rfl) (by simp) (AllReadyH.cons rfl (fun K hK => ?_) (AllReadyH.nil))
      go_simp
      have c9 := var_new W7 (entC e) 39
      have o7 := own_alloc o7 (.cells (entC e) 39)
      refine hK.out _ _ (hS.alloc hS.size (.cells (entC e) 39)) (fun hS => ?_)
      clear hK K
      refine wpAnyH_ready (rs := [10]) (by kernel_rfl) (by simp) (AllReadyH.cons rfl (fun K hK => ?_) (AllReadyH.nil))
      obtain ⟨v10, W10, hr10, o10, g10, l10⟩ := app_run 29 o7 (news_one c9) (by omega) hS.size
      refine step_app rfl _ _ rfl _ _ _ W10 rfl rfl hr10 ?_
      refine hK.out _ _ (hS.grown g10 hS.size (fun k hk => (o7.lt k hk).1)) (fun hS => ?_)
      clear hK K hr10
      refine wpAnyH_ready (rs := [17]) (by kernel_rfl) (by simp) (AllReadyH.cons rfl (fun K hK => ?_) (AllReadyH.nil))
      obtain ⟨v17, W17, hr17, o17, g17, l17⟩ := app_run 29 o10 news_nil (by omega) hS.size
      refine step_app rfl _ _ rfl _ _ _ W17 rfl rfl hr17 ?_
      refine hK.out _ _ (hS.grown g17 hS.size (fun k hk => (o10.lt k hk).1)) (fun hS => ?_)
      clear hK K hr17
      refine wpAnyH_take (i := 18) (v := ?_) rfl (by kernel_rfl) (by kernel_rfl) (by kernel_rfl) (fun _ _ _ h => h) (Or.inl ⟨by rfl, ?_⟩) hS ?_
      rotate_left
      · (intro w9 hS9; go_simp; try with_reducible rfl)
      refine wpAnyH_done (by kernel_rfl) ?_ _
      obtain ⟨g9, cap9, rfl, hg9, m0, f0, hM, hO⟩ := put_fin (e := e) H2.out hS o17 (by rw [HPUT.out]; rfl) (by rw [HPUT.out]; simp) (by omega) (Nat.le_trans hB HW2.out.size) HU2.out (by rw [HPUT.out]; simp)
      simp only [Nat.zero_add] at hM hO
      have HM := Lib.hid hM
      have HO := Lib.hid hO
      clear hM hO o17 o10 o7 g17 g10 g7 l17 l10 l7 o0 c9 hS
      go_wp2
      go_ret
      exact ⟨rfl, ⟨_, HM.out, fun k hk => (by simp [Value.ownBlock] at hk; have := HW2.out.size; omega)⟩, (Below.off HW2.out _).trans (HO.out.mono (fun _ _ hk => hk)) (fun _ _ x => x)⟩
    · go_simp
      have c9 := var_at e hS (s := w2.heap.size + 1) (alloc_size _ _)
      have o0' := own_alloc o0 (.cells (entC e) 39)
      refine hK.out _ _ (hS.alloc hS.size (.cells (entC e) 39)) (fun hS => ?_)
      clear hK K
      refine wpAnyH_ready (rs := [7]) (by kernel_rfl) (by simp) (AllReadyH.cons rfl (fun K hK => ?_) (AllReadyH.nil))
      obtain ⟨v7, W7, hr7, o7, g7, l7⟩ := app_run 29 o0' news_nil (by omega) hS.size
      refine step_app rfl _ _ rfl _ _ _ W7 rfl rfl hr7 ?_
      refine hK.out _ _ (hS.grown g7 hS.size (fun k hk => (o0'.lt k hk).1)) (fun hS => ?_)
      clear hK K hr7
      have c9 := (g7.block _ c9.lt (fun e0 => by have h9 := (o0.lt _ e0.symm).2; rw [alloc_size] at h9; exact Nat.lt_irrefl _ h9)).trans c9
      refine wpAnyH_ready (rs := [10]) (by kernel_rfl) (by simp) (AllReadyH.cons rfl (fun K hK => ?_) (AllReadyH.nil))
      obtain ⟨v10, W10, hr10, o10, g10, l10⟩ := app_run 29 o7 (news_one c9) (by omega) hS.size
      refine step_app rfl _ _ rfl _ _ _ W10 rfl rfl hr10 ?_
      refine hK.out _ _ (hS.grown g10 hS.size (fun k hk => (o7.lt k hk).1)) (fun hS => ?_)
      clear hK K hr10
      refine wpAnyH_ready (rs := [17]) (by kernel_rfl) (by simp) (AllReadyH.cons rfl (fun K hK => ?_) (AllReadyH.nil))
      obtain ⟨v17, W17, hr17, o17, g17, l17⟩ := app_run 29 o10 news_nil (by omega) hS.size
      refine step_app rfl _ _ rfl _ _ _ W17 rfl rfl hr17 ?_
      refine hK.out _ _ (hS.grown g17 hS.size (fun k hk => (o10.lt k hk).1)) (fun hS => ?_)
      clear hK K hr17
      refine wpAnyH_take (i := 18) (v := ?_) rfl (by kernel_rfl) (by kernel_rfl) (by kernel_rfl) (fun _ _ _ h => h) (Or.inl ⟨by rfl, ?_⟩) hS ?_
      rotate_left
      · (intro w9 hS9; go_simp; try with_reducible rfl)
      refine wpAnyH_done (by kernel_rfl) ?_ _
      obtain ⟨g9, cap9, rfl, hg9, m0, f0, hM, hO⟩ := put_fin (e := e) H2.out hS o17 (by rw [HPUT.out]; rfl) (by rw [HPUT.out]; simp) (by omega) (Nat.le_trans hB HW2.out.size) HU2.out (by rw [HPUT.out]; simp)
      simp only [Nat.zero_add] at hM hO
      have HM := Lib.hid hM
      have HO := Lib.hid hO
      clear hM hO o17 o10 o7 g17 g10 g7 l17 l10 l7 o0 c9 hS
      go_wp2
      go_ret
      exact ⟨rfl, ⟨_, HM.out, fun k hk => (by simp [Value.ownBlock] at hk; have := HW2.out.size; omega)⟩, (Below.off HW2.out _).trans (HO.out.mono (fun _ _ hk => hk)) (fun _ _ x => x)⟩
  · go_simp
    have c9 := var_of e hS
    refine hK.out _ _ (hS.alloc hS.size (.cells (entC e) 39)) (fun hS => ?_)
    clear hK K
    refine wpAnyH_ready (rs := [0]) (by kernel_rfl) (by simp) (AllReadyH.cons rfl (fun K hK => ?_) (AllReadyH.nil))
    go_simp
    have o0 := own_at hS (s := w2.heap.size + 1) (alloc_size _ _)
    have c9 := c9.alloc (.cells #[] 39)
    refine hK.out _ _ (hS.alloc hS.size (.cells #[] 39)) (fun hS => ?_)
    clear hK K
    refine wpAnyH_ready (rs := [7]) (by kernel_rfl) (by simp) (AllReadyH.cons rfl (fun K hK => ?_) (AllReadyH.nil))
    obtain ⟨v7, W7, hr7, o7, g7, l7⟩ := app_run 29 o0 news_nil (by omega) hS.size
    refine step_app rfl _ _ rfl _ _ _ W7 rfl rfl hr7 ?_
    refine hK.out _ _ (hS.grown g7 hS.size (fun k hk => (o0.lt k hk).1)) (fun hS => ?_)
    clear hK K hr7
    have c9 := (g7.block _ c9.lt (fun e0 => by simp [Value.ownBlock] at e0)).trans c9
    refine wpAnyH_ready (rs := [10]) (by kernel_rfl) (by simp) (AllReadyH.cons rfl (fun K hK => ?_) (AllReadyH.nil))
    obtain ⟨v10, W10, hr10, o10, g10, l10⟩ := app_run 29 o7 (news_one c9) (by omega) hS.size
    refine step_app rfl _ _ rfl _ _ _ W10 rfl rfl hr10 ?_
    refine hK.out _ _ (hS.grown g10 hS.size (fun k hk => (o7.lt k hk).1)) (fun hS => ?_)
    clear hK K hr10
    refine wpAnyH_ready (rs := [17]) (by kernel_rfl) (by simp) (AllReadyH.cons rfl (fun K hK => ?_) (AllReadyH.nil))
    obtain ⟨v17, W17, hr17, o17, g17, l17⟩ := app_run 29 o10 news_nil (by omega) hS.size
    refine step_app rfl _ _ rfl _ _ _ W17 rfl rfl hr17 ?_
    refine hK.out _ _ (hS.grown g17 hS.size (fun k hk => (o10.lt k hk).1)) (fun hS => ?_)
    clear hK K hr17
    refine wpAnyH_take (i := 18) (v := ?_) rfl (by kernel_rfl) (by kernel_rfl) (by kernel_rfl) (fun _ _ _ h => h) (Or.inl ⟨by rfl, ?_⟩) hS ?_
    rotate_left
    · (intro w9 hS9; go_simp; try with_reducible rfl)
    refine wpAnyH_done (by kernel_rfl) ?_ _
    obtain ⟨g9, cap9, rfl, hg9, m0, f0, hM, hO⟩ := put_fin (e := e) H2.out hS o17 (by rw [HPUT.out]; rfl) (by rw [HPUT.out]; simp) (by omega) (Nat.le_trans hB HW2.out.size) HU2.out (by rw [HPUT.out]; simp)
    simp only [Nat.zero_add] at hM hO
    have HM := Lib.hid hM
    have HO := Lib.hid hO
    clear hM hO o17 o10 o7 g17 g10 g7 l17 l10 l7 o0 c9 hS
    go_wp2
    go_ret
    exact ⟨rfl, ⟨_, HM.out, fun k hk => (by simp [Value.ownBlock] at hk; have := HW2.out.size; omega)⟩, (Below.off HW2.out _).trans (HO.out.mono (fun _ _ hk => hk)) (fun _ _ x => x)⟩
end Go.Proofs.Ytkdaloikpljccaa
