/- Spanning. -/
import Derived.Test.YtfdhkbkonennjaaT
import Derived.Test.YtfdhkbkonennjaaR
import Derived.Deep.RegionHeld
namespace Go.Proofs.Ytfdhkbkonennjaa
open Go.RowKit Go.Sort

abbrev FzAt (w : World) (b : Nat) : Prop := w.heap[b]? = some (.cells #[.int .u8 66, .int .u8 66, .int .u8 3] 5 (3, 4))
abbrev LitAt (w : World) (b : Nat) : Prop := VarAt w b #[.int .u8 66, .int .u8 66, .int .u8 3] 5
theorem lit_conv {w : World} {b : Nat} (h : LitAt w b) : (convert 25 25 (.slice (some ⟨b, 0, none⟩) 3 3)).run Try.prog w = .ok (.slice (some ⟨b, 0, none⟩) 3 3) (w.freeze ⟨b, 3, none⟩ 1) := by
  have hs : w.shape? b = some (5, 3) := by
    unfold World.shape?
    rw [show w.heap[b]? = _ from h]
    rfl
  unfold convert
  simp [go_sem, run_underlying und22, markStringish, run_underlying und5, hs]
theorem lit_frozen {w : World} {b : Nat} (h : LitAt w b) : FzAt (w.freeze ⟨b, 3, none⟩ 1) b := by
  unfold FzAt World.freeze
  rw [if_neg (by decide)]
  simp only [Array.getElem?_modify, if_true]
  rw [show w.heap[b]? = _ from h]
  rfl
theorem freeze_below {B b : Nat} {w0 w : World} (h : Below B w0 w) (hb : B ≤ b) : Below B w0 (w.freeze ⟨b, 3, none⟩ 1) := Go.Lib.below_freeze h hb 1
theorem freeze_size (w : World) (a : Addr) (n : Nat) : (w.freeze a n).heap.size = w.heap.size := by
  unfold World.freeze
  split
  · rfl
  · simp
theorem FzAt.below {w w' : World} {b B : Nat} (h : FzAt w b) (hb : Below B w w') (hB : b < B) : FzAt w' b := (hb.block b hB).trans h
theorem freeze_other {w : World} {b k : Nat} {xs : Array Value} {t : TypeId} (h : VarAt w k xs t) (hb : k ≠ b) : VarAt (w.freeze ⟨b, 3, none⟩ 1) k xs t := by
  unfold VarAt World.freeze
  rw [if_neg (by decide)]
  rw [Array.getElem?_modify, if_neg (by simpa using fun e => hb e.symm)]
  exact h
theorem fz_cells {w : World} {b : Nat} (h : FzAt w b) : Lie w ⟨b, 0, none⟩ mark := by
  intro j hj
  rw [Addr.add_lit, Nat.zero_add, cell_of_row _ _ j _ 5 (3, 4) h]
  match j with
  | 0 => rfl | 1 => rfl | 2 => rfl
  | j + 3 => simp at hj; omega

/-- The Body of a frame of the protocol. -/
def spB (l : List UInt8) : List UInt8 := mark ++ l
theorem spB_len (l : List UInt8) : (spB l).length = 3 + l.length := by
  simp [spB]
  omega
theorem mark_append {w : World} {b B : Nat} {v : Value} {l : List UInt8} (h : FzAt w b) (ty : TypeId) (hv : Bts w B v l) (hl : l.length ≤ 100000) :
    ∃ v' w', (Builtin.append_ #[25, 25] ty #[.slice (some ⟨b, 0, none⟩) 3 3, v]).run Try.prog w = .ok v' w' ∧ Bts w' w'.heap.size v' (spB l) ∧ Far b v' ∧ Below w.heap.size w w' := by
  obtain ⟨i0, hinf, hz0, hz1, hz2⟩ := info_parts info5
  have hblt : b < w.heap.size := (Array.getElem?_eq_some_iff.1 h).1
  have same : Bts w w.heap.size (.slice (some ⟨b, 0, none⟩) 3 3) mark := .inr ⟨_, 3, rfl, Nat.le_refl _, by decide, fun _ => hblt, fz_cells h⟩
  have fs : Far b (.slice (some ⟨b, 0, none⟩) 3 3) := by
    intro a n c h
    cases h
    exact Nat.le_refl _
  rcases hv with ⟨rfl, rfl⟩ | ⟨a, cap, rfl, h1, h2, h3, h4⟩
  · refine ⟨_, w, ?_, same, fs, Below.refl _ _⟩
    simp [Builtin.append_, run_underlying und22, sizeOf, typeInfo, hinf, Builtin.lenOf, Builtin.firstCells, storeCells]
  · by_cases h0 : l.length = 0
    · have hl0 := List.eq_nil_of_length_eq_zero h0
      subst hl0
      refine ⟨_, w, ?_, same, fs, Below.refl _ _⟩
      simp [Builtin.append_, run_underlying und22, sizeOf, typeInfo, hinf, Builtin.lenOf, Builtin.firstCells, storeCells, loadCells, loadCellsFrom]
    · have hr := run_append_grow (P := Try.prog) w 25 ty 5 i0 (.int .u8 0) und22 hinf hz0 ⟨b, 0, none⟩ 3 3 (mark.map bV) (by rw [hz1]; rfl) (fz_cells h).news a l.length cap (l.map bV) (by rw [hz1]; simp) h4.news (by omega) (by omega) (by rw [hz2]; exact growslice_fits (by omega) (by omega))
      have hge := grownCap_ge w (3 + l.length) 3 5
      have hcm : grownCap w (3 + l.length) 3 5 ≤ maxLen := grownCap_le_maxLen w (3 + l.length) 3 5 (by unfold maxLen; omega)
      refine ⟨_, _, hr, ?_, ?_, (Below.refl _ _).drew.alloc (Nat.le_refl _) _⟩
      rotate_left
      · intro a n c h
        cases h
        exact Nat.le_of_lt hblt
      have hnew := var_new w.drew ((mark.map bV).toArray ++ (l.map bV).toArray ++ Builtin.zeroCells (Value.int .u8 0).cells (grownCap w (3 + l.length) 3 5 - (3 + l.length))) 5
      refine .inr ⟨⟨w.heap.size, 0, none⟩, grownCap w (3 + l.length) 3 5, ?_, ?_, hcm, fun _ => by rw [alloc_size]; exact Nat.lt_succ_self _, fun j hj => ?_⟩
      · rw [spB_len]
      · rw [spB_len]; exact hge
      · rw [Addr.add_lit, Nat.zero_add]
        refine (hnew.cell j).trans ?_
        rw [Array.getElem?_append_left (by rw [spB_len] at hj; simp; omega), List.append_toArray, ← List.map_append, show mark ++ l = spB l from rfl, List.getElem?_toArray, List.getElem?_map, List.getElem?_eq_getElem hj]
        rfl

/-- The protocol's address. -/
def grpN : Nat → Nat | 0 => 1 | 1 => 128 | 2 => 194 | _ => 0
/-- 'append' at a step of a region that draws, where its run is known. -/
theorem step_append_run {w : World} {ops : Array Oper} {o : Oper} {a : Act} {K : Act → World → Prop} {Q : Exit → Act → World → Prop} {E : Prop} (hgd : o.guard = none) (s x : Operand)
    (ho : o.op = .call { callee := .builtin .append, args := #[s, x], argTypes := #[25, 25] }) (v1 v2 r : Value) (w' : World) (hs : a.eval s = v1) (hx : a.eval x = v2)
    (hr : (Builtin.append_ #[25, 25] o.type #[v1, v2]).run Try.prog w = .ok r w') (h : K (a.put o.dst r) w') : if Region.wanted o (yielded ops a.tmps) = true then Oper.wp Try.prog o a w K Q else E := by
  have hw : Region.wanted o (yielded ops a.tmps) = true := by simp [Region.wanted, hgd]
  rw [if_pos hw]
  unfold Oper.wp execOp
  simp only [ho, resolve, invoke, builtin, Sem.run_bind, Sem.run_pure, Result.andThen_ok, List.map_toArray, List.map_cons, List.map_nil, hs, hx, hr]
  exact h
theorem VarAt.macCells {w : World} {b : Nat} {x : Nat → Nat} (h : VarAt w b #[.int .u8 (x 0), .int .u8 (x 1), .int .u8 (x 2), .int .u8 (x 3), .int .u8 (x 4), .int .u8 (x 5)] 23) : w.cell? ⟨b, 0, none⟩ = some (.int .u8 (x 0)) ∧ w.cell? ⟨b, 1, none⟩ = some (.int .u8 (x 1)) ∧ w.cell? ⟨b, 2, none⟩ = some (.int .u8 (x 2)) ∧ w.cell? ⟨b, 3, none⟩ = some (.int .u8 (x 3)) ∧ w.cell? ⟨b, 4, none⟩ = some (.int .u8 (x 4)) ∧ w.cell? ⟨b, 5, none⟩ = some (.int .u8 (x 5)) :=
  ⟨h.cell 0, h.cell 1, h.cell 2, h.cell 3, h.cell 4, h.cell 5⟩
set_option maxRecDepth 20000 in
set_option maxHeartbeats 4000000 in
theorem spanning_any (y : Nat → Nat) (v : Value) (l : List UInt8) (w : World) (hv : Bts w w.heap.size v l) (hl : l.length ≤ 10000) :
    Calls Try.prog 16 #[macV y, v] w fun e w' => ∃ v', e = .returned (frV grpN y 0 v') ∧ Bts w' w'.heap.size v' (spB l) ∧ Below w.heap.size w w' := by
  have m1 := (var_new w #[.int .u8 (y 0), .int .u8 (y 1), .int .u8 (y 2), .int .u8 (y 3), .int .u8 (y 4), .int .u8 (y 5)] 23).alloc (.cells frZ 27)
  have f1 := var_new (w.alloc (.cells #[.int .u8 (y 0), .int .u8 (y 1), .int .u8 (y 2), .int .u8 (y 3), .int .u8 (y 4), .int .u8 (y 5)] 23)) frZ 27
  rw [alloc_size] at f1
  have hwz := (box_below w (.cells #[.int .u8 (y 0), .int .u8 (y 1), .int .u8 (y 2), .int .u8 (y 3), .int .u8 (y 4), .int .u8 (y 5)] 23)).alloc (by rw [alloc_size]; omega) (.cells frZ 27)
  have hv1 := hv.below hwz (Nat.le_refl _)
  go_enter Try.func16, Try.ntmps16
  go_wp2_with fail
  change Code.wp _ _ _ _ ((w.alloc (.cells #[.int .u8 (y 0), .int .u8 (y 1), .int .u8 (y 2), .int .u8 (y 3), .int .u8 (y 4), .int .u8 (y 5)] 23)).alloc (.cells frZ 27))
  generalize (w.alloc (.cells #[.int .u8 (y 0), .int .u8 (y 1), .int .u8 (y 2), .int .u8 (y 3), .int .u8 (y 4), .int .u8 (y 5)] 23)).alloc (.cells frZ 27) = wz at *
  have HSZ := Lib.hid (show w.heap.size + 2 ≤ wz.heap.size from f1.lt)
  have HZ := Lib.hid (show w.heap.size + 1 ≤ wz.heap.size from Nat.le_of_lt f1.lt)
  have HZ2 := Lib.hid hwz.size
  have MC := Lib.hid (fun (w' : World) (h : Below (w.heap.size + 1) wz w') => (m1.below h (Nat.lt_succ_self _)).macCells)
  have HF := Lib.hid f1
  have HV := Lib.hid hv1
  have HWZ := Lib.hid hwz
  have HL := Lib.hid (show l.length ≤ 100000 by omega)
  clear m1 f1 hwz hv1 hv hl
  refine wp_region_held_drew (S := fun w' => Below (w.heap.size + 1) wz w') (by kernel_rfl) (Below.refl _ _).drew (fun hS => ?_)
  have hc0 : Below wz.heap.size wz wz.drew := (Below.refl _ _).drew
  refine wpAnyH_take (i := 1) (v := ?_) rfl (by kernel_rfl) (by kernel_rfl) (by kernel_rfl) (fun _ _ _ h => h) (Or.inl ⟨by rfl, ?_⟩) hS ?_
  rotate_left
  · (intro w90 hS9; obtain ⟨m0, m1, m2, m3, m4, m5⟩ := MC.out w90 hS9; go_simp; try with_reducible rfl)
  simp only [Act.put, List.getElem_toArray, List.getElem_cons_zero, List.getElem_cons_succ, List.setIfInBounds_toArray, List.set_cons_zero, List.set_cons_succ]
  refine wpAnyH_take (i := 4) (v := ?_) rfl (by kernel_rfl) (by kernel_rfl) (by kernel_rfl) (fun _ _ _ h => h) (Or.inl ⟨by rfl, ?_⟩) hS ?_
  rotate_left
  · (intro w90 hS9; go_simp; try with_reducible rfl)
  simp only [Act.put, List.getElem_toArray, List.getElem_cons_zero, List.getElem_cons_succ, List.setIfInBounds_toArray, List.set_cons_zero, List.set_cons_succ]
  refine wpAnyH_ready (rs := [0, 2]) (by kernel_rfl) (by simp) (AllReadyH.cons rfl (fun K hK => ?_) (AllReadyH.cons rfl (fun K hK => ?_) AllReadyH.nil))
  · go_simp
    refine (group_any _).mono ?_
    rintro e w10 ⟨rfl, hb10⟩
    have hc10 : Below wz.heap.size wz w10 := Below.trans hc0 (hb10.mono (Below.size hc0))
    refine hK.out _ _ (hc10.mono HZ.out) (fun hS => ?_)
    clear hK K
    refine wpAnyH_ready (rs := [2]) (by kernel_rfl) (by simp) (AllReadyH.cons rfl (fun K hK => ?_) AllReadyH.nil)
    go_simp
    have hc11 : Below wz.heap.size wz (w10.alloc markO) := Below.alloc hc10 (Below.size hc10) _
    have lt11 : LitAt (w10.alloc markO) w10.heap.size := var_new w10 _ 5
    have le11 : wz.heap.size ≤ w10.heap.size := Below.size hc10
    refine hK.out _ _ (hc11.mono HZ.out) (fun hS => ?_)
    clear hK K
    refine wpAnyH_ready (rs := [3]) (by kernel_rfl) (by simp) (AllReadyH.cons rfl (fun K hK => ?_) AllReadyH.nil)
    have q1 := lit_conv lt11
    go_simp
    have hc12 := freeze_below hc11 le11
    have fz12 := lit_frozen lt11
    refine hK.out _ _ (hc12.mono HZ.out) (fun hS => ?_)
    clear hK K q1
    obtain ⟨v', w', hr, hbt, hfar, hbl⟩ := mark_append fz12 25 (HV.out.below hc12 HZ2.out) HL.out
    obtain ⟨pv, capv, rfl, -⟩ := bts_len hbt
    have hcT : Below wz.heap.size wz w' := Below.trans hc12 (hbl.mono (Below.size hc12))
    have HFAR := Lib.hid (show Far (w.heap.size + 2) (.slice pv (spB l).length capv) from fun a n c h => Nat.le_trans HSZ.out (Nat.le_trans le11 (hfar a n c h)))
    refine wpAnyH_ready (rs := [5]) (by kernel_rfl) (by simp) (AllReadyH.cons rfl (fun K hK => ?_) AllReadyH.nil)
    refine step_append_run rfl _ _ rfl _ _ _ w' rfl rfl hr ?_
    refine hK.out _ _ (hcT.mono HZ.out) (fun hS => ?_)
    clear hK K
    refine wpAnyH_take (i := 6) (v := ?_) rfl (by kernel_rfl) (by kernel_rfl) (by kernel_rfl) (fun _ _ _ h => h) (Or.inl ⟨by rfl, ?_⟩) hS ?_
    rotate_left
    · (intro w90 hS9; go_simp; try with_reducible rfl)
    simp only [Act.put, List.getElem_toArray, List.getElem_cons_zero, List.getElem_cons_succ, List.setIfInBounds_toArray, List.set_cons_zero, List.set_cons_succ]
    have f9 := HF.out.below hcT HSZ.out
    obtain ⟨j0, j1, j2, j3, j4, j5, j6, j7, j8, j9, j10, j11, j12, j13⟩ := VarAt.frCells (x := fun _ => 0) (y := fun _ => 0) (t := 0) (v := .slice none 0 0) f9
    have f0 := f9.frozen
    have R1 := Lib.hid (fr14_fr grpN y 0 (.slice pv (spB l).length capv) (x0 := fun _ => 0) (y0 := fun _ => 0) (t0 := 0) (v0 := .slice none 0 0) f9)
    have B1 := fr14_bts (b := w.heap.size + 1) grpN y 0 (.slice pv (spB l).length capv) hbt HFAR.out (Nat.lt_succ_self _)
    rw [← fr14_size w' (w.heap.size + 1) grpN y 0 (.slice pv (spB l).length capv)] at B1
    have HB1 := Lib.hid B1
    have hcS := fr14_below grpN y 0 (.slice pv (spB l).length capv) (hcT.mono HZ.out) (Nat.le_refl (w.heap.size + 1))
    have HB3 := Lib.hid (HWZ.out.trans (hcS.mono (Nat.le_succ _)))
    clear f9 B1
    refine wpAnyH_ready (rs := [7]) (by kernel_rfl) (by simp) (AllReadyH.cons rfl (fun K hK => ?_) AllReadyH.nil)
    go_simp
    change K _ (fr14 w' (w.heap.size + 1) grpN y 0 (.slice pv (spB l).length capv))
    generalize fr14 w' (w.heap.size + 1) grpN y 0 (.slice pv (spB l).length capv) = W4 at *
    refine hK.out _ _ hcS (fun hS => ?_)
    clear hK K j0 j1 j2 j3 j4 j5 j6 j7 j8 j9 j10 j11 j12 j13 f0
    refine wpAnyH_done (by kernel_rfl) ?_ _
    obtain ⟨k0, k1, k2, k3, k4, k5, k6, k7, k8, k9, k10, k11, k12, k13⟩ := R1.out.frCells
    go_wp2_with fail
    exact bodyPost_ret (v := frV grpN y 0 (.slice pv (spB l).length capv)) (by simp [results, Try.results16, go_sem, k0, k1, k2, k3, k4, k5, k6, k7, k8, k9, k10, k11, k12, k13]) rfl ⟨_, rfl, HB1.out, HB3.out⟩
  · go_simp
    have hc11 : Below wz.heap.size wz (wz.alloc markO).drew := (box_below wz markO).drew
    have lt11 : LitAt (wz.alloc markO).drew wz.heap.size := (var_new wz _ 5).drew
    have le11 : wz.heap.size ≤ wz.heap.size := Nat.le_refl _
    refine hK.out _ _ (hc11.mono HZ.out) (fun hS => ?_)
    clear hK K
    refine wpAnyH_ready (rs := [0, 3]) (by kernel_rfl) (by simp) (AllReadyH.cons rfl (fun K hK => ?_) (AllReadyH.cons rfl (fun K hK => ?_) AllReadyH.nil))
    · go_simp
      refine (group_any _).mono ?_
      rintro e w12 ⟨rfl, hb12⟩
      have hc12 : Below wz.heap.size wz w12 := Below.trans hc11 (hb12.mono (Below.size hc11))
      refine hK.out _ _ (hc12.mono HZ.out) (fun hS => ?_)
      clear hK K
      have lt12 : LitAt w12 wz.heap.size := lt11.below hb12 lt11.lt
      refine wpAnyH_ready (rs := [3]) (by kernel_rfl) (by simp) (AllReadyH.cons rfl (fun K hK => ?_) AllReadyH.nil)
      have q1 := lit_conv lt12
      go_simp
      have hc13 := freeze_below hc12 le11
      have fz13 := lit_frozen lt12
      refine hK.out _ _ (hc13.mono HZ.out) (fun hS => ?_)
      clear hK K q1
      obtain ⟨v', w', hr, hbt, hfar, hbl⟩ := mark_append fz13 25 (HV.out.below hc13 HZ2.out) HL.out
      obtain ⟨pv, capv, rfl, -⟩ := bts_len hbt
      have hcT : Below wz.heap.size wz w' := Below.trans hc13 (hbl.mono (Below.size hc13))
      have HFAR := Lib.hid (show Far (w.heap.size + 2) (.slice pv (spB l).length capv) from fun a n c h => Nat.le_trans HSZ.out (Nat.le_trans le11 (hfar a n c h)))
      refine wpAnyH_ready (rs := [5]) (by kernel_rfl) (by simp) (AllReadyH.cons rfl (fun K hK => ?_) AllReadyH.nil)
      refine step_append_run rfl _ _ rfl _ _ _ w' rfl rfl hr ?_
      refine hK.out _ _ (hcT.mono HZ.out) (fun hS => ?_)
      clear hK K
      refine wpAnyH_take (i := 6) (v := ?_) rfl (by kernel_rfl) (by kernel_rfl) (by kernel_rfl) (fun _ _ _ h => h) (Or.inl ⟨by rfl, ?_⟩) hS ?_
      rotate_left
      · (intro w90 hS9; go_simp; try with_reducible rfl)
      simp only [Act.put, List.getElem_toArray, List.getElem_cons_zero, List.getElem_cons_succ, List.setIfInBounds_toArray, List.set_cons_zero, List.set_cons_succ]
      have f9 := HF.out.below hcT HSZ.out
      obtain ⟨j0, j1, j2, j3, j4, j5, j6, j7, j8, j9, j10, j11, j12, j13⟩ := VarAt.frCells (x := fun _ => 0) (y := fun _ => 0) (t := 0) (v := .slice none 0 0) f9
      have f0 := f9.frozen
      have R1 := Lib.hid (fr14_fr grpN y 0 (.slice pv (spB l).length capv) (x0 := fun _ => 0) (y0 := fun _ => 0) (t0 := 0) (v0 := .slice none 0 0) f9)
      have B1 := fr14_bts (b := w.heap.size + 1) grpN y 0 (.slice pv (spB l).length capv) hbt HFAR.out (Nat.lt_succ_self _)
      rw [← fr14_size w' (w.heap.size + 1) grpN y 0 (.slice pv (spB l).length capv)] at B1
      have HB1 := Lib.hid B1
      have hcS := fr14_below grpN y 0 (.slice pv (spB l).length capv) (hcT.mono HZ.out) (Nat.le_refl (w.heap.size + 1))
      have HB3 := Lib.hid (HWZ.out.trans (hcS.mono (Nat.le_succ _)))
      clear f9 B1
      refine wpAnyH_ready (rs := [7]) (by kernel_rfl) (by simp) (AllReadyH.cons rfl (fun K hK => ?_) AllReadyH.nil)
      go_simp
      change K _ (fr14 w' (w.heap.size + 1) grpN y 0 (.slice pv (spB l).length capv))
      generalize fr14 w' (w.heap.size + 1) grpN y 0 (.slice pv (spB l).length capv) = W4 at *
      refine hK.out _ _ hcS (fun hS => ?_)
      clear hK K j0 j1 j2 j3 j4 j5 j6 j7 j8 j9 j10 j11 j12 j13 f0
      refine wpAnyH_done (by kernel_rfl) ?_ _
      obtain ⟨k0, k1, k2, k3, k4, k5, k6, k7, k8, k9, k10, k11, k12, k13⟩ := R1.out.frCells
      go_wp2_with fail
      exact bodyPost_ret (v := frV grpN y 0 (.slice pv (spB l).length capv)) (by simp [results, Try.results16, go_sem, k0, k1, k2, k3, k4, k5, k6, k7, k8, k9, k10, k11, k12, k13]) rfl ⟨_, rfl, HB1.out, HB3.out⟩
    · have q1 := lit_conv lt11
      go_simp
      have hc12 := freeze_below hc11 le11
      have fz12 := lit_frozen lt11
      refine hK.out _ _ (hc12.mono HZ.out) (fun hS => ?_)
      clear hK K q1
      refine wpAnyH_ready (rs := [0]) (by kernel_rfl) (by simp) (AllReadyH.cons rfl (fun K hK => ?_) AllReadyH.nil)
      go_simp
      refine (group_any _).mono ?_
      rintro e w13 ⟨rfl, hb13⟩
      have hc13 : Below wz.heap.size wz w13 := Below.trans hc12 (hb13.mono (Below.size hc12))
      refine hK.out _ _ (hc13.mono HZ.out) (fun hS => ?_)
      clear hK K
      have fz13 : FzAt w13 wz.heap.size := fz12.below hb13 (by rw [freeze_size]; exact lt11.lt)
      obtain ⟨v', w', hr, hbt, hfar, hbl⟩ := mark_append fz13 25 (HV.out.below hc13 HZ2.out) HL.out
      obtain ⟨pv, capv, rfl, -⟩ := bts_len hbt
      have hcT : Below wz.heap.size wz w' := Below.trans hc13 (hbl.mono (Below.size hc13))
      have HFAR := Lib.hid (show Far (w.heap.size + 2) (.slice pv (spB l).length capv) from fun a n c h => Nat.le_trans HSZ.out (Nat.le_trans le11 (hfar a n c h)))
      refine wpAnyH_ready (rs := [5]) (by kernel_rfl) (by simp) (AllReadyH.cons rfl (fun K hK => ?_) AllReadyH.nil)
      refine step_append_run rfl _ _ rfl _ _ _ w' rfl rfl hr ?_
      refine hK.out _ _ (hcT.mono HZ.out) (fun hS => ?_)
      clear hK K
      refine wpAnyH_take (i := 6) (v := ?_) rfl (by kernel_rfl) (by kernel_rfl) (by kernel_rfl) (fun _ _ _ h => h) (Or.inl ⟨by rfl, ?_⟩) hS ?_
      rotate_left
      · (intro w90 hS9; go_simp; try with_reducible rfl)
      simp only [Act.put, List.getElem_toArray, List.getElem_cons_zero, List.getElem_cons_succ, List.setIfInBounds_toArray, List.set_cons_zero, List.set_cons_succ]
      have f9 := HF.out.below hcT HSZ.out
      obtain ⟨j0, j1, j2, j3, j4, j5, j6, j7, j8, j9, j10, j11, j12, j13⟩ := VarAt.frCells (x := fun _ => 0) (y := fun _ => 0) (t := 0) (v := .slice none 0 0) f9
      have f0 := f9.frozen
      have R1 := Lib.hid (fr14_fr grpN y 0 (.slice pv (spB l).length capv) (x0 := fun _ => 0) (y0 := fun _ => 0) (t0 := 0) (v0 := .slice none 0 0) f9)
      have B1 := fr14_bts (b := w.heap.size + 1) grpN y 0 (.slice pv (spB l).length capv) hbt HFAR.out (Nat.lt_succ_self _)
      rw [← fr14_size w' (w.heap.size + 1) grpN y 0 (.slice pv (spB l).length capv)] at B1
      have HB1 := Lib.hid B1
      have hcS := fr14_below grpN y 0 (.slice pv (spB l).length capv) (hcT.mono HZ.out) (Nat.le_refl (w.heap.size + 1))
      have HB3 := Lib.hid (HWZ.out.trans (hcS.mono (Nat.le_succ _)))
      clear f9 B1
      refine wpAnyH_ready (rs := [7]) (by kernel_rfl) (by simp) (AllReadyH.cons rfl (fun K hK => ?_) AllReadyH.nil)
      go_simp
      change K _ (fr14 w' (w.heap.size + 1) grpN y 0 (.slice pv (spB l).length capv))
      generalize fr14 w' (w.heap.size + 1) grpN y 0 (.slice pv (spB l).length capv) = W4 at *
      refine hK.out _ _ hcS (fun hS => ?_)
      clear hK K j0 j1 j2 j3 j4 j5 j6 j7 j8 j9 j10 j11 j12 j13 f0
      refine wpAnyH_done (by kernel_rfl) ?_ _
      obtain ⟨k0, k1, k2, k3, k4, k5, k6, k7, k8, k9, k10, k11, k12, k13⟩ := R1.out.frCells
      go_wp2_with fail
      exact bodyPost_ret (v := frV grpN y 0 (.slice pv (spB l).length capv)) (by simp [results, Try.results16, go_sem, k0, k1, k2, k3, k4, k5, k6, k7, k8, k9, k10, k11, k12, k13]) rfl ⟨_, rfl, HB1.out, HB3.out⟩
end Go.Proofs.Ytfdhkbkonennjaa
