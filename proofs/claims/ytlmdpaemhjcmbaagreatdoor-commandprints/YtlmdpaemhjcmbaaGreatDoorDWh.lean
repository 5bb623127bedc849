/- Contract of Text: a command's text, if it is one. -/
import Derived.Test.YtlmdpaemhjcmbaaGreatDoorDWg
namespace Go.Proofs.YtlmdpaemhjcmbaaGreatDoor.Cd
open Go.RowKit Go.Sort Go.Lib

theorem Rt.fit {c : Cm} (h : Rt c) : c.Fit := by
  obtain ⟨w0, w1, x0, x1, _, _, _, _, p0, p1, n0, n1, _⟩ := h
  exact ⟨by omega, by omega, by omega, by omega, by omega, by omega, x0, x1⟩
open Classical in
/-- What Text answers. -/
noncomputable def TEnd (c : Cm) : Ending := if Rt c then .returned (.tuple #[strV (tx c), .int .i64 0]) else .returned (.tuple #[strV [], .int .i64 1])
theorem tEnd_ok {c : Cm} (h : Rt c) : TEnd c = .returned (.tuple #[strV (tx c), .int .i64 0]) := by unfold TEnd; rw [if_pos h]
theorem tEnd_bad {c : Cm} (h : ¬ Rt c) : TEnd c = .returned (.tuple #[strV [], .int .i64 1]) := by unfold TEnd; rw [if_neg h]
/-- The words so far. -/
def sofar (c : Cm) (ps : List (List UInt8)) (j : Nat) : List (List UInt8) := (ps.take j).map (wd c) ++ ps.drop j
theorem sofar_zero (c : Cm) (ps : List (List UInt8)) : sofar c ps 0 = ps := by simp [sofar]
theorem sofar_all (c : Cm) (ps : List (List UInt8)) {j : Nat} (h : ps.length ≤ j) : sofar c ps j = ps.map (wd c) := by simp [sofar, List.take_of_length_le h, List.drop_eq_nil_of_le h]
theorem sofar_len (c : Cm) (ps : List (List UInt8)) (j : Nat) : (sofar c ps j).length = ps.length := by simp [sofar]; omega
theorem sofar_at {c : Cm} {ps : List (List UInt8)} {j : Nat} {p : List UInt8} (h : ps[j]? = some p) : (sofar c ps j)[j]? = some p := by
  obtain ⟨hl, _⟩ := List.getElem?_eq_some_iff.1 h
  unfold sofar
  rw [List.getElem?_append_right (by simp; omega)]
  simp [List.getElem?_drop, Nat.min_eq_left (Nat.le_of_lt hl), h]
theorem sofar_next {c : Cm} {ps : List (List UInt8)} {j : Nat} {p : List UInt8} (h : ps[j]? = some p) : (sofar c ps j).set j (wd c p) = sofar c ps (j + 1) := by
  obtain ⟨hl, he⟩ := List.getElem?_eq_some_iff.1 h
  unfold sofar
  rw [List.drop_eq_getElem_cons hl, he, List.set_append_right _ _ (by simp; omega)]
  have : j - (List.map (wd c) (List.take j ps)).length = 0 := by simp; omega
  rw [this, List.set_cons_zero, List.take_add_one, h]
  simp
def stC (l : List (List UInt8)) : Array Value := (l.map strV).toArray
theorem stC_set (l : List (List UInt8)) (j : Nat) (x : List UInt8) : (stC l).setIfInBounds j (strV x) = stC (l.set j x) := by
  unfold stC; rw [List.setIfInBounds_toArray, List.map_set]
theorem stC_at {l : List (List UInt8)} {j : Nat} {x : List UInt8} (h : l[j]? = some x) : (stC l)[j]? = some (strV x) := by simp [stC, h]
theorem join_any (b cap : Nat) (ws : List (List UInt8)) (w : World) (hv : CA w b (stC ws) 9) (hcap : ws.length ≤ cap) (hN : ws.length ≤ 1000) (hlen : (join ws [32]).length ≤ 1000) :
    Calls Tryz.prog 28 #[.slice (some ⟨b, 0, none⟩) ws.length cap, strV [32]] w fun e w' => e = .returned (strV (join ws [32])) ∧ Below w.heap.size w w' := by
  have hm : ((ws.map fun l => (⟨⟨l⟩⟩ : ByteArray)).map (·.data.toList)) = ws := by
    rw [List.map_map]; conv => rhs; rw [← List.map_id ws]
    exact List.map_congr_left fun a _ => rfl
  have c := Tryz.strings_Join b 0 cap (ws.map fun l => ⟨⟨l⟩⟩) ⟨#[32]⟩ w (fun j x hj => ?_) hv.lt (by rw [List.length_map]; omega) (by rw [List.length_map]; exact hcap) (by rw [hm]; exact Nat.le_trans hlen (by omega))
  · rw [hm, List.length_map] at c
    exact c
  · rw [List.getElem?_map] at hj
    obtain ⟨y, hy, rfl⟩ := Option.map_eq_some_iff.1 hj
    rw [Nat.zero_add, hv.cell]
    exact stC_at hy
theorem wd_len {c : Cm} (hc : c.Fit) {k : Nat} (hk : k < 15) : ∀ x ∈ (pz k).map (wd c), x.length ≤ 30 := by
  obtain ⟨u1, u2, u3, u4, u5⟩ := ups
  intro x hx
  unfold pz at hx
  rw [List.map_append, map_hd ⟨_, hk⟩ c] at hx
  rcases List.mem_append.1 hx with hx | hx
  · exact Nat.le_trans (hd_long ⟨_, hk⟩ x hx).2 (by omega)
  · simp only [List.map_map, List.mem_map, Function.comp_apply] at hx
    obtain ⟨b, hb, rfl⟩ := hx
    rcases fm_mem ⟨_, hk⟩ b hb with rfl | rfl | rfl | rfl | rfl
    · rw [u1, wdN]; exact Nat.le_trans (itoa_length_le _ hc.n0 hc.n1) (by omega)
    · rw [u2, wdO]; exact Nat.le_trans (on_no _).2 (by omega)
    · rw [u3, wdP]; exact Nat.le_trans (itoa_length_le _ hc.p0 hc.p1) (by omega)
    · rw [u4, wdL]; exact Nat.le_trans (link_no _).2 (by omega)
    · rw [u5, wdM]; exact Nat.le_trans (txt_le _ _ (by omega)) (by omega)
theorem PS_fit {s : List UInt8} {c : Cm} (h : PS s = some c) : c.Fit := (PS_some h).1.fit
/-- A whole command is loaded, where the guard lets it. -/
theorem wp_load26w {ops : Array Oper} {rest : List Oper} {op : Oper} {a : Act} {w : World} {Q : Exit → Act → World → Prop} (hw : Region.wanted op (yielded ops a.tmps) = true) (x : Operand) (ho : op.op = .load 33 x) {b : Nat} {c : Cm} (hx : a.eval x = .pointer (some ⟨b, 0, none⟩)) (hv : CA w b c.cells 33)
    (h : wpList Tryz.prog ops Q rest (a.put op.dst (.agg c.cells)) w) : wpList Tryz.prog ops Q (op :: rest) a w :=
  BigFrame.wpList_want hw fun _ hK => wp_load_mid 33 x ho b 0 hx c.cells.toList _ (range_whole hv) u26 rfl (by rw [s26]; rfl) (hK _ _ (by simpa using h))
set_option maxHeartbeats 1000000 in
theorem textCm_any (c : Cm) (hc : c.Fit) (w : World) (he : Env w) :
    Calls Tryz.prog 14 #[.agg c.cells] w fun e w' => e = TEnd c ∧ Below w.heap.size w w' := by
  have v := Lib.hid (var_new w c.cells 33)
  have b0 := Lib.hid (box_below w (.cells c.cells 33))
  have E := Lib.hid (he.below b0.out)
  have k0 : (w.alloc (.cells c.cells 33)).cell? ⟨w.heap.size, 0, none⟩ = some (.int .i64 c.wh) := v.out.cell 0
  by_cases h0 : c.wh < 0
  · have HT := Lib.hid (tEnd_bad (c := c) fun h => by have := h.w0; omega)
    generalize TEnd c = TE at *
    go_enter Tryz.func14, Tryz.ntmps14
    go_wp2_with fail
    go_ret2
    exact ⟨by rw [HT.out]; rfl, b0.out⟩
  by_cases h1 : 15 ≤ c.wh
  · have HT := Lib.hid (tEnd_bad (c := c) fun h => by have := h.w1; omega)
    generalize TEnd c = TE at *
    go_enter Tryz.func14, Tryz.ntmps14
    go_wp2_with fail
    go_ret2
    exact ⟨by rw [HT.out]; rfl, b0.out⟩
  obtain ⟨k, hk⟩ : ∃ k : Nat, c.wh = k := ⟨c.wh.toNat, by omega⟩
  have hk15 : k < 15 := by omega
  have HTX : Hid (tx c = join ((pz k).map (wd c)) [32]) := Lib.hid (by unfold tx wds; rw [hk]; simp)
  rw [hk] at k0
  have f1 : (w.alloc (.cells c.cells 33)).cell? ⟨0, k, none⟩ = some (strV (formT k)) := E.out.forms k hk15
  have hps : sp (formT k) = pz k := form_parts ⟨k, hk15⟩
  have c0 := Lib.hid (split_any (formT k) (by have := form_len k hk15; omega) _ E.out)
  rw [hps] at c0
  have hix := idx43 k hk15
  have HC := Lib.hid hc
  have HKW := Lib.hid hk
  have HPN := Lib.hid (pz_len k hk15)
  have HJL := Lib.hid (Nat.le_trans (join_len _ (wd_len hc hk15)) (show (30 + 1) * ((pz k).map (wd c)).length ≤ 1000 by have := pz_len k hk15; rw [List.length_map]; omega))
  have HK15 := Lib.hid hk15
  have hneg : decide ((k : Int) < 0) = false := by simp
  clear hps hc h0 h1 hk he
  generalize formT k = FT at *
  generalize pz k = ps at *
  go_enter Tryz.func14, Tryz.ntmps14
  go_wp2_with fail
  refine c0.out.mono ?_
  rintro e w1 ⟨rfl, _, hv1, hb⟩
  rw [alloc_size] at hv1
  have HV1 := Lib.hid hv1
  have V1 := Lib.hid (v.out.below hb v.out.lt)
  have HB1 := Lib.hid (below_next b0.out hb)
  have E1 := Lib.hid (E.out.below hb)
  have L7 := Lib.hid E.out.lt
  clear hb c0 hix f1 hv1 k0 v
  go_wp2_with fail
  go_loopw [25] (fun i wr => ∃ j : Nat, j ≤ ps.length ∧ i = .int .i64 j ∧ CA wr (w.heap.size + 1) (stC (sofar c ps j)) 9 ∧ Below (w.heap.size + 1) w1 wr) (fun i _ => ps.length - (RowKit.intOf i).toNat)
  case atStart => exact ⟨0, Nat.zero_le _, rfl, by rw [sofar_zero]; exact HV1.out, Below.refl _ _⟩
  case round =>
    obtain ⟨j, hj, rfl, hcv, hbr⟩ := hrel
    have HCV := Lib.hid hcv
    have HBr := Lib.hid hbr
    have hn4 := HPN.out
    clear hcv hbr
    by_cases hlt : j < ps.length
    · obtain ⟨p, hp⟩ : ∃ p, ps[j]? = some p := ⟨_, List.getElem?_eq_getElem hlt⟩
      have k1 : wr.cell? ⟨w.heap.size + 1, j, none⟩ = some (strV p) := (HCV.out.cell j).trans (stC_at (sofar_at hp))
      have i1 := idx41 (w.heap.size + 1) ps.length ps.length j hlt
      have HP := Lib.hid hp
      have V2 := Lib.hid (V1.out.below HBr.out (Nat.lt_succ_self _))
      have E2 := Lib.hid (E1.out.under HBr.out (by have := L7.out; rw [alloc_size] at this; omega))
      have cw := Lib.hid (word_any c HC.out p wr E2.out)
      clear hp
      go_wp2_with (with_reducible refine stopL 33 (.tmp 1) rfl ?_)
      refine Lib.hid ?_
      refine wp_load26 rfl _ rfl rfl V2.out ?_
      go_wp2_with fail
      refine cw.out.mono ?_
      rintro e w3 ⟨rfl, hb3⟩
      have hcv3 : CA w3 (w.heap.size + 1) (stC (sofar c ps j)) 9 := HCV.out.below hb3 HCV.out.lt
      have k3 : w3.cell? ⟨w.heap.size + 1, j, none⟩ = some (strV p) := (hcv3.cell j).trans (stC_at (sofar_at HP.out))
      have k4 := hcv3.frozen
      have HCV3 := Lib.hid hcv3
      have HB3 := Lib.hid (HBr.out.trans (hb3.mono (Nat.le_of_lt HCV.out.lt)))
      clear hb3 hcv3 cw k1
      go_wp2_with fail
      refine ⟨⟨j + 1, by omega, by go_num, ?_, HB3.out.setCell (Nat.le_refl _) _⟩, meas_next hlt⟩
      have := HCV3.out.set j (strV (wd c p))
      rw [stC_set, sofar_next HP.out] at this
      exact this
    · have hjn : ps.length ≤ j := by omega
      have V2 := Lib.hid (V1.out.below HBr.out (Nat.lt_succ_self _))
      have E2 := Lib.hid (E1.out.under HBr.out (by have := L7.out; rw [alloc_size] at this; omega))
      have HBw := Lib.hid (HB1.out.trans (HBr.out.mono (Nat.le_succ _)))
      have HJ : Hid (CA wr (w.heap.size + 1) (stC (ps.map (wd c))) 9) := Lib.hid (by rw [← sofar_all c ps hjn]; exact HCV.out)
      go_wp2_with fail
      have cj := join_any (w.heap.size + 1) ps.length (ps.map (wd c)) wr HJ.out (by rw [List.length_map]; exact Nat.le_refl _) (by rw [List.length_map]; omega) HJL.out
      rw [List.length_map, ← HTX.out] at cj
      refine cj.mono ?_
      rintro e w4 ⟨rfl, hb4⟩
      have E4 := Lib.hid (E2.out.below hb4)
      have V4 := Lib.hid (V2.out.below hb4 V2.out.lt)
      have HB4 := Lib.hid (below_next HBw.out hb4)
      clear hb4 cj HJ HCV
      have cp := Lib.hid (parse_any (tx c) w4 E4.out)
      cases hp : PS (tx c) with
      | none =>
        have HT := Lib.hid (tEnd_bad (c := c) fun h => by rw [PS_tx h] at hp; cases hp)
        have HP := Lib.hid hp
        clear hp
        go_wp2_with fail
        refine cp.out.mono ?_
        rintro e w5 ⟨he5, hb5⟩
        unfold PEnd at he5
        rw [HP.out] at he5
        simp only at he5
        subst he5
        have V5 := Lib.hid (V4.out.below hb5 V4.out.lt)
        have HB5 := Lib.hid (below_next HB4.out hb5)
        clear hb5 cp
        go_wp2_with (with_reducible refine stopS 33 (.tmp 8) (.tmp 42) rfl ?_)
        refine Lib.hid ?_
        refine wp_store26 rfl _ _ rfl (zc 0) rfl rfl (var_new w5 (zc 0).cells 33) ?_
        intro w6 hv6 hb6 _ _
        have HB6 := Lib.hid (hb6 w.heap.size w HB5.out.size (below_next HB5.out (box_below w5 _)))
        clear hv6 hb6
        go_wp2_with fail
        go_ret2
        exact ⟨by rw [HT.out]; rfl, HB6.out⟩
      | some d =>
        have HP := Lib.hid hp
        have HPd := Lib.hid (PS_some hp)
        clear hp
        generalize hq : eqC d c = q
        have hne := fun w => cm_neq26 d c w
        rw [hq] at hne
        have HQ := Lib.hid hq
        clear hq
        have HT : Hid (TEnd c = if q then .returned (.tuple #[strV (tx c), .int .i64 0]) else .returned (.tuple #[strV [], .int .i64 1])) := Lib.hid (by
          cases q
          · refine tEnd_bad fun h => ?_
            have e := HP.out
            rw [PS_tx h] at e
            have e2 := HQ.out
            rw [← Option.some.inj e, eqC_self] at e2
            cases e2
          · have e := eqC_eq HPd.out.1.x1 HC.out.x1 HQ.out
            refine tEnd_ok ?_
            rw [← e]; exact HPd.out.1)
        have hg26 := cm_g26
        go_wp2_with fail
        refine cp.out.mono ?_
        rintro e w5 ⟨he5, hb5⟩
        unfold PEnd at he5
        rw [HP.out] at he5
        simp only at he5
        subst he5
        have V5 := Lib.hid (V4.out.below hb5 V4.out.lt)
        have HB5 := Lib.hid (below_next HB4.out hb5)
        clear hb5 cp
        go_wp2_with (with_reducible refine stopS 33 (.tmp 8) (.tmp 42) rfl ?_)
        refine Lib.hid ?_
        refine wp_store26 rfl _ _ rfl d rfl rfl (var_new w5 (zc 0).cells 33) ?_
        intro w6 hv6 hb6 _ _
        have HB6 := Lib.hid (hb6 w.heap.size w HB5.out.size (below_next HB5.out (box_below w5 _)))
        have V6 := Lib.hid hv6
        have V7 := Lib.hid (V5.out.below (hb6 w5.heap.size w5 (Nat.le_refl _) (box_below w5 _)) V5.out.lt)
        clear hv6 hb6
        cases q
        · go_wp2_with (with_reducible refine stopL 33 (.tmp 8) rfl ?_)
          refine Lib.hid ?_
          refine wp_load26w (by kernel_rfl) _ rfl rfl V6.out ?_
          go_wp2_with (with_reducible refine stopL 33 (.tmp 1) rfl ?_)
          refine Lib.hid ?_
          refine wp_load26w (by kernel_rfl) _ rfl rfl V7.out ?_
          go_wp2_with fail
          go_ret2
          exact ⟨by rw [HT.out]; rfl, HB6.out⟩
        · go_wp2_with (with_reducible refine stopL 33 (.tmp 8) rfl ?_)
          refine Lib.hid ?_
          refine wp_load26w (by kernel_rfl) _ rfl rfl V6.out ?_
          go_wp2_with (with_reducible refine stopL 33 (.tmp 1) rfl ?_)
          refine Lib.hid ?_
          refine wp_load26w (by kernel_rfl) _ rfl rfl V7.out ?_
          go_wp2_with fail
          go_ret2
          exact ⟨by rw [HT.out]; rfl, HB6.out⟩
end Go.Proofs.YtlmdpaemhjcmbaaGreatDoor.Cd
