/- The law CommandTexts: its whole call. -/
import Derived.Test.YtlmdpaemhjcmbaaDoorRg
namespace Go.Proofs.YtlmdpaemhjcmbaaDoor
open Go.RowKit Go.Sort Go.Lib

theorem ends_of (s : List UInt8) : ∃ (x : Cm) (e0 : Int) (ok : Bool), (∀ e, PEnd s e → e = .returned (.tuple #[.agg x.cells, .int .i64 e0])) ∧ (∀ e, RPEnd s e → e = .returned (.tuple #[.agg x.cells, .bool ok])) ∧ ((ok = true ∧ e0 = 0 ∧ Rt x ∧ tx x = s) ∨ (ok = false ∧ e0 = 3)) := by
  cases h : PS s with
  | some x =>
    have hx := PS_some h
    exact ⟨x, 0, true, fun e he => by unfold PEnd at he; rw [h] at he; exact he, fun e he => by unfold RPEnd at he; rw [h] at he; exact he, Or.inl ⟨rfl, rfl, hx.1, hx.2.1.symm⟩⟩
  | none => exact ⟨zc 0, 3, false, fun e he => by unfold PEnd at he; rw [h] at he; exact he, fun e he => by unfold RPEnd at he; rw [h] at he; exact he, Or.inr ⟨rfl, rfl⟩⟩
set_option maxRecDepth 20000 in
set_option maxHeartbeats 4000000 in
theorem ctexts_any (s : List UInt8) (c : Cm) (hc : c.Fit) (w : World) (he : Env w) :
    Calls Tryd.prog 3 #[strV s, .agg c.cells] w fun e w' => e = .returned (.bool true) ∧ Below w.heap.size w w' := by
  have VB0 := Lib.hid (var_new w c.cells 26)
  have HB0 := Lib.hid (box_below w (.cells c.cells 26))
  have E0 := Lib.hid (he.below HB0.out)
  have HC := Lib.hid hc
  clear hc he
  by_cases h200 : 200 < s.length
  · have h2 : (200 : Int) < (s.length : Int) := by omega
    go_enter Tryd.func3, Tryd.ntmps3
    go_wp2_with fail
    refine (lives_any _ E0.out).mono ?_
    rintro e w1 ⟨rfl, hb⟩
    have HB1 := Lib.hid (below_next HB0.out hb)
    have E1 := Lib.hid (E0.out.below hb)
    clear hb
    go_wp2_with fail
    refine (lives_any _ E1.out).mono ?_
    rintro e w2 ⟨rfl, hb⟩
    have HB2 := Lib.hid (below_next HB1.out hb)
    clear hb
    go_wp2_with fail
    go_ret
    exact ⟨rfl, HB2.out⟩
  have h2 : ¬ (200 : Int) < (s.length : Int) := by omega
  have hs : s.length ≤ 1000 := by omega
  obtain ⟨x, e0, ok, hpe, hrpe, hcase⟩ := ends_of s
  have HPE := Lib.hid hpe
  have HRPE := Lib.hid hrpe
  have HCA := Lib.hid hcase
  clear h200 hpe hrpe hcase
  go_enter Tryd.func3, Tryd.ntmps3
  go_wp2_with fail
  refine (lives_any _ E0.out).mono ?_
  rintro e w1 ⟨rfl, hb⟩
  have HB1 := Lib.hid (below_next HB0.out hb)
  have E1 := Lib.hid (E0.out.below hb)
  have VB1 := Lib.hid (VB0.out.below hb VB0.out.lt)
  clear hb VB0 HB0 E0
  go_wp2_with fail
  refine (parse_any s _ E1.out).mono ?_
  rintro e w2 ⟨hp, hb⟩
  obtain rfl := HPE.out _ hp
  have HB2 := Lib.hid (below_next HB1.out hb)
  have E2 := Lib.hid (E1.out.below hb)
  have VB2 := Lib.hid (VB1.out.below hb VB1.out.lt)
  clear hb hp VB1 HB1 E1 HPE
  go_wp2_with (with_reducible refine stopS 26 (.tmp 5) (.tmp 26) rfl ?_)
  refine Lib.hid ?_
  refine wp_store26 rfl _ _ rfl x rfl rfl (var_new w2 (zc 0).cells 26) ?_
  intro w3 hv3 hb3 _ _
  have hd3 := hb3 w2.heap.size w2 (Nat.le_refl _) (box_below w2 _)
  have VX3 := Lib.hid hv3
  have VB3 := Lib.hid (VB2.out.below hd3 VB2.out.lt)
  have E3 := Lib.hid (E2.out.below hd3)
  have HB3 := Lib.hid (below_next HB2.out hd3)
  clear hv3 hb3 hd3 VB2 E2 HB2
  go_wp2_with fail
  refine (rparse_any s hs _).mono ?_
  rintro e w4 ⟨hp, hb⟩
  obtain rfl := HRPE.out _ hp
  have HB4 := Lib.hid (below_next HB3.out hb)
  have E4 := Lib.hid (E3.out.below hb)
  have VB4 := Lib.hid (VB3.out.below hb VB3.out.lt)
  have VX4 := Lib.hid (VX3.out.below hb VX3.out.lt)
  clear hb hp VB3 HB3 E3 VX3 HRPE
  go_wp2_with (with_reducible refine stopS 32 (.tmp 7) (.tmp 31) rfl ?_)
  refine Lib.hid ?_
  refine wpl_store32 rfl _ _ rfl x rfl rfl (var_new w4 (zc 0).cells 32) ?_
  intro w5 hv5 hb5 _ _
  have hd5 := hb5 w4.heap.size w4 (Nat.le_refl _) (box_below w4 _)
  have VY5 := Lib.hid hv5
  have VX5 := Lib.hid (VX4.out.below hd5 VX4.out.lt)
  have VB5 := Lib.hid (VB4.out.below hd5 VB4.out.lt)
  have E5 := Lib.hid (E4.out.below hd5)
  have HB5 := Lib.hid (below_next HB4.out hd5)
  clear hv5 hb5 hd5 VB4 E4 HB4 VX4
  have hq : ∀ w, (binOp .neq 32 (.agg x.cells) (.agg x.cells)).run Tryd.prog w = .ok (.bool false) w := fun w => by
    have := cm_neq32 x x w
    rw [eqC_self] at this
    exact this
  have hg := cm_g32
  have lx := Lib.hid (fun d os => VX5.out.grown d os)
  have ly := Lib.hid (fun d os => VY5.out.grown d os)
  have cof := fun d os => Calls.regrown_of (of_any x (grow (redrawn w5 d) os))
  have hcc := HCA.out
  rcases hcc with ⟨rfl, rfl, hrx, htx⟩ | ⟨rfl, rfl⟩
  · have HRX0 := Lib.hid hrx
    have HTX := Lib.hid htx
    clear hrx htx
    go_wp2_with fail
    refine wp_region_quiet_below (by kernel_rfl) (by kernel_rfl) ?_
    refine quiet_load26 (by rfl) _ rfl rfl (fun w9 ⟨p9, e9⟩ => by rw [e9]; exact lx.out _ _) ?_
    simp only [Act.put, List.setIfInBounds_toArray, List.set_cons_zero, List.set_cons_succ]
    iterate 1 (go_big_quiet_step (with_reducible exact cof _ _))
    refine quiet_load32 (by rfl) _ rfl rfl (fun w9 ⟨p9, e9⟩ => by rw [e9]; exact ly.out _ _) ?_
    simp only [Act.put, List.setIfInBounds_toArray, List.set_cons_zero, List.set_cons_succ]
    iterate 15 (go_big_quiet_step (fail))
    refine wpQuiet_nil ?_
    intro _ hw'
    obtain ⟨⟨dq, osq⟩, hw''⟩ := hw'
    subst hw''
    have HB6 := Lib.hid (below_next HB5.out (below_regrown w5 dq osq))
    have E6 := Lib.hid (E5.out.below (below_regrown w5 dq osq))
    have VB6 := Lib.hid (VB5.out.grown dq osq)
    have VX6 := Lib.hid (VX5.out.grown dq osq)
    clear lx ly cof hq hg HB5 E5 VB5 VX5 VY5 HCA
    generalize grow (redrawn w5 dq) osq = w6 at *
    go_wp2_with (with_reducible refine stopL 26 (.tmp 5) rfl ?_)
    refine Lib.hid ?_
    refine wp_load26 rfl _ rfl rfl VX6.out ?_
    go_wp2_with fail
    refine (textCm_any x HRX0.out.fit _ E6.out).mono ?_
    rintro e w7 ⟨rfl, hb⟩
    rw [tEnd_ok HRX0.out, HTX.out]
    have HB := Lib.hid (below_next HB6.out hb)
    have E := Lib.hid (E6.out.below hb)
    have VB := Lib.hid (VB6.out.below hb VB6.out.lt)
    clear hb HB6 E6 VB6 VX6
    by_cases hr : Rt c
    · have HTE := Lib.hid (tEnd_ok hr)
      have HPS := Lib.hid (PS_tx hr)
      have HRX := Lib.hid hr
      clear hr
      go_wp2_with (with_reducible refine stopL 26 (.tmp 3) rfl ?_)
      refine Lib.hid ?_
      refine wp_load26 rfl _ rfl rfl VB.out ?_
      go_wp2_with fail
      refine (textCm_any c HC.out _ E.out).mono ?_
      rintro e wa ⟨rfl, hb⟩
      rw [HTE.out]
      have VBa := Lib.hid (VB.out.below hb VB.out.lt)
      have Ea := Lib.hid (E.out.below hb)
      have HBa := Lib.hid (below_next HB.out hb)
      clear hb
      go_wp2_with (with_reducible refine stopL 26 (.tmp 3) rfl ?_)
      refine Lib.hid ?_
      refine wp_load26 rfl _ rfl rfl VBa.out ?_
      go_wp2_with fail
      refine (of_any c _).mono ?_
      rintro e wb ⟨rfl, hb⟩
      have VBb := Lib.hid (VBa.out.below hb VBa.out.lt)
      have Eb := Lib.hid (Ea.out.below hb)
      have HBb := Lib.hid (below_next HBa.out hb)
      clear hb
      go_wp2_with fail
      refine (right_any c HC.out _).mono ?_
      rintro e wc ⟨⟨q, rfl, hq⟩, hb⟩
      obtain rfl := hq.2 HRX.out
      have VBc := Lib.hid (VBb.out.below hb VBb.out.lt)
      have Ec := Lib.hid (Eb.out.below hb)
      have HBc := Lib.hid (below_next HBb.out hb)
      clear hb hq
      go_wp2_with fail
      refine (parse_any (tx c) _ Ec.out).mono ?_
      rintro e wd1 ⟨hpe, hb⟩
      unfold PEnd at hpe
      rw [HPS.out] at hpe
      simp only at hpe
      subst hpe
      have VBd := Lib.hid (VBc.out.below hb VBc.out.lt)
      have HBd := Lib.hid (below_next HBc.out hb)
      clear hb
      go_wp2_with (with_reducible refine stopS 26 (.tmp 13) (.tmp 82) rfl ?_)
      refine Lib.hid ?_
      refine wp_store26 rfl _ _ rfl c rfl rfl (var_new wd1 (zc 0).cells 26) ?_
      intro we hve hbe hoe _
      have VE := Lib.hid hve
      have VBe := Lib.hid (VBd.out.below (hbe wd1.heap.size wd1 (Nat.le_refl _) (box_below wd1 _)) VBd.out.lt)
      have HBe := Lib.hid (hbe w.heap.size w HBd.out.size (below_next HBd.out (box_below wd1 _)))
      clear hve hbe hoe
      go_wp2_with (with_reducible refine stopL 26 (.tmp 3) rfl ?_)
      refine Lib.hid ?_
      refine wp_load26w (by kernel_rfl) _ rfl rfl VBe.out ?_
      go_wp2_with fail
      refine (of_any c _).mono ?_
      rintro e wf ⟨rfl, hb⟩
      have VEf := Lib.hid (VE.out.below hb VE.out.lt)
      have VBf := Lib.hid (VBe.out.below hb VBe.out.lt)
      have HBf := Lib.hid (below_next HBe.out hb)
      clear hb
      go_wp2_with fail
      refine (rtext_any c HRX.out _).mono ?_
      rintro e wg ⟨rfl, hb⟩
      have VEg := Lib.hid (VEf.out.below hb VEf.out.lt)
      have VBg := Lib.hid (VBf.out.below hb VBf.out.lt)
      have HBg := Lib.hid (below_next HBf.out hb)
      clear hb
      have hq : ∀ w, (binOp .eql 26 (.agg c.cells) (.agg c.cells)).run Tryd.prog w = .ok (.bool true) w := fun w => by
        have := cm_eql26 c c w
        rw [eqC_self] at this
        exact this
      have hg := cm_g26
      go_wp2_with (with_reducible refine stopL 26 (.tmp 13) rfl ?_)
      refine Lib.hid ?_
      refine wp_load26w (by kernel_rfl) _ rfl rfl VEg.out ?_
      go_wp2_with (with_reducible refine stopL 26 (.tmp 3) rfl ?_)
      refine Lib.hid ?_
      refine wp_load26w (by kernel_rfl) _ rfl rfl VBg.out ?_
      go_wp2_with fail
      go_ret
      exact ⟨rfl, HBg.out⟩
    · have HTE := Lib.hid (tEnd_bad hr)
      have HRX := Lib.hid hr
      clear hr
      go_wp2_with (with_reducible refine stopL 26 (.tmp 3) rfl ?_)
      refine Lib.hid ?_
      refine wp_load26 rfl _ rfl rfl VB.out ?_
      go_wp2_with fail
      refine (textCm_any c HC.out _ E.out).mono ?_
      rintro e wa ⟨rfl, hb⟩
      rw [HTE.out]
      have VBa := Lib.hid (VB.out.below hb VB.out.lt)
      have HBa := Lib.hid (below_next HB.out hb)
      clear hb
      go_wp2_with (with_reducible refine stopL 26 (.tmp 3) rfl ?_)
      refine Lib.hid ?_
      refine wp_load26 rfl _ rfl rfl VBa.out ?_
      go_wp2_with fail
      refine (of_any c _).mono ?_
      rintro e wb ⟨rfl, hb⟩
      have HBb := Lib.hid (below_next HBa.out hb)
      clear hb
      go_wp2_with fail
      refine (right_any c HC.out _).mono ?_
      rintro e wc ⟨⟨q, rfl, hq⟩, hb⟩
      obtain rfl : q = false := by
        cases q
        · rfl
        · exact absurd (hq.1 rfl) HRX.out
      have HBc := Lib.hid (below_next HBb.out hb)
      clear hb hq
      go_wp2_with fail
      go_ret
      exact ⟨rfl, HBc.out⟩
  · go_wp2_with fail
    refine wp_region_quiet_below (by kernel_rfl) (by kernel_rfl) ?_
    refine quiet_load26 (by rfl) _ rfl rfl (fun w9 ⟨p9, e9⟩ => by rw [e9]; exact lx.out _ _) ?_
    simp only [Act.put, List.setIfInBounds_toArray, List.set_cons_zero, List.set_cons_succ]
    iterate 1 (go_big_quiet_step (with_reducible exact cof _ _))
    refine quiet_load32 (by rfl) _ rfl rfl (fun w9 ⟨p9, e9⟩ => by rw [e9]; exact ly.out _ _) ?_
    simp only [Act.put, List.setIfInBounds_toArray, List.set_cons_zero, List.set_cons_succ]
    iterate 15 (go_big_quiet_step (fail))
    refine wpQuiet_nil ?_
    intro _ hw'
    obtain ⟨⟨dq, osq⟩, hw''⟩ := hw'
    subst hw''
    have HB := Lib.hid (below_next HB5.out (below_regrown w5 dq osq))
    have E := Lib.hid (E5.out.below (below_regrown w5 dq osq))
    have VB := Lib.hid (VB5.out.grown dq osq)
    clear lx ly cof hq hg HB5 E5 VB5 VX5 VY5 HCA
    generalize grow (redrawn w5 dq) osq = w6 at *
    by_cases hr : Rt c
    · have HTE := Lib.hid (tEnd_ok hr)
      have HPS := Lib.hid (PS_tx hr)
      have HRX := Lib.hid hr
      clear hr
      go_wp2_with (with_reducible refine stopL 26 (.tmp 3) rfl ?_)
      refine Lib.hid ?_
      refine wp_load26 rfl _ rfl rfl VB.out ?_
      go_wp2_with fail
      refine (textCm_any c HC.out _ E.out).mono ?_
      rintro e wa ⟨rfl, hb⟩
      rw [HTE.out]
      have VBa := Lib.hid (VB.out.below hb VB.out.lt)
      have Ea := Lib.hid (E.out.below hb)
      have HBa := Lib.hid (below_next HB.out hb)
      clear hb
      go_wp2_with (with_reducible refine stopL 26 (.tmp 3) rfl ?_)
      refine Lib.hid ?_
      refine wp_load26 rfl _ rfl rfl VBa.out ?_
      go_wp2_with fail
      refine (of_any c _).mono ?_
      rintro e wb ⟨rfl, hb⟩
      have VBb := Lib.hid (VBa.out.below hb VBa.out.lt)
      have Eb := Lib.hid (Ea.out.below hb)
      have HBb := Lib.hid (below_next HBa.out hb)
      clear hb
      go_wp2_with fail
      refine (right_any c HC.out _).mono ?_
      rintro e wc ⟨⟨q, rfl, hq⟩, hb⟩
      obtain rfl := hq.2 HRX.out
      have VBc := Lib.hid (VBb.out.below hb VBb.out.lt)
      have Ec := Lib.hid (Eb.out.below hb)
      have HBc := Lib.hid (below_next HBb.out hb)
      clear hb hq
      go_wp2_with fail
      refine (parse_any (tx c) _ Ec.out).mono ?_
      rintro e wd1 ⟨hpe, hb⟩
      unfold PEnd at hpe
      rw [HPS.out] at hpe
      simp only at hpe
      subst hpe
      have VBd := Lib.hid (VBc.out.below hb VBc.out.lt)
      have HBd := Lib.hid (below_next HBc.out hb)
      clear hb
      go_wp2_with (with_reducible refine stopS 26 (.tmp 13) (.tmp 82) rfl ?_)
      refine Lib.hid ?_
      refine wp_store26 rfl _ _ rfl c rfl rfl (var_new wd1 (zc 0).cells 26) ?_
      intro we hve hbe hoe _
      have VE := Lib.hid hve
      have VBe := Lib.hid (VBd.out.below (hbe wd1.heap.size wd1 (Nat.le_refl _) (box_below wd1 _)) VBd.out.lt)
      have HBe := Lib.hid (hbe w.heap.size w HBd.out.size (below_next HBd.out (box_below wd1 _)))
      clear hve hbe hoe
      go_wp2_with (with_reducible refine stopL 26 (.tmp 3) rfl ?_)
      refine Lib.hid ?_
      refine wp_load26w (by kernel_rfl) _ rfl rfl VBe.out ?_
      go_wp2_with fail
      refine (of_any c _).mono ?_
      rintro e wf ⟨rfl, hb⟩
      have VEf := Lib.hid (VE.out.below hb VE.out.lt)
      have VBf := Lib.hid (VBe.out.below hb VBe.out.lt)
      have HBf := Lib.hid (below_next HBe.out hb)
      clear hb
      go_wp2_with fail
      refine (rtext_any c HRX.out _).mono ?_
      rintro e wg ⟨rfl, hb⟩
      have VEg := Lib.hid (VEf.out.below hb VEf.out.lt)
      have VBg := Lib.hid (VBf.out.below hb VBf.out.lt)
      have HBg := Lib.hid (below_next HBf.out hb)
      clear hb
      have hq : ∀ w, (binOp .eql 26 (.agg c.cells) (.agg c.cells)).run Tryd.prog w = .ok (.bool true) w := fun w => by
        have := cm_eql26 c c w
        rw [eqC_self] at this
        exact this
      have hg := cm_g26
      go_wp2_with (with_reducible refine stopL 26 (.tmp 13) rfl ?_)
      refine Lib.hid ?_
      refine wp_load26w (by kernel_rfl) _ rfl rfl VEg.out ?_
      go_wp2_with (with_reducible refine stopL 26 (.tmp 3) rfl ?_)
      refine Lib.hid ?_
      refine wp_load26w (by kernel_rfl) _ rfl rfl VBg.out ?_
      go_wp2_with fail
      go_ret
      exact ⟨rfl, HBg.out⟩
    · have HTE := Lib.hid (tEnd_bad hr)
      have HRX := Lib.hid hr
      clear hr
      go_wp2_with (with_reducible refine stopL 26 (.tmp 3) rfl ?_)
      refine Lib.hid ?_
      refine wp_load26 rfl _ rfl rfl VB.out ?_
      go_wp2_with fail
      refine (textCm_any c HC.out _ E.out).mono ?_
      rintro e wa ⟨rfl, hb⟩
      rw [HTE.out]
      have VBa := Lib.hid (VB.out.below hb VB.out.lt)
      have HBa := Lib.hid (below_next HB.out hb)
      clear hb
      go_wp2_with (with_reducible refine stopL 26 (.tmp 3) rfl ?_)
      refine Lib.hid ?_
      refine wp_load26 rfl _ rfl rfl VBa.out ?_
      go_wp2_with fail
      refine (of_any c _).mono ?_
      rintro e wb ⟨rfl, hb⟩
      have HBb := Lib.hid (below_next HBa.out hb)
      clear hb
      go_wp2_with fail
      refine (right_any c HC.out _).mono ?_
      rintro e wc ⟨⟨q, rfl, hq⟩, hb⟩
      obtain rfl : q = false := by
        cases q
        · rfl
        · exact absurd (hq.1 rfl) HRX.out
      have HBc := Lib.hid (below_next HBb.out hb)
      clear hb hq
      go_wp2_with fail
      go_ret
      exact ⟨rfl, HBc.out⟩
end Go.Proofs.YtlmdpaemhjcmbaaDoor
