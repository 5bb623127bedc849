/- The reference's Parse. -/
import Derived.Test.YtlmdpaemhjcmbaaDoorRc
namespace Go.Proofs.YtlmdpaemhjcmbaaDoor
open Go.RowKit Go.Sort Go.Lib

theorem wp_load32 {op : Oper} {a : Act} {w : World} {K : Act → World → Prop} {Q : Exit → Act → World → Prop} (x : Operand) (ho : op.op = .load 32 x) {b : Nat} {c : Cm} (hx : a.eval x = .pointer (some ⟨b, 0, none⟩)) (hv : CA w b c.cells 32) (h : K (a.put op.dst (.agg c.cells)) w) : op.wp Tryd.prog a w K Q :=
  wp_load_mid 32 x ho b 0 hx c.cells.toList _ (range_whole hv) u32 rfl (by rw [s32]; rfl) (by simpa using h)
/-- What the reference's Parse answers. -/
def RPEnd (s : List UInt8) (e : Ending) : Prop :=
  match PS s with
  | some c => e = .returned (.tuple #[.agg c.cells, .bool true])
  | none => e = .returned (.tuple #[.agg (zc 0).cells, .bool false])
theorem rpEnd_some {s : List UInt8} {c : Cm} (h : PS s = some c) : RPEnd s (.returned (.tuple #[.agg c.cells, .bool true])) := by unfold RPEnd; rw [h]
theorem rpEnd_none {s : List UInt8} (h : PS s = none) : RPEnd s (.returned (.tuple #[.agg (zc 0).cells, .bool false])) := by unfold RPEnd; rw [h]
theorem pAs_cut {k : Nat} (hk : k < 15) {ws r : List (List UInt8)} (h : ws = hd k ++ r) : pAs k ws = go (zc k) ((fm k).map up) r := by
  unfold pAs pz
  apply Option.ext
  intro c
  subst h
  refine (go_lits _ _ fun p hp => (hd_long ⟨k, hk⟩ p hp).1).trans ⟨?_, fun h => ⟨r, rfl, h⟩⟩
  rintro ⟨q, hq, hc⟩
  rw [List.append_cancel_left hq]; exact hc
/-- The first words of a kind, and as many as it has. -/
def Hm (k : Nat) (ws : List (List UInt8)) : Prop := ws.length = (hd k).length + (fm k).length ∧ ∀ j, j < (hd k).length → ws[j]? = (hd k)[j]?
theorem Hm.cut {k : Nat} {ws : List (List UInt8)} (h : Hm k ws) : ws = hd k ++ ws.drop (hd k).length := by
  conv => lhs; rw [← List.take_append_drop (hd k).length ws]
  congr 1
  apply List.ext_getElem?
  intro j
  rw [List.getElem?_take]
  by_cases hj : j < (hd k).length
  · rw [if_pos hj, h.2 j hj]
  · rw [if_neg hj, List.getElem?_eq_none (by omega)]
theorem hm_not {k : Nat} (hk : k < 15) {ws : List (List UInt8)} (h : ¬ Hm k ws) : pAs k ws = none := by
  cases hp : pAs k ws with
  | none => rfl
  | some c =>
    exfalso
    apply h
    obtain ⟨r, hr⟩ := pAs_head hk hp
    have hl := go_len _ _ _ _ hp
    unfold pz at hl
    rw [List.length_append, List.length_map] at hl
    exact ⟨hl.symm, fun j hj => by rw [hr, List.getElem?_append_left hj]⟩
theorem fm_at {k j : Nat} {b : UInt8} (h : (fm k)[j]? = some b) : ((fm k).map up)[j]? = some (up b) := by rw [List.getElem?_map, h]; rfl
theorem hd_short (k : Nat) (hk : k < 15) : (hdT k).length ≤ 1000 ∧ (fm k).length ≤ 2 ∧ (hd k).length ≤ 2 := by
  have : ∀ k : Fin 15, (hdT k.val).length ≤ 1000 ∧ (fm k.val).length ≤ 2 ∧ (hd k.val).length ≤ 2 := by decide +kernel
  exact this ⟨k, hk⟩
set_option maxRecDepth 20000 in
set_option maxHeartbeats 4000000 in
theorem rparse_any (s : List UInt8) (hs : s.length ≤ 1000) (w : World) :
    Calls Tryd.prog 6 #[strV s] w fun e w' => RPEnd s e ∧ Below w.heap.size w w' := by
  have v := Lib.hid (var_new w (zc 0).cells 32)
  have b0 := Lib.hid (box_below w (.cells (zc 0).cells 32))
  have c0 := Lib.hid (rsplit_any s hs (w.alloc (.cells (zc 0).cells 32)))
  by_cases h80 : 80 < s.length
  · have HN := Lib.hid (rpEnd_none (s := s) (by unfold PS; rw [if_pos h80]))
    have h80' : ¬ (s.length : Int) ≤ 80 := by omega
    go_enter Tryd.func6, Tryd.ntmps6
    go_wp2_with fail
    refine c0.out.mono ?_
    rintro e w1 ⟨⟨g, cap, rfl, _, _⟩, hb⟩
    have V5 := Lib.hid (v.out.below hb v.out.lt)
    have HB5 := Lib.hid (below_next b0.out hb)
    clear hb c0 v b0
    go_wp2_with fail
    refine wp_loop_rounds 1 ?_
    rw [rounds_succ]
    go_wp2_with (with_reducible refine stopS 32 (.tmp 2) (.tmp 87) rfl ?_)
    refine Lib.hid ?_
    refine wpl_store32 rfl _ _ rfl (zc 0) rfl rfl V5.out ?_
    intro w5 hv5 hb5 _ _
    have HB6 := Lib.hid (hb5 w.heap.size w (Nat.le_refl _) HB5.out)
    have r0 : w5.cell? ⟨w.heap.size, 0, none⟩ = some (.int .i64 0) := hv5.cell 0
    have r1 : w5.cell? ⟨w.heap.size, 1, none⟩ = some (.int .i64 0) := hv5.cell 1
    have r2 : w5.cell? ⟨w.heap.size, 2, none⟩ = some (.int .i64 0) := hv5.cell 2
    have r3 : w5.cell? ⟨w.heap.size, 3, none⟩ = some (.bool false) := hv5.cell 3
    have r4 : w5.cell? ⟨w.heap.size, 4, none⟩ = some (.int .u8 0) := hv5.cell 4
    have r5 : w5.cell? ⟨w.heap.size, 5, none⟩ = some (.int .u8 0) := hv5.cell 5
    have r6 : w5.cell? ⟨w.heap.size, 6, none⟩ = some (.int .u8 0) := hv5.cell 6
    have r7 : w5.cell? ⟨w.heap.size, 7, none⟩ = some (.int .u8 0) := hv5.cell 7
    have r8 : w5.cell? ⟨w.heap.size, 8, none⟩ = some (.int .u8 0) := hv5.cell 8
    have r9 : w5.cell? ⟨w.heap.size, 9, none⟩ = some (.int .u8 0) := hv5.cell 9
    clear hv5 hb5
    go_wp2_with fail
    exact bodyPost_ret (v := .tuple #[.agg (zc 0).cells, .bool false]) (by simp [results, Tryd.results6, go_sem, r0, r1, r2, r3, r4, r5, r6, r7, r8, r9, zc, Cm.cells]) rfl ⟨HN.out, HB6.out⟩
  · have HP : Hid (PS s = PSw (sp s)) := Lib.hid (by unfold PS; rw [if_neg h80])
    have L1 := Lib.hid (sp_len s)
    have h80' : (s.length : Int) ≤ 80 := by omega
    have HS := Lib.hid (fun (c : Cm) (h : PSw (sp s) = some c) => rpEnd_some (HP.out.trans h))
    have HN := Lib.hid (fun (h : PSw (sp s) = none) => rpEnd_none (HP.out.trans h))
    generalize RPEnd s = PE at *
    clear HP
    go_enter Tryd.func6, Tryd.ntmps6
    go_wp2_with fail
    refine c0.out.mono ?_
    rintro e w1 ⟨⟨g, cap, rfl, hg, hw1⟩, hb⟩
    have hn : (sp s).length ≤ 1001 := Nat.le_trans L1.out.1 (by omega)
    rw [alloc_size] at hg
    have V1 := Lib.hid (v.out.below hb v.out.lt)
    have HB1 := Lib.hid (below_next b0.out hb)
    have HW1 := Lib.hid hw1
    clear hb c0 hw1 L1 v b0 hs h80
    generalize sp s = ws at *
    go_wp2_with fail
    go_loopw [5] (fun i wr => ∃ k : Nat, k ≤ 15 ∧ i = .int .i64 k ∧ (∀ j, j < k → pAs j ws = none) ∧ Below w1.heap.size w1 wr) (fun i _ => 15 - (RowKit.intOf i).toNat)
    case atStart => exact ⟨0, Nat.zero_le _, rfl, fun j hj => absurd hj (by omega), Below.refl _ _⟩
    case round =>
      obtain ⟨k, hk, rfl, hpre, hbr⟩ := hrel
      have HPre := Lib.hid hpre
      have HBr := Lib.hid hbr
      clear hpre hbr
      by_cases hlt : k < 15
      · have c1 := Lib.hid (words_any k hlt wr)
        obtain ⟨hdl, hfl, hhl⟩ := hd_short k hlt
        have c2 := Lib.hid (fun w => rsplit_any (hdT k) hdl w)
        have c3 := Lib.hid (fun w => form_any k hlt w)
        have HD : Hid (sp (hdT k) = hd k) := Lib.hid rfl
        rw [HD.out] at c2
        have HM1 := Lib.hid (fun (h : Hm k ws) => And.intro h.cut (pAs_cut hlt h.cut))
        have HM2 := Lib.hid (fun (h : ¬ Hm k ws) => hm_not hlt h)
        have HFM := Lib.hid (fm_mem ⟨k, hlt⟩)
        simp only at HFM
        go_wp2_with fail
        refine c1.out.mono ?_
        rintro e w2 ⟨rfl, hb2⟩
        have HB2 := Lib.hid (HBr.out.trans (hb2.mono HBr.out.size))
        clear hb2 c1 hdl
        go_wp2_with fail
        refine (c2.out _).mono ?_
        rintro e w3 ⟨⟨g3, cap3, rfl, hg3, hw3⟩, hb3⟩
        have HW3 := Lib.hid hw3
        have HB3 := Lib.hid (HB2.out.trans (hb3.mono HB2.out.size))
        clear hb3 c2 hw3 HB2
        go_wp2_with fail
        refine (c3.out _).mono ?_
        rintro e w4 ⟨rfl, hb4⟩
        have HW4 := Lib.hid (HW3.out.below hb4 HW3.out.1)
        have HB4 := Lib.hid (HB3.out.trans (hb4.mono HB3.out.size))
        have HW := Lib.hid (HW1.out.below HB4.out HW1.out.1)
        clear hb4 c3 HW3 HB3
        obtain ⟨q0, hq0⟩ : ∃ q0 : Bool, ((ws.length : Int) == (hd k).length + (fm k).length) = q0 := ⟨_, rfl⟩
        go_wp2_with fail
        have hq : q0 = true ↔ ws.length = (hd k).length + (fm k).length := by rw [← hq0, beq_iff_eq]; omega
        have HQ := Lib.hid hq
        try rw [hq0]
        clear hq0 hq
        go_loopw [8, 9] (fun q i w7 => ∃ (j : Nat) (b : Bool), j ≤ (hd k).length ∧ i = .int .i64 j ∧ q = .bool b ∧ (b = true ↔ (ws.length = (hd k).length + (fm k).length ∧ ∀ i, i < j → ws[i]? = (hd k)[i]?)) ∧ Below w4.heap.size w4 w7) (fun _ i _ => (hd k).length - (RowKit.intOf i).toNat)
        case atStart => exact ⟨0, q0, Nat.zero_le _, rfl, rfl, by rw [HQ.out]; exact ⟨fun h => ⟨h, fun i hi => absurd hi (by omega)⟩, fun h => h.1⟩, Below.refl _ _⟩
        case round =>
          obtain ⟨j, b, hj, rfl, rfl, hb, hb7⟩ := hrel
          have HBJ := Lib.hid hb
          have HB7 := Lib.hid hb7
          clear hb hb7 HQ
          cases b with
          | false =>
            have HNM := Lib.hid (HM2.out fun h => by have := HBJ.out.2 ⟨h.1, fun i hi => h.2 i (by omega)⟩; cases this)
            have HBE := Lib.hid (HB4.out.trans (HB7.out.mono HB4.out.size))
            clear HBJ HM1 HM2 HW4 HW
            by_cases hjl : j < (hd k).length
            all_goals
              go_wp2_with fail
              refine ⟨⟨k + 1, by omega, by go_num, fun i hi => ?_, HBE.out⟩, meas_next hlt⟩
              by_cases e : i = k
              · subst e; exact HNM.out
              · exact HPre.out i (by omega)
          | true =>
            obtain ⟨hlen, hmat⟩ := HBJ.out.1 rfl
            have HMAT := Lib.hid hmat
            have HLEN := Lib.hid hlen
            have hlw : (hd k).length + (fm k).length ≤ ws.length := by omega
            clear hmat hlen
            by_cases hjl : j < (hd k).length
            · obtain ⟨x, hx⟩ : ∃ x, ws[j]? = some x := ⟨_, List.getElem?_eq_getElem (by omega)⟩
              obtain ⟨p, hp⟩ : ∃ p, (hd k)[j]? = some p := ⟨_, List.getElem?_eq_getElem hjl⟩
              have i1 := idx41 g ws.length cap j (by omega)
              have i2 := idx41 g3 (hd k).length cap3 j hjl
              have k1 : ∀ n, (wr.drewN n).cell? ⟨g, j, none⟩ = some (strV x) := fun _ => (HW.out.below HB7.out HW.out.1).2 j x hx
              have k2 : ∀ n, (wr.drewN n).cell? ⟨g3, j, none⟩ = some (strV p) := fun _ => (HW4.out.below HB7.out HW4.out.1).2 j p hp
              have HNX : ∀ b : Bool, (x = p ↔ b = true) → (b = true ↔ (ws.length = (hd k).length + (fm k).length ∧ ∀ i, i < j + 1 → ws[i]? = (hd k)[i]?)) := fun b hb => ⟨fun h => ⟨HLEN.out, fun i hi => by
                  by_cases e : i = j
                  · subst e; rw [hx, hp, hb.2 h]
                  · exact HMAT.out i (by omega)⟩, fun h => hb.1 (by have := h.2 j (by omega); rw [hx, hp] at this; exact Option.some.inj this)⟩
              have HNXT := Lib.hid HNX
              clear hx hp HNX
              by_cases hxp : x = p
              · subst hxp
                have HN2 := Lib.hid (HNXT.out true ⟨fun _ => rfl, fun _ => rfl⟩)
                clear HNXT
                go_wp2_with fail
                go_quiet (fail)
                go_wp2_with fail
                refine ⟨⟨j + 1, _, by omega, by go_num, rfl, (by first | exact HN2.out | exact ⟨fun _ => HN2.out.1 trivial, fun _ => rfl⟩), HB7.out.trans (below_drewN _ _ _)⟩, meas_next hjl⟩
              · have hxp' := lst_ne hxp
                have HN2 := Lib.hid (HNXT.out false ⟨fun h => absurd h hxp, fun h => by cases h⟩)
                clear HNXT hxp
                go_wp2_with fail
                go_quiet (fail)
                go_wp2_with fail
                refine ⟨⟨j + 1, _, by omega, by go_num, rfl, (by first | exact HN2.out | exact ⟨fun _ => HN2.out.1 trivial, fun _ => rfl⟩), HB7.out.trans (below_drewN _ _ _)⟩, meas_next hjl⟩
            · have hje : j = (hd k).length := by omega
              have HM := Lib.hid (HM1.out ⟨HLEN.out, fun i hi => HMAT.out i (by omega)⟩)
              have HBE := Lib.hid (HB4.out.trans (HB7.out.mono HB4.out.size))
              have HA := Lib.hid (fun i (hi : i < 15) (hne : i ≠ k) => head_alone hi hlt hne HM.out.1)
              have HW7 := Lib.hid (HW.out.below HB7.out HW.out.1)
              clear HM1 HM2 HMAT HW4 HW hje
              go_wp2_with fail
              have vc : CA (wr.alloc (.cells #[.int .i64 k, .int .i64 0, .int .i64 0, .bool false, .int .u8 0, .int .u8 0, .int .u8 0, .int .u8 0, .int .u8 0, .int .u8 0] 32)) wr.heap.size (zc k).cells 32 := var_new wr (zc k).cells 32
              have hbc : Below wr.heap.size wr (wr.alloc (.cells #[.int .i64 k, .int .i64 0, .int .i64 0, .bool false, .int .u8 0, .int .u8 0, .int .u8 0, .int .u8 0, .int .u8 0, .int .u8 0] 32)) := box_below wr _
              have HB8 := Lib.hid (HBE.out.trans (hbc.mono HBE.out.size))
              have HW8 := Lib.hid (HW7.out.below hbc HW7.out.1)
              have GLT := Lib.hid HW7.out.1
              have CLT := Lib.hid HBE.out.size
              generalize wr.alloc (.cells #[.int .i64 k, .int .i64 0, .int .i64 0, .bool false, .int .u8 0, .int .u8 0, .int .u8 0, .int .u8 0, .int .u8 0, .int .u8 0] 32) = w8 at *
              clear HB4 HB7 HBE HW7 hbc
              generalize hcb : wr.heap.size = cb at *
              clear hcb
              have VC := Lib.hid vc
              clear vc
              go_loopw [11, 12] (fun o i wr => ∃ (j : Nat) (b : Bool), j ≤ (fm k).length ∧ i = .int .i64 j ∧ o = .bool b ∧ (∃ c : Cm, CA wr cb c.cells 32 ∧ (∀ i, c.x i < 256) ∧ (b = true → go c (((fm k).map up).drop j) ((ws.drop (hd k).length).drop j) = pAs k ws) ∧ (b = false → pAs k ws = none)) ∧ Below cb w8 wr) (fun _ i _ => (fm k).length - (RowKit.intOf i).toNat)
              case atStart => exact ⟨0, true, Nat.zero_le _, rfl, rfl, ⟨zc k, VC.out, fun _ => (show (0 : Nat) < 256 by omega), fun _ => HM.out.2.symm, fun h => by cases h⟩, Below.refl _ _⟩
              case round =>
                obtain ⟨j, b, hj, rfl, rfl, ⟨c, hc, hx, hgo, hno⟩, hb9⟩ := hrel
                have HC := Lib.hid hc
                have HX := Lib.hid hx
                have HGO := Lib.hid hgo
                have HNO := Lib.hid hno
                have HB9 := Lib.hid hb9
                clear hc hx hgo hno hb9 VC
                cases b with
                | false =>
                  have HRN := Lib.hid (PSw_none (ws := ws) fun i hi => by
                    by_cases e : i = k
                    · subst e; exact HNO.out rfl
                    · exact HA.out i hi e)
                  have HBF := Lib.hid (HB8.out.trans (HB9.out.mono CLT.out))
                  have V5 := Lib.hid (V1.out.below HBF.out V1.out.lt)
                  have HB5 := Lib.hid (below_next HB1.out HBF.out)
                  by_cases hjl : j < (fm k).length
                  all_goals
                    go_wp2_with (with_reducible refine stopS 32 (.tmp 2) (.tmp 85) rfl ?_)
                    refine Lib.hid ?_
                    refine wpl_store32 rfl _ _ rfl (zc 0) rfl rfl V5.out ?_
                    intro w5 hv5 hb5 _ _
                    have HB6 := Lib.hid (hb5 w.heap.size w (Nat.le_refl _) HB5.out)
                    have r0 : w5.cell? ⟨w.heap.size, 0, none⟩ = some (.int .i64 0) := hv5.cell 0
                    have r1 : w5.cell? ⟨w.heap.size, 1, none⟩ = some (.int .i64 0) := hv5.cell 1
                    have r2 : w5.cell? ⟨w.heap.size, 2, none⟩ = some (.int .i64 0) := hv5.cell 2
                    have r3 : w5.cell? ⟨w.heap.size, 3, none⟩ = some (.bool false) := hv5.cell 3
                    have r4 : w5.cell? ⟨w.heap.size, 4, none⟩ = some (.int .u8 0) := hv5.cell 4
                    have r5 : w5.cell? ⟨w.heap.size, 5, none⟩ = some (.int .u8 0) := hv5.cell 5
                    have r6 : w5.cell? ⟨w.heap.size, 6, none⟩ = some (.int .u8 0) := hv5.cell 6
                    have r7 : w5.cell? ⟨w.heap.size, 7, none⟩ = some (.int .u8 0) := hv5.cell 7
                    have r8 : w5.cell? ⟨w.heap.size, 8, none⟩ = some (.int .u8 0) := hv5.cell 8
                    have r9 : w5.cell? ⟨w.heap.size, 9, none⟩ = some (.int .u8 0) := hv5.cell 9
                    clear hv5 hb5
                    go_wp2_with fail
                    exact bodyPost_ret (v := .tuple #[.agg (zc 0).cells, .bool false]) (by simp [results, Tryd.results6, go_sem, r0, r1, r2, r3, r4, r5, r6, r7, r8, r9, zc, Cm.cells]) rfl ⟨HN.out HRN.out, HB6.out⟩
                | true =>
                  by_cases hjl : j < (fm k).length
                  · obtain ⟨f, hf⟩ : ∃ f, (fm k)[j]? = some f := ⟨_, List.getElem?_eq_getElem hjl⟩
                    obtain ⟨x, hxw⟩ : ∃ x, ws[(hd k).length + j]? = some x := ⟨_, List.getElem?_eq_getElem (by omega)⟩
                    have HW9 := Lib.hid (HW8.out.below HB9.out GLT.out)
                    have HS0 := Lib.hid (show (World.drew wr).cell? ⟨g, (hd k).length + j, none⟩ = some (strV x) from HW9.out.2 _ x hxw)
                    have EW1 : Hid (IntKind.i64.wrap (((hd k).length : Int) + (j : Int)) = ((hd k).length : Int) + (j : Int)) := Lib.hid (by simp only [IntKind.wrap, IntKind.bits, IntKind.signed]; simp; omega)
                    have i1 : ∀ w, (Instr.index 9 (strV (fm k)) (.int .i64 j)).run Tryd.prog w = .ok (.int .u8 (f.toNat : Nat)) w := lat hf
                    have i2 : ∀ w, (Instr.indexAt 41 (.slice (some ⟨g, 0, none⟩) ws.length cap) (.int .i64 (((hd k).length : Int) + (j : Int)))).run Tryd.prog w = .ok (.pointer (some ⟨g, (hd k).length + j, none⟩)) w := fun w => by
                      have := idx41 g ws.length cap ((hd k).length + j) (by omega) w
                      rwa [Int.natCast_add] at this
                    have ct := Lib.hid (rtake_any c f (HFM.out f (List.mem_of_getElem? hf)) x HX.out)
                    have st := Lib.hid (go_step (c := c) (fm_at hf) (show (ws.drop (hd k).length)[j]? = some x by rw [List.getElem?_drop]; exact hxw))
                    clear hf hxw
                    go_wp2_with fail
                    refine wp_region_held_drew (S := fun w9 => w9.cell? ⟨g, (hd k).length + j, none⟩ = some (strV x)) (by kernel_rfl) HS0.out (fun hS => ?_)
                    refine wpAnyH_take (i := 1) (v := ?_) rfl (by kernel_rfl) (by kernel_rfl) (by kernel_rfl) (fun _ _ _ h => h) (Or.inl ⟨by rfl, ?_⟩) hS ?_
                    rotate_left
                    · (intro w9 hS9; go_simp; try with_reducible rfl)
                    try simp only [Act.put, List.getElem_toArray, List.getElem_cons_zero, List.getElem_cons_succ, List.setIfInBounds_toArray, List.set_cons_zero, List.set_cons_succ, EW1.out]
                    refine wpAnyH_take (i := 2) (v := ?_) rfl (by kernel_rfl) (by kernel_rfl) (by kernel_rfl) (fun _ _ _ h => h) (Or.inl ⟨by rfl, ?_⟩) hS ?_
                    rotate_left
                    · (intro w9 hS9; go_simp; try with_reducible rfl)
                    try simp only [Act.put, List.getElem_toArray, List.getElem_cons_zero, List.getElem_cons_succ, List.setIfInBounds_toArray, List.set_cons_zero, List.set_cons_succ, EW1.out]
                    refine wpAnyH_take (i := 3) (v := ?_) rfl (by kernel_rfl) (by kernel_rfl) (by kernel_rfl) (fun _ _ _ h => h) (Or.inl ⟨by rfl, ?_⟩) hS ?_
                    rotate_left
                    · (intro w9 hS9; go_simp; try with_reducible rfl)
                    try simp only [Act.put, List.getElem_toArray, List.getElem_cons_zero, List.getElem_cons_succ, List.setIfInBounds_toArray, List.set_cons_zero, List.set_cons_succ, EW1.out]
                    refine wpAnyH_take (i := 4) (v := ?_) rfl (by kernel_rfl) (by kernel_rfl) (by kernel_rfl) (fun _ _ _ h => h) (Or.inl ⟨by rfl, ?_⟩) hS ?_
                    rotate_left
                    · (intro w9 hS9; go_simp; try with_reducible rfl)
                    try simp only [Act.put, List.getElem_toArray, List.getElem_cons_zero, List.getElem_cons_succ, List.setIfInBounds_toArray, List.set_cons_zero, List.set_cons_succ, EW1.out]
                    refine wpAnyH_take (i := 5) (v := ?_) rfl (by kernel_rfl) (by kernel_rfl) (by kernel_rfl) (fun _ _ _ h => h) (Or.inl ⟨by rfl, ?_⟩) hS ?_
                    rotate_left
                    · (intro w9 hS9; go_simp; try with_reducible rfl)
                    try simp only [Act.put, List.getElem_toArray, List.getElem_cons_zero, List.getElem_cons_succ, List.setIfInBounds_toArray, List.set_cons_zero, List.set_cons_succ, EW1.out]
                    refine wpAnyH_take (i := 6) (v := ?_) rfl (by kernel_rfl) (by kernel_rfl) (by kernel_rfl) (fun _ _ _ h => h) (Or.inl ⟨by rfl, ?_⟩) hS ?_
                    rotate_left
                    · (intro w9 hS9; go_simp; try with_reducible rfl)
                    try simp only [Act.put, List.getElem_toArray, List.getElem_cons_zero, List.getElem_cons_succ, List.setIfInBounds_toArray, List.set_cons_zero, List.set_cons_succ, EW1.out]
                    refine wpAnyH_take (i := 7) (v := ?_) rfl (by kernel_rfl) (by kernel_rfl) (by kernel_rfl) (fun _ _ _ h => h) (Or.inl ⟨by rfl, ?_⟩) hS ?_
                    rotate_left
                    · (intro w9 hS9; go_simp; try with_reducible rfl)
                    try simp only [Act.put, List.getElem_toArray, List.getElem_cons_zero, List.getElem_cons_succ, List.setIfInBounds_toArray, List.set_cons_zero, List.set_cons_succ, EW1.out]
                    refine wpAnyH_take (i := 8) (v := ?_) rfl (by kernel_rfl) (by kernel_rfl) (by kernel_rfl) (fun _ _ _ h => h) (Or.inl ⟨by rfl, ?_⟩) hS ?_
                    rotate_left
                    · (intro w9 hS9; go_simp; try with_reducible rfl)
                    try simp only [Act.put, List.getElem_toArray, List.getElem_cons_zero, List.getElem_cons_succ, List.setIfInBounds_toArray, List.set_cons_zero, List.set_cons_succ, EW1.out]
                    refine wpAnyH_take (i := 9) (v := ?_) rfl (by kernel_rfl) (by kernel_rfl) (by kernel_rfl) (fun _ _ _ h => h) (Or.inl ⟨by rfl, ?_⟩) hS ?_
                    rotate_left
                    · (intro w9 hS9; go_simp; try with_reducible rfl)
                    try simp only [Act.put, List.getElem_toArray, List.getElem_cons_zero, List.getElem_cons_succ, List.setIfInBounds_toArray, List.set_cons_zero, List.set_cons_succ, EW1.out]
                    refine wpAnyH_take (i := 10) (v := ?_) rfl (by kernel_rfl) (by kernel_rfl) (by kernel_rfl) (fun _ _ _ h => h) (Or.inl ⟨by rfl, ?_⟩) hS ?_
                    rotate_left
                    · (intro w9 hS9; have q := hS9; go_simp; try with_reducible rfl)
                    try simp only [Act.put, List.getElem_toArray, List.getElem_cons_zero, List.getElem_cons_succ, List.setIfInBounds_toArray, List.set_cons_zero, List.set_cons_succ, EW1.out]
                    refine wpAnyH_ready (rs := [0]) (by kernel_rfl) (by simp) (AllReadyH.cons rfl (fun K hK => ?_) AllReadyH.nil)
                    rw [if_pos (by rfl)]
                    refine wp_load32 _ rfl rfl HC.out.drew ?_
                    simp only [Act.put]
                    refine hK.out _ _ hS (fun hS => ?_)
                    clear hK K
                    have CW := Lib.hid HC.out.drew
                    have HGX := Lib.hid (show go c (((fm k).map up).drop j) ((ws.drop (hd k).length).drop j) = pAs k ws by first | exact HGO.out rfl | exact HGO.out trivial)
                    clear HC HGO HNO HS0 i1 i2
                    refine wpAnyH_ready (rs := [11]) (by kernel_rfl) (by simp) (AllReadyH.cons rfl (fun K hK => ?_) AllReadyH.nil)
                    go_simp
                    refine (ct.out _).mono ?_
                    rintro e w10 ⟨⟨c', rfl, hx', hc'⟩, hb10⟩
                    have HC10 := Lib.hid (CW.out.below hb10 CW.out.lt)
                    have HB10 := Lib.hid (HB9.out.drew.trans (hb10.mono (Nat.le_of_lt CW.out.lt)))
                    have HGW := Lib.hid (show g < (World.drew wr).heap.size from Nat.lt_of_lt_of_le GLT.out (Nat.le_of_lt CW.out.lt))
                    refine hK.out _ _ ((hb10.cell HGW.out).trans hS) (fun hS => ?_)
                    have HX' := Lib.hid hx'
                    have HC' := Lib.hid hc'
                    clear hK K hb10 ct hx' hc' CW
                    refine wpAnyH_take (i := 12) (v := ?_) rfl (by kernel_rfl) (by kernel_rfl) (by kernel_rfl) (fun _ _ _ h => h) (Or.inl ⟨by rfl, ?_⟩) hS ?_
                    rotate_left
                    · (intro w9 hS9; go_simp; try with_reducible rfl)
                    try simp only [Act.put, List.getElem_toArray, List.getElem_cons_zero, List.getElem_cons_succ, List.setIfInBounds_toArray, List.set_cons_zero, List.set_cons_succ]
                    refine wpAnyH_take (i := 13) (v := ?_) rfl (by kernel_rfl) (by kernel_rfl) (by kernel_rfl) (fun _ _ _ h => h) (Or.inl ⟨by rfl, ?_⟩) hS ?_
                    rotate_left
                    · (intro w9 hS9; go_simp; try with_reducible rfl)
                    try simp only [Act.put, List.getElem_toArray, List.getElem_cons_zero, List.getElem_cons_succ, List.setIfInBounds_toArray, List.set_cons_zero, List.set_cons_succ]
                    refine wpAnyH_take (i := 14) (v := ?_) rfl (by kernel_rfl) (by kernel_rfl) (by kernel_rfl) (fun _ _ _ h => h) (Or.inl ⟨by rfl, ?_⟩) hS ?_
                    rotate_left
                    · (intro w9 hS9; go_simp; try with_reducible rfl)
                    try simp only [Act.put, List.getElem_toArray, List.getElem_cons_zero, List.getElem_cons_succ, List.setIfInBounds_toArray, List.set_cons_zero, List.set_cons_succ]
                    refine wpAnyH_ready (rs := [15]) (by kernel_rfl) (by simp) (AllReadyH.cons rfl (fun K hK => ?_) AllReadyH.nil)
                    rw [if_pos (by rfl)]
                    refine wp_store32 _ _ rfl c' rfl rfl HC10.out ?_
                    intro w11 hv11 hb11 _ _
                    simp only [Act.put]
                    refine hK.out _ _ (((hb11 cb w10 (Nat.le_refl _) (Below.refl _ _)).cell GLT.out).trans hS) (fun hS => ?_)
                    have HC11 := Lib.hid hv11
                    have HB11 := Lib.hid (hb11 cb w8 (Nat.le_refl _) HB10.out)
                    clear hK K hv11 hb11 HC10 HB10
                    refine wpAnyH_take (i := 16) (v := ?_) rfl (by kernel_rfl) (by kernel_rfl) (by kernel_rfl) (fun _ _ _ h => h) (Or.inl ⟨by rfl, ?_⟩) hS ?_
                    rotate_left
                    · (intro w9 hS9; go_simp; try with_reducible rfl)
                    try simp only [Act.put, List.getElem_toArray, List.getElem_cons_zero, List.getElem_cons_succ, List.setIfInBounds_toArray, List.set_cons_zero, List.set_cons_succ]
                    refine wpAnyH_done (by kernel_rfl) ?_ _
                    have HFIN : ∀ q, (tk (up f) x).isSome = q → ((q = true → go c' (((fm k).map up).drop (j + 1)) ((ws.drop (hd k).length).drop (j + 1)) = pAs k ws) ∧ (q = false → pAs k ws = none)) := fun q hq => by
                      cases htk : tk (up f) x with
                      | none =>
                        rw [htk] at hq
                        subst hq
                        exact ⟨fun h => (by cases h), fun _ => by rw [← HGX.out, st.out, htk]⟩
                      | some f' =>
                        rw [htk] at hq
                        subst hq
                        exact ⟨fun _ => by rw [← HGX.out, st.out, htk, HC'.out f' htk], fun h => by cases h⟩
                    have HFN := Lib.hid (HFIN _ rfl)
                    clear HFIN st HGX hS
                    generalize (tk (up f) x).isSome = q at *
                    go_wp2_with fail
                    refine ⟨⟨j + 1, q, by omega, by go_num, rfl, ⟨c', HC11.out, HX'.out, HFN.out.1, HFN.out.2⟩, HB11.out⟩, meas_next hjl⟩
                  · have hg9 : go c (((fm k).map up).drop j) ((ws.drop (hd k).length).drop j) = pAs k ws := by first | exact HGO.out rfl | exact HGO.out trivial
                    have hjj : (fm k).length ≤ j := by omega
                    have hstop := go_stop (c := c) (ps := (fm k).map up) (ws := ws.drop (hd k).length) (j := j) (by rw [List.length_map]; exact hjj) (by rw [List.length_drop, HLEN.out]; omega)
                    have HRN := Lib.hid (PSw_hit hlt (hg9.symm.trans hstop))
                    clear hg9 hstop
                    have HBF := Lib.hid (HB8.out.trans (HB9.out.mono CLT.out))
                    have V5 := Lib.hid (V1.out.below HBF.out V1.out.lt)
                    have HB5 := Lib.hid (below_next HB1.out HBF.out)
                    go_wp2_with (with_reducible refine stopL 32 (.tmp 10) rfl ?_)
                    refine Lib.hid ?_
                    refine wpl_load32 (by kernel_rfl) _ rfl rfl HC.out ?_
                    go_wp2_with (with_reducible refine stopS 32 (.tmp 2) (.tmp 86) rfl ?_)
                    refine Lib.hid ?_
                    refine wpl_store32 rfl _ _ rfl (c) rfl rfl V5.out ?_
                    intro w5 hv5 hb5 _ _
                    have HB6 := Lib.hid (hb5 w.heap.size w (Nat.le_refl _) HB5.out)
                    have r0 : w5.cell? ⟨w.heap.size, 0, none⟩ = some (.int .i64 c.wh) := hv5.cell 0
                    have r1 : w5.cell? ⟨w.heap.size, 1, none⟩ = some (.int .i64 c.po) := hv5.cell 1
                    have r2 : w5.cell? ⟨w.heap.size, 2, none⟩ = some (.int .i64 c.nn) := hv5.cell 2
                    have r3 : w5.cell? ⟨w.heap.size, 3, none⟩ = some (.bool c.on) := hv5.cell 3
                    have r4 : w5.cell? ⟨w.heap.size, 4, none⟩ = some (.int .u8 (c.x 0)) := hv5.cell 4
                    have r5 : w5.cell? ⟨w.heap.size, 5, none⟩ = some (.int .u8 (c.x 1)) := hv5.cell 5
                    have r6 : w5.cell? ⟨w.heap.size, 6, none⟩ = some (.int .u8 (c.x 2)) := hv5.cell 6
                    have r7 : w5.cell? ⟨w.heap.size, 7, none⟩ = some (.int .u8 (c.x 3)) := hv5.cell 7
                    have r8 : w5.cell? ⟨w.heap.size, 8, none⟩ = some (.int .u8 (c.x 4)) := hv5.cell 8
                    have r9 : w5.cell? ⟨w.heap.size, 9, none⟩ = some (.int .u8 (c.x 5)) := hv5.cell 9
                    clear hv5 hb5
                    go_wp2_with fail
                    exact bodyPost_ret (v := .tuple #[.agg (c).cells, .bool true]) (by simp [results, Tryd.results6, go_sem, r0, r1, r2, r3, r4, r5, r6, r7, r8, r9, Cm.cells]) rfl ⟨HS.out c HRN.out, HB6.out⟩
      · have hk15 : k = 15 := by omega
        have HRN := Lib.hid (PSw_none (ws := ws) fun j hj => HPre.out j (by omega))
        have V5 := Lib.hid (V1.out.below HBr.out V1.out.lt)
        have HB5 := Lib.hid (below_next HB1.out HBr.out)
        go_wp2_with (with_reducible refine stopS 32 (.tmp 2) (.tmp 87) rfl ?_)
        refine Lib.hid ?_
        refine wpl_store32 rfl _ _ rfl (zc 0) rfl rfl V5.out ?_
        intro w5 hv5 hb5 _ _
        have HB6 := Lib.hid (hb5 w.heap.size w (Nat.le_refl _) HB5.out)
        have r0 : w5.cell? ⟨w.heap.size, 0, none⟩ = some (.int .i64 0) := hv5.cell 0
        have r1 : w5.cell? ⟨w.heap.size, 1, none⟩ = some (.int .i64 0) := hv5.cell 1
        have r2 : w5.cell? ⟨w.heap.size, 2, none⟩ = some (.int .i64 0) := hv5.cell 2
        have r3 : w5.cell? ⟨w.heap.size, 3, none⟩ = some (.bool false) := hv5.cell 3
        have r4 : w5.cell? ⟨w.heap.size, 4, none⟩ = some (.int .u8 0) := hv5.cell 4
        have r5 : w5.cell? ⟨w.heap.size, 5, none⟩ = some (.int .u8 0) := hv5.cell 5
        have r6 : w5.cell? ⟨w.heap.size, 6, none⟩ = some (.int .u8 0) := hv5.cell 6
        have r7 : w5.cell? ⟨w.heap.size, 7, none⟩ = some (.int .u8 0) := hv5.cell 7
        have r8 : w5.cell? ⟨w.heap.size, 8, none⟩ = some (.int .u8 0) := hv5.cell 8
        have r9 : w5.cell? ⟨w.heap.size, 9, none⟩ = some (.int .u8 0) := hv5.cell 9
        clear hv5 hb5
        go_wp2_with fail
        exact bodyPost_ret (v := .tuple #[.agg (zc 0).cells, .bool false]) (by simp [results, Tryd.results6, go_sem, r0, r1, r2, r3, r4, r5, r6, r7, r8, r9, zc, Cm.cells]) rfl ⟨HN.out HRN.out, HB6.out⟩
end Go.Proofs.YtlmdpaemhjcmbaaDoor
