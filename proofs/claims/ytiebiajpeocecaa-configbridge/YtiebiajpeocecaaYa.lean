/- ConfigBridge's call, where the slices are not long. -/
import Derived.Test.YtiebiajpeocecaaY
namespace Go.Proofs.Ytiebiajpeocecaa
open Go.RowKit Go.Sort

theorem VarAt.grown {w : World} {b : Nat} {xs : Array Value} {t : TypeId} (h : VarAt w b xs t) (d : Nat) (os : Array Obj) : VarAt (grow (redrawn w d) os) b xs t := h.below (below_regrown w d os) h.lt
theorem quiet_load_want {ops : Array Oper} {C : World → Prop} {Q : Act → Prop} {a : Act} {op : Oper} {rest : List Oper} (hg : Region.wanted op (yielded ops a.tmps) = true) (x : Operand) (ho : op.op = .load 54 x) {b o : Nat} (hx : a.eval x = .pointer (some ⟨b, o, none⟩)) {xs : Array Value}
    (hC : ∀ w, C w → w.rangeAt b o xs.toList) (hz : xs.size = 90) (h : wpQuiet Try.prog ops C Q rest (a.put op.dst (.agg xs))) : wpQuiet Try.prog ops C Q (op :: rest) a := by
  refine BigFrame.wpQuiet_want hg fun K hK => ⟨.agg xs, fun w hw => ?_, hK _ h⟩
  unfold Oper.quietAt execOp
  simp only [ho, hx, Instr.loadAt, Instr.sureAddr, Sem.run_bind, Sem.run_pure, Result.andThen_ok, run_loadVar_mid (P := Try.prog) w b o 54 xs.toList _ (hC w hw) uP rfl (by rw [sP]; simp [hz])]
  exact ⟨rfl, by simp⟩
theorem port_eql {xs : Array Value} (h : Typed xs) (w : World) : (binOp .eql 54 (.agg xs) (.agg xs)).run Try.prog w = .ok (.bool true) w := by
  rw [run_eql_struct, port_self h]; rfl
theorem idxP (b o n cap k : Nat) (h : k < n) (w : World) : (Instr.indexAt 69 (.slice (some ⟨b, o, none⟩) n cap) (.int .i64 k)).run Try.prog w = .ok (.pointer (some ⟨b, o + k * 90, none⟩)) w := by
  go_simp
theorem range_in {w : World} {b o : Nat} {xs : Array Value} (hx : xs.size = 90) (hc : ∀ k, k < 90 → w.cell? ⟨b, o + k, none⟩ = xs[k]?) : w.rangeAt b o xs.toList := fun j v hj => by
  have hj' : j < 90 := by rw [← hx]; simpa using (List.getElem?_eq_some_iff.1 hj).1
  rw [hc j hj']; simpa using hj
set_option maxRecDepth 20000 in
set_option maxHeartbeats 4000000 in
theorem bridge_short (c : Cf) (a : Option Addr) (n cap : Nat) (B : Bd) (s' : Value) (m : Nat) (XS : Nat → Array Value) (w : World) (hx : ∀ i, c.x i < 256) (hp : PIn w s' m XS) (ht : ∀ i, i < m → Typed (XS i)) (hn : n ≤ 20) (hm : m ≤ 20) :
    Calls Try.prog 5 #[.agg (c.cells (.slice a n cap)), .agg (B.cells s')] w fun e w' => e = .returned (.bool true) ∧ Below w.heap.size w w' := by
  have v0 := (var_new w (c.cells (.slice a n cap)) 28).alloc (.cells (B.cells s') 71)
  have v1 : VarAt ((w.alloc (.cells (c.cells (.slice a n cap)) 28)).alloc (.cells (B.cells s') 71)) (w.heap.size + 1) (B.cells s') 71 := by
    have := var_new (w.alloc (.cells (c.cells (.slice a n cap)) 28)) (B.cells s') 71
    rwa [alloc_size] at this
  have hb0 := ((Below.refl w.heap.size w).alloc (Nat.le_refl _) (.cells (c.cells (.slice a n cap)) 28)).alloc (by rw [alloc_size]; omega) (.cells (B.cells s') 71)
  have hp0 := Lib.hid (hp.below (fun i hi => (ht i hi).1) hb0)
  have C0 := Lib.hid v0
  have B0 := Lib.hid v1
  have HB := Lib.hid hb0
  have cl := lives_ok
  obtain ⟨ad, c', rfl, _⟩ := hp
  clear v0 v1 hb0
  have HX := Lib.hid hx
  have HT := Lib.hid ht
  clear hx ht
  have CB := Lib.hid (fun (w1 : World) (b : Nat) (q : VarAt w1 b (c.cells (.slice a n cap)) 28) => q.box)
  have CS := Lib.hid (Cf.size c (.slice a n cap))
  generalize hCC : c.cells (.slice a n cap) = CC at *
  have HCC := Lib.hid hCC
  clear hCC
  have BS := Lib.hid (Bd.size B (.slice ad m c'))
  have BO := Lib.hid (Bd.one B (s := .slice ad m c') rfl)
  have F17 := Lib.hid (fun (w1 : World) (b : Nat) (q : VarAt w1 b (B.cells (.slice ad m c')) 71) => (show w1.cell? ⟨b, 17, none⟩ = some (.slice ad m c') from q.cell 17))
  have hBC : Hid (B.cells (.slice ad m c') = B.cells (.slice ad m c')) := Lib.hid rfl
  generalize hC : B.cells (.slice ad m c') = C at *
  have HC := Lib.hid hC
  clear hC hBC
  go_enter Try.func5, Try.ntmps5
  go_wp2_with fail
  generalize (w.alloc (.cells CC 28)).alloc (.cells C 71) = W at *
  refine (cl _).mono ?_
  rintro e w1 ⟨rfl, hb⟩
  have C1 := Lib.hid (C0.out.below hb C0.out.lt)
  have B1 := Lib.hid (B0.out.below hb B0.out.lt)
  have hp1 := Lib.hid (hp0.out.below (fun i hi => (HT.out i hi).1) hb)
  have HB1 := Lib.hid (HB.out.trans (hb.mono HB.out.size))
  have f17 := F17.out _ _ B1.out
  have f14 := (CB.out _ _ C1.out).ps
  clear hb cl C0 B0 HB hp0
  go_wp2_with (with_reducible refine stopL 71 _ rfl ?_)
  refine Lib.hid ?_
  refine wpList_load_whole uB rfl sB rfl _ rfl rfl (range_whole B1.out) BS.out ?_
  have Z2 := Lib.hid (var_new w1 zB 71)
  have HD2 := Lib.hid (box_below w1 (.cells zB 71))
  have hw1 := HB1.out.size
  have hl1 := B1.out.lt
  have hl0 := C1.out.lt
  clear f17 f14
  go_wp2_with (with_reducible refine stopS 71 _ _ rfl ?_)
  refine Lib.hid ?_
  refine wpList_store_whole sB rfl _ _ rfl (xs := C) rfl rfl Z2.out BO.out BS.out (by simp) ?_
  intro w3 hv3 hb3 _ _
  rw [putL_all _ _ (by rw [BS.out]; rfl)] at hv3
  have X3 := Lib.hid hv3
  have HD3 := Lib.hid (hb3 w1.heap.size w1 (Nat.le_refl _) HD2.out)
  clear hv3 hb3 HD2 Z2
  generalize hxb : w1.heap.size = xb at *
  have HXB := Lib.hid hxb
  clear hxb
  -- the ports, copied
  have hsz3 := HD3.out.size
  have B3 := Lib.hid ((B1.out.below HD3.out hl1).alloc (.cells #[] 54))
  have X4 := Lib.hid (X3.out.alloc (.cells #[] 54))
  have HD4 := Lib.hid (HD3.out.alloc (Nat.le_of_lt X3.out.lt) (.cells #[] 54))
  have own4 := Lib.hid (show (w3.alloc (.cells #[] 54)).ownsRow xb 54 90 (.slice (some ⟨w3.heap.size, 0, none⟩) 0 0) 0 [] from
    World.ownsRow_made (base := xb) (e := 54) (size := 90) w3 #[] 0 (Nat.le_of_lt X3.out.lt) (by unfold maxLen; omega) rfl)
  have f17 := F17.out _ _ B3.out
  have hp4 := Lib.hid (hp1.out.below (w' := w3.alloc (.cells #[] 54)) (fun i hi => (HT.out i hi).1) (by rw [HXB.out]; exact HD4.out))
  go_wp2_with (first | (at_builtin; refine stopW ?_))
  refine Lib.hid ?_
  refine wpList_append_ports rfl _ _ rfl xb w3.heap.size rfl own4.out (by rw [alloc_size]; have := X3.out.lt; omega) rfl hp4.out hm HT.out ?_
  intro pb cap2 w5 hpb hA hk hbl
  have X5 := Lib.hid (hk _ _ _ (by decide) X4.out)
  have HD5 := Lib.hid (hbl xb w1 (Nat.le_refl _) (by rw [alloc_size]; have := X3.out.lt; omega) HD4.out)
  have HA := Lib.hid hA
  clear hk hbl hA X4 HD4 own4 f17 B3 X3 HD3 hp4
  obtain ⟨v17, f17⟩ := X5.out.some (k := 17) (by rw [BS.out]; omega)
  have fz := X5.out.frozen
  go_wp2_with (with_reducible refine stopL 28 _ rfl ?_)
  obtain ⟨A, hA, hA1, hA2⟩ := HA.out
  have hne : pb ≠ xb := var_ne hA X5.out (by decide)
  have X6 := Lib.hid (show VarAt (w5.setCell ⟨xb, 17, none⟩ (.slice (some ⟨pb, 0, none⟩) m cap2)) xb (B.cells (.slice (some ⟨pb, 0, none⟩) m cap2)) 71 by
    have := X5.out.set 17 (.slice (some ⟨pb, 0, none⟩) m cap2)
    rw [← HC.out] at this
    exact this)
  have HD6 := Lib.hid (HD5.out.setCell (p := ⟨xb, 17, none⟩) (Nat.le_refl _) (.slice (some ⟨pb, 0, none⟩) m cap2))
  have HA6 := Lib.hid (hA.set_other (p := ⟨xb, 17, none⟩) hne (.slice (some ⟨pb, 0, none⟩) m cap2))
  have HA2 := Lib.hid hA2
  clear HA hA hA2 X5 HD5 f17 fz
  generalize w5.setCell ⟨xb, 17, none⟩ (.slice (some ⟨pb, 0, none⟩) m cap2) = w6 at *
  have C6 := Lib.hid (C1.out.below HD6.out hl0)
  refine Lib.hid ?_
  refine wpList_load_whole uC rfl sC rfl _ rfl rfl (range_whole C6.out) CS.out ?_
  have cs := setB_any c (.slice a n cap) (.slice (some ⟨pb, 0, none⟩) m cap2) B xb xb w6 X6.out HX.out (Nat.le_refl _)
  rw [HCC.out] at cs
  have CS2 := Lib.hid cs
  clear cs
  go_wp2_with fail
  refine CS2.out.mono ?_
  rintro e w7 ⟨rfl, hX7, hb7, ho7⟩
  have X7 := Lib.hid hX7
  have HD7 := Lib.hid (HD6.out.trans (hb7.mono (Nat.le_refl _)))
  have A7 := Lib.hid (ho7 _ _ _ hne HA6.out)
  have C7 := Lib.hid (C1.out.below HD7.out hl0)
  have B7 := Lib.hid (B1.out.below HD7.out hl1)
  have hp7 := Lib.hid (hp1.out.below (w' := w7) (fun i hi => (HT.out i hi).1) (by rw [HXB.out]; exact HD7.out))
  have HB7 := Lib.hid (HB1.out.trans (HD7.out.mono hw1))
  have hw7 := HB7.out.size
  clear hX7 hb7 ho7 CS2 X6 HD6 HA6 C6 C1 B1 HB1 HD7 hp1
  have fp := (CB.out _ _ C7.out).pr
  go_upto_region 7 with fail
  go_cut [45] (fun t wx => t = .bool (stB c.pr 4096 61440) ∧ wx = w7)
  case first =>
    clear HCC HX HT CB CS BS BO F17 HC HA2 A7 C7 B7 HB7 X7 HXB
    generalize c.pr = q at *
    go_wp2_with fail
    · go_meet
      case rel => exact ⟨congrArg Value.bool (by unfold stB; simp [*]), rfl⟩
    · go_meet
      case rel => exact ⟨congrArg Value.bool (by unfold stB; simp; omega), rfl⟩
    · go_meet
      case rel => exact ⟨congrArg Value.bool (by unfold stB; simp; omega), rfl⟩
  case rest =>
    obtain ⟨rfl, rfl⟩ := hcut
    go_upto_if 45 with fail
    go_cut [6] (fun v wx => v = .int .u64 (idC c) ∧ Below wc.heap.size wc wx)
    case first =>
      clear HC F17 BS BO CS HA2 A7 B7 X7 HCC HXB HT
      cases hs : stB c.pr 4096 61440
      · have e : idC c = 0 := by unfold idC; rw [hs]; rfl
        go_wp2_with fail
        go_meet
        case rel => exact ⟨by rw [e]; rfl, Below.refl _ _⟩
      · obtain ⟨q, hq⟩ : ∃ q : Nat, c.pr = q := ⟨c.pr.toNat, by unfold stB at hs; simp at hs; omega⟩
        have hq2 : q < 65536 := by unfold stB at hs; simp at hs; omega
        have e : idC c = q * 281474976710656 + pref c.x 6 := by unfold idC; rw [hs, hq]; rfl
        have hp6 := pref6_lt HX.out
        have cq := refNumber_quiet c.x HX.out
        have G := fun d os => CB.out _ _ (C7.out.grown d os)
        have g0 := fun d os => (G d os).x0
        have g1 := fun d os => (G d os).x1
        have g2 := fun d os => (G d os).x2
        have g3 := fun d os => (G d os).x3
        have g4 := fun d os => (G d os).x4
        have g5 := fun d os => (G d os).x5
        have g6 := fun d os => (G d os).pr
        rw [hq] at g6
        clear G hs hq HX C7 fp CB
        have HE := Lib.hid e
        clear e
        generalize pref c.x 6 = N at *
        have e1 : IntKind.u64.wrap ((q : Int) * 281474976710656) = ((q * 281474976710656 : Nat) : Int) := by
          simp only [IntKind.wrap, IntKind.bits, IntKind.signed]; simp; omega
        have cq' := cq wc
        generalize c.x = x at *
        go_wp2_with fail
        refine wp_region_quiet_below (by kernel_rfl) (by kernel_rfl) ?_
        repeat (go_big_quiet_step (first | with_reducible exact cq' _ _))
        refine wpQuiet_nil ?_
        intro _ hw'
        obtain ⟨⟨dq, osq⟩, hw''⟩ := hw'
        subst hw''
        go_wp2_with fail
        go_meet
        case rel => exact ⟨by rw [HE.out]; simp, below_regrown _ _ _⟩
    case rest =>
      obtain ⟨rfl, hb8⟩ := hcut
      have C8 := Lib.hid (C7.out.below hb8 C7.out.lt)
      have B8 := Lib.hid (B7.out.below hb8 B7.out.lt)
      have X8 := Lib.hid (X7.out.below hb8 X7.out.lt)
      have A8 := Lib.hid (A7.out.below hb8 A7.out.lt)
      have HP8 := Lib.hid (hp7.out.below (fun i hi => (HT.out i hi).1) hb8)
      have HB8 := Lib.hid (HB7.out.trans (hb8.mono HB7.out.size))
      clear hb8 C7 B7 X7 A7 hp7 HB7 fp
      rw [← HC.out] at B8
      have x17 : wc.cell? ⟨xb, 17, none⟩ = some (.slice (some ⟨pb, 0, none⟩) m cap2) := X8.out.cell 17
      have b17 : wc.cell? ⟨w.heap.size + 1, 17, none⟩ = some (.slice ad m c') := B8.out.cell 17
      have x7 : wc.cell? ⟨xb, 7, none⟩ = some (.int .u64 B.r) := X8.out.cell 7
      have b7 : wc.cell? ⟨w.heap.size + 1, 7, none⟩ = some (.int .u64 B.r) := B8.out.cell 7
      have x8 : wc.cell? ⟨xb, 8, none⟩ = some (.int .u32 B.c) := X8.out.cell 8
      have b8 : wc.cell? ⟨w.heap.size + 1, 8, none⟩ = some (.int .u32 B.c) := B8.out.cell 8
      have x9 : wc.cell? ⟨xb, 9, none⟩ = some (.int .u64 B.b) := X8.out.cell 9
      have b9 : wc.cell? ⟨w.heap.size + 1, 9, none⟩ = some (.int .u64 B.b) := B8.out.cell 9
      have x10 : wc.cell? ⟨xb, 10, none⟩ = some (.int .u16 B.p) := X8.out.cell 10
      have b10 : wc.cell? ⟨w.heap.size + 1, 10, none⟩ = some (.int .u16 B.p) := B8.out.cell 10
      have x11 : wc.cell? ⟨xb, 11, none⟩ = some (.int .u16 B.rp) := X8.out.cell 11
      have b11 : wc.cell? ⟨w.heap.size + 1, 11, none⟩ = some (.int .u16 B.rp) := B8.out.cell 11
      have x12 : wc.cell? ⟨xb, 12, none⟩ = some (.int .i64 B.ra) := X8.out.cell 12
      have b12 : wc.cell? ⟨w.heap.size + 1, 12, none⟩ = some (.int .i64 B.ra) := B8.out.cell 12
      have x13 : wc.cell? ⟨xb, 13, none⟩ = some (.int .i64 B.rm) := X8.out.cell 13
      have b13 : wc.cell? ⟨w.heap.size + 1, 13, none⟩ = some (.int .i64 B.rm) := B8.out.cell 13
      have x14 : wc.cell? ⟨xb, 14, none⟩ = some (.int .i64 B.rh) := X8.out.cell 14
      have b14 : wc.cell? ⟨w.heap.size + 1, 14, none⟩ = some (.int .i64 B.rh) := B8.out.cell 14
      have x15 : wc.cell? ⟨xb, 15, none⟩ = some (.int .i64 B.rd) := X8.out.cell 15
      have b15 : wc.cell? ⟨w.heap.size + 1, 15, none⟩ = some (.int .i64 B.rd) := B8.out.cell 15
      have x16 : wc.cell? ⟨xb, 16, none⟩ = some (.int .i64 B.ps) := X8.out.cell 16
      have b16 : wc.cell? ⟨w.heap.size + 1, 16, none⟩ = some (.int .i64 B.ps) := B8.out.cell 16
      have hv : ∀ w, (binOp .eql 48 (vV B.r B.c B.b B.p) (vV B.r B.c B.b B.p)).run Try.prog w = .ok (.bool true) w := fun w => by rw [v_eql, eqV_self]
      have hti : ∀ w, (binOp .eql 25 (tmV B.ra B.rm B.rh B.rd) (tmV B.ra B.rm B.rh B.rd)).run Try.prog w = .ok (.bool true) w := fun w => by rw [run_eql_struct, t_equal, eqT_self]; rfl
      go_wp2_with fail
      clear hv hti x17 b17 x7 b7 x8 b8 x9 b9 x10 b10 x11 b11 x12 b12 x13 b13 x14 b14 x15 b15 x16 b16
      go_loopw [7, 92] (fun sm i wr => ∃ k : Nat, k ≤ m ∧ sm = .bool true ∧ i = .int .i64 k ∧ Below wc.heap.size wc wr) (fun _ i _ => m - (intOf i).toNat)
      case atStart => exact ⟨0, Nat.zero_le _, rfl, rfl, Below.refl _ _⟩
      case round =>
        obtain ⟨k, hk, rfl, rfl, hnx⟩ := hrel
        have X9 := Lib.hid (X8.out.below hnx X8.out.lt)
        have B9 := Lib.hid (B8.out.below hnx B8.out.lt)
        have A9 := Lib.hid (A8.out.below hnx A8.out.lt)
        have HP9 := Lib.hid (HP8.out.below (fun i hi => (HT.out i hi).1) hnx)
        have C9 := Lib.hid (C8.out.below hnx C8.out.lt)
        have HN := Lib.hid hnx
        clear hnx X8 B8 A8 HP8 C8
        by_cases hlt : k < m
        · have d1 : ∀ d os, (grow (redrawn wr d) os).cell? ⟨xb, 17, none⟩ = some (.slice (some ⟨pb, 0, none⟩) m cap2) := fun d os => (X9.out.grown d os).cell 17
          have d2 : ∀ d os, (grow (redrawn wr d) os).cell? ⟨w.heap.size + 1, 17, none⟩ = some (.slice ad m c') := fun d os => (B9.out.grown d os).cell 17
          obtain ⟨ad', c'', e9, _, hc9⟩ := HP9.out
          cases e9
          obtain ⟨b9, o9, rfl, hcb⟩ := hc9 (by omega)
          have HCB := Lib.hid hcb
          have hlb : b9 < wr.heap.size := by
            have := hcb 0 (by omega) 0 (by omega)
            rw [Array.getElem?_eq_getElem (by rw [(HT.out 0 (by omega)).1]; omega)] at this
            exact block_lt_of_cell this
          clear hc9 hcb HP9
          have i1 := idx32b pb m cap2 k hlt
          have i2 := idxP b9 o9 m c' k hlt
          have ne := port_eql (HT.out k hlt)
          have g := gP
          have HR1 := Lib.hid (fun d os => range_port (A9.out.grown d os) (HA2.out k hlt) (HT.out k hlt).1)
          have HR2 := Lib.hid (fun (d : Nat) (os : Array Obj) => range_in (w := grow (redrawn wr d) os) (b := b9) (o := o9 + k * 90) (HT.out k hlt).1 (fun j hj => by rw [(below_regrown wr d os).cell (by exact hlb)]; exact HCB.out k hlt j hj))
          have hz := Lib.hid (HT.out k hlt).1
          clear HCB hlb X9 B9 A9 C9 HCC HC F17 BS BO CS HA2 HXB HX CB
          generalize XS k = xs at *
          go_wp2_with fail
          refine wp_region_quiet_below (by kernel_rfl) (by kernel_rfl) ?_
          iterate 6 (go_big_quiet_step (fail))
          refine quiet_load_want (by rfl) _ rfl rfl (fun w9 ⟨p9, e9⟩ => by rw [e9]; exact HR1.out _ _) hz.out ?_
          simp only [Act.put, List.setIfInBounds_toArray, List.set_cons_zero, List.set_cons_succ]
          iterate 4 (go_big_quiet_step (fail))
          refine quiet_load_want (by rfl) _ rfl rfl (fun w9 ⟨p9, e9⟩ => by rw [e9]; exact HR2.out _ _) hz.out ?_
          simp only [Act.put, List.setIfInBounds_toArray, List.set_cons_zero, List.set_cons_succ]
          iterate 3 (go_big_quiet_step (fail))
          refine wpQuiet_nil ?_
          intro _ hw'
          obtain ⟨⟨dq, osq⟩, hw''⟩ := hw'
          subst hw''
          have hb := Lib.hid (HN.out.trans ((below_regrown wr dq osq).mono HN.out.size))
          clear d1 d2 i1 i2 ne g
          go_wp2_with fail
          exact ⟨⟨k + 1, by omega, rfl, by go_num, hb.out⟩, by simp [intOf]; omega⟩
        · have hkm : k = m := by omega
          subst hkm
          have x0 : wr.cell? ⟨xb, 0, none⟩ = some (.int .u64 (idC c)) := X9.out.cell 0
          have x1 : wr.cell? ⟨xb, 1, none⟩ = some (.int .i64 c.a) := X9.out.cell 1
          have x2 : wr.cell? ⟨xb, 2, none⟩ = some (.int .i64 c.m) := X9.out.cell 2
          have x3 : wr.cell? ⟨xb, 3, none⟩ = some (.int .i64 c.h) := X9.out.cell 3
          have x4 : wr.cell? ⟨xb, 4, none⟩ = some (.int .i64 c.d) := X9.out.cell 4
          have x5 : wr.cell? ⟨xb, 5, none⟩ = some (.int .i64 c.ho) := X9.out.cell 5
          have x6 : wr.cell? ⟨xb, 6, none⟩ = some (.bool c.rs) := X9.out.cell 6
          obtain ⟨-, -, -, -, -, -, -, c7, c8, c9, c10, c11, c12, -, -⟩ := CB.out _ _ C9.out
          have hti : ∀ w, (binOp .eql 25 (tmV c.a c.m c.h c.d) (tmV c.a c.m c.h c.d)).run Try.prog w = .ok (.bool true) w := fun w => by rw [run_eql_struct, t_equal, eqT_self]; rfl
          have HBN := Lib.hid (HB8.out.trans (HN.out.mono HB8.out.size))
          clear HN HB8 X9 B9 A9 C9 HP9 HCC HC F17 BS BO CS HA2 HXB HX CB HT
          go_wp2_with fail
          go_ret
          exact ⟨ret_bool (by simp), HBN.out⟩
end Go.Proofs.Ytiebiajpeocecaa
