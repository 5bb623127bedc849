/- Contracts of the law's of and lives. -/
import Derived.Test.YtlmdpaemhjcmbaaGreatDoorDRe
namespace Go.Proofs.YtlmdpaemhjcmbaaGreatDoor.Cd
open Go.RowKit Go.Sort Go.Lib

theorem Calls.regrown_of {P : Program} {f : FuncId} {args : Array Value} {w : World} {d : Nat} {os : Array Obj} {v : Value}
    (h : Calls P f args (grow (redrawn w d) os) fun e w' => e = .returned v ∧ Below (grow (redrawn w d) os).heap.size (grow (redrawn w d) os) w') : Calls P f args (grow (redrawn w d) os) fun e w' => e = .returned v ∧ ∃ p : Regrown, w' = grow (redrawn w p.d) p.os :=
  h.mono fun _ _ ⟨he, hb⟩ => ⟨he, regrown_of_below (below_next (below_regrown w d os) hb)⟩
theorem CA.grown {w : World} {b : Nat} {xs : Array Value} {t : TypeId} (h : CA w b xs t) (d : Nat) (os : Array Obj) : CA (grow (redrawn w d) os) b xs t := h.below (below_regrown w d os) h.lt
theorem quiet_load26 {ops : Array Oper} {C : World → Prop} {Q : Act → Prop} {a : Act} {op : Oper} {rest : List Oper} (hg : Region.wanted op (yielded ops a.tmps) = true) (x : Operand) (ho : op.op = .load 33 x) {b : Nat} (hx : a.eval x = .pointer (some ⟨b, 0, none⟩)) {c : Cm}
    (hC : ∀ w, C w → CA w b c.cells 33) (h : wpQuiet Tryz.prog ops C Q rest (a.put op.dst (.agg c.cells))) : wpQuiet Tryz.prog ops C Q (op :: rest) a := by
  refine BigFrame.wpQuiet_want hg fun K hK => ⟨.agg c.cells, fun w hw => ?_, hK _ h⟩
  unfold Oper.quietAt execOp
  simp only [ho, hx, Instr.loadAt, Instr.sureAddr, Sem.run_bind, Sem.run_pure, Result.andThen_ok, run_loadVar_mid (P := Tryz.prog) w b 0 33 c.cells.toList _ (range_whole (hC w hw)) u26 rfl (by rw [s26]; rfl)]
  exact ⟨rfl, by simp⟩
theorem quiet_load32 {ops : Array Oper} {C : World → Prop} {Q : Act → Prop} {a : Act} {op : Oper} {rest : List Oper} (hg : Region.wanted op (yielded ops a.tmps) = true) (x : Operand) (ho : op.op = .load 36 x) {b : Nat} (hx : a.eval x = .pointer (some ⟨b, 0, none⟩)) {c : Cm}
    (hC : ∀ w, C w → CA w b c.cells 36) (h : wpQuiet Tryz.prog ops C Q rest (a.put op.dst (.agg c.cells))) : wpQuiet Tryz.prog ops C Q (op :: rest) a := by
  refine BigFrame.wpQuiet_want hg fun K hK => ⟨.agg c.cells, fun w hw => ?_, hK _ h⟩
  unfold Oper.quietAt execOp
  simp only [ho, hx, Instr.loadAt, Instr.sureAddr, Sem.run_bind, Sem.run_pure, Result.andThen_ok, run_loadVar_mid (P := Tryz.prog) w b 0 36 c.cells.toList _ (range_whole (hC w hw)) u32 rfl (by rw [s32]; rfl)]
  exact ⟨rfl, by simp⟩
set_option maxRecDepth 20000 in
set_option maxHeartbeats 1000000 in
theorem of_any (c : Cm) (w : World) : Calls Tryz.prog 7 #[.agg c.cells] w fun e w' => e = .returned (.agg c.cells) ∧ Below w.heap.size w w' := by
  have hb : ∀ o, Below w.heap.size w ((w.alloc (.cells c.cells 33)).alloc o) := fun o => (box_below w _).alloc (by rw [alloc_size]; omega) _
  have v : ∀ o, CA ((w.alloc (.cells c.cells 33)).alloc o) w.heap.size c.cells 33 := fun o => (var_new w c.cells 33).alloc o
  have k0 : ∀ o, ((w.alloc (.cells c.cells 33)).alloc o).cell? ⟨w.heap.size, 0, none⟩ = some (.int .i64 c.wh) := fun o => (v o).cell 0
  have k1 : ∀ o, ((w.alloc (.cells c.cells 33)).alloc o).cell? ⟨w.heap.size, 1, none⟩ = some (.int .i64 c.po) := fun o => (v o).cell 1
  have k2 : ∀ o, ((w.alloc (.cells c.cells 33)).alloc o).cell? ⟨w.heap.size, 2, none⟩ = some (.int .i64 c.nn) := fun o => (v o).cell 2
  have k3 : ∀ o, ((w.alloc (.cells c.cells 33)).alloc o).cell? ⟨w.heap.size, 3, none⟩ = some (.bool c.on) := fun o => (v o).cell 3
  have k4 : ∀ o, ((w.alloc (.cells c.cells 33)).alloc o).cell? ⟨w.heap.size, 4, none⟩ = some (.int .u8 (c.x 0)) := fun o => (v o).cell 4
  have k5 : ∀ o, ((w.alloc (.cells c.cells 33)).alloc o).cell? ⟨w.heap.size, 5, none⟩ = some (.int .u8 (c.x 1)) := fun o => (v o).cell 5
  have k6 : ∀ o, ((w.alloc (.cells c.cells 33)).alloc o).cell? ⟨w.heap.size, 6, none⟩ = some (.int .u8 (c.x 2)) := fun o => (v o).cell 6
  have k7 : ∀ o, ((w.alloc (.cells c.cells 33)).alloc o).cell? ⟨w.heap.size, 7, none⟩ = some (.int .u8 (c.x 3)) := fun o => (v o).cell 7
  have k8 : ∀ o, ((w.alloc (.cells c.cells 33)).alloc o).cell? ⟨w.heap.size, 8, none⟩ = some (.int .u8 (c.x 4)) := fun o => (v o).cell 8
  have k9 : ∀ o, ((w.alloc (.cells c.cells 33)).alloc o).cell? ⟨w.heap.size, 9, none⟩ = some (.int .u8 (c.x 5)) := fun o => (v o).cell 9
  have HB := Lib.hid hb
  clear v hb
  go_enter Tryz.func7, Tryz.ntmps7
  go_wp2_with fail
  exact bodyPost_ret (v := .agg c.cells) (by simp [results, Tryz.results7, go_sem, Cm.cells]) rfl ⟨rfl, HB.out _⟩

/-- The chapter's example. -/
def exC : Cm := ⟨8, 2, 20000, false, fun _ => 0⟩
theorem exC_rt : Rt exC := by
  refine ⟨by decide, by decide, fun _ => (show (0 : Nat) < 256 by omega), fun _ _ => rfl, ?_, ?_, fun _ => rfl, fun _ _ => rfl, by decide, by decide, by decide, by decide, ?_⟩
  · intro h; exact absurd (by decide) h
  · intro h; exact absurd (by decide) h
  · intro h; exact absurd h (by decide)
theorem exC_tx : tx exC = [112, 111, 114, 116, 32, 99, 111, 115, 116, 32, 50, 32, 50, 48, 48, 48, 48] := by
  have h1 : itoa 2 = [50] := by show itoa ((2 : Nat) : Int) = _; rw [itoa_nat, decDigits_one (by omega)]; rfl
  have h2 : itoa 20000 = [50, 48, 48, 48, 48] := by
    show itoa ((20000 : Nat) : Int) = _
    rw [itoa_nat, dec_big (by omega), dec_big (by omega), dec_big (by omega), decDigits_two (by omega) (by omega)]; rfl
  have h4 : (fm 8).map up = [[80], [78]] := by decide
  have h5 : hd 8 = [[112, 111, 114, 116], [99, 111, 115, 116]] := by decide
  have h3 : wds exC = [[112, 111, 114, 116], [99, 111, 115, 116], itoa exC.po, itoa exC.nn] := by
    unfold wds pz
    rw [show exC.wh.toNat = 8 from rfl, List.map_append, map_hd ⟨8, by omega⟩ exC, h4]
    show hd 8 ++ _ = _
    rw [h5]
    simp only [List.map_cons, List.map_nil, wdP, wdN]; rfl
  unfold tx
  rw [h3, show exC.po = 2 from rfl, show exC.nn = 20000 from rfl, h1, h2]; rfl
set_option maxRecDepth 20000 in
set_option maxHeartbeats 1000000 in
theorem lives_any (w : World) (he : Env w) : Calls Tryz.prog 5 #[] w fun e w' => e = .returned (.bool true) ∧ Below w.heap.size w w' := by
  have cp := parse_any (tx exC) w he
  have hps := PS_tx exC_rt
  have ct := Lib.hid (fun w' (he : Env w') => textCm_any exC exC_rt.fit w' he)
  rw [tEnd_ok exC_rt] at ct
  unfold PEnd at cp
  rw [hps] at cp
  simp only at cp
  rw [exC_tx] at cp ct
  have hq : ∀ w, (binOp .eql 33 (.agg exC.cells) (.agg #[.int .i64 8, .int .i64 2, .int .i64 20000, .bool false, .int .u8 0, .int .u8 0, .int .u8 0, .int .u8 0, .int .u8 0, .int .u8 0])).run Tryz.prog w = .ok (.bool true) w := fun w => by
    have := cm_eql26 exC exC w
    rw [eqC_self] at this
    exact this
  have hg := cm_g26
  have E := Lib.hid he
  clear he hps
  generalize exC = x at *
  go_enter Tryz.func5, Tryz.ntmps5
  go_wp2_with fail
  refine cp.mono ?_
  rintro e w1 ⟨rfl, hb⟩
  have HB1 := Lib.hid hb
  clear cp hb
  go_wp2_with (with_reducible refine stopS 33 (.tmp 1) (.tmp 7) rfl ?_)
  refine Lib.hid ?_
  refine wp_store26 rfl _ _ rfl x rfl rfl (var_new w1 (zc 0).cells 33) ?_
  intro w2 hv2 hb2 _ _
  have V2 := Lib.hid hv2
  have HB2 := Lib.hid (hb2 w.heap.size w HB1.out.size (below_next HB1.out (box_below w1 _)))
  clear hv2 hb2
  go_wp2_with (with_reducible refine stopL 33 (.tmp 1) rfl ?_)
  refine Lib.hid ?_
  refine wp_load26 rfl _ rfl rfl V2.out ?_
  go_wp2_with fail
  refine (ct.out _ (E.out.below HB2.out)).mono ?_
  rintro e w3 ⟨rfl, hb3⟩
  have V3 := Lib.hid (V2.out.below hb3 V2.out.lt)
  have HB3 := Lib.hid (below_next HB2.out hb3)
  clear hb3 ct
  go_wp2_with (with_reducible refine stopL 33 (.tmp 1) rfl ?_)
  refine Lib.hid ?_
  refine wp_load26w (by kernel_rfl) _ rfl rfl V3.out ?_
  go_wp2_with fail
  go_ret
  exact ⟨rfl, HB3.out⟩
end Go.Proofs.YtlmdpaemhjcmbaaGreatDoor.Cd
