/- Contract of the law's same, where the two are alike. -/
import Derived.Test.YtlmdpaemhjcmbaaGreatDoorNd
import Derived.BigQuiet
namespace Go.Proofs.YtlmdpaemhjcmbaaGreatDoor
open Go.RowKit Go.Sort

theorem undP : Tryz.prog.underlying 58 = some (.struct (Tryz.prog.fieldsOf 58)) := by kernel_rfl
theorem heldP : Tryz.prog.stoodInHeld 58 = false := by kernel_rfl
theorem fieldsP : (Tryz.prog.fieldsOf 58).toList.map (fun f => (f.name, f.type, f.offset)) = [("Priority", 3, 0), ("Cost", 55, 1), ("Edge", 4, 2), ("AutoEdge", 4, 3), ("Point", 56, 4)] := by kernel_rfl
theorem undT : Tryz.prog.underlying 25 = some (.struct (Tryz.prog.fieldsOf 25)) := by kernel_rfl
theorem heldT : Tryz.prog.stoodInHeld 25 = false := by kernel_rfl
theorem fieldsT : (Tryz.prog.fieldsOf 25).toList.map (fun f => (f.name, f.type, f.offset)) = [("Age", 3, 0), ("Max", 3, 1), ("Hello", 3, 2), ("Delay", 3, 3)] := by kernel_rfl
section
variable (p : Pc) (a m h d : Int) (w : World)
theorem p_part0 : (part 3 p.cells 0).run Tryz.prog w = .ok (.int .i64 p.pr) w := by kernel_rfl
theorem p_part1 : (part 55 p.cells 1).run Tryz.prog w = .ok (.int .u32 p.co) w := by kernel_rfl
theorem p_part2 : (part 4 p.cells 2).run Tryz.prog w = .ok (.bool p.ed) w := by kernel_rfl
theorem p_part3 : (part 4 p.cells 3).run Tryz.prog w = .ok (.bool p.au) w := by kernel_rfl
theorem p_part4 : (part 56 p.cells 4).run Tryz.prog w = .ok (.int .i64 p.pt) w := by kernel_rfl
theorem t_part0 : (part 3 #[.int .i64 a, .int .i64 m, .int .i64 h, .int .i64 d] 0).run Tryz.prog w = .ok (.int .i64 a) w := by kernel_rfl
theorem t_part1 : (part 3 #[.int .i64 a, .int .i64 m, .int .i64 h, .int .i64 d] 1).run Tryz.prog w = .ok (.int .i64 m) w := by kernel_rfl
theorem t_part2 : (part 3 #[.int .i64 a, .int .i64 m, .int .i64 h, .int .i64 d] 2).run Tryz.prog w = .ok (.int .i64 h) w := by kernel_rfl
theorem t_part3 : (part 3 #[.int .i64 a, .int .i64 m, .int .i64 h, .int .i64 d] 3).run Tryz.prog w = .ok (.int .i64 d) w := by kernel_rfl
end
theorem p_same (p : Pc) (w : World) : (Op.equalIn 10000 58 p.val p.val).run Tryz.prog w = .ok true w := by
  rw [run_equalIn_struct w 9999 58 _ _ undP heldP]
  have hf := fieldsP
  generalize (Tryz.prog.fieldsOf 58).toList = fs at hf ⊢
  obtain ⟨f1, f2, f3, f4, f5, rfl⟩ : ∃ f1 f2 f3 f4 f5, fs = [f1, f2, f3, f4, f5] := by
    have hl := congrArg List.length hf
    simp at hl
    match fs, hl with
    | [f1, f2, f3, f4, f5], _ => exact ⟨f1, f2, f3, f4, f5, rfl⟩
  simp only [List.map_cons, List.map_nil, List.cons.injEq, Prod.mk.injEq, and_true] at hf
  obtain ⟨⟨n1, t1, o1⟩, ⟨n2, t2, o2⟩, ⟨n3, t3, o3⟩, ⟨n4, t4, o4⟩, ⟨n5, t5, o5⟩⟩ := hf
  have i1 := fun x y w => run_equalIn_int (P := Tryz.prog) w 9998 3 .i64 .i64 x y (by kernel_rfl)
  have i2 := fun x y w => run_equalIn_int (P := Tryz.prog) w 9998 55 .u32 .u32 x y (by kernel_rfl)
  have i3 := fun x y w => run_equalIn_int (P := Tryz.prog) w 9998 56 .i64 .i64 x y (by kernel_rfl)
  have i4 := fun x y w => run_equalIn_bool (P := Tryz.prog) w 9998 4 x y (by kernel_rfl)
  simp only [Op.eqFields, n1, n2, n3, n4, n5, t1, t2, t3, t4, t5, o1, o2, o3, o4, o5]
  simp only [Sem.run_bind, p_part0, p_part1, p_part2, p_part3, p_part4, i1, i2, i3, i4, Result.andThen_ok, Sem.run_ite, beq_self_eq_true]
  simp
theorem p_neq (p : Pc) (w : World) : (binOp .neq 58 p.val p.val).run Tryz.prog w = .ok (.bool false) w := by
  rw [run_neq_struct, p_same]; rfl
theorem gP : Tryz.prog.eqGuardType Tryz.prog.depth 58 = false := by kernel_rfl
theorem t_same (a m h d : Int) (w : World) : (Op.equalIn 10000 25 (.agg #[.int .i64 a, .int .i64 m, .int .i64 h, .int .i64 d]) (.agg #[.int .i64 a, .int .i64 m, .int .i64 h, .int .i64 d])).run Tryz.prog w = .ok true w := by
  rw [run_equalIn_struct w 9999 25 _ _ undT heldT]
  have hf := fieldsT
  generalize (Tryz.prog.fieldsOf 25).toList = fs at hf ⊢
  obtain ⟨f1, f2, f3, f4, rfl⟩ : ∃ f1 f2 f3 f4, fs = [f1, f2, f3, f4] := by
    have hl := congrArg List.length hf
    simp at hl
    match fs, hl with
    | [f1, f2, f3, f4], _ => exact ⟨f1, f2, f3, f4, rfl⟩
  simp only [List.map_cons, List.map_nil, List.cons.injEq, Prod.mk.injEq, and_true] at hf
  obtain ⟨⟨n1, t1, o1⟩, ⟨n2, t2, o2⟩, ⟨n3, t3, o3⟩, ⟨n4, t4, o4⟩⟩ := hf
  have i1 := fun x y w => run_equalIn_int (P := Tryz.prog) w 9998 3 .i64 .i64 x y (by kernel_rfl)
  simp only [Op.eqFields, n1, n2, n3, n4, t1, t2, t3, t4, o1, o2, o3, o4]
  simp only [Sem.run_bind, t_part0, t_part1, t_part2, t_part3, i1, Result.andThen_ok, Sem.run_ite, beq_self_eq_true]
  simp
theorem t_eql (a m h d : Int) (w : World) : (binOp .eql 25 (.agg #[.int .i64 a, .int .i64 m, .int .i64 h, .int .i64 d]) (.agg #[.int .i64 a, .int .i64 m, .int .i64 h, .int .i64 d])).run Tryz.prog w = .ok (.bool true) w := by
  rw [run_eql_struct, t_same]; rfl
theorem gT : Tryz.prog.eqGuardType Tryz.prog.depth 25 = false := by kernel_rfl
theorem m_eql (x : Nat → Nat) (w : World) : (binOp .eql 23 (macV x) (macV x)).run Tryz.prog w = .ok (.bool true) w := by
  go_simp
  rw [mac_same]
  rfl
theorem below_drewN' {B : Nat} {w w' : World} (h : Below B w w') (n : Nat) : Below B w (w'.drewN n) := ⟨h.os, h.tape, h.output, h.size, h.block⟩
set_option maxRecDepth 20000 in
set_option maxHeartbeats 2000000 in
theorem equal_any (s1 s2 : Value) (n : Nat) (P : Nat → Pc) (w : World) (h1 : QIn w s1 n P) (h2 : QIn w s2 n P) (hn : n ≤ 20) :
    Calls Tryz.prog 24 #[s1, s2] w fun e w' => e = .returned (.bool true) ∧ Below w.heap.size w w' := by
  obtain ⟨a1, c1, rfl, _, h1⟩ := h1
  obtain ⟨a2, c2, rfl, _, h2⟩ := h2
  have H1 := Lib.hid h1
  have H2 := Lib.hid h2
  clear h1 h2
  have g58 := gP
  go_enter Tryz.func24, Tryz.ntmps24
  go_wp2_with fail
  go_loopw [13] (fun i wr => ∃ k : Nat, k ≤ n ∧ i = .int .i64 k ∧ Below w.heap.size w wr) (fun i _ => n - (intOf i).toNat)
  case atStart => exact ⟨0, Nat.zero_le _, rfl, Below.refl _ _⟩
  case round =>
    obtain ⟨k, hk, rfl, hb⟩ := hrel
    have HB := Lib.hid hb
    clear hb
    by_cases hlt : k < n
    · obtain ⟨b, o, rfl, hc⟩ := H1.out (by omega)
      obtain ⟨b', o', rfl, hc'⟩ := H2.out (by omega)
      have hix := idx26 b o n c1 k hlt
      have hix' := idx26 b' o' n c2 k hlt
      have hbl : b < w.heap.size := block_lt_of_cell (hc 0 (by omega) 0 (by omega))
      have hbl' : b' < w.heap.size := block_lt_of_cell (hc' 0 (by omega) 0 (by omega))
      have f0 : wr.cell? ⟨b, o + k * 5, none⟩ = some (.int .i64 (P k).pr) := by rw [HB.out.cell (by exact hbl)]; exact hc k hlt 0 (by omega)
      have f1 : wr.cell? ⟨b, o + k * 5 + 1, none⟩ = some (.int .u32 (P k).co) := by rw [HB.out.cell (by exact hbl)]; exact hc k hlt 1 (by omega)
      have f2 : wr.cell? ⟨b, o + k * 5 + 2, none⟩ = some (.bool (P k).ed) := by rw [HB.out.cell (by exact hbl)]; exact hc k hlt 2 (by omega)
      have f3 : wr.cell? ⟨b, o + k * 5 + 3, none⟩ = some (.bool (P k).au) := by rw [HB.out.cell (by exact hbl)]; exact hc k hlt 3 (by omega)
      have f4 : wr.cell? ⟨b, o + k * 5 + 4, none⟩ = some (.int .i64 (P k).pt) := by rw [HB.out.cell (by exact hbl)]; exact hc k hlt 4 (by omega)
      have e0 : wr.cell? ⟨b', o' + k * 5, none⟩ = some (.int .i64 (P k).pr) := by rw [HB.out.cell (by exact hbl')]; exact hc' k hlt 0 (by omega)
      have e1 : wr.cell? ⟨b', o' + k * 5 + 1, none⟩ = some (.int .u32 (P k).co) := by rw [HB.out.cell (by exact hbl')]; exact hc' k hlt 1 (by omega)
      have e2 : wr.cell? ⟨b', o' + k * 5 + 2, none⟩ = some (.bool (P k).ed) := by rw [HB.out.cell (by exact hbl')]; exact hc' k hlt 2 (by omega)
      have e3 : wr.cell? ⟨b', o' + k * 5 + 3, none⟩ = some (.bool (P k).au) := by rw [HB.out.cell (by exact hbl')]; exact hc' k hlt 3 (by omega)
      have e4 : wr.cell? ⟨b', o' + k * 5 + 4, none⟩ = some (.int .i64 (P k).pt) := by rw [HB.out.cell (by exact hbl')]; exact hc' k hlt 4 (by omega)
      have hq := p_same (P k)
      clear hc hc' hbl hbl'
      generalize P k = p at *
      obtain ⟨p0, p1, p2, p3, p4⟩ := p
      simp only at *
      go_wp2_with fail
      go_quiet (fail)
      go_wp2_with fail
      exact ⟨⟨k + 1, by omega, by go_num, below_drewN' HB.out _⟩, by simp [intOf]; omega⟩
    · go_wp2_with fail
      go_ret
      exact ⟨rfl, HB.out⟩
set_option maxRecDepth 20000 in
set_option maxHeartbeats 2000000 in
theorem same_any (c : Cf) (s1 s2 : Value) (n : Nat) (P : Nat → Pc) (w : World) (h1 : QIn w s1 n P) (h2 : QIn w s2 n P) (hn : n ≤ 20) :
    Calls Tryz.prog 12 #[.agg (c.cells s1), .agg (c.cells s2)] w fun e w' => e = .returned (.bool true) ∧ Below w.heap.size w w' := by
  have C1 := (var_new w (c.cells s1) 28).alloc (.cells (c.cells s2) 28)
  have C2 : VarAt ((w.alloc (.cells (c.cells s1) 28)).alloc (.cells (c.cells s2) 28)) (w.heap.size + 1) (c.cells s2) 28 := by
    have := var_new (w.alloc (.cells (c.cells s1) 28)) (c.cells s2) 28
    rwa [alloc_size] at this
  have hb : Below w.heap.size w ((w.alloc (.cells (c.cells s1) 28)).alloc (.cells (c.cells s2) 28)) := ((Below.refl w.heap.size w).alloc (Nat.le_refl _) _).alloc (by rw [alloc_size]; omega) _
  have hc := Lib.hid (equal_any s1 s2 n P _ (h1.below hb) (h2.below hb) hn)
  have HB := Lib.hid hb
  obtain ⟨x0, x1, x2, x3, x4, x5, pr, ca, cm, ch, cd, ho, rs, ag, ps⟩ := C1.box
  obtain ⟨x0', x1', x2', x3', x4', x5', pr', ca', cm', ch', cd', ho', rs', ag', ps'⟩ := C2.box
  have em := mac_same c.x
  have et := t_same c.a c.m c.h c.d
  have eg := g23
  have eT := gT
  obtain ⟨a1, c1, rfl, _⟩ := h1
  obtain ⟨a2, c2, rfl, _⟩ := h2
  clear hb C1 C2
  generalize c.cells (.slice a1 n c1) = X1 at *
  generalize c.cells (.slice a2 n c2) = X2 at *
  obtain ⟨x, cpr, c_a, c_m, c_h, c_d, c_o, c_r, c_g⟩ := c
  simp only at *
  go_enter Tryz.func12, Tryz.ntmps12
  go_wp2_with fail
  refine hc.out.mono ?_
  rintro e w1 ⟨rfl, hb1⟩
  have HB1 := Lib.hid (HB.out.trans (hb1.mono HB.out.size))
  clear hb1
  go_wp2_with fail
  go_ret
  exact ⟨rfl, HB1.out⟩
end Go.Proofs.YtlmdpaemhjcmbaaGreatDoor
