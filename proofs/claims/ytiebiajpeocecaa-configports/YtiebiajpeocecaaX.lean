/- The document's example. -/
import Derived.Test.YtiebiajpeocecaaW
import Derived.Test.YtiebiajpeocecaaS
namespace Go.Proofs.Ytiebiajpeocecaa
open Go.RowKit Go.Sort

theorem wpList_load_want {T n : Nat} {d : TypeDesc} (hu : Try.prog.underlying T = some d) (hd : d.isRow = true) (hn : (Try.prog.info? T).map (·.size) = some n)
    {ops : Array Oper} {rest : List Oper} {op : Oper} {a : Act} {w : World} {Q : Exit → Act → World → Prop} (hw : Region.wanted op (yielded ops a.tmps) = true) (x : Operand) (ho : op.op = .load T x) {b o : Nat} (hx : a.eval x = .pointer (some ⟨b, o, none⟩)) {xs : Array Value}
    (hv : w.rangeAt b o xs.toList) (hz : xs.size = n) (h : wpList Try.prog ops Q rest (a.put op.dst (.agg xs)) w) : wpList Try.prog ops Q (op :: rest) a w :=
  BigFrame.wpList_want hw fun _ hK => wp_load_mid T x ho b o hx xs.toList d hv hu hd (by rw [hn]; simp [hz]) (hK _ _ (by simpa using h))
def exM (i : Nat) : Nat := if i = 0 then 2 else 0
theorem exM_lt (i : Nat) : exM i < 256 := by unfold exM; split <;> omega
theorem cost_ex : costP usualP 4636737291354636288 = 200000 := by decide +kernel
theorem bad_usual : badP usualP = false := by decide
theorem cfgE_ex : cfgE (usualC exM) (fun _ => usualP) 1 = 0 := by decide
theorem clamp_one : clampN 1 = 1 := by decide
theorem Own5.cells {w : World} {g n : Nat} {P : Nat → Pc} (h : Own5 w g n P) {i : Nat} (hi : i < n) : w.cell? ⟨g, i * 5, none⟩ = some (.int .i64 (P i).pr) ∧ w.cell? ⟨g, i * 5 + 1, none⟩ = some (.int .u32 (P i).co) ∧ w.cell? ⟨g, i * 5 + 2, none⟩ = some (.bool (P i).ed) ∧ w.cell? ⟨g, i * 5 + 3, none⟩ = some (.bool (P i).au) ∧ w.cell? ⟨g, i * 5 + 4, none⟩ = some (.int .i64 (P i).pt) := by
  obtain ⟨A, hv, _, h2⟩ := h
  exact ⟨(hv.cell _).trans (h2 i hi 0 (by omega)), (hv.cell _).trans (h2 i hi 1 (by omega)), (hv.cell _).trans (h2 i hi 2 (by omega)), (hv.cell _).trans (h2 i hi 3 (by omega)), (hv.cell _).trans (h2 i hi 4 (by omega))⟩
set_option maxRecDepth 20000 in
set_option maxHeartbeats 2000000 in
theorem lives_ok (w : World) : Calls Try.prog 6 #[] w fun e w' => e = .returned (.bool true) ∧ Below w.heap.size w w' := by
  have c0 : Calls Try.prog 7 #[.agg #[.int .u8 2, .int .u8 0, .int .u8 0, .int .u8 0, .int .u8 0, .int .u8 0], .int .i64 1] w _ := usualC_any exM 1 w
  rw [clamp_one] at c0
  have c1 := fun w => pathCost_any usualP 4636737291354636288 false w
  rw [cost_ex] at c1
  have c2 := fun (s : Value) (w : World) (h : QIn w s 1 (fun _ => usualP)) => checkC_any (usualC exM) s 1 (fun _ => usualP) w exM_lt h (by omega)
  simp only [cfgE_ex] at c2
  have CL := Lib.hid (fun (s' : Value) => (Cf.size (usualC exM) s'))
  have CO := Lib.hid (fun (s' : Value) (h : s'.oneCell' = true) => (Cf.one (usualC exM) h))
  have C14 := Lib.hid (fun (w1 : World) (b : Nat) (s : Value) (h : VarAt w1 b ((usualC exM).cells s) 28) => (show w1.cell? ⟨b, 14, none⟩ = some s from h.cell 14))
  generalize (usualC exM).cells = C at *
  go_enter Try.func6, Try.ntmps6
  go_wp2_with fail
  refine c0.mono ?_
  rintro e w1 ⟨g, rfl, hg, hO, hb⟩
  clear c0
  have HO := Lib.hid hO
  have HB := Lib.hid (hb.alloc hb.size (.cells zC 28))
  have hv := Lib.hid (var_new w1 zC 28)
  have hgl := hO.lt
  have hw := hb.size
  clear hO hb
  go_wp2_with (with_reducible refine stopS 28 _ _ rfl ?_)
  refine Lib.hid ?_
  refine wpList_store_whole sC rfl _ _ rfl (xs := C (.slice (some ⟨g, 0, none⟩) 1 1)) rfl rfl hv.out (CO.out _ rfl) (CL.out _) (by simp) ?_
  intro w5 hv5 hb5 ho5 _
  rw [putL_all _ _ (by rw [CL.out]; rfl)] at hv5
  have V := Lib.hid hv5
  have B5 := Lib.hid (hb5 w.heap.size w hw HB.out)
  have O5 := Lib.hid (show Own5 w5 g 1 (fun _ => usualP) by
    obtain ⟨A, hA, h1, h2⟩ := HO.out
    exact ⟨A, ho5 _ _ _ (by omega) (hA.alloc _), h1, h2⟩)
  clear hv5 hb5 ho5 HO HB hv
  have f14 := C14.out w5 _ _ V.out
  obtain ⟨p0, p1, p2, p3, p4⟩ := O5.out.cells (i := 0) (by omega)
  simp only [Nat.zero_mul, Nat.zero_add] at p0 p1 p2 p3 p4
  have ix : ∀ w, (Instr.indexAt 26 (.slice (some ⟨g, 0, none⟩) 1 1) (.int .i64 0)).run Try.prog w = .ok (.pointer (some ⟨g, 0, none⟩)) w := fun w => by go_simp
  go_wp2_with fail
  refine (c1 _).mono ?_
  rintro e w6 ⟨rfl, hb⟩
  have V6 := Lib.hid (V.out.below hb V.out.lt)
  have O6 := Lib.hid (O5.out.below hb O5.out.lt)
  have B6 := Lib.hid (B5.out.trans (hb.mono B5.out.size))
  clear f14 p0 p1 p2 p3 p4 ix hb V O5 B5 c1
  go_wp2_with (with_reducible refine stopL 28 _ rfl ?_)
  refine Lib.hid ?_
  refine wpList_load_want uC rfl sC (by rfl) _ rfl rfl (range_whole V6.out) (CL.out _) ?_
  go_wp2_with fail
  refine (c2 _ _ O6.out.in).mono ?_
  rintro e w7 ⟨rfl, hb⟩
  have B7 := Lib.hid (B6.out.trans (hb.mono B6.out.size))
  clear hb c2 V6 O6 B6
  go_wp2_with fail
  go_ret
  exact ⟨rfl, B7.out⟩
end Go.Proofs.Ytiebiajpeocecaa
