/- Contract of Same, of two bridges that are alike. -/
import Derived.Test.YtidgdanhnpfpmaaCb
namespace Go.Proofs.Ytidgdanhnpfpmaa
open Go.RowKit Go.Sort

theorem eqV_self (r c b p : Int) : eqV r c b p r c b p = true := by simp [eqV]
theorem eqT_self (a m h d : Int) : eqT a m h d a m h d = true := by simp [eqT]
theorem neV_self (r c b p : Int) (w : World) : (binOp .neq 30 (vV r c b p) (vV r c b p)).run Try.prog w = .ok (.bool false) w := by rw [run_neq_struct, v_equal, eqV_self]; rfl
theorem neT_self (a m h d : Int) (w : World) : (binOp .neq 25 (tmV a m h d) (tmV a m h d)).run Try.prog w = .ok (.bool false) w := by rw [run_neq_struct, t_equal, eqT_self]; rfl
theorem idx32b (pb n cap k : Nat) (h : k < n) (w : World) : (Instr.indexAt 32 (.slice (some ⟨pb, 0, none⟩) n cap) (.int .i64 k)).run Try.prog w = .ok (.pointer (some ⟨pb, k * 90, none⟩)) w := by
  go_simp
theorem quiet_load {ops : Array Oper} {C : World → Prop} {Q : Act → Prop} {a : Act} {op : Oper} {rest : List Oper} (hg : op.guard = none) (x : Operand) (ho : op.op = .load 50 x) {b o : Nat} (hx : a.eval x = .pointer (some ⟨b, o, none⟩)) {xs : Array Value}
    (hC : ∀ w, C w → w.rangeAt b o xs.toList) (hz : xs.size = 90) (h : wpQuiet Try.prog ops C Q rest (a.put op.dst (.agg xs))) : wpQuiet Try.prog ops C Q (op :: rest) a := by
  refine BigFrame.wpQuiet_want (by simp [Region.wanted, hg]) fun K hK => ⟨.agg xs, fun w hw => ?_, hK _ h⟩
  unfold Oper.quietAt execOp
  simp only [ho, hx, Instr.loadAt, Instr.sureAddr, Sem.run_bind, Sem.run_pure, Result.andThen_ok, run_loadVar_mid (P := Try.prog) w b o 50 xs.toList _ (hC w hw) uP rfl (by rw [sP]; simp [hz])]
  exact ⟨rfl, by simp⟩
set_option maxRecDepth 20000 in
set_option maxHeartbeats 2000000 in
theorem same_any (B : Bd) (p1 p2 n c1 c2 : Nat) (A1 A2 : Array Value) (XS : Nat → Array Value) (w : World) (h1 : VarAt w p1 A1 50) (h2 : VarAt w p2 A2 50) (s1 : ∀ i, i < n → Sub A1 (i * 90) (XS i)) (s2 : ∀ i, i < n → Sub A2 (i * 90) (XS i)) (ht : ∀ i, i < n → Typed (XS i)) (hn : n ≤ 20) :
    Calls Try.prog 10 #[.agg (B.cells (.slice (some ⟨p1, 0, none⟩) n c1)), .agg (B.cells (.slice (some ⟨p2, 0, none⟩) n c2))] w fun e w' => e = .returned (.bool true) ∧ Below w.heap.size w w' := by
  have v1 := Lib.hid ((var_new w (B.cells (.slice (some ⟨p1, 0, none⟩) n c1)) 34).alloc (.cells (B.cells (.slice (some ⟨p2, 0, none⟩) n c2)) 34))
  have v2 := Lib.hid (show VarAt ((w.alloc (.cells (B.cells (.slice (some ⟨p1, 0, none⟩) n c1)) 34)).alloc (.cells (B.cells (.slice (some ⟨p2, 0, none⟩) n c2)) 34)) (w.heap.size + 1) (B.cells (.slice (some ⟨p2, 0, none⟩) n c2)) 34 by
    have := var_new (w.alloc (.cells (B.cells (.slice (some ⟨p1, 0, none⟩) n c1)) 34)) (B.cells (.slice (some ⟨p2, 0, none⟩) n c2)) 34
    rwa [alloc_size] at this)
  have P1 := Lib.hid ((h1.alloc (.cells (B.cells (.slice (some ⟨p1, 0, none⟩) n c1)) 34)).alloc (.cells (B.cells (.slice (some ⟨p2, 0, none⟩) n c2)) 34))
  have P2 := Lib.hid ((h2.alloc (.cells (B.cells (.slice (some ⟨p1, 0, none⟩) n c1)) 34)).alloc (.cells (B.cells (.slice (some ⟨p2, 0, none⟩) n c2)) 34))
  have hB := Lib.hid (((Below.refl w.heap.size w).alloc (Nat.le_refl _) (.cells (B.cells (.slice (some ⟨p1, 0, none⟩) n c1)) 34)).alloc (by simp) (.cells (B.cells (.slice (some ⟨p2, 0, none⟩) n c2)) 34))
  have j1 := neV_self B.r B.c B.b B.p
  have j2 := neT_self B.a B.m B.h B.d
  have j3 := neT_self B.ra B.rm B.rh B.rd
  have S1 := Lib.hid s1
  have S2 := Lib.hid s2
  have HT := Lib.hid ht
  clear h1 h2 s1 s2 ht
  go_enter Try.func10, Try.ntmps10
  go_wp2_with fail
  generalize (w.alloc (.cells (B.cells (.slice (some ⟨p1, 0, none⟩) n c1)) 34)).alloc (.cells (B.cells (.slice (some ⟨p2, 0, none⟩) n c2)) 34) = W at *
  clear j1 j2 j3
  go_loopw [5] (fun i wr => ∃ k : Nat, k ≤ n ∧ i = .int .i64 k ∧ Below W.heap.size W wr) (fun i _ => n - (intOf i).toNat)
  case atStart => exact ⟨0, Nat.zero_le _, rfl, Below.refl _ _⟩
  case round =>
    obtain ⟨k, hk, rfl, hnx⟩ := hrel
    have V1 := Lib.hid (v1.out.below hnx v1.out.lt)
    have V2 := Lib.hid (v2.out.below hnx v2.out.lt)
    have Q1 := Lib.hid (P1.out.below hnx P1.out.lt)
    have Q2 := Lib.hid (P2.out.below hnx P2.out.lt)
    have HN := Lib.hid hnx
    clear hnx
    have c17 : wr.cell? ⟨w.heap.size, 17, none⟩ = some (.slice (some ⟨p1, 0, none⟩) n c1) := V1.out.cell 17
    by_cases hlt : k < n
    · have d1 : ∀ d os, (grow (redrawn wr d) os).cell? ⟨w.heap.size, 17, none⟩ = some (.slice (some ⟨p1, 0, none⟩) n c1) := fun d os => (V1.out.grown d os).cell 17
      have d2 : ∀ d os, (grow (redrawn wr d) os).cell? ⟨w.heap.size + 1, 17, none⟩ = some (.slice (some ⟨p2, 0, none⟩) n c2) := fun d os => (V2.out.grown d os).cell 17
      have i1 := idx32b p1 n c1 k hlt
      have i2 := idx32b p2 n c2 k hlt
      have ne := port_neq (HT.out k hlt)
      have g := gP
      go_wp2_with fail
      refine wp_region_quiet_below (by kernel_rfl) (by kernel_rfl) ?_
      iterate 4 (go_big_quiet_step (fail))
      refine quiet_load rfl _ rfl rfl (fun w9 ⟨p9, e9⟩ => by rw [e9]; exact range_port (Q1.out.grown _ _) (S1.out k hlt) (HT.out k hlt).1) (HT.out k hlt).1 ?_
      simp only [Act.put, List.setIfInBounds_toArray, List.set_cons_zero, List.set_cons_succ]
      iterate 4 (go_big_quiet_step (fail))
      refine quiet_load rfl _ rfl rfl (fun w9 ⟨p9, e9⟩ => by rw [e9]; exact range_port (Q2.out.grown _ _) (S2.out k hlt) (HT.out k hlt).1) (HT.out k hlt).1 ?_
      simp only [Act.put, List.setIfInBounds_toArray, List.set_cons_zero, List.set_cons_succ]
      go_big_quiet_step (fail)
      refine wpQuiet_nil ?_
      intro _ hw'
      obtain ⟨⟨dq, osq⟩, hw''⟩ := hw'
      subst hw''
      have hb := Lib.hid (HN.out.trans ((below_regrown wr dq osq).mono HN.out.size))
      clear d1 d2 i1 i2 ne g c17
      go_wp2_with fail
      exact ⟨⟨k + 1, by omega, by go_num, hb.out⟩, by simp [intOf]; omega⟩
    · go_wp2_with fail
      go_ret
      exact ⟨rfl, hB.out.trans (HN.out.mono hB.out.size)⟩
end Go.Proofs.Ytidgdanhnpfpmaa
