/- ConfigChecks' call. -/
import Derived.Test.YtiebiajpeocecaaX
import Derived.Test.YtiebiajpeocecaaE
import Derived.Test.YtiebiajpeocecaaRb
namespace Go.Proofs.Ytiebiajpeocecaa
open Go.RowKit Go.Sort

theorem checks_long (c : Cf) (a : Option Addr) (n cap : Nat) (x : Nat → Nat) (k : Int) (w : World) (hn : 100 < n) :
    Calls Try.prog 3 #[.agg (c.cells (.slice a n cap)), macV x, .int .i64 k] w fun e w' => e = .returned (.bool true) ∧ Below w.heap.size w w' := by
  have v0 := (var_new w (c.cells (.slice a n cap)) 28).alloc (macO x 23)
  have F := Lib.hid (fun (w1 : World) (h : Below ((w.alloc (.cells (c.cells (.slice a n cap)) 28)).alloc (macO x 23)).heap.size ((w.alloc (.cells (c.cells (.slice a n cap)) 28)).alloc (macO x 23)) w1) =>
    (show w1.cell? ⟨w.heap.size, 14, none⟩ = some (.slice a n cap) from (v0.below h v0.lt).cell 14))
  have HB := Lib.hid (((Below.refl w.heap.size w).alloc (Nat.le_refl _) (.cells (c.cells (.slice a n cap)) 28)).alloc (by rw [alloc_size]; omega) (macO x 23))
  have cl := lives_ok
  clear v0
  generalize c.cells = CC at *
  go_enter Try.func3, Try.ntmps3
  go_wp2_with fail
  refine (cl _).mono ?_
  rintro e w1 ⟨rfl, hb⟩
  have f0 := F.out w1 hb
  have HB1 := Lib.hid (HB.out.trans (hb.mono HB.out.size))
  clear hb HB F
  go_wp2_with fail
  refine (cl _).mono ?_
  rintro e w2 ⟨rfl, hb⟩
  have HB2 := Lib.hid (HB1.out.trans (hb.mono HB1.out.size))
  clear hb HB1
  go_wp2_with fail
  go_ret
  exact ⟨rfl, HB2.out⟩
abbrev usV : Value := .agg #[.int .i64 128, .int .u32 0, .bool false, .bool true, .int .i64 0]
theorem neq_usual (w : World) : (binOp .neq 34 usV usV).run Try.prog w = .ok (.bool false) w := by kernel_rfl
theorem Own5.usual {w : World} {g n : Nat} (h : Own5 w g n (fun _ => usualP)) {i : Nat} (hi : i < n) : w.cell? ⟨g, i * 5, none⟩ = some (.int .i64 128) ∧ w.cell? ⟨g, i * 5 + 1, none⟩ = some (.int .u32 0) ∧ w.cell? ⟨g, i * 5 + 2, none⟩ = some (.bool false) ∧ w.cell? ⟨g, i * 5 + 3, none⟩ = some (.bool true) ∧ w.cell? ⟨g, i * 5 + 4, none⟩ = some (.int .i64 0) := h.cells hi
theorem idx26z (g n cap k : Nat) (h : k < n) (w : World) : (Instr.indexAt 26 (.slice (some ⟨g, 0, none⟩) n cap) (.int .i64 k)).run Try.prog w = .ok (.pointer (some ⟨g, k * 5, none⟩)) w := by
  have := idx26 g 0 n cap k h w
  rwa [Nat.zero_add] at this
theorem Own5.kept {w w' : World} {g n b : Nat} {P : Nat → Pc} (h : Own5 w g n P) (hk : ∀ c ys t, c ≠ b → VarAt w c ys t → VarAt w' c ys t) (hb : g ≠ b) : Own5 w' g n P := by
  obtain ⟨A, hv, h1, h2⟩ := h
  exact ⟨A, hk _ _ _ hb hv, h1, h2⟩
theorem VarAt.grown {w : World} {b : Nat} {xs : Array Value} {t : TypeId} (h : VarAt w b xs t) (d : Nat) (os : Array Obj) : VarAt (grow (redrawn w d) os) b xs t := h.below (below_regrown w d os) h.lt
theorem quiet_load28 {ops : Array Oper} {C : World → Prop} {Q : Act → Prop} {a : Act} {op : Oper} {rest : List Oper} (hg : Region.wanted op (yielded ops a.tmps) = true) (x : Operand) (ho : op.op = .load 28 x) {b o : Nat} (hx : a.eval x = .pointer (some ⟨b, o, none⟩)) {xs : Array Value}
    (hC : ∀ w, C w → w.rangeAt b o xs.toList) (hz : xs.size = 15) (h : wpQuiet Try.prog ops C Q rest (a.put op.dst (.agg xs))) : wpQuiet Try.prog ops C Q (op :: rest) a := by
  refine BigFrame.wpQuiet_want hg fun K hK => ⟨.agg xs, fun w hw => ?_, hK _ h⟩
  unfold Oper.quietAt execOp
  simp only [ho, hx, Instr.loadAt, Instr.sureAddr, Sem.run_bind, Sem.run_pure, Result.andThen_ok, run_loadVar_mid (P := Try.prog) w b o 28 xs.toList _ (hC w hw) uC rfl (by rw [sC]; simp [hz])]
  exact ⟨rfl, by simp⟩
theorem eqT_usual (w : World) : (binOp .eql 25 (tmV 0 20 2 15) (tmV 0 20 2 15)).run Try.prog w = .ok (.bool true) w := by
  rw [run_eql_struct, t_equal, eqT_self]; rfl
set_option maxRecDepth 20000 in
set_option maxHeartbeats 4000000 in
theorem checks_short (c : Cf) (s : Value) (m : Nat) (P : Nat → Pc) (x : Nat → Nat) (k : Int) (w : World) (hc : ∀ i, c.x i < 256) (hx : ∀ i, x i < 256) (hs : QIn w s m P) (hm : m ≤ 100) :
    Calls Try.prog 3 #[.agg (c.cells s), macV x, .int .i64 k] w fun e w' => e = .returned (.bool true) ∧ Below w.heap.size w w' := by
  have v0 := (var_new w (c.cells s) 28).alloc (macO x 23)
  have v1 : VarAt ((w.alloc (.cells (c.cells s) 28)).alloc (macO x 23)) (w.heap.size + 1) (macC x) 23 := by
    have := var_new (w.alloc (.cells (c.cells s) 28)) (macC x) 23
    rwa [alloc_size] at this
  have hb0 := ((Below.refl w.heap.size w).alloc (Nat.le_refl _) (.cells (c.cells s) 28)).alloc (by rw [alloc_size]; omega) (macO x 23)
  have HS0 := Lib.hid hs
  have C0 := Lib.hid v0
  have M0 := Lib.hid v1
  have HB := Lib.hid hb0
  have cl := lives_ok
  have cu := usualC_any x k
  have hmx := run_max0 k
  have hmn := run_min8 k
  have hcl := clampN_le k
  have cC := Lib.hid (fun (w' : World) (h : QIn w' s m P) => And.intro (checkC_any c s m P w' hc h hm) (right_doc_any c s m P w' hc h))
  have cU := Lib.hid (fun (s' : Value) (n : Nat) (hn : n ≤ 100) (w' : World) (h : QIn w' s' n (fun _ => usualP)) => And.intro (checkC_any (usualC x) s' n (fun _ => usualP) w' hx h hn) (right_doc_any (usualC x) s' n (fun _ => usualP) w' hx h))
  clear v0 v1 hb0 hc hx
  have CB := Lib.hid (fun (w1 : World) (b : Nat) (q : VarAt w1 b (c.cells s) 28) => q.box)
  have CS := Lib.hid (Cf.size c s)
  obtain ⟨ad, cap, rfl, _⟩ := hs
  generalize c.cells (.slice ad m cap) = CC at *
  have UB := Lib.hid (fun (w1 : World) (b : Nat) (s' : Value) (q : VarAt w1 b ((usualC x).cells s') 28) => q.box)
  have US := Lib.hid (fun (s' : Value) => Cf.size (usualC x) s')
  have UO := Lib.hid (fun (s' : Value) (h : s'.oneCell' = true) => Cf.one (usualC x) h)
  have cY := Lib.hid (fun (ad : Addr) (n cap : Nat) (w : World) (h : QIn w (.slice (some ad) n cap) n (fun _ => usualP)) (hn : n ≤ 20) => copyC_any (usualC x) ad n cap (fun _ => usualP) w h hn)
  generalize (usualC x).cells = U at *
  generalize clampN k = n at *
  have cU2 := Lib.hid (fun (s' : Value) => cU.out s' n (by omega))
  clear cU
  generalize cfgE c P m = E1 at *
  generalize cfgE (usualC x) (fun _ => usualP) n = E2 at *
  generalize max k 0 = k0 at *
  go_enter Try.func3, Try.ntmps3
  go_wp2_with fail
  generalize (w.alloc (.cells CC 28)).alloc (macO x 23) = W at *
  refine (cl _).mono ?_
  rintro e w1 ⟨rfl, hb⟩
  have C1 := Lib.hid (C0.out.below hb C0.out.lt)
  have M1 := Lib.hid (M0.out.below hb M0.out.lt)
  have HB1 := Lib.hid (HB.out.trans (hb.mono HB.out.size))
  clear hb cl C0 M0 HB
  have f14 := (CB.out _ _ C1.out).ps
  have m0 : w1.cell? ⟨w.heap.size + 1, 0, none⟩ = some (.int .u8 (x 0)) := M1.out.cell 0
  have m1 : w1.cell? ⟨w.heap.size + 1, 1, none⟩ = some (.int .u8 (x 1)) := M1.out.cell 1
  have m2 : w1.cell? ⟨w.heap.size + 1, 2, none⟩ = some (.int .u8 (x 2)) := M1.out.cell 2
  have m3 : w1.cell? ⟨w.heap.size + 1, 3, none⟩ = some (.int .u8 (x 3)) := M1.out.cell 3
  have m4 : w1.cell? ⟨w.heap.size + 1, 4, none⟩ = some (.int .u8 (x 4)) := M1.out.cell 4
  have m5 : w1.cell? ⟨w.heap.size + 1, 5, none⟩ = some (.int .u8 (x 5)) := M1.out.cell 5
  go_wp2_with fail
  refine (cu _).mono ?_
  rintro e w2 ⟨g, rfl, hg, hO, hb⟩
  have hgl := hO.lt
  have C2 := Lib.hid (C1.out.below hb C1.out.lt)
  have M2 := Lib.hid (M1.out.below hb M1.out.lt)
  have O2 := Lib.hid hO
  have HB2 := Lib.hid (HB1.out.trans (hb.mono HB1.out.size))
  have Z2 := Lib.hid (var_new w2 zC 28)
  have hh2 : w.heap.size + 1 < w2.heap.size := M2.out.lt
  clear hb C1 M1 HB1 hO cu f14 m0 m1 m2 m3 m4 m5 hg
  go_wp2_with (with_reducible refine stopS 28 _ _ rfl ?_)
  refine Lib.hid ?_
  refine wpList_store_whole sC rfl _ _ rfl (xs := U (.slice (some ⟨g, 0, none⟩) n n)) rfl rfl Z2.out (UO.out _ rfl) (US.out _) (by simp) ?_
  intro w3 hv3 hb3 _ _
  rw [putL_all _ _ (by rw [US.out]; rfl)] at hv3
  have hd3 := hb3 w2.heap.size w2 (Nat.le_refl _) (box_below w2 (.cells zC 28))
  have V3 := Lib.hid hv3
  have C3 := Lib.hid (C2.out.below hd3 C2.out.lt)
  have M3 := Lib.hid (M2.out.below hd3 M2.out.lt)
  have O3 := Lib.hid (O2.out.below hd3 hgl)
  have HB3 := Lib.hid (HB2.out.trans (hd3.mono HB2.out.size))
  clear hv3 hb3 hd3 C2 M2 O2 HB2 Z2
  generalize w2.heap.size = ub at *
  have f14 := (UB.out _ _ _ V3.out).ps
  go_wp2_with fail
  clear f14 hmx hmn
  go_loopw [32] (fun i wr => ∃ j : Nat, j ≤ n ∧ i = .int .i64 j ∧ Below w3.heap.size w3 wr) (fun i _ => n - (intOf i).toNat)
  case atStart => exact ⟨0, Nat.zero_le _, rfl, Below.refl _ _⟩
  case round =>
    obtain ⟨j, hj, rfl, hnx⟩ := hrel
    have HN := Lib.hid hnx
    by_cases hlt : j < n
    · obtain ⟨p0, p1, p2, p3, p4⟩ := (O3.out.below hnx O3.out.lt).usual hlt
      have hix := idx26z g n n j hlt
      have ne := neq_usual
      have HN2 := Lib.hid (hnx.alloc hnx.size (.cells #[.int .i64 128, .int .u32 0, .bool false, .bool true, .int .i64 0] 34))
      clear hnx
      go_wp2_with fail
      exact ⟨⟨j + 1, by omega, by go_num, HN2.out⟩, by simp [intOf]; omega⟩
    · have hjn : j = n := by omega
      subst hjn
      have C4 := Lib.hid (C3.out.below hnx C3.out.lt)
      have M4 := Lib.hid (M3.out.below hnx M3.out.lt)
      have V4 := Lib.hid (V3.out.below hnx V3.out.lt)
      have O4 := Lib.hid (O3.out.below hnx O3.out.lt)
      have HB4 := Lib.hid (HB3.out.trans (hnx.mono HB3.out.size))
      clear hnx HN C3 M3 V3 O3 HB3
      go_wp2_with (with_reducible refine stopL 28 _ rfl ?_)
      refine Lib.hid ?_
      refine wpList_load_whole uC rfl sC rfl _ rfl rfl (range_whole V4.out) (US.out _) ?_
      go_wp2_with fail
      refine (cY.out _ _ _ _ O4.out.in (by omega)).mono ?_
      rintro e w5 ⟨g2, cp, rfl, hg2, hO2, hb⟩
      have C5 := Lib.hid (C4.out.below hb C4.out.lt)
      have M5 := Lib.hid (M4.out.below hb M4.out.lt)
      have V5 := Lib.hid (V4.out.below hb V4.out.lt)
      have O5 := Lib.hid (O4.out.below hb O4.out.lt)
      have HB5 := Lib.hid (HB4.out.trans (hb.mono HB4.out.size))
      have G5 := Lib.hid hO2
      have hg2l := hO2.lt
      have hug : ub < g2 := Nat.lt_of_lt_of_le V4.out.lt hg2
      have Z5 := Lib.hid (var_new w5 zC 28)
      have hsz5 : w.heap.size ≤ w5.heap.size := HB5.out.size
      clear hb hO2 hg2 C4 M4 V4 O4 HB4 cY
      go_wp2_with (with_reducible refine stopS 28 _ _ rfl ?_)
      refine Lib.hid ?_
      refine wpList_store_whole sC rfl _ _ rfl (xs := U (.slice (some ⟨g2, 0, none⟩) j cp)) rfl rfl Z5.out (UO.out _ rfl) (US.out _) (by simp) ?_
      intro w6 hv6 hb6 _ _
      rw [putL_all _ _ (by rw [US.out]; rfl)] at hv6
      have hd6 := hb6 w5.heap.size w5 (Nat.le_refl _) (box_below w5 (.cells zC 28))
      have X6 := Lib.hid hv6
      have C6 := Lib.hid (C5.out.below hd6 C5.out.lt)
      have M6 := Lib.hid (M5.out.below hd6 M5.out.lt)
      have V6 := Lib.hid (V5.out.below hd6 V5.out.lt)
      have O6 := Lib.hid (O5.out.below hd6 O5.out.lt)
      have G6 := Lib.hid (G5.out.below hd6 hg2l)
      have HB6 := Lib.hid (HB5.out.trans (hd6.mono hsz5))
      clear hv6 hb6 hd6 C5 M5 V5 O5 G5 HB5 Z5
      generalize w5.heap.size = xb at *
      have f14 := (UB.out _ _ _ X6.out).ps
      go_wp2_with fail
      clear f14
      go_loopw [45] (fun i w7 => ∃ q : Nat, q ≤ j ∧ i = .int .i64 q ∧ Below g2 w6 w7 ∧ VarAt w7 xb (U (.slice (some ⟨g2, 0, none⟩) j cp)) 28 ∧ ∃ A, VarAt w7 g2 A 34 ∧ j * 5 ≤ A.size) (fun i _ => j - (intOf i).toNat)
      case atStart =>
        obtain ⟨A, hA, hA1, _⟩ := G6.out
        exact ⟨0, Nat.zero_le _, rfl, Below.refl _ _, X6.out, A, hA, hA1⟩
      case round =>
        obtain ⟨q, hq, rfl, hnx, hX, A, hA, hA1⟩ := hrel
        have X7 := Lib.hid hX
        have A7 := Lib.hid hA
        have f14 := (UB.out _ _ _ hX).ps
        clear hX hA
        by_cases hlt2 : q < j
        · have hix := idx26z g2 j cp q hlt2
          obtain ⟨v9, f9⟩ := A7.out.some (k := q * 5 + 1) (by omega)
          have fz := A7.out.frozen
          have X8 := Lib.hid (X7.out.set_other (p := ⟨g2, q * 5 + 1, none⟩) (show xb ≠ g2 by omega) (.int .u32 9))
          have A8 := Lib.hid (A7.out.set (q * 5 + 1) (.int .u32 9))
          have HN8 := Lib.hid (hnx.setCell (p := ⟨g2, q * 5 + 1, none⟩) (Nat.le_refl _) (.int .u32 9))
          clear hnx X7 A7
          go_wp2_with fail
          exact ⟨⟨q + 1, by omega, by go_num, HN8.out, X8.out, _, A8.out, by simp only [Array.size_setIfInBounds]; exact hA1⟩, by simp [intOf]; omega⟩
        · have hqj : q = j := by omega
          subst hqj
          have C7 := Lib.hid (C6.out.below hnx (by omega))
          have M7 := Lib.hid (M6.out.below hnx (by omega))
          have V7 := Lib.hid (V6.out.below hnx hug)
          have O7 := Lib.hid (O6.out.below hnx (by omega))
          have HB7 := Lib.hid (HB6.out.trans (hnx.mono (by omega)))
          clear hnx C6 M6 V6 O6 HB6 X6 G6 f14
          have f14 := (UB.out _ _ _ V7.out).ps
          go_wp2_with fail
          clear f14
          go_loop [57] (fun i => ∃ r : Nat, r ≤ q ∧ i = .int .i64 r) (fun i => q - (intOf i).toNat)
          case atStart => exact ⟨0, Nat.zero_le _, rfl⟩
          case round =>
            obtain ⟨r, hr, rfl⟩ := hrel
            by_cases hlt3 : r < q
            · have hix := idx26z g q q r hlt3
              have f14 := (UB.out _ _ _ V7.out).ps
              have p1 := (O7.out.usual hlt3).2.1
              go_wp2_with fail
              refine ⟨⟨r + 1, by omega, by go_num⟩, by simp [intOf]; omega⟩
            · have hrq : r = q := by omega
              subst hrq
              have hsg := fun d os => HS0.out.below (HB7.out.trans ((below_regrown _ d os).mono HB7.out.size))
              have k9 := fun d os => Calls.regrown_of (cC.out _ (hsg d os)).1
              have k10 := fun d os => Calls.regrown_of (cC.out _ (hsg d os)).2
              have og := fun d os => (O7.out.below (below_regrown _ d os) O7.out.lt).in (cap := r)
              have l9 := fun d os => Calls.regrown_of (cU2.out _ _ (og d os)).1
              have l10 := fun d os => Calls.regrown_of (cU2.out _ _ (og d os)).2
              have cr := Lib.hid (fun d os => range_whole (C7.out.grown d os))
              have vr := Lib.hid (fun d os => range_whole (V7.out.grown d os))
              have vb := fun d os => UB.out _ _ _ (V7.out.grown d os)
              have g0 := fun d os => (vb d os).x0
              have g1 := fun d os => (vb d os).x1
              have g2' := fun d os => (vb d os).x2
              have g3 := fun d os => (vb d os).x3
              have g4 := fun d os => (vb d os).x4
              have g5 := fun d os => (vb d os).x5
              have g6 := fun d os => (vb d os).pr
              have g7 := fun d os => (vb d os).a
              have g8 := fun d os => (vb d os).m
              have g9 := fun d os => (vb d os).h
              have g10 := fun d os => (vb d os).d
              have g11 := fun d os => (vb d os).ho
              have g12 := fun d os => (vb d os).rs
              have g13 := fun d os => (vb d os).ag
              have g14 := fun d os => (vb d os).ps
              have x14 := fun d os => (UB.out _ _ _ (X7.out.grown d os)).ps
              have m0 := fun d os => ((M7.out.grown d os).cell 0)
              have m1 := fun d os => ((M7.out.grown d os).cell 1)
              have m2 := fun d os => ((M7.out.grown d os).cell 2)
              have m3 := fun d os => ((M7.out.grown d os).cell 3)
              have m4 := fun d os => ((M7.out.grown d os).cell 4)
              have m5 := fun d os => ((M7.out.grown d os).cell 5)
              simp at m0 m1 m2 m3 m4 m5
              have et := eqT_usual
              have em := mac_same x
              have gm := g23
              clear vb og hsg O7 M7 C7 V7 X7 HS0 cC cU2 A7 UB CB
              simp only at g0 g1 g2' g3 g4 g5 g6 g7 g8 g9 g10 g11 g12 g13
              go_wp2_with fail
              refine wp_region_quiet_below (by kernel_rfl) (by kernel_rfl) ?_
              refine quiet_load28 (by rfl) _ rfl rfl (fun w9 ⟨p9, e9⟩ => by rw [e9]; exact cr.out _ _) (CS.out) ?_
              simp only [Act.put, List.setIfInBounds_toArray, List.set_cons_zero, List.set_cons_succ]
              iterate 1 (go_big_quiet_step (with_reducible exact k9 _ _))
              refine quiet_load28 (by rfl) _ rfl rfl (fun w9 ⟨p9, e9⟩ => by rw [e9]; exact cr.out _ _) (CS.out) ?_
              simp only [Act.put, List.setIfInBounds_toArray, List.set_cons_zero, List.set_cons_succ]
              iterate 1 (go_big_quiet_step (with_reducible exact k10 _ _))
              iterate 16 (go_big_quiet_step (fail))
              refine quiet_load28 (by rfl) _ rfl rfl (fun w9 ⟨p9, e9⟩ => by rw [e9]; exact vr.out _ _) (US.out _) ?_
              simp only [Act.put, List.setIfInBounds_toArray, List.set_cons_zero, List.set_cons_succ]
              iterate 1 (go_big_quiet_step (with_reducible exact l9 _ _))
              refine quiet_load28 (by rfl) _ rfl rfl (fun w9 ⟨p9, e9⟩ => by rw [e9]; exact vr.out _ _) (US.out _) ?_
              simp only [Act.put, List.setIfInBounds_toArray, List.set_cons_zero, List.set_cons_succ]
              iterate 1 (go_big_quiet_step (with_reducible exact l10 _ _))
              iterate 34 (go_big_quiet_step (fail))
              refine wpQuiet_nil ?_
              intro _ hw'
              obtain ⟨⟨dq, osq⟩, hw''⟩ := hw'
              subst hw''
              have HBN := Lib.hid (HB7.out.trans ((below_regrown _ dq osq).mono HB7.out.size))
              clear k9 k10 l9 l10 g0 g1 g2' g3 g4 g5 g6 g7 g8 g9 g10 g11 g12 g13 g14 x14 m0 m1 m2 m3 m4 m5 et em gm
              go_wp2_with fail
              go_ret
              exact ⟨ret_bool (by simp), HBN.out⟩
end Go.Proofs.Ytiebiajpeocecaa
