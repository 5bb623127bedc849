/- Contract of the document's right. -/
import Derived.Test.YtiebiajpeocecaaO
namespace Go.Proofs.Ytiebiajpeocecaa
open Go.RowKit Go.Sort

/-- The first of six tests that is true of a port. -/
theorem bad_cases {p : Pc} (h : badP p = true) : decide (p.pr < 0) = true ∨ ∃ q : Nat, p.pr = q ∧ (decide ((240 : Int) < q) = true ∨ decide ((240 : Int) < q) = false ∧ (((q : Int) % 16 != 0) = true ∨ ((q : Int) % 16 != 0) = false ∧
    (decide ((200000000 : Int) < (p.co : Int)) = true ∨ decide ((200000000 : Int) < (p.co : Int)) = false ∧ (decide (p.pt < 0) = true ∨ decide (p.pt < 0) = false ∧ decide (2 < p.pt) = true)))) := by
  obtain ⟨pr, co, ed, au, pt⟩ := p
  unfold badP stB at h
  by_cases h0 : pr < 0
  · exact Or.inl (by simpa using h0)
  refine Or.inr ⟨pr.toNat, by simp; omega, ?_⟩
  rw [show ((pr.toNat : Nat) : Int) = pr by omega]
  simp at h ⊢
  omega
theorem good_cases {p : Pc} (h : badP p = false) : ∃ q : Nat, p.pr = q ∧ decide ((q : Int) < 0) = false ∧ decide ((240 : Int) < q) = false ∧ ((q : Int) % 16 != 0) = false ∧ decide ((200000000 : Int) < (p.co : Int)) = false ∧ decide (p.pt < 0) = false ∧ decide (2 < p.pt) = false := by
  obtain ⟨pr, co, ed, au, pt⟩ := p
  unfold badP stB at h
  simp at h
  refine ⟨pr.toNat, by simp; omega, ?_⟩
  rw [show ((pr.toNat : Nat) : Int) = pr by simp; omega]
  simp
  omega
/-- The first of ten tests that is true of a setting. -/
theorem one_cases {p a m h d : Int} (e : (stB p 4096 61440 && inR a m h d) = false) : decide (p < 0) = true ∨ ∃ q : Nat, p = q ∧ (decide ((61440 : Int) < q) = true ∨ decide ((61440 : Int) < q) = false ∧ (((q : Int) % 4096 != 0) = true ∨ ((q : Int) % 4096 != 0) = false ∧
    ((a != 0) = true ∨ (a != 0) = false ∧ (decide (m < 6) = true ∨ decide (m < 6) = false ∧ (decide (40 < m) = true ∨ decide (40 < m) = false ∧ (decide (h < 1) = true ∨ decide (h < 1) = false ∧ (decide (2 < h) = true ∨ decide (2 < h) = false ∧ (decide (d < 4) = true ∨ decide (d < 4) = false ∧ decide (30 < d) = true)))))))) := by
  unfold stB inR at e
  by_cases h0 : p < 0
  · exact Or.inl (by simpa using h0)
  refine Or.inr ⟨p.toNat, by omega, ?_⟩
  rw [show ((p.toNat : Nat) : Int) = p by omega]
  simp at e ⊢
  omega
theorem two_cases {p a m h d : Int} (e1 : stB p 4096 61440 = true) (e2 : inR a m h d = true) : ∃ q : Nat, p = q ∧ decide ((q : Int) < 0) = false ∧ decide ((61440 : Int) < q) = false ∧ ((q : Int) % 4096 != 0) = false ∧ (a != 0) = false ∧ decide (m < 6) = false ∧ decide (40 < m) = false ∧ decide (h < 1) = false ∧ decide (2 < h) = false ∧ decide (d < 4) = false ∧ decide (30 < d) = false ∧
    ∃ X Y U Z : Int, wrap64 (2 * d) = X ∧ wrap64 (X - 2) = Y ∧ wrap64 (2 * h) = U ∧ wrap64 (U + 2) = Z ∧ (isC m h d = false → decide (Y < m) = true ∨ decide (Y < m) = false ∧ decide (m < Z) = true) ∧ (isC m h d = true → decide (Y < m) = false ∧ decide (m < Z) = false) := by
  unfold stB at e1
  unfold inR at e2
  simp at e1 e2
  refine ⟨p.toNat, by omega, ?_⟩
  rw [show ((p.toNat : Nat) : Int) = p by omega]
  refine ⟨by simp; omega, by simp; omega, by simp; omega, by simp; omega, by simp; omega, by simp; omega, by simp; omega, by simp; omega, by simp; omega, by simp; omega, 2 * d, 2 * d - 2, 2 * h, 2 * h + 2, by unfold wrap64; omega, by unfold wrap64; omega, by unfold wrap64; omega, by unfold wrap64; omega, ?_, ?_⟩
  · intro e3
    unfold isC at e3
    simp at e3 ⊢
    omega
  · intro e3
    unfold isC at e3
    simp at e3 ⊢
    omega
/-- The first of six tests. -/
theorem three_cases {c : Cf} {n : Nat} (e : rgC c n = false) : ((((c.x 0 : Nat) : Int) % 2 == 1) = true) ∨ ((((c.x 0 : Nat) : Int) % 2 == 1) = false) ∧ (decide (c.ho < 1) = true ∨ decide (c.ho < 1) = false ∧ (decide (10 < c.ho) = true ∨ decide (10 < c.ho) = false ∧ (decide (c.ag < 10) = true ∨ decide (c.ag < 10) = false ∧ (decide (1000000 < c.ag) = true ∨ decide (1000000 < c.ag) = false ∧ ¬ n ≤ 8)))) := by
  unfold rgC grp at e
  simp at e ⊢
  omega
theorem four_cases {c : Cf} {n : Nat} (e : rgC c n = true) : ((((c.x 0 : Nat) : Int) % 2 == 1) = false) ∧ decide (c.ho < 1) = false ∧ decide (10 < c.ho) = false ∧ decide (c.ag < 10) = false ∧ decide (1000000 < c.ag) = false ∧ n ≤ 8 := by
  unfold rgC grp at e
  simp at e ⊢
  omega
theorem cfgE_one {c : Cf} {P : Nat → Pc} {n : Nat} (e : (stB c.pr 4096 61440 && inR c.a c.m c.h c.d) = false) : cfgE c P n = 4 := by
  unfold cfgE
  cases h1 : stB c.pr 4096 61440
  · simp
  · rw [h1] at e
    simp at e
    simp [e]

/-- A setting's box, and its times' variable. -/
structure Two (c : Cf) (s : Value) (b : Nat) (w : World) : Prop where
  v : VarAt w b (c.cells s) 28
  t : VarAt w (b + 1) (tmC c.a c.m c.h c.d) 25
theorem two_of (c : Cf) (s : Value) (w : World) : Two c s w.heap.size ((w.alloc (.cells (c.cells s) 28)).alloc (.cells (tmC c.a c.m c.h c.d) 25)) := by
  refine ⟨(var_new w _ 28).alloc _, ?_⟩
  have := var_new (w.alloc (.cells (c.cells s) 28)) (tmC c.a c.m c.h c.d) 25
  rwa [alloc_size] at this
theorem below_of (c : Cf) (s : Value) (w : World) : Below w.heap.size w ((w.alloc (.cells (c.cells s) 28)).alloc (.cells (tmC c.a c.m c.h c.d) 25)) := ((Below.refl _ _).alloc (Nat.le_refl _) _).alloc (by rw [alloc_size]; omega) _
set_option maxRecDepth 20000 in
set_option maxHeartbeats 2000000 in
theorem right_1 (c : Cf) (s : Value) (n : Nat) (P : Nat → Pc) (w : World) (e : (stB c.pr 4096 61440 && inR c.a c.m c.h c.d) = false) : Calls Try.prog 10 #[.agg (c.cells s)] w fun e w' => e = .returned (.int .i64 (cfgE c P n)) ∧ Below w.heap.size w w' := by
  have TW := Lib.hid (two_of c s w)
  have HB := Lib.hid (below_of c s w)
  have v0 := var_new w (c.cells s) 28
  obtain ⟨-, -, -, -, -, -, -, ba, bm, bh, bd, -, -, -, -⟩ := v0.box
  have t0 := TW.out.t.cell 0
  have t1 := TW.out.t.cell 1
  have t2 := TW.out.t.cell 2
  have t3 := TW.out.t.cell 3
  simp at t0 t1 t2 t3
  obtain ⟨fx0, -, -, -, -, -, fp, -, -, -, -, fho, -, fag, fps⟩ := TW.out.v.box
  have HE := Lib.hid (cfgE_one (P := P) (n := n) e)
  have hc := Lib.hid (one_cases e)
  clear e v0
  generalize cfgE c P n = E at *
  obtain ⟨x, pr, a, m, h, d, ho, rs, ag⟩ := c
  simp only at *
  generalize Cf.cells ⟨x, pr, a, m, h, d, ho, rs, ag⟩ s = C at *
  have hc0 := hc.out
  clear hc
  rcases hc0 with z | ⟨q, rfl, hc0⟩
  · go_enter Try.func10, Try.ntmps10
    go_wp2_with fail
    go_ret
    exact ⟨ret_int HE.out.symm, HB.out⟩
  have z0 : decide ((q : Int) < 0) = false := by simp
  rcases hc0 with z | ⟨z1, hc0⟩
  · go_enter Try.func10, Try.ntmps10
    go_wp2_with fail
    go_ret
    exact ⟨ret_int HE.out.symm, HB.out⟩
  rcases hc0 with z | ⟨z2, hc0⟩
  · go_enter Try.func10, Try.ntmps10
    go_wp2_with fail
    go_ret
    exact ⟨ret_int HE.out.symm, HB.out⟩
  rcases hc0 with z | ⟨z3, hc0⟩
  · go_enter Try.func10, Try.ntmps10
    go_wp2_with fail
    go_ret
    exact ⟨ret_int HE.out.symm, HB.out⟩
  rcases hc0 with z | ⟨z4, hc0⟩
  · go_enter Try.func10, Try.ntmps10
    go_wp2_with fail
    go_ret
    exact ⟨ret_int HE.out.symm, HB.out⟩
  rcases hc0 with z | ⟨z5, hc0⟩
  · go_enter Try.func10, Try.ntmps10
    go_wp2_with fail
    go_ret
    exact ⟨ret_int HE.out.symm, HB.out⟩
  rcases hc0 with z | ⟨z6, hc0⟩
  · go_enter Try.func10, Try.ntmps10
    go_wp2_with fail
    go_ret
    exact ⟨ret_int HE.out.symm, HB.out⟩
  rcases hc0 with z | ⟨z7, hc0⟩
  · go_enter Try.func10, Try.ntmps10
    go_wp2_with fail
    go_ret
    exact ⟨ret_int HE.out.symm, HB.out⟩
  rcases hc0 with z | ⟨z8, hc0⟩
  · go_enter Try.func10, Try.ntmps10
    go_wp2_with fail
    go_ret
    exact ⟨ret_int HE.out.symm, HB.out⟩
  go_enter Try.func10, Try.ntmps10
  go_wp2_with fail
  go_ret
  exact ⟨ret_int HE.out.symm, HB.out⟩
set_option maxRecDepth 20000 in
set_option maxHeartbeats 2000000 in
theorem right_2 (c : Cf) (s : Value) (n : Nat) (P : Nat → Pc) (w : World) (e1 : stB c.pr 4096 61440 = true) (e2 : inR c.a c.m c.h c.d = true) (e7 : isC c.m c.h c.d = false) : Calls Try.prog 10 #[.agg (c.cells s)] w fun e w' => e = .returned (.int .i64 (cfgE c P n)) ∧ Below w.heap.size w w' := by
  have TW := Lib.hid (two_of c s w)
  have HB := Lib.hid (below_of c s w)
  have v0 := var_new w (c.cells s) 28
  obtain ⟨-, -, -, -, -, -, -, ba, bm, bh, bd, -, -, -, -⟩ := v0.box
  have t0 := TW.out.t.cell 0
  have t1 := TW.out.t.cell 1
  have t2 := TW.out.t.cell 2
  have t3 := TW.out.t.cell 3
  simp at t0 t1 t2 t3
  obtain ⟨fx0, -, -, -, -, -, fp, -, -, -, -, fho, -, fag, fps⟩ := TW.out.v.box
  obtain ⟨q, hq, z0, z1, z2, z3, z4, z5, z6, z7, z8, z9, X, Y, U, Z, e3, e4, e5, e6, i0, i1⟩ := two_cases e1 e2
  rw [hq] at fp
  have HE : Hid (cfgE c P n = 5) := Lib.hid (by unfold cfgE; rw [e1, e2, e7]; rfl)
  have hc0 := i0 e7
  clear i0 i1 e7 e1 e2 v0 hq
  generalize cfgE c P n = E at *
  obtain ⟨x, pr, a, m, h, d, ho, rs, ag⟩ := c
  simp only at *
  generalize Cf.cells ⟨x, pr, a, m, h, d, ho, rs, ag⟩ s = C at *
  rcases hc0 with y0 | ⟨y0, y1⟩
  · go_enter Try.func10, Try.ntmps10
    go_wp2_with fail
    go_ret
    exact ⟨ret_int HE.out.symm, HB.out⟩
  · go_enter Try.func10, Try.ntmps10
    go_wp2_with fail
    go_ret
    exact ⟨ret_int HE.out.symm, HB.out⟩
set_option maxRecDepth 20000 in
set_option maxHeartbeats 2000000 in
theorem right_3 (c : Cf) (s : Value) (n : Nat) (P : Nat → Pc) (w : World) (hx : ∀ i, c.x i < 256) (hs : QIn w s n P) (e1 : stB c.pr 4096 61440 = true) (e2 : inR c.a c.m c.h c.d = true) (e7 : isC c.m c.h c.d = true) (e8 : rgC c n = false) : Calls Try.prog 10 #[.agg (c.cells s)] w fun e w' => e = .returned (.int .i64 (cfgE c P n)) ∧ Below w.heap.size w w' := by
  have TW := Lib.hid (two_of c s w)
  have HB := Lib.hid (below_of c s w)
  have v0 := var_new w (c.cells s) 28
  obtain ⟨-, -, -, -, -, -, -, ba, bm, bh, bd, -, -, -, -⟩ := v0.box
  have t0 := TW.out.t.cell 0
  have t1 := TW.out.t.cell 1
  have t2 := TW.out.t.cell 2
  have t3 := TW.out.t.cell 3
  simp at t0 t1 t2 t3
  obtain ⟨fx0, -, -, -, -, -, fp, -, -, -, -, fho, -, fag, fps⟩ := TW.out.v.box
  obtain ⟨q, hq, z0, z1, z2, z3, z4, z5, z6, z7, z8, z9, X, Y, U, Z, e3, e4, e5, e6, i0, i1⟩ := two_cases e1 e2
  rw [hq] at fp
  have HE : Hid (cfgE c P n = 4) := Lib.hid (by unfold cfgE; rw [e1, e2, e7, e8]; rfl)
  obtain ⟨y0, y1⟩ := i1 e7
  have hc := Lib.hid (three_cases e8)
  have hx0 := hx 0
  obtain ⟨ad, cap, rfl, _⟩ := hs
  clear i0 i1 e7 e8 e1 e2 hx v0 hq
  generalize cfgE c P n = E at *
  obtain ⟨x, pr, a, m, h, d, ho, rs, ag⟩ := c
  simp only at *
  generalize Cf.cells ⟨x, pr, a, m, h, d, ho, rs, ag⟩ (.slice ad n cap) = C at *
  generalize x 0 = x0 at *
  have hc0 := hc.out
  clear hc
  rcases hc0 with k | ⟨k0, hc0⟩
  · go_enter Try.func10, Try.ntmps10
    go_wp2_with fail
    go_ret
    exact ⟨ret_int HE.out.symm, HB.out⟩
  rcases hc0 with k | ⟨k1, hc0⟩
  · go_enter Try.func10, Try.ntmps10
    go_wp2_with fail
    go_ret
    exact ⟨ret_int HE.out.symm, HB.out⟩
  rcases hc0 with k | ⟨k2, hc0⟩
  · go_enter Try.func10, Try.ntmps10
    go_wp2_with fail
    go_ret
    exact ⟨ret_int HE.out.symm, HB.out⟩
  rcases hc0 with k | ⟨k3, hc0⟩
  · go_enter Try.func10, Try.ntmps10
    go_wp2_with fail
    go_ret
    exact ⟨ret_int HE.out.symm, HB.out⟩
  rcases hc0 with k | ⟨k4, hc0⟩
  · go_enter Try.func10, Try.ntmps10
    go_wp2_with fail
    go_ret
    exact ⟨ret_int HE.out.symm, HB.out⟩
  go_enter Try.func10, Try.ntmps10
  go_wp2_with fail
  go_ret
  exact ⟨ret_int HE.out.symm, HB.out⟩
end Go.Proofs.Ytiebiajpeocecaa
