/- VectorSums' whole call. -/
import Derived.Test.YtiifgdlifiebkaaE
namespace Go.Proofs.Ytiifgdlifiebkaa
open Go.RowKit Go.Sort

theorem below_drewN {B : Nat} {w w' : World} (h : Below B w w') (n : Nat) : Below B w (w'.drewN n) := by
  unfold World.drewN; exact ⟨h.os, h.tape, h.output, h.size, h.block⟩
theorem eqV_same (r c b p : Int) : eqV r c b p r c b p = true := by simp [eqV]
set_option maxHeartbeats 2000000 in
theorem sums_any (a d r c g p i : Nat) (ha : a < 4294967296) (hd : d < 4294967296) (hc : c < 4294967296) (w : World) :
    Calls Try.prog 4 #[.agg #[.int .u32 a, .int .u32 d], vV r c g p, .int .u64 i] w fun e w' => e = .returned (.bool true) ∧ Below w.heap.size w w' := by
  have k1 := refAdd_any a d ha hd
  have k2 := through_any r c g p a hc ha
  have k3 := fun q => tell_any r c g p i q
  have k4 := add_any a d ha hd
  have k5 := add_any d a hd ha
  have k6 := refAdd_any c a hc ha
  have k7 := own_any i
  have hge := sat_ge (b := d) ha
  rw [sat_comm d a] at k5
  generalize sat a d = N at *
  generalize sat c a = M at *
  have hx0 := var_new w #[.int .u32 a, .int .u32 d] 33
  have hy0 := var_new (w.alloc (.cells #[.int .u32 a, .int .u32 d] 33)) (vC r c g p) 28
  rw [alloc_size] at hy0
  have hx1 := hx0.alloc (.cells (vC r c g p) 28)
  have hB1 := (box_below w (.cells #[.int .u32 a, .int .u32 d] 33)).alloc (by simp) (.cells (vC r c g p) 28)
  clear hx0 ha hd hc
  go_enter Try.func4, Try.ntmps4
  go_wp2_with fail
  generalize (w.alloc (.cells #[.int .u32 a, .int .u32 d] 33)).alloc (.cells (vC r c g p) 28) = W at *
  have x0 := hx1.cell 0
  have x1 := hx1.cell 1
  simp at x0 x1
  have HB1 := Lib.hid hB1
  have HX1 := Lib.hid hx1
  have HY0 := Lib.hid hy0
  clear hB1 hx1 hy0
  go_quiet (fail)
  have hx2 : VarAt (W.drewN nq) _ _ _ := HX1.out
  have hy2 : VarAt (W.drewN nq) _ _ _ := HY0.out
  have HB2 := Lib.hid (below_drewN HB1.out nq)
  clear HB1 HX1 HY0 x0 x1
  generalize W.drewN nq = W2 at *
  go_wp2_with fail
  refine (lives_any _).mono ?_
  rintro e w3 ⟨rfl, hb3⟩
  have hy3 := hy2.below hb3 hy2.lt
  have HB3 := Lib.hid (below_next HB2.out hb3)
  clear hx2 hy2 HB2 hb3
  obtain ⟨y0, y1, y2, y3⟩ := hy3.v
  go_wp2_with fail
  refine (k1 _).mono ?_
  rintro e w3' ⟨rfl, rfl⟩
  clear k1
  go_wp2_with fail
  refine (k2 _).mono ?_
  rintro e w4 ⟨rfl, hb4⟩
  clear k2
  have hy4 := hy3.below hb4 hy3.lt
  have HB4 := Lib.hid (below_next HB3.out hb4)
  have hl3 := HB3.out.size
  have hl4 := hb4.size
  clear hy3 HB3 hb4 y0 y1 y2 y3
  have hy5 := hy4.alloc (.cells (vC r M g p) 28)
  have hz5 := var_new w4 (vC r M g p) 28
  have HB5 := Lib.hid (HB4.out.alloc HB4.out.size (.cells (vC r M g p) 28))
  have hs5 := alloc_size w4 (.cells (vC r M g p) 28)
  clear hy4 HB4 hl3 hl4
  obtain ⟨y0, y1, y2, y3⟩ := hy5.v
  obtain ⟨P, hP⟩ : ∃ P, IntKind.u16.wrap ((p : Int) + 1) = P := ⟨_, rfl⟩
  have k3' := k3 P
  have k8 := v_equal r M g p r M g p
  have k9 := v_equal r c i P r c i P
  have k10 := v_equal i 0 i 0 i 0 i 0
  rw [eqV_same] at k8 k9 k10
  go_wp2_with fail
  refine (k3' _).mono ?_
  rintro e w6 ⟨rfl, hb6⟩
  generalize w4.alloc (.cells (vC r M g p) 28) = w5 at *
  clear k3 k3'
  have hy6 := hy5.below hb6 hy5.lt
  have hz6 := hz5.below hb6 hz5.lt
  have HB6 := Lib.hid (below_next HB5.out hb6)
  clear hy5 hz5 HB5 hb6 y0 y1 y2 y3 hs5
  have hy7 := hy6.alloc (.cells (vC r c i P) 28)
  have hz7 := hz6.alloc (.cells (vC r c i P) 28)
  have hu7 := var_new w6 (vC r c i P) 28
  have HB7 := Lib.hid (HB6.out.alloc HB6.out.size (.cells (vC r c i P) 28))
  clear hy6 hz6 HB6
  go_wp2_with fail
  generalize w6.alloc (.cells (vC r c i P) 28) = w7 at *
  have c1 : ∀ d' os, Calls Try.prog 16 #[.int .u32 a, .int .u32 d] (grow (redrawn w7 d') os) fun e w'' => e = .returned (.int .u32 N) ∧ ∃ p : Regrown, w'' = grow (redrawn w7 p.d) p.os := fun d os => Calls.same_regrown (k4 _)
  have c2 : ∀ d' os, Calls Try.prog 16 #[.int .u32 d, .int .u32 a] (grow (redrawn w7 d') os) fun e w'' => e = .returned (.int .u32 N) ∧ ∃ p : Regrown, w'' = grow (redrawn w7 p.d) p.os := fun d os => Calls.same_regrown (k5 _)
  have c3 : ∀ d' os, Calls Try.prog 13 #[.int .u32 c, .int .u32 a] (grow (redrawn w7 d') os) fun e w'' => e = .returned (.int .u32 M) ∧ ∃ p : Regrown, w'' = grow (redrawn w7 p.d) p.os := fun d os => Calls.same_regrown (k6 _)
  have c4 : ∀ d' os, Calls Try.prog 17 #[.int .u64 i] (grow (redrawn w7 d') os) fun e w'' => e = .returned (vV i 0 i 0) ∧ ∃ p : Regrown, w'' = grow (redrawn w7 p.d) p.os := fun d os => Calls.regrown_of (k7 _)
  have a0 := fun d os => (hy7.grown d os).v.1
  have a1 := fun d os => (hy7.grown d os).v.2.1
  have a2 := fun d os => (hy7.grown d os).v.2.2.1
  have a3 := fun d os => (hy7.grown d os).v.2.2.2
  have b0 := fun d os => (hz7.grown d os).v.1
  have b1 := fun d os => (hz7.grown d os).v.2.1
  have b2 := fun d os => (hz7.grown d os).v.2.2.1
  have b3 := fun d os => (hz7.grown d os).v.2.2.2
  have d0 := fun d os => (hu7.grown d os).v.1
  have d1 := fun d os => (hu7.grown d os).v.2.1
  have d2 := fun d os => (hu7.grown d os).v.2.2.1
  have d3 := fun d os => (hu7.grown d os).v.2.2.2
  have g := g28
  clear k4 k5 k6 k7 hy7 hz7 hu7
  refine wp_region_quiet_below (by kernel_rfl) (by kernel_rfl) ?_
  repeat (go_big_quiet_step (first | with_reducible exact c1 _ _ | with_reducible exact c2 _ _ | with_reducible exact c3 _ _ | with_reducible exact c4 _ _))
  refine wpQuiet_nil ?_
  intro _ hw'
  obtain ⟨⟨dq, osq⟩, hw''⟩ := hw'
  subst hw''
  go_wp2
  go_ret
  exact ⟨rfl, below_next HB7.out (below_regrown w7 dq osq)⟩
end Go.Proofs.Ytiifgdlifiebkaa
