/- Contracts of addr.Compare and addr.Reserved, whose statements draw their order. -/
import Derived.Test.YtkdaloikpljccaaB
namespace Go.Proofs.Ytkdaloikpljccaa
open Go.RowKit Go.Sort

theorem Calls.same_regrown {P : Program} {f : FuncId} {args : Array Value} {w : World} {d : Nat} {os : Array Obj} {v : Value}
    (h : Calls P f args (grow (redrawn w d) os) fun e w' => e = .returned v ∧ grow (redrawn w d) os = w') : Calls P f args (grow (redrawn w d) os) fun e w'' => e = .returned v ∧ ∃ p : Regrown, w'' = grow (redrawn w p.d) p.os :=
  h.mono fun _ _ ⟨he, hb⟩ => ⟨he, ⟨⟨d, os⟩, hb.symm⟩⟩

set_option maxHeartbeats 400000 in
theorem compare_any (x y : Nat → Nat) (hx : ∀ i, x i < 256) (hy : ∀ i, y i < 256) (w : World) :
    Calls Try.prog 37 #[macV x, macV y] w fun e w' => e = .returned (.int .i64 (sgn (pref x 6) (pref y 6))) ∧ Below w.heap.size w w' := by
  go_enter Try.func37, Try.ntmps37
  go_wp2
  obtain ⟨ha, hb, hB⟩ := box2_at w x y 24 24
  generalize (w.alloc (macO x 24)).alloc (macO y 24) = W at *
  have a0 := fun d os => ha.grown d os 0 (by omega)
  have a1 := fun d os => ha.grown d os 1 (by omega)
  have a2 := fun d os => ha.grown d os 2 (by omega)
  have a3 := fun d os => ha.grown d os 3 (by omega)
  have a4 := fun d os => ha.grown d os 4 (by omega)
  have a5 := fun d os => ha.grown d os 5 (by omega)
  have b0 := fun d os => hb.grown d os 0 (by omega)
  have b1 := fun d os => hb.grown d os 1 (by omega)
  have b2 := fun d os => hb.grown d os 2 (by omega)
  have b3 := fun d os => hb.grown d os 3 (by omega)
  have b4 := fun d os => hb.grown d os 4 (by omega)
  have b5 := fun d os => hb.grown d os 5 (by omega)
  have cx : ∀ d os, Calls Try.prog 44 #[macV x] (grow (redrawn W d) os) fun e w'' => e = .returned (.int .u64 (pref x 6)) ∧ ∃ p : Regrown, w'' = grow (redrawn W p.d) p.os := fun d os => Calls.regrown_of (number_any x hx _)
  have cy : ∀ d os, Calls Try.prog 44 #[macV y] (grow (redrawn W d) os) fun e w'' => e = .returned (.int .u64 (pref y 6)) ∧ ∃ p : Regrown, w'' = grow (redrawn W p.d) p.os := fun d os => Calls.regrown_of (number_any y hy _)
  have cc : ∀ d os, Calls Try.prog 43 #[.int .u64 (pref x 6), .int .u64 (pref y 6)] (grow (redrawn W d) os) fun e w'' => e = .returned (.int .i64 (sgn (pref x 6) (pref y 6))) ∧ ∃ p : Regrown, w'' = grow (redrawn W p.d) p.os := fun d os => Calls.same_regrown (cmp_any _ _ _)
  have HB := Lib.hid hB
  have HX := Lib.hid hx
  have HY := Lib.hid hy
  clear hB ha hb hx hy
  refine wp_region_quiet_below (by kernel_rfl) (by kernel_rfl) ?_
  repeat (go_big_quiet_step (first | with_reducible exact cx _ _ | with_reducible exact cy _ _ | with_reducible exact cc _ _))
  refine wpQuiet_nil ?_
  intro _ hw'
  obtain ⟨⟨dq, osq⟩, hw''⟩ := hw'
  subst hw''
  go_wp2
  go_ret
  exact ⟨rfl, below_next HB.out (below_regrown W dq osq)⟩

theorem and240 : ∀ n : Fin 256, bits BinOp.and IntKind.u8 (n.val : Int) 240 = ((n.val / 16 * 16 : Nat) : Int) := by decide +kernel
def resX (x : Nat → Nat) (i : Nat) : Nat := if i = 5 then x 5 / 16 * 16 else x i
/-- Is an address one of the reserved ones? -/
def resB (x : Nat → Nat) : Bool := (resX x 0 : Int) == 1 && ((resX x 1 : Int) == 128 && ((resX x 2 : Int) == 194 && ((resX x 3 : Int) == 0 && ((resX x 4 : Int) == 0 && ((resX x 5 : Int) == 0 && true)))))
theorem reserved_any (x : Nat → Nat) (hx : ∀ i, x i < 256) (w : World) :
    Calls Try.prog 31 #[macV x] w fun e w' => e = .returned (.bool (resB x)) ∧ Below w.heap.size w w' := by
  have h240 := and240 ⟨x 5, hx 5⟩
  simp only at h240
  go_enter Try.func31, Try.ntmps31
  go_wp2
  have ha : At (w.alloc (macO (resX x) 24)) w.heap.size (resX x) := box_at w (resX x) 24
  have hB := box_below w (macO (resX x) 24)
  have e : w.alloc (.cells #[.int .u8 (x 0), .int .u8 (x 1), .int .u8 (x 2), .int .u8 (x 3), .int .u8 (x 4), .int .u8 ((x 5 : Int) / 16 * 16)] 24) = w.alloc (macO (resX x) 24) := by
    unfold macO resX; simp
  rw [e]
  clear e
  generalize w.alloc (macO (resX x) 24) = W at *
  have a0 := fun d os => ha.grown d os 0 (by omega)
  have a1 := fun d os => ha.grown d os 1 (by omega)
  have a2 := fun d os => ha.grown d os 2 (by omega)
  have a3 := fun d os => ha.grown d os 3 (by omega)
  have a4 := fun d os => ha.grown d os 4 (by omega)
  have a5 := fun d os => ha.grown d os 5 (by omega)
  have cg : ∀ d os, Calls Try.prog 40 #[] (grow (redrawn W d) os) fun e w'' => e = .returned (.agg #[.int .u8 1, .int .u8 128, .int .u8 194, .int .u8 0, .int .u8 0, .int .u8 0]) ∧ ∃ p : Regrown, w'' = grow (redrawn W p.d) p.os := fun d os => Calls.regrown_of (group_any _)
  have g := g23
  have q : ∀ w, (Op.equalIn 10000 24 (macV (resX x)) (.agg #[.int .u8 1, .int .u8 128, .int .u8 194, .int .u8 0, .int .u8 0, .int .u8 0])).run Try.prog w = .ok (resB x) w := fun w => mac_equal _ _ _ _ _ _ _ _ _ _ _ _ w
  have HB := Lib.hid hB
  have HX := Lib.hid hx
  have H2 := Lib.hid h240
  clear hB ha hx h240
  refine wp_region_quiet_below (by kernel_rfl) (by kernel_rfl) ?_
  repeat (go_big_quiet_step (first | exact cg _ _))
  refine wpQuiet_nil ?_
  intro _ hw'
  obtain ⟨⟨dq, osq⟩, hw''⟩ := hw'
  subst hw''
  go_wp2
  go_ret
  exact ⟨rfl, below_next HB.out (below_regrown W dq osq)⟩
end Go.Proofs.Ytkdaloikpljccaa
