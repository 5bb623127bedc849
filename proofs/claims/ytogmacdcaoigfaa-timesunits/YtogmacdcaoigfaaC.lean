/- Put, and what every law of layer 6 asks first. -/
import Derived.Test.YtogmacdcaoigfaaB
namespace Go.Proofs.Ytogmacdcaoigfaa
open Go.RowKit Go.Sort

theorem VarAt.grown {w : World} {b : Nat} {xs : Array Value} {t : TypeId} (h : VarAt w b xs t) (d : Nat) (os : Array Obj) : VarAt (grow (redrawn w d) os) b xs t := h.below (below_regrown w d os) h.lt
theorem same_regrown {P : Program} {f : FuncId} {args : Array Value} {w : World} {d : Nat} {os : Array Obj} {v : Value}
    (h : Calls P f args (grow (redrawn w d) os) fun e w' => e = .returned v ∧ grow (redrawn w d) os = w') : Calls P f args (grow (redrawn w d) os) fun e w'' => e = .returned v ∧ ∃ p : Regrown, w'' = grow (redrawn w p.d) p.os :=
  h.mono fun _ _ ⟨he, hb⟩ => ⟨he, ⟨⟨d, os⟩, hb.symm⟩⟩
set_option maxHeartbeats 1000000 in
theorem put_any (a m h d : Int) (w : World) : Calls Try.prog 8 #[tmV a m h d] w fun e w' => e = .returned (.tuple #[.int .u16 (unt a), .int .u16 (unt m), .int .u16 (unt h), .int .u16 (unt d)]) ∧ Below w.heap.size w w' := by
  have c1 := units_any a
  have c2 := units_any m
  have c3 := units_any h
  have c4 := units_any d
  have HB := Lib.hid (box_below w (.cells (tmC a m h d) 23))
  generalize unt a = A at *
  generalize unt m = M at *
  generalize unt h = H at *
  generalize unt d = D at *
  go_enter Try.func8, Try.ntmps8
  go_wp2_with fail
  have hv := var_new w (tmC a m h d) 23
  have hb0 := HB.out
  generalize w.alloc (.cells (tmC a m h d) 23) = w0 at *
  have a0 := fun d os => (hv.grown d os).cell 0
  have a1 := fun d os => (hv.grown d os).cell 1
  have a2 := fun d os => (hv.grown d os).cell 2
  have a3 := fun d os => (hv.grown d os).cell 3
  simp only [List.getElem?_toArray, List.getElem?_cons_zero, List.getElem?_cons_succ] at a0 a1 a2 a3
  have k1 := fun d os => same_regrown (w := w0) (d := d) (os := os) (c1 _)
  have k2 := fun d os => same_regrown (w := w0) (d := d) (os := os) (c2 _)
  have k3 := fun d os => same_regrown (w := w0) (d := d) (os := os) (c3 _)
  have k4 := fun d os => same_regrown (w := w0) (d := d) (os := os) (c4 _)
  clear hv c1 c2 c3 c4 hb0
  refine wp_region_quiet_below (by kernel_rfl) (by kernel_rfl) ?_
  repeat (go_big_quiet_step (first | with_reducible exact k1 _ _ | with_reducible exact k2 _ _ | with_reducible exact k3 _ _ | with_reducible exact k4 _ _))
  refine wpQuiet_nil ?_
  intro _ hw'
  obtain ⟨⟨dq, osq⟩, hw''⟩ := hw'
  subst hw''
  have HQ := Lib.hid (below_next HB.out (below_regrown w0 dq osq))
  clear a0 a1 a2 a3 k1 k2 k3 k4
  generalize grow (redrawn w0 dq) osq = W2 at *
  go_wp2_with fail
  exact bodyPost_ret (v := .tuple #[.int .u16 A, .int .u16 M, .int .u16 H, .int .u16 D]) (by simp [results, Try.results8, go_sem]) rfl ⟨rfl, HQ.out⟩
theorem of_example (w : World) : Calls Try.prog 9 #[bpV 0 0 0 0 0 0 257 511 0 0] w fun e w' => e = .returned (tmV 2 1 1 0) ∧ Below w.heap.size w w' :=
  of_any 0 0 0 0 0 0 257 511 0 0 (by omega) (by omega) (by omega) (by omega) w
set_option maxHeartbeats 1000000 in
theorem lives_ok (w : World) : Calls Try.prog 6 #[] w fun e w' => e = .returned (.bool true) ∧ Below w.heap.size w w' := by
  have c1 := of_example w
  go_enter Try.func6, Try.ntmps6
  go_wp2_with fail
  refine c1.mono ?_
  rintro e w1 ⟨rfl, hb⟩
  have HB := Lib.hid hb
  clear hb c1
  have c2 := usual_any w1
  go_wp2_with fail
  refine c2.mono ?_
  rintro e w2 ⟨rfl, hb⟩
  have HB2 := Lib.hid (below_next HB.out hb)
  clear hb c2
  go_wp2_with fail
  go_ret
  exact ⟨rfl, HB2.out⟩
end Go.Proofs.Ytogmacdcaoigfaa
