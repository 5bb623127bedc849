/- TimesLives' whole call. -/
import Derived.Test.YtogmacdcaoigfaaC
namespace Go.Proofs.Ytogmacdcaoigfaa
open Go.RowKit Go.Sort

/-- Where a test ahead holds, the law's answer is lives'. -/
theorem out_facts {a hello : Int} (h : ¬ ((-2147483648 ≤ a ∧ a ≤ 2147483648) ∧ -2147483648 ≤ hello ∧ hello ≤ 2147483648)) : (decide (a < -2147483648) = true) ∨ (decide (a < -2147483648) = false ∧ decide (2147483648 < a) = true) ∨
    (decide (a < -2147483648) = false ∧ decide (2147483648 < a) = false ∧ decide (hello < -2147483648) = true) ∨ (decide (a < -2147483648) = false ∧ decide (2147483648 < a) = false ∧ decide (hello < -2147483648) = false ∧ decide (2147483648 < hello) = true) := by
  simp only [decide_eq_true_eq, decide_eq_false_iff_not]; omega
set_option maxHeartbeats 1000000 in
theorem lives_out (a m h d hello : Int) (hn : ¬ ((-2147483648 ≤ a ∧ a ≤ 2147483648) ∧ -2147483648 ≤ hello ∧ hello ≤ 2147483648)) (w : World) :
    Calls Try.prog 5 #[tmV a m h d, .int .i64 hello] w fun e w' => e = .returned (.bool true) ∧ Below w.heap.size w w' := by
  have hF := out_facts hn
  clear hn
  have c0 := lives_ok
  rcases hF with g1 | ⟨g1, g2⟩ | ⟨g1, g2, g3⟩ | ⟨g1, g2, g3, g4⟩
  all_goals
    go_enter Try.func5, Try.ntmps5
    go_wp2_with fail
    have hb0 := box_below w (.cells (tmC a m h d) 23)
    have hv0 := var_new w (tmC a m h d) 23
    generalize w.alloc (.cells (tmC a m h d) 23) = w0 at *
    refine (c0 w0).mono ?_
    rintro e w1 ⟨rfl, hb⟩
    have HB := Lib.hid (below_next hb0 hb)
    have v1 := hv0.below hb hv0.lt
    have k0 := v1.cell 0
    simp only [List.getElem?_toArray, List.getElem?_cons_zero] at k0
    clear hb hb0 hv0 v1
    go_wp2_with fail
    refine (c0 w1).mono ?_
    rintro e w2 ⟨rfl, hb⟩
    have HB2 := Lib.hid (below_next HB.out hb)
    clear hb
    go_wp2_with fail
    go_ret
    exact ⟨rfl, HB2.out⟩
theorem in_facts {a hello : Int} (h : (-2147483648 ≤ a ∧ a ≤ 2147483648) ∧ -2147483648 ≤ hello ∧ hello ≤ 2147483648) : decide (a < -2147483648) = false ∧ decide (2147483648 < a) = false ∧ decide (hello < -2147483648) = false ∧ decide (2147483648 < hello) = false ∧
    ∃ T A, 3 * hello = T ∧ wrap64 (3 * hello) = T ∧ a + 1 = A ∧ wrap64 (a + 1) = A := by
  simp only [decide_eq_false_iff_not]
  refine ⟨by omega, by omega, by omega, by omega, _, _, rfl, ?_, rfl, ?_⟩ <;> (unfold wrap64; omega)
theorem regrown_of {P : Program} {f : FuncId} {args : Array Value} {w : World} {d : Nat} {os : Array Obj} {v : Value}
    (h : Calls P f args (grow (redrawn w d) os) fun e w' => e = .returned v ∧ Below (grow (redrawn w d) os).heap.size (grow (redrawn w d) os) w') : Calls P f args (grow (redrawn w d) os) fun e w'' => e = .returned v ∧ ∃ p : Regrown, w'' = grow (redrawn w p.d) p.os := Calls.regrown_of h
set_option maxHeartbeats 2000000 in
theorem lives_in (a m h d hello : Int) (hn : (-2147483648 ≤ a ∧ a ≤ 2147483648) ∧ -2147483648 ≤ hello ∧ hello ≤ 2147483648) (w : World) :
    Calls Try.prog 5 #[tmV a m h d, .int .i64 hello] w fun e w' => e = .returned (.bool true) ∧ Below w.heap.size w w' := by
  have c0 := lives_ok
  have c1 := lives6_any a m h d hello hn.2
  have c2 := older_any a m h d hn.1
  obtain ⟨g1, g2, g3, g4, T, A, t1, t2, t3, t4⟩ := in_facts hn
  rw [t3] at c2
  have hL : ∀ b, decide (m ≤ a) = b → lvs a m hello = if b then 0 else T := by
    intro b hb; subst hb; unfold lvs; rw [t1]; simp
  clear hn t1 t3
  cases g5 : decide (m ≤ a)
  all_goals
    rw [hL _ g5] at c1
    simp only [if_true, Bool.false_eq_true, if_false] at c1
    clear hL
    go_enter Try.func5, Try.ntmps5
    go_wp2_with fail
    have hb0 := box_below w (.cells (tmC a m h d) 23)
    have hv0 := var_new w (tmC a m h d) 23
    generalize w.alloc (.cells (tmC a m h d) 23) = w0 at *
    refine (c0 w0).mono ?_
    rintro e w1 ⟨rfl, hb⟩
    have HB := Lib.hid (below_next hb0 hb)
    have v1 := hv0.below hb hv0.lt
    have k0 := v1.cell 0
    have k1 := v1.cell 1
    simp only [List.getElem?_toArray, List.getElem?_cons_zero, List.getElem?_cons_succ] at k0 k1
    clear hb hb0 hv0 c0
    go_wp2_with fail
    have a0 := fun d os => (v1.grown d os).cell 0
    have a1 := fun d os => (v1.grown d os).cell 1
    have a2 := fun d os => (v1.grown d os).cell 2
    have a3 := fun d os => (v1.grown d os).cell 3
    simp only [List.getElem?_toArray, List.getElem?_cons_zero, List.getElem?_cons_succ] at a0 a1 a2 a3
    have q1 := fun d os => regrown_of (w := w1) (d := d) (os := os) (c1 _)
    have q2 := fun d os => regrown_of (w := w1) (d := d) (os := os) (c2 _)
    clear v1 c1 c2 k0 k1
    refine wp_region_quiet_below (by kernel_rfl) (by kernel_rfl) ?_
    repeat (go_big_quiet_step (first | with_reducible exact q1 _ _ | with_reducible exact q2 _ _))
    refine wpQuiet_nil ?_
    intro _ hw'
    obtain ⟨⟨dq, osq⟩, hw''⟩ := hw'
    subst hw''
    have HQ := Lib.hid (below_next HB.out (below_regrown w1 dq osq))
    clear a0 a1 a2 a3 q1 q2
    generalize grow (redrawn w1 dq) osq = W2 at *
    go_wp2_with fail
    go_ret
    exact ⟨ret_bool (by simp), HQ.out⟩
end Go.Proofs.Ytogmacdcaoigfaa
