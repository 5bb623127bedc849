/- Contracts of From, the program's and the reference's, of Superior, and of the laws' own example. -/
import Derived.Test.YtiifgdlifiebkaaD
namespace Go.Proofs.Ytiifgdlifiebkaa
open Go.RowKit Go.Sort

theorem Calls.same_regrown {P : Program} {f : FuncId} {args : Array Value} {w : World} {d : Nat} {os : Array Obj} {v : Value}
    (h : Calls P f args (grow (redrawn w d) os) fun e w' => e = .returned v ∧ grow (redrawn w d) os = w') : Calls P f args (grow (redrawn w d) os) fun e w'' => e = .returned v ∧ ∃ p : Regrown, w'' = grow (redrawn w p.d) p.os :=
  h.mono fun _ _ ⟨he, hb⟩ => ⟨he, ⟨⟨d, os⟩, hb.symm⟩⟩
/-- A variable in every world of a region's class. -/
theorem VarAt.grown {w : World} {b : Nat} {xs : Array Value} {t : TypeId} (h : VarAt w b xs t) (d : Nat) (os : Array Obj) : VarAt (grow (redrawn w d) os) b xs t := h.below (below_regrown w d os) h.lt
/-- Two vectors in boxes. -/
theorem box2 (w : World) (r c b p r' c' b' p' : Int) :
    VarAt ((w.alloc (.cells (vC r c b p) 28)).alloc (.cells (vC r' c' b' p') 28)) w.heap.size (vC r c b p) 28 ∧ VarAt ((w.alloc (.cells (vC r c b p) 28)).alloc (.cells (vC r' c' b' p') 28)) (w.heap.size + 1) (vC r' c' b' p') 28 ∧
    Below w.heap.size w ((w.alloc (.cells (vC r c b p) 28)).alloc (.cells (vC r' c' b' p') 28)) := by
  refine ⟨(var_new w _ _).alloc _, ?_, (box_below _ _).alloc (by simp) _⟩
  have := var_new (w.alloc (.cells (vC r c b p) 28)) (vC r' c' b' p') 28
  rwa [alloc_size] at this

/-- Are two vectors from the same source? -/
def frV (b p b' p' : Nat) : Bool := eqM b b' && (((p % 4096 : Nat) : Int) == ((p' % 4096 : Nat) : Int))

set_option maxHeartbeats 1000000 in
theorem refFrom_any (r c : Int) (b p : Nat) (r' c' : Int) (b' p' : Nat) (hb : b < 18446744073709551616) (hb' : b' < 18446744073709551616) (hp : p < 65536) (hp' : p' < 65536) (w : World) :
    Calls Try.prog 9 #[vV r c b p, vV r' c' b' p'] w fun e w' => e = .returned (.bool (frV b p b' p')) ∧ Below w.heap.size w w' := by
  unfold frV
  have q := mac48 b b'
  have g := g48
  have e1 : (p : Int) % 4096 = ((p % 4096 : Nat) : Int) := by omega
  have e2 : (p' : Int) % 4096 = ((p' % 4096 : Nat) : Int) := by omega
  obtain ⟨hx, hy, hB⟩ := box2 w r c b p r' c' b' p'
  go_enter Try.func9, Try.ntmps9
  go_wp2
  generalize (w.alloc (.cells (vC r c b p) 28)).alloc (.cells (vC r' c' b' p') 28) = W at *
  have a2 := fun d os => (hx.grown d os).v.2.2.1
  have a3 := fun d os => (hx.grown d os).v.2.2.2
  have b2 := fun d os => (hy.grown d os).v.2.2.1
  have b3 := fun d os => (hy.grown d os).v.2.2.2
  have cx : ∀ d os, Calls Try.prog 23 #[.int .u64 b] (grow (redrawn W d) os) fun e w'' => e = .returned (macV (ofN b)) ∧ ∃ p : Regrown, w'' = grow (redrawn W p.d) p.os := fun d os => Calls.regrown_of (refBytes_any b hb _)
  have cy : ∀ d os, Calls Try.prog 23 #[.int .u64 b'] (grow (redrawn W d) os) fun e w'' => e = .returned (macV (ofN b')) ∧ ∃ p : Regrown, w'' = grow (redrawn W p.d) p.os := fun d os => Calls.regrown_of (refBytes_any b' hb' _)
  have HB := Lib.hid hB
  have H1 := Lib.hid e1
  have H2 := Lib.hid e2
  clear hB hx hy hb hb' e1 e2
  generalize ofN b = X at *
  generalize ofN b' = Y at *
  cases hE : eqM b b'
  · rw [hE] at q
    refine wp_region_quiet_below (by kernel_rfl) (by kernel_rfl) ?_
    repeat (go_big_quiet_step (first | with_reducible exact cx _ _ | with_reducible exact cy _ _))
    refine wpQuiet_nil ?_
    intro _ hw'
    obtain ⟨⟨dq, osq⟩, hw''⟩ := hw'
    subst hw''
    go_wp2
    go_ret
    exact ⟨by rw [hE]; rfl, below_next HB.out (below_regrown W dq osq)⟩
  · rw [hE] at q
    refine wp_region_quiet_below (by kernel_rfl) (by kernel_rfl) ?_
    repeat (go_big_quiet_step (first | with_reducible exact cx _ _ | with_reducible exact cy _ _))
    refine wpQuiet_nil ?_
    intro _ hw'
    obtain ⟨⟨dq, osq⟩, hw''⟩ := hw'
    subst hw''
    go_wp2
    go_ret
    exact ⟨ret_bool (by rw [hE, H1.out, H2.out]; rfl), below_next HB.out (below_regrown W dq osq)⟩

set_option maxHeartbeats 1000000 in
theorem from_any (r c : Int) (b p : Nat) (r' c' : Int) (b' p' : Nat) (hb : b < 18446744073709551616) (hb' : b' < 18446744073709551616) (hp : p < 65536) (hp' : p' < 65536) (w : World) :
    Calls Try.prog 11 #[vV r c b p, vV r' c' b' p'] w fun e w' => e = .returned (.bool (frV b p b' p')) ∧ Below w.heap.size w w' := by
  unfold frV
  have q := mac50 b b'
  have g := g50
  have kp := portNumber_any p hp
  have kq := portNumber_any p' hp'
  generalize p % 4096 = P at *
  generalize p' % 4096 = P' at *
  obtain ⟨hx, hy, hB⟩ := box2 w r c b p r' c' b' p'
  go_enter Try.func11, Try.ntmps11
  go_wp2
  generalize (w.alloc (.cells (vC r c b p) 28)).alloc (.cells (vC r' c' b' p') 28) = W at *
  have a2 := fun d os => (hx.grown d os).v.2.2.1
  have a3 := fun d os => (hx.grown d os).v.2.2.2
  have b2 := fun d os => (hy.grown d os).v.2.2.1
  have b3 := fun d os => (hy.grown d os).v.2.2.2
  have cx : ∀ d os, Calls Try.prog 24 #[.int .u64 b] (grow (redrawn W d) os) fun e w'' => e = .returned (macV (ofN b)) ∧ ∃ p : Regrown, w'' = grow (redrawn W p.d) p.os := fun d os => Calls.regrown_of (mac_any b hb _)
  have cy : ∀ d os, Calls Try.prog 24 #[.int .u64 b'] (grow (redrawn W d) os) fun e w'' => e = .returned (macV (ofN b')) ∧ ∃ p : Regrown, w'' = grow (redrawn W p.d) p.os := fun d os => Calls.regrown_of (mac_any b' hb' _)
  have cp : ∀ d os, Calls Try.prog 25 #[.int .u16 p] (grow (redrawn W d) os) fun e w'' => e = .returned (.int .i64 (P : Int)) ∧ ∃ p : Regrown, w'' = grow (redrawn W p.d) p.os := fun d os => Calls.same_regrown (kp _)
  have cq : ∀ d os, Calls Try.prog 25 #[.int .u16 p'] (grow (redrawn W d) os) fun e w'' => e = .returned (.int .i64 (P' : Int)) ∧ ∃ p : Regrown, w'' = grow (redrawn W p.d) p.os := fun d os => Calls.same_regrown (kq _)
  have HB := Lib.hid hB
  clear hB hx hy hb hb' hp hp' kp kq
  generalize ofN b = X at *
  generalize ofN b' = Y at *
  cases hE : eqM b b'
  · rw [hE] at q
    refine wp_region_quiet_below (by kernel_rfl) (by kernel_rfl) ?_
    repeat (go_big_quiet_step (first | with_reducible exact cx _ _ | with_reducible exact cy _ _ | with_reducible exact cp _ _ | with_reducible exact cq _ _))
    refine wpQuiet_nil ?_
    intro _ hw'
    obtain ⟨⟨dq, osq⟩, hw''⟩ := hw'
    subst hw''
    go_wp2
    go_ret
    exact ⟨by rw [hE]; rfl, below_next HB.out (below_regrown W dq osq)⟩
  · rw [hE] at q
    refine wp_region_quiet_below (by kernel_rfl) (by kernel_rfl) ?_
    repeat (go_big_quiet_step (first | with_reducible exact cx _ _ | with_reducible exact cy _ _ | with_reducible exact cp _ _ | with_reducible exact cq _ _))
    refine wpQuiet_nil ?_
    intro _ hw'
    obtain ⟨⟨dq, osq⟩, hw''⟩ := hw'
    subst hw''
    go_wp2
    go_ret
    exact ⟨by rw [hE]; rfl, below_next HB.out (below_regrown W dq osq)⟩

/-- Does a vector take the place of another one? -/
def supV (r c b p r' c' b' p' : Nat) : Bool := ltV r c b p r' c' b' p' || (frV b p b' p' && !eqV r c b p r' c' b' p')
set_option maxHeartbeats 1000000 in
theorem superior_any (r c b p r' c' b' p' : Nat) (hb : b < 18446744073709551616) (hb' : b' < 18446744073709551616) (hp : p < 65536) (hp' : p' < 65536) (w : World) :
    Calls Try.prog 12 #[vV r c b p, vV r' c' b' p'] w fun e w' => e = .returned (.bool (supV r c b p r' c' b' p')) ∧ Below w.heap.size w w' := by
  unfold supV
  have k1 := better_any r c b p r' c' b' p'
  have k2 := from_any r c b p r' c' b' p' hb hb' hp hp'
  have k3 : ∀ w, (binOp .neq 28 (vV r c b p) (vV r' c' b' p')).run Try.prog w = .ok (.bool (!eqV r c b p r' c' b' p')) w := by
    intro w
    rw [run_neq_struct, v_equal]; rfl
  clear hb hb' hp hp'
  obtain ⟨hx, hy, hB⟩ := box2 w r c b p r' c' b' p'
  have HB := Lib.hid hB
  clear hB
  generalize ltV r c b p r' c' b' p' = A at *
  generalize frV b p b' p' = B at *
  generalize eqV r c b p r' c' b' p' = C at *
  go_enter Try.func12, Try.ntmps12
  go_wp2_with fail
  generalize (w.alloc (.cells (vC r c b p) 28)).alloc (.cells (vC r' c' b' p') 28) = W at *
  obtain ⟨x0, x1, x2, x3⟩ := hx.v
  obtain ⟨y0, y1, y2, y3⟩ := hy.v
  refine (k1 _).mono ?_
  rintro e w1 ⟨rfl, hb1⟩
  have hx1 := hx.below hb1 hx.lt
  have hy1 := hy.below hb1 hy.lt
  have HB1 := Lib.hid (below_next HB.out hb1)
  clear hx hy hb1 x0 x1 x2 x3 y0 y1 y2 y3
  obtain ⟨x0, x1, x2, x3⟩ := hx1.v
  obtain ⟨y0, y1, y2, y3⟩ := hy1.v
  cases A
  · go_wp2_with fail
    refine (k2 _).mono ?_
    rintro e w2 ⟨rfl, hb2⟩
    have hx2 := hx1.below hb2 hx1.lt
    have hy2 := hy1.below hb2 hy1.lt
    have HB2 := Lib.hid (below_next HB1.out hb2)
    clear hx1 hy1 hb2 x0 x1 x2 x3 y0 y1 y2 y3
    obtain ⟨x0, x1, x2, x3⟩ := hx2.v
    obtain ⟨y0, y1, y2, y3⟩ := hy2.v
    cases B
    · go_wp2
      go_ret
      exact ⟨rfl, HB2.out⟩
    · go_wp2
      go_ret
      exact ⟨rfl, HB2.out⟩
  · go_wp2
    go_ret
    exact ⟨rfl, HB1.out⟩

theorem lives_any (w : World) : Calls Try.prog 6 #[] w fun e w' => e = .returned (.bool true) ∧ Below w.heap.size w w' := by
  have q := v_eql 9 0 9 0 9 0 9 0
  go_enter Try.func6, Try.ntmps6
  go_wp2_with fail
  refine (better_any 0 1 0 0 0 2 0 0 _).mono ?_
  rintro e w1 ⟨rfl, hb1⟩
  have e1 : ltV 0 1 0 0 0 2 0 0 = true := by decide
  rw [e1]
  go_wp2_with fail
  refine (add_any 3 4 (by omega) (by omega) _).mono ?_
  rintro e w2 ⟨rfl, rfl⟩
  have e2 : sat 3 4 = 7 := by decide
  rw [e2]
  go_wp2_with fail
  refine (own_any 9 _).mono ?_
  rintro e w3 ⟨rfl, hb3⟩
  go_wp2
  go_ret
  exact ⟨rfl, below_next hb1 hb3⟩
end Go.Proofs.Ytiifgdlifiebkaa
