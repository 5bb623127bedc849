/- Contracts of the functions on identifiers, of From and Superior. -/
import Derived.Test.YtjfdochceejegaaDoorKa
import Derived.Test.YtjfdochceejegaaDoorE
namespace Go.Proofs.YtjfdochceejegaaDoor
open Go.RowKit Go.Sort

/-- An address as a value: six bytes. -/
abbrev macV (x : Nat → Nat) : Value := .agg #[.int .u8 (x 0), .int .u8 (x 1), .int .u8 (x 2), .int .u8 (x 3), .int .u8 (x 4), .int .u8 (x 5)]
def ofN (n : Nat) (i : Nat) : Nat := n / 256 ^ (5 - i) % 256
theorem ofN_int (n : Nat) : (n : Int) % 256 = (ofN n 5 : Nat) ∧ (n : Int) / 256 % 256 = (ofN n 4 : Nat) ∧ (n : Int) / 256 / 256 % 256 = (ofN n 3 : Nat) ∧ (n : Int) / 256 / 256 / 256 % 256 = (ofN n 2 : Nat) ∧
    (n : Int) / 256 / 256 / 256 / 256 % 256 = (ofN n 1 : Nat) ∧ (n : Int) / 256 / 256 / 256 / 256 / 256 % 256 = (ofN n 0 : Nat) := by
  unfold ofN; simp only [Nat.sub_self, Nat.reduceSub, Nat.reducePow, Nat.pow_zero]
  refine ⟨?_, ?_, ?_, ?_, ?_, ?_⟩ <;> omega
theorem of_any (n : Nat) (_ : n < 18446744073709551616) (w : World) :
    Calls Tryd.prog 70 #[.int .u64 n] w fun e w' => e = .returned (macV (ofN n)) ∧ Below w.heap.size w w' := by
  go_enter Tryd.func70, Tryd.ntmps70
  go_wp2
  refine wp_loop_rounds 7 ?_
  rw [rounds_succ]; go_wp2
  rw [rounds_succ]; go_wp2
  rw [rounds_succ]; go_wp2
  rw [rounds_succ]; go_wp2
  rw [rounds_succ]; go_wp2
  rw [rounds_succ]; go_wp2
  rw [rounds_succ]; go_wp2
  go_returns
  obtain ⟨e5, e4, e3, e2, e1, e0⟩ := ofN_int n
  exact ⟨by rw [e5, e4, e3, e2, e1, e0], (((Below.refl _ _).alloc (Nat.le_refl _) _).alloc (by simp) _)⟩
theorem refBytes_any (n : Nat) (_ : n < 18446744073709551616) (w : World) :
    Calls Tryd.prog 40 #[.int .u64 n] w fun e w' => e = .returned (macV (ofN n)) ∧ Below w.heap.size w w' := by
  go_enter Tryd.func40, Tryd.ntmps40
  go_wp2
  refine wp_loop_rounds 7 ?_
  rw [rounds_succ]; go_wp2
  rw [rounds_succ]; go_wp2
  rw [rounds_succ]; go_wp2
  rw [rounds_succ]; go_wp2
  rw [rounds_succ]; go_wp2
  rw [rounds_succ]; go_wp2
  rw [rounds_succ]; go_wp2
  go_returns
  obtain ⟨e5, e4, e3, e2, e1, e0⟩ := ofN_int n
  exact ⟨by rw [e5, e4, e3, e2, e1, e0], (((Below.refl _ _).alloc (Nat.le_refl _) _).alloc (by simp) _)⟩
abbrev macC (x : Nat → Nat) : Array Value := #[.int .u8 (x 0), .int .u8 (x 1), .int .u8 (x 2), .int .u8 (x 3), .int .u8 (x 4), .int .u8 (x 5)]
theorem store6 {w w1 : World} {b : Nat} {y : Nat → Nat} {t : TypeId} (x : Nat → Nat) (h : VarAt w1 b (macC y) t) (hb : Below b w w1) :
    VarAt ((((((w1.setCell ⟨b, 0, none⟩ (.int .u8 (x 0))).setCell ⟨b, 1, none⟩ (.int .u8 (x 1))).setCell ⟨b, 2, none⟩ (.int .u8 (x 2))).setCell ⟨b, 3, none⟩ (.int .u8 (x 3))).setCell ⟨b, 4, none⟩ (.int .u8 (x 4))).setCell ⟨b, 5, none⟩ (.int .u8 (x 5))) b (macC x) t ∧
    Below b w ((((((w1.setCell ⟨b, 0, none⟩ (.int .u8 (x 0))).setCell ⟨b, 1, none⟩ (.int .u8 (x 1))).setCell ⟨b, 2, none⟩ (.int .u8 (x 2))).setCell ⟨b, 3, none⟩ (.int .u8 (x 3))).setCell ⟨b, 4, none⟩ (.int .u8 (x 4))).setCell ⟨b, 5, none⟩ (.int .u8 (x 5))) :=
  ⟨(((((h.set 0 (.int .u8 (x 0))).set 1 (.int .u8 (x 1))).set 2 (.int .u8 (x 2))).set 3 (.int .u8 (x 3))).set 4 (.int .u8 (x 4))).set 5 (.int .u8 (x 5)),
   (((((hb.setCell (Nat.le_refl _) _).setCell (Nat.le_refl _) _).setCell (Nat.le_refl _) _).setCell (Nat.le_refl _) _).setCell (Nat.le_refl _) _).setCell (Nat.le_refl _) _⟩
theorem VarAt.mac {w : World} {n : Nat} {x : Nat → Nat} {t : TypeId} (h : VarAt w n (macC x) t) :
    w.cell? ⟨n, 0, none⟩ = some (.int .u8 (x 0)) ∧ w.cell? ⟨n, 1, none⟩ = some (.int .u8 (x 1)) ∧ w.cell? ⟨n, 2, none⟩ = some (.int .u8 (x 2)) ∧ w.cell? ⟨n, 3, none⟩ = some (.int .u8 (x 3)) ∧ w.cell? ⟨n, 4, none⟩ = some (.int .u8 (x 4)) ∧ w.cell? ⟨n, 5, none⟩ = some (.int .u8 (x 5)) :=
  ⟨h.cell 0, h.cell 1, h.cell 2, h.cell 3, h.cell 4, h.cell 5⟩
theorem mac_any (n : Nat) (hn : n < 18446744073709551616) (w : World) :
    Calls Tryd.prog 65 #[.int .u64 n] w fun e w' => e = .returned (macV (ofN n)) ∧ Below w.heap.size w w' := by
  have c := of_any n hn
  generalize ofN n = x at *
  go_enter Tryd.func65, Tryd.ntmps65
  go_wp2_with fail
  refine (c _).mono ?_
  rintro e w1 ⟨rfl, hb⟩
  have v1 := (var_new w (macC (fun _ => 0)) 89).below hb (by rw [alloc_size]; omega)
  have hb1 := below_next (box_below w _) hb
  clear hb c
  obtain ⟨b0, b1, b2, b3, b4, b5⟩ := v1.mac
  have f0 := v1.frozen
  have V1 := Lib.hid v1
  have HB := Lib.hid hb1
  clear v1 hb1
  go_wp2_with fail
  obtain ⟨v2, b2'⟩ := store6 x V1.out HB.out
  clear b0 b1 b2 b3 b4 b5 f0
  revert v2 b2'
  generalize (((((w1.setCell ⟨w.heap.size, 0, none⟩ (.int .u8 (x 0))).setCell ⟨w.heap.size, 1, none⟩ (.int .u8 (x 1))).setCell ⟨w.heap.size, 2, none⟩ (.int .u8 (x 2))).setCell ⟨w.heap.size, 3, none⟩ (.int .u8 (x 3))).setCell ⟨w.heap.size, 4, none⟩ (.int .u8 (x 4))).setCell ⟨w.heap.size, 5, none⟩ (.int .u8 (x 5)) = W'
  intro v2 hb2
  obtain ⟨r0, r1, r2, r3, r4, r5⟩ := v2.mac
  exact bodyPost_ret (v := macV x) (by simp [results, Tryd.results65, go_sem, r0, r1, r2, r3, r4, r5]) rfl ⟨rfl, hb2⟩
theorem and4095 (n : Nat) (hn : n < 65536) : bits BinOp.and IntKind.u16 (n : Int) 4095 = ((n % 4096 : Nat) : Int) := by
  have := u16_and_nat n 4095 hn (by omega)
  rw [show ((4095 : Nat) : Int) = 4095 from rfl] at this
  rw [this, show (4095 : Nat) = 2 ^ 12 - 1 from rfl, Nat.and_two_pow_sub_one_eq_mod]
theorem portNumber_any (p : Nat) (hp : p < 65536) (w : World) : Calls Tryd.prog 66 #[.int .u16 p] w fun e w' => e = .returned (.int .i64 ((p % 4096 : Nat) : Int)) ∧ w = w' := by
  have h := and4095 p hp
  go_enter Tryd.func66, Tryd.ntmps66
  go_wp2
  go_ret
  exact ⟨ret_int (by omega), rfl⟩
theorem u48 : Tryd.prog.underlying 74 = some (.array 6 5) := by kernel_rfl
theorem u50 : Tryd.prog.underlying 89 = some (.array 6 5) := by kernel_rfl
theorem u5 : Tryd.prog.underlying 5 = some (.int .u8) := by kernel_rfl
theorem c5 : Tryd.prog.cellsOf 5 = 1 := by kernel_rfl
theorem i5 : ∃ i, Tryd.prog.info? 5 = some i := ⟨_, rfl⟩
theorem part5 (xs : Array Value) (k : Nat) (v : Value) (h : xs[k]? = some v) (w : World) : (part 5 xs k).run Tryd.prog w = .ok v w := by
  simp [part, isAgg, run_underlying u5, Sem.run_bind, h]
theorem eqItem {xs ys : Array Value} {i : Nat} {is : List Nat} {a b : Int} {r : Bool} {w : World} (hx : xs[i]? = some (.int .u8 a)) (hy : ys[i]? = some (.int .u8 b))
    (hr : (Op.eqItems 9999 5 1 xs ys is).run Tryd.prog w = .ok r w) : (Op.eqItems 9999 5 1 xs ys (i :: is)).run Tryd.prog w = .ok (a == b && r) w := by
  have e : i * 1 = i := Nat.mul_one i
  simp only [Op.eqItems, Sem.run_bind, e, part5 _ _ _ hx, part5 _ _ _ hy, Result.andThen_ok, run_equalIn_int _ 9998 5 .u8 .u8 a b u5]
  by_cases h : a = b
  · simp [h, hr]
  · simp [h]
/-- Have two numbers one address? -/
def eqM (n m : Nat) : Bool := ((ofN n 0 : Nat) : Int) == (ofN m 0 : Nat) && (((ofN n 1 : Nat) : Int) == (ofN m 1 : Nat) && (((ofN n 2 : Nat) : Int) == (ofN m 2 : Nat) && (((ofN n 3 : Nat) : Int) == (ofN m 3 : Nat) && (((ofN n 4 : Nat) : Int) == (ofN m 4 : Nat) && (((ofN n 5 : Nat) : Int) == (ofN m 5 : Nat) && true)))))
theorem mac48 (n m : Nat) (w : World) : (Op.equalIn 10000 74 (macV (ofN n)) (macV (ofN m))).run Tryd.prog w = .ok (eqM n m) w := by
  obtain ⟨i, hi⟩ := i5
  rw [run_equalIn_array w 9999 _ _ u48 hi, c5]
  exact eqItem (i := 0) rfl rfl (eqItem (i := 1) rfl rfl (eqItem (i := 2) rfl rfl (eqItem (i := 3) rfl rfl (eqItem (i := 4) rfl rfl (eqItem (i := 5) rfl rfl rfl)))))
theorem mac50 (n m : Nat) (w : World) : (Op.equalIn 10000 89 (macV (ofN n)) (macV (ofN m))).run Tryd.prog w = .ok (eqM n m) w := by
  obtain ⟨i, hi⟩ := i5
  rw [run_equalIn_array w 9999 _ _ u50 hi, c5]
  exact eqItem (i := 0) rfl rfl (eqItem (i := 1) rfl rfl (eqItem (i := 2) rfl rfl (eqItem (i := 3) rfl rfl (eqItem (i := 4) rfl rfl (eqItem (i := 5) rfl rfl rfl)))))
theorem g48 : Tryd.prog.eqGuardType Tryd.prog.depth 74 = false := by kernel_rfl
theorem g50 : Tryd.prog.eqGuardType Tryd.prog.depth 89 = false := by kernel_rfl
/-- Are two vectors from the same source? -/
def frV (b p b' p' : Nat) : Bool := eqM b b' && (((p % 4096 : Nat) : Int) == ((p' % 4096 : Nat) : Int))
set_option maxHeartbeats 1000000 in
theorem refFrom_any (r c : Int) (b p : Nat) (r' c' : Int) (b' p' : Nat) (hb : b < 18446744073709551616) (hb' : b' < 18446744073709551616) (hp : p < 65536) (hp' : p' < 65536) (w : World) :
    Calls Tryd.prog 27 #[vV r c b p, vV r' c' b' p'] w fun e w' => e = .returned (.bool (frV b p b' p')) ∧ Below w.heap.size w w' := by
  unfold frV
  have q := mac48 b b'
  have g := g48
  have e1 : (p : Int) % 4096 = ((p % 4096 : Nat) : Int) := by omega
  have e2 : (p' : Int) % 4096 = ((p' % 4096 : Nat) : Int) := by omega
  obtain ⟨hx, hy, hB⟩ := box2 w r c b p r' c' b' p'
  go_enter Tryd.func27, Tryd.ntmps27
  go_wp2
  generalize (w.alloc (.cells (vC r c b p) 31)).alloc (.cells (vC r' c' b' p') 31) = W at *
  have a2 := fun d os => (hx.grown d os).v.2.2.1
  have a3 := fun d os => (hx.grown d os).v.2.2.2
  have b2 := fun d os => (hy.grown d os).v.2.2.1
  have b3 := fun d os => (hy.grown d os).v.2.2.2
  have cx : ∀ d os, Calls Tryd.prog 40 #[.int .u64 b] (grow (redrawn W d) os) fun e w'' => e = .returned (macV (ofN b)) ∧ ∃ p : Regrown, w'' = grow (redrawn W p.d) p.os := fun d os => Calls.regrown_of (refBytes_any b hb _)
  have cy : ∀ d os, Calls Tryd.prog 40 #[.int .u64 b'] (grow (redrawn W d) os) fun e w'' => e = .returned (macV (ofN b')) ∧ ∃ p : Regrown, w'' = grow (redrawn W p.d) p.os := fun d os => Calls.regrown_of (refBytes_any b' hb' _)
  have HB := Lib.hid hB
  have H1 := Lib.hid e1
  have H2 := Lib.hid e2
  clear hB hx hy hb hb' e1 e2
  generalize ofN b = X at *
  generalize ofN b' = Y at *
  cases hE : eqM b b'
  · rw [hE] at q
    refine wp_region_quiet_below (by kernel_rfl) (by kernel_rfl) ?_
    repeat (go_big_quiet_step (first | with_reducible exact cx _ _ | with_reducible exact cy _ _))
    refine wpQuiet_nil ?_
    intro _ hw'
    obtain ⟨⟨dq, osq⟩, hw''⟩ := hw'
    subst hw''
    go_wp2
    go_ret
    exact ⟨by rw [hE]; rfl, below_next HB.out (below_regrown W dq osq)⟩
  · rw [hE] at q
    refine wp_region_quiet_below (by kernel_rfl) (by kernel_rfl) ?_
    repeat (go_big_quiet_step (first | with_reducible exact cx _ _ | with_reducible exact cy _ _))
    refine wpQuiet_nil ?_
    intro _ hw'
    obtain ⟨⟨dq, osq⟩, hw''⟩ := hw'
    subst hw''
    go_wp2
    go_ret
    exact ⟨ret_bool (by rw [hE, H1.out, H2.out]; rfl), below_next HB.out (below_regrown W dq osq)⟩
set_option maxHeartbeats 1000000 in
theorem from_any (r c : Int) (b p : Nat) (r' c' : Int) (b' p' : Nat) (hb : b < 18446744073709551616) (hb' : b' < 18446744073709551616) (hp : p < 65536) (hp' : p' < 65536) (w : World) :
    Calls Tryd.prog 52 #[vV r c b p, vV r' c' b' p'] w fun e w' => e = .returned (.bool (frV b p b' p')) ∧ Below w.heap.size w w' := by
  unfold frV
  have q := mac50 b b'
  have g := g50
  have kp := portNumber_any p hp
  have kq := portNumber_any p' hp'
  generalize p % 4096 = P at *
  generalize p' % 4096 = P' at *
  obtain ⟨hx, hy, hB⟩ := box2 w r c b p r' c' b' p'
  go_enter Tryd.func52, Tryd.ntmps52
  go_wp2
  generalize (w.alloc (.cells (vC r c b p) 31)).alloc (.cells (vC r' c' b' p') 31) = W at *
  have a2 := fun d os => (hx.grown d os).v.2.2.1
  have a3 := fun d os => (hx.grown d os).v.2.2.2
  have b2 := fun d os => (hy.grown d os).v.2.2.1
  have b3 := fun d os => (hy.grown d os).v.2.2.2
  have cx : ∀ d os, Calls Tryd.prog 65 #[.int .u64 b] (grow (redrawn W d) os) fun e w'' => e = .returned (macV (ofN b)) ∧ ∃ p : Regrown, w'' = grow (redrawn W p.d) p.os := fun d os => Calls.regrown_of (mac_any b hb _)
  have cy : ∀ d os, Calls Tryd.prog 65 #[.int .u64 b'] (grow (redrawn W d) os) fun e w'' => e = .returned (macV (ofN b')) ∧ ∃ p : Regrown, w'' = grow (redrawn W p.d) p.os := fun d os => Calls.regrown_of (mac_any b' hb' _)
  have cp : ∀ d os, Calls Tryd.prog 66 #[.int .u16 p] (grow (redrawn W d) os) fun e w'' => e = .returned (.int .i64 (P : Int)) ∧ ∃ p : Regrown, w'' = grow (redrawn W p.d) p.os := fun d os => Calls.same_regrown (kp _)
  have cq : ∀ d os, Calls Tryd.prog 66 #[.int .u16 p'] (grow (redrawn W d) os) fun e w'' => e = .returned (.int .i64 (P' : Int)) ∧ ∃ p : Regrown, w'' = grow (redrawn W p.d) p.os := fun d os => Calls.same_regrown (kq _)
  have HB := Lib.hid hB
  clear hB hx hy hb hb' hp hp' kp kq
  generalize ofN b = X at *
  generalize ofN b' = Y at *
  cases hE : eqM b b'
  · rw [hE] at q
    refine wp_region_quiet_below (by kernel_rfl) (by kernel_rfl) ?_
    repeat (go_big_quiet_step (first | with_reducible exact cx _ _ | with_reducible exact cy _ _ | with_reducible exact cp _ _ | with_reducible exact cq _ _))
    refine wpQuiet_nil ?_
    intro _ hw'
    obtain ⟨⟨dq, osq⟩, hw''⟩ := hw'
    subst hw''
    go_wp2
    go_ret
    exact ⟨by rw [hE]; rfl, below_next HB.out (below_regrown W dq osq)⟩
  · rw [hE] at q
    refine wp_region_quiet_below (by kernel_rfl) (by kernel_rfl) ?_
    repeat (go_big_quiet_step (first | with_reducible exact cx _ _ | with_reducible exact cy _ _ | with_reducible exact cp _ _ | with_reducible exact cq _ _))
    refine wpQuiet_nil ?_
    intro _ hw'
    obtain ⟨⟨dq, osq⟩, hw''⟩ := hw'
    subst hw''
    go_wp2
    go_ret
    exact ⟨by rw [hE]; rfl, below_next HB.out (below_regrown W dq osq)⟩
/-- Does a vector take the place of another one? -/
def supV (r c : Int) (b p : Nat) (r' c' : Int) (b' p' : Nat) : Bool := ltV r c b p r' c' b' p' || (frV b p b' p' && !eqV r c b p r' c' b' p')
set_option maxHeartbeats 1000000 in
theorem superior_any (r c : Int) (b p : Nat) (r' c' : Int) (b' p' : Nat) (hb : b < 18446744073709551616) (hb' : b' < 18446744073709551616) (hp : p < 65536) (hp' : p' < 65536) (w : World) :
    Calls Tryd.prog 37 #[vV r c b p, vV r' c' b' p'] w fun e w' => e = .returned (.bool (supV r c b p r' c' b' p')) ∧ Below w.heap.size w w' := by
  unfold supV
  have k1 := better_any r c b p r' c' b' p'
  have k2 := from_any r c b p r' c' b' p' hb hb' hp hp'
  have k3 : ∀ w, (binOp .neq 31 (vV r c b p) (vV r' c' b' p')).run Tryd.prog w = .ok (.bool (!eqV r c b p r' c' b' p')) w := by
    intro w
    rw [run_neq_struct, v_equal]; rfl
  clear hb hb' hp hp'
  obtain ⟨hx, hy, hB⟩ := box2 w r c b p r' c' b' p'
  have HB := Lib.hid hB
  clear hB
  generalize ltV r c b p r' c' b' p' = A at *
  generalize frV b p b' p' = B at *
  generalize eqV r c b p r' c' b' p' = C at *
  go_enter Tryd.func37, Tryd.ntmps37
  go_wp2_with fail
  generalize (w.alloc (.cells (vC r c b p) 31)).alloc (.cells (vC r' c' b' p') 31) = W at *
  obtain ⟨x0, x1, x2, x3⟩ := hx.v
  obtain ⟨y0, y1, y2, y3⟩ := hy.v
  refine (k1 _).mono ?_
  rintro e w1 ⟨rfl, hb1⟩
  have hx1 := hx.below hb1 hx.lt
  have hy1 := hy.below hb1 hy.lt
  have HB1 := Lib.hid (below_next HB.out hb1)
  clear hx hy hb1 x0 x1 x2 x3 y0 y1 y2 y3
  obtain ⟨x0, x1, x2, x3⟩ := hx1.v
  obtain ⟨y0, y1, y2, y3⟩ := hy1.v
  cases A
  · go_wp2_with fail
    refine (k2 _).mono ?_
    rintro e w2 ⟨rfl, hb2⟩
    have hx2 := hx1.below hb2 hx1.lt
    have hy2 := hy1.below hb2 hy1.lt
    have HB2 := Lib.hid (below_next HB1.out hb2)
    clear hx1 hy1 hb2 x0 x1 x2 x3 y0 y1 y2 y3
    obtain ⟨x0, x1, x2, x3⟩ := hx2.v
    obtain ⟨y0, y1, y2, y3⟩ := hy2.v
    cases B
    · go_wp2
      go_ret
      exact ⟨rfl, HB2.out⟩
    · go_wp2
      go_ret
      exact ⟨rfl, HB2.out⟩
  · go_wp2
    go_ret
    exact ⟨rfl, HB1.out⟩
end Go.Proofs.YtjfdochceejegaaDoor
