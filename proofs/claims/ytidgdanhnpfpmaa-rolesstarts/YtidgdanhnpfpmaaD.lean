/- Contracts of the functions on identifiers that the laws reach: addresses, numbers of ports, From. -/
import Derived.Test.YtidgdanhnpfpmaaC
namespace Go.Proofs.Ytidgdanhnpfpmaa
open Go.RowKit Go.Sort

/-- An address as a value: six bytes. -/
abbrev macV (x : Nat → Nat) : Value := .agg #[.int .u8 (x 0), .int .u8 (x 1), .int .u8 (x 2), .int .u8 (x 3), .int .u8 (x 4), .int .u8 (x 5)]
def ofN (n : Nat) (i : Nat) : Nat := n / 256 ^ (5 - i) % 256
theorem ofN_int (n : Nat) : (n : Int) % 256 = (ofN n 5 : Nat) ∧ (n : Int) / 256 % 256 = (ofN n 4 : Nat) ∧ (n : Int) / 256 / 256 % 256 = (ofN n 3 : Nat) ∧ (n : Int) / 256 / 256 / 256 % 256 = (ofN n 2 : Nat) ∧
    (n : Int) / 256 / 256 / 256 / 256 % 256 = (ofN n 1 : Nat) ∧ (n : Int) / 256 / 256 / 256 / 256 / 256 % 256 = (ofN n 0 : Nat) := by
  unfold ofN; simp only [Nat.sub_self, Nat.reduceSub, Nat.reducePow, Nat.pow_zero]
  refine ⟨?_, ?_, ?_, ?_, ?_, ?_⟩ <;> omega
theorem of_any (n : Nat) (_ : n < 18446744073709551616) (w : World) :
    Calls Try.prog 44 #[.int .u64 n] w fun e w' => e = .returned (macV (ofN n)) ∧ Below w.heap.size w w' := by
  go_enter Try.func44, Try.ntmps44
  go_wp2
  refine wp_loop_rounds 7 ?_
  rw [rounds_succ]; go_wp2
  rw [rounds_succ]; go_wp2
  rw [rounds_succ]; go_wp2
  rw [rounds_succ]; go_wp2
  rw [rounds_succ]; go_wp2
  rw [rounds_succ]; go_wp2
  rw [rounds_succ]; go_wp2
  go_returns
  obtain ⟨e5, e4, e3, e2, e1, e0⟩ := ofN_int n
  exact ⟨by rw [e5, e4, e3, e2, e1, e0], (((Below.refl _ _).alloc (Nat.le_refl _) _).alloc (by simp) _)⟩
theorem refBytes_any (n : Nat) (_ : n < 18446744073709551616) (w : World) :
    Calls Try.prog 21 #[.int .u64 n] w fun e w' => e = .returned (macV (ofN n)) ∧ Below w.heap.size w w' := by
  go_enter Try.func21, Try.ntmps21
  go_wp2
  refine wp_loop_rounds 7 ?_
  rw [rounds_succ]; go_wp2
  rw [rounds_succ]; go_wp2
  rw [rounds_succ]; go_wp2
  rw [rounds_succ]; go_wp2
  rw [rounds_succ]; go_wp2
  rw [rounds_succ]; go_wp2
  rw [rounds_succ]; go_wp2
  go_returns
  obtain ⟨e5, e4, e3, e2, e1, e0⟩ := ofN_int n
  exact ⟨by rw [e5, e4, e3, e2, e1, e0], (((Below.refl _ _).alloc (Nat.le_refl _) _).alloc (by simp) _)⟩
abbrev macC (x : Nat → Nat) : Array Value := #[.int .u8 (x 0), .int .u8 (x 1), .int .u8 (x 2), .int .u8 (x 3), .int .u8 (x 4), .int .u8 (x 5)]
theorem store6 {w w1 : World} {b : Nat} {y : Nat → Nat} {t : TypeId} (x : Nat → Nat) (h : VarAt w1 b (macC y) t) (hb : Below b w w1) :
    VarAt ((((((w1.setCell ⟨b, 0, none⟩ (.int .u8 (x 0))).setCell ⟨b, 1, none⟩ (.int .u8 (x 1))).setCell ⟨b, 2, none⟩ (.int .u8 (x 2))).setCell ⟨b, 3, none⟩ (.int .u8 (x 3))).setCell ⟨b, 4, none⟩ (.int .u8 (x 4))).setCell ⟨b, 5, none⟩ (.int .u8 (x 5))) b (macC x) t ∧
    Below b w ((((((w1.setCell ⟨b, 0, none⟩ (.int .u8 (x 0))).setCell ⟨b, 1, none⟩ (.int .u8 (x 1))).setCell ⟨b, 2, none⟩ (.int .u8 (x 2))).setCell ⟨b, 3, none⟩ (.int .u8 (x 3))).setCell ⟨b, 4, none⟩ (.int .u8 (x 4))).setCell ⟨b, 5, none⟩ (.int .u8 (x 5))) :=
  ⟨(((((h.set 0 (.int .u8 (x 0))).set 1 (.int .u8 (x 1))).set 2 (.int .u8 (x 2))).set 3 (.int .u8 (x 3))).set 4 (.int .u8 (x 4))).set 5 (.int .u8 (x 5)),
   (((((hb.setCell (Nat.le_refl _) _).setCell (Nat.le_refl _) _).setCell (Nat.le_refl _) _).setCell (Nat.le_refl _) _).setCell (Nat.le_refl _) _).setCell (Nat.le_refl _) _⟩
theorem VarAt.mac {w : World} {n : Nat} {x : Nat → Nat} {t : TypeId} (h : VarAt w n (macC x) t) :
    w.cell? ⟨n, 0, none⟩ = some (.int .u8 (x 0)) ∧ w.cell? ⟨n, 1, none⟩ = some (.int .u8 (x 1)) ∧ w.cell? ⟨n, 2, none⟩ = some (.int .u8 (x 2)) ∧ w.cell? ⟨n, 3, none⟩ = some (.int .u8 (x 3)) ∧ w.cell? ⟨n, 4, none⟩ = some (.int .u8 (x 4)) ∧ w.cell? ⟨n, 5, none⟩ = some (.int .u8 (x 5)) :=
  ⟨h.cell 0, h.cell 1, h.cell 2, h.cell 3, h.cell 4, h.cell 5⟩
set_option maxRecDepth 10000 in
theorem mac_any (n : Nat) (hn : n < 18446744073709551616) (w : World) :
    Calls Try.prog 39 #[.int .u64 n] w fun e w' => e = .returned (macV (ofN n)) ∧ Below w.heap.size w w' := by
  have c := of_any n hn
  generalize ofN n = x at *
  go_enter Try.func39, Try.ntmps39
  go_wp2_with fail
  refine (c _).mono ?_
  rintro e w1 ⟨rfl, hb⟩
  have v1 := (var_new w (macC (fun _ => 0)) 80).below hb (by rw [alloc_size]; omega)
  have hb1 := below_next (box_below w _) hb
  clear hb c
  obtain ⟨b0, b1, b2, b3, b4, b5⟩ := v1.mac
  have f0 := v1.frozen
  have V1 := Lib.hid v1
  have HB := Lib.hid hb1
  clear v1 hb1
  go_wp2_with fail
  obtain ⟨v2, b2'⟩ := store6 x V1.out HB.out
  clear b0 b1 b2 b3 b4 b5 f0
  revert v2 b2'
  generalize (((((w1.setCell ⟨w.heap.size, 0, none⟩ (.int .u8 (x 0))).setCell ⟨w.heap.size, 1, none⟩ (.int .u8 (x 1))).setCell ⟨w.heap.size, 2, none⟩ (.int .u8 (x 2))).setCell ⟨w.heap.size, 3, none⟩ (.int .u8 (x 3))).setCell ⟨w.heap.size, 4, none⟩ (.int .u8 (x 4))).setCell ⟨w.heap.size, 5, none⟩ (.int .u8 (x 5)) = W'
  intro v2 hb2
  obtain ⟨r0, r1, r2, r3, r4, r5⟩ := v2.mac
  exact bodyPost_ret (v := macV x) (by simp [results, Try.results39, go_sem, r0, r1, r2, r3, r4, r5]) rfl ⟨rfl, hb2⟩
theorem and4095 (n : Nat) (hn : n < 65536) : bits BinOp.and IntKind.u16 (n : Int) 4095 = ((n % 4096 : Nat) : Int) := by
  have := u16_and_nat n 4095 hn (by omega)
  rw [show ((4095 : Nat) : Int) = 4095 from rfl] at this
  rw [this, show (4095 : Nat) = 2 ^ 12 - 1 from rfl, Nat.and_two_pow_sub_one_eq_mod]
theorem u48 : Try.prog.underlying 60 = some (.array 6 5) := by kernel_rfl
theorem u50 : Try.prog.underlying 80 = some (.array 6 5) := by kernel_rfl
theorem u5 : Try.prog.underlying 5 = some (.int .u8) := by kernel_rfl
theorem c5 : Try.prog.cellsOf 5 = 1 := by kernel_rfl
theorem i5 : ∃ i, Try.prog.info? 5 = some i := ⟨_, rfl⟩
theorem part5 (xs : Array Value) (k : Nat) (v : Value) (h : xs[k]? = some v) (w : World) : (part 5 xs k).run Try.prog w = .ok v w := by
  simp [part, isAgg, run_underlying u5, Sem.run_bind, h]
theorem eqItem {xs ys : Array Value} {i : Nat} {is : List Nat} {a b : Int} {r : Bool} {w : World} (hx : xs[i]? = some (.int .u8 a)) (hy : ys[i]? = some (.int .u8 b))
    (hr : (Op.eqItems 9999 5 1 xs ys is).run Try.prog w = .ok r w) : (Op.eqItems 9999 5 1 xs ys (i :: is)).run Try.prog w = .ok (a == b && r) w := by
  have e : i * 1 = i := Nat.mul_one i
  simp only [Op.eqItems, Sem.run_bind, e, part5 _ _ _ hx, part5 _ _ _ hy, Result.andThen_ok, run_equalIn_int _ 9998 5 .u8 .u8 a b u5]
  by_cases h : a = b
  · simp [h, hr]
  · simp [h]
/-- Have two numbers one address? -/
def eqM (n m : Nat) : Bool := ((ofN n 0 : Nat) : Int) == (ofN m 0 : Nat) && (((ofN n 1 : Nat) : Int) == (ofN m 1 : Nat) && (((ofN n 2 : Nat) : Int) == (ofN m 2 : Nat) && (((ofN n 3 : Nat) : Int) == (ofN m 3 : Nat) && (((ofN n 4 : Nat) : Int) == (ofN m 4 : Nat) && (((ofN n 5 : Nat) : Int) == (ofN m 5 : Nat) && true)))))
theorem mac48 (n m : Nat) (w : World) : (Op.equalIn 10000 60 (macV (ofN n)) (macV (ofN m))).run Try.prog w = .ok (eqM n m) w := by
  obtain ⟨i, hi⟩ := i5
  rw [run_equalIn_array w 9999 _ _ u48 hi, c5]
  exact eqItem (i := 0) rfl rfl (eqItem (i := 1) rfl rfl (eqItem (i := 2) rfl rfl (eqItem (i := 3) rfl rfl (eqItem (i := 4) rfl rfl (eqItem (i := 5) rfl rfl rfl)))))
theorem mac50 (n m : Nat) (w : World) : (Op.equalIn 10000 80 (macV (ofN n)) (macV (ofN m))).run Try.prog w = .ok (eqM n m) w := by
  obtain ⟨i, hi⟩ := i5
  rw [run_equalIn_array w 9999 _ _ u50 hi, c5]
  exact eqItem (i := 0) rfl rfl (eqItem (i := 1) rfl rfl (eqItem (i := 2) rfl rfl (eqItem (i := 3) rfl rfl (eqItem (i := 4) rfl rfl (eqItem (i := 5) rfl rfl rfl)))))
theorem g48 : Try.prog.eqGuardType Try.prog.depth 60 = false := by kernel_rfl
theorem g50 : Try.prog.eqGuardType Try.prog.depth 80 = false := by kernel_rfl
end Go.Proofs.Ytidgdanhnpfpmaa
