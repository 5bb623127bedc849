/- Contracts of the functions on addresses and numbers that AddrNumbers reaches. -/
import Derived.Test.YtlmdpaemhjcmbaaGreatDoorDA
import Derived.Deep.MidRow
import Derived.ChangeKeysEq
namespace Go.Proofs.YtlmdpaemhjcmbaaGreatDoor.Cd
open Go.RowKit Go.Sort

/-- An address as a value: six bytes. -/
abbrev macV (x : Nat → Nat) : Value := .agg #[.int .u8 (x 0), .int .u8 (x 1), .int .u8 (x 2), .int .u8 (x 3), .int .u8 (x 4), .int .u8 (x 5)]
/-- The number of the first k bytes. -/
def pref (x : Nat → Nat) : Nat → Nat | 0 => 0 | k + 1 => 256 * pref x k + x k
theorem pref_lt {x : Nat → Nat} (hx : ∀ i, x i < 256) : ∀ k, pref x k < 256 ^ k
  | 0 => by simp [pref]
  | k + 1 => by have := pref_lt hx k; have := hx k; simp only [pref, Nat.pow_succ]; omega

theorem mac_index (x : Nat → Nat) : ∀ (k : Nat), k < 6 → ∀ (w : World), (Instr.index 23 (macV x) (.int .i64 k)).run Tryz.prog w = .ok (.int .u8 (x k)) w
  | 0, _, _ => by kernel_rfl
  | 1, _, _ => by kernel_rfl
  | 2, _, _ => by kernel_rfl
  | 3, _, _ => by kernel_rfl
  | 4, _, _ => by kernel_rfl
  | 5, _, _ => by kernel_rfl
  | k + 6, h, _ => absurd h (by omega)

theorem pref_or {x : Nat → Nat} (hx : ∀ i, x i < 256) {k : Nat} (hk : k < 6) : bits BinOp.or IntKind.u64 (IntKind.u64.wrap ((pref x k : Int) * 256)) (x k : Int) = (pref x (k + 1) : Int) := by
  have h1 := pref_lt hx k
  have h2 := hx k
  have h3 : 256 ^ k ≤ 256 ^ 5 := Nat.pow_le_pow_right (by omega) (by omega)
  have h4 : (256 : Nat) ^ 5 = 1099511627776 := rfl
  have e : IntKind.u64.wrap ((pref x k : Int) * 256) = ((pref x k * 256 : Nat) : Int) := by
    simp only [IntKind.wrap, IntKind.bits, IntKind.signed]; simp; omega
  rw [e, u64_or_nat _ _ (by omega) (by omega), nat_join 8 _ _ (by omega) (by omega)]
  simp only [pref]; omega
theorem pref_add {x : Nat → Nat} {k : Nat} : 256 * (pref x k : Int) + (x k : Int) = (pref x (k + 1) : Int) := by
  simp only [pref]; omega
theorem pref_small {x : Nat → Nat} (hx : ∀ i, x i < 256) {k : Nat} (hk : k < 6) : pref x k < 1099511627776 := by
  have h1 := pref_lt hx k
  have h3 : 256 ^ k ≤ 256 ^ 5 := Nat.pow_le_pow_right (by omega) (by omega)
  have h4 : (256 : Nat) ^ 5 = 1099511627776 := rfl
  omega

theorem mac_cell (x : Nat → Nat) (w : World) (t : TypeId) : ∀ k : Nat, k < 6 → (w.alloc (.cells #[.int .u8 (x 0), .int .u8 (x 1), .int .u8 (x 2), .int .u8 (x 3), .int .u8 (x 4), .int .u8 (x 5)] t)).cell? ⟨w.heap.size, k, none⟩ = some (.int .u8 (x k))
  | 0, _ => by simp [go_sem]
  | 1, _ => by simp [go_sem]
  | 2, _ => by simp [go_sem]
  | 3, _ => by simp [go_sem]
  | 4, _ => by simp [go_sem]
  | 5, _ => by simp [go_sem]
  | k + 6, h => absurd h (by omega)

def groupX : Nat → Nat | 0 => 1 | 1 => 128 | 2 => 194 | _ => 0
def ofN (n : Nat) (i : Nat) : Nat := n / 256 ^ (5 - i) % 256
theorem ofN_int (n : Nat) : (n : Int) % 256 = (ofN n 5 : Nat) ∧ (n : Int) / 256 % 256 = (ofN n 4 : Nat) ∧ (n : Int) / 256 / 256 % 256 = (ofN n 3 : Nat) ∧ (n : Int) / 256 / 256 / 256 % 256 = (ofN n 2 : Nat) ∧
    (n : Int) / 256 / 256 / 256 / 256 % 256 = (ofN n 1 : Nat) ∧ (n : Int) / 256 / 256 / 256 / 256 / 256 % 256 = (ofN n 0 : Nat) := by
  unfold ofN; simp only [Nat.sub_self, Nat.reduceSub, Nat.reducePow, Nat.pow_zero]
  refine ⟨?_, ?_, ?_, ?_, ?_, ?_⟩ <;> omega
/-- An address lies in a variable. -/
def At (w : World) (b : Nat) (x : Nat → Nat) : Prop := ∀ k, k < 6 → w.cell? ⟨b, k, none⟩ = some (.int .u8 (x k))
theorem At.lt {w : World} {b : Nat} {x : Nat → Nat} (h : At w b x) : b < w.heap.size := block_lt_of_cell (h 0 (by omega))
theorem At.below {w w' : World} {b B : Nat} {x : Nat → Nat} (h : At w b x) (hb : Below B w w') (hB : b < B) : At w' b x := fun k hk => by rw [hb.cell hB]; exact h k hk
theorem At.range {w : World} {b : Nat} {x : Nat → Nat} (h : At w b x) : w.rangeAt b 0 [.int .u8 (x 0), .int .u8 (x 1), .int .u8 (x 2), .int .u8 (x 3), .int .u8 (x 4), .int .u8 (x 5)] := by
  intro j v hv
  match j with
  | 0 => cases hv; exact h 0 (by omega)
  | 1 => cases hv; exact h 1 (by omega)
  | 2 => cases hv; exact h 2 (by omega)
  | 3 => cases hv; exact h 3 (by omega)
  | 4 => cases hv; exact h 4 (by omega)
  | 5 => cases hv; exact h 5 (by omega)
  | j + 6 => simp at hv
theorem At.load {w : World} {b : Nat} {x : Nat → Nat} (h : At w b x) : (loadVar 23 ⟨b, 0, none⟩).run Tryz.prog w = .ok (macV x) w :=
  run_loadVar_mid w b 0 23 _ (.array 6 5) h.range (by kernel_rfl) rfl (by kernel_rfl)
theorem At.load22 {w : World} {b : Nat} {x : Nat → Nat} (h : At w b x) : (loadVar 22 ⟨b, 0, none⟩).run Tryz.prog w = .ok (macV x) w :=
  run_loadVar_mid w b 0 22 _ (.array 6 5) h.range (by kernel_rfl) rfl (by kernel_rfl)
/-- .. in every world of a region's class. -/
theorem At.grown {w : World} {b : Nat} {x : Nat → Nat} (h : At w b x) (d : Nat) (os : Array Obj) : At (grow (redrawn w d) os) b x := h.below (below_regrown w d os) h.lt

abbrev macO (x : Nat → Nat) (t : TypeId) : Obj := .cells #[.int .u8 (x 0), .int .u8 (x 1), .int .u8 (x 2), .int .u8 (x 3), .int .u8 (x 4), .int .u8 (x 5)] t
theorem box_at (w : World) (x : Nat → Nat) (t : TypeId) : At (w.alloc (macO x t)) w.heap.size x := mac_cell x w t
theorem box_below (w : World) (o : Obj) : Below w.heap.size w (w.alloc o) := (Below.refl _ _).alloc (Nat.le_refl _) _
theorem alloc_size (w : World) (o : Obj) : (w.alloc o).heap.size = w.heap.size + 1 := by simp
theorem box2_at (w : World) (x y : Nat → Nat) (s t : TypeId) : At ((w.alloc (macO x s)).alloc (macO y t)) w.heap.size x ∧ At ((w.alloc (macO x s)).alloc (macO y t)) (w.heap.size + 1) y ∧ Below w.heap.size w ((w.alloc (macO x s)).alloc (macO y t)) := by
  refine ⟨(box_at w x s).below (box_below _ _) (by rw [alloc_size]; omega), ?_, (box_below _ _).alloc (by rw [alloc_size]; omega) _⟩
  have := box_at (w.alloc (macO x s)) y t
  rwa [alloc_size] at this
/-- What a callee leaves of the world that it was called in is what is left of an elder one. -/
theorem below_next {w w1 w2 : World} (h : Below w.heap.size w w1) (k : Below w1.heap.size w1 w2) : Below w.heap.size w w2 := h.trans (k.mono h.size)

theorem u22 : Tryz.prog.underlying 22 = some (.array 6 5) := by kernel_rfl
theorem u23 : Tryz.prog.underlying 23 = some (.array 6 5) := by kernel_rfl
theorem u5 : Tryz.prog.underlying 5 = some (.int .u8) := by kernel_rfl
theorem c5 : Tryz.prog.cellsOf 5 = 1 := by kernel_rfl
set_option maxRecDepth 100000 in
theorem i5 : ∃ i, Tryz.prog.info? 5 = some i := ⟨_, rfl⟩
theorem part5 (xs : Array Value) (k : Nat) (v : Value) (h : xs[k]? = some v) (w : World) : (part 5 xs k).run Tryz.prog w = .ok v w := by
  simp [part, isAgg, run_underlying u5, Sem.run_bind, h]
theorem eqItem {xs ys : Array Value} {i : Nat} {is : List Nat} {a b : Int} {r : Bool} {w : World} (hx : xs[i]? = some (.int .u8 a)) (hy : ys[i]? = some (.int .u8 b))
    (hr : (Op.eqItems 9999 5 1 xs ys is).run Tryz.prog w = .ok r w) : (Op.eqItems 9999 5 1 xs ys (i :: is)).run Tryz.prog w = .ok (a == b && r) w := by
  have e : i * 1 = i := Nat.mul_one i
  simp only [Op.eqItems, Sem.run_bind, e, part5 _ _ _ hx, part5 _ _ _ hy, Result.andThen_ok, run_equalIn_int _ 9998 5 .u8 .u8 a b u5]
  by_cases h : a = b
  · simp [h, hr]
  · simp [h]
theorem mac_equal (a0 a1 a2 a3 a4 a5 b0 b1 b2 b3 b4 b5 : Int) (w : World) :
    (Op.equalIn 10000 23 (.agg #[.int .u8 a0, .int .u8 a1, .int .u8 a2, .int .u8 a3, .int .u8 a4, .int .u8 a5]) (.agg #[.int .u8 b0, .int .u8 b1, .int .u8 b2, .int .u8 b3, .int .u8 b4, .int .u8 b5])).run Tryz.prog w
      = .ok (a0 == b0 && (a1 == b1 && (a2 == b2 && (a3 == b3 && (a4 == b4 && (a5 == b5 && true)))))) w := by
  obtain ⟨i, hi⟩ := i5
  rw [run_equalIn_array w 9999 _ _ u23 hi, c5]
  exact eqItem (i := 0) rfl rfl (eqItem (i := 1) rfl rfl (eqItem (i := 2) rfl rfl (eqItem (i := 3) rfl rfl (eqItem (i := 4) rfl rfl (eqItem (i := 5) rfl rfl rfl)))))
theorem mac_same (x : Nat → Nat) (w : World) : (Op.equalIn 10000 23 (macV x) (macV x)).run Tryz.prog w = .ok true w := by
  rw [mac_equal]; simp
theorem g23 : Tryz.prog.eqGuardType Tryz.prog.depth 23 = false := by kernel_rfl

end Go.Proofs.YtlmdpaemhjcmbaaGreatDoor.Cd
