/- Contracts of the small functions of layer 7: roles in flags, ages; messages in memory. -/
import Derived.Test.YtdhmiekheecicaaDoorF
namespace Go.Proofs.YtdhmiekheecicaaDoor
open Go.RowKit Go.Sort

theorem ret_int {k : IntKind} {a b : Int} (h : a = b) : Ending.returned (.int k a) = .returned (.int k b) := by rw [h]
theorem ret_bool {a b : Bool} (h : a = b) : Ending.returned (.bool a) = .returned (.bool b) := by rw [h]

/-- The role that a number of the flags tells. -/
def rl : Nat → Int | 0 => 0 | 1 => 3 | 2 => 1 | _ => 2
/-- The role that flags tell. -/
def roleOf (f : Nat) : Int := rl (f / 4 % 4)
/-- What the table of roles holds. -/
def Env (w : World) : Prop := ∀ i, i < 4 → w.cell? ⟨0, i, none⟩ = some (.int .i64 (rl i))
theorem Env.lt {w : World} (h : Env w) : 0 < w.heap.size := block_lt_of_cell (h 0 (by omega))
theorem Env.below {w w' : World} (h : Env w) (hb : Below w.heap.size w w') : Env w' := by
  intro i hi
  rw [hb.cell (show (⟨0, i, none⟩ : Addr).block < w.heap.size from h.lt)]; exact h i hi
theorem Env.heap {w w' : World} (h : Env w) (hb : w'.heap = w.heap) : Env w' := by
  intro i hi
  have := h i hi
  unfold World.cell? at *; rw [hb]; exact this
theorem and12 : ∀ f : Nat, f < 256 → bits BinOp.and IntKind.u8 (f : Int) 12 = ((f / 4 % 4 * 4 : Nat) : Int) := by decide +kernel
theorem and129 : ∀ f : Nat, f < 256 → bits BinOp.and IntKind.u8 (f : Int) 129 = ((f / 128 * 128 + f % 2 : Nat) : Int) := by decide +kernel

set_option maxHeartbeats 1000000 in
theorem role_any (f : Nat) (hf : f < 256) (w : World) (h : Env w) : Calls Tryd.prog 14 #[.int .u8 f] w fun e w' => e = .returned (.int .i64 (roleOf f)) ∧ w = w' := by
  have h1 := and12 f hf
  have hj : f / 4 % 4 < 4 := Nat.mod_lt _ (by omega)
  have hc := h (f / 4 % 4) hj
  unfold roleOf
  generalize f / 4 % 4 = j at *
  have hs : (((j * 4 : Nat) : Int) / 4) = j := by omega
  clear h
  go_enter Tryd.func14, Tryd.ntmps14
  go_wp2
  go_ret
  exact ⟨rfl, rfl⟩
/-- The number of a role in the flags. -/
def nb (r : Int) : Nat := if r = 1 then 2 else if r = 2 then 3 else if r = 3 then 1 else if r = 4 then 1 else 0
def Env2 (w : World) : Prop := ∀ i : Nat, i < 5 → w.cell? ⟨1, i, none⟩ = some (.int .u8 (nb i))
theorem Env2.lt {w : World} (h : Env2 w) : 1 < w.heap.size := block_lt_of_cell (h 0 (by omega))
theorem Env2.below {w w' : World} (h : Env2 w) (hb : Below w.heap.size w w') : Env2 w' := by
  intro i hi
  rw [hb.cell (show (⟨1, i, none⟩ : Addr).block < w.heap.size from h.lt)]; exact h i hi
set_option maxHeartbeats 1000000 in
theorem numberOf_any (r : Int) (w : World) (h : Env2 w) : Calls Tryd.prog 25 #[.int .i64 r] w fun e w' => e = .returned (.int .u8 (nb r)) ∧ w = w' := by
  by_cases h1 : r < 0
  · have e : nb r = 0 := by unfold nb; (repeat' split) <;> omega
    rw [e]
    go_enter Tryd.func25, Tryd.ntmps25
    go_wp2
    go_ret
    exact ⟨rfl, rfl⟩
  · by_cases h2 : 5 ≤ r
    · have e : nb r = 0 := by unfold nb; (repeat' split) <;> omega
      rw [e]
      go_enter Tryd.func25, Tryd.ntmps25
      go_wp2
      go_ret
      exact ⟨rfl, rfl⟩
    · obtain ⟨j, rfl⟩ := Int.eq_ofNat_of_zero_le (show 0 ≤ r by omega)
      have hc := h j (by omega)
      generalize nb (j : Int) = x at *
      clear h
      go_enter Tryd.func25, Tryd.ntmps25
      go_wp2
      go_ret
      exact ⟨rfl, rfl⟩
theorem nb_lt (r : Int) : nb r < 4 := by unfold nb; (repeat' split) <;> omega
/-- Flags with a number of a role. -/
def wr (f n : Nat) : Nat := f / 16 * 16 + n * 4 + f % 4
theorem wr_eq : ∀ f : Nat, f < 256 → ∀ n : Nat, n < 4 → bits BinOp.or IntKind.u8 (bits BinOp.andNot IntKind.u8 (f : Int) 12) ((n : Int) * 4) = ((wr f n : Nat) : Int) := by decide +kernel
set_option maxHeartbeats 1000000 in
theorem withRole_any (f : Nat) (r : Int) (hf : f < 256) (w : World) (h : Env2 w) : Calls Tryd.prog 13 #[.int .u8 f, .int .i64 r] w fun e w' => e = .returned (.int .u8 (wr f (nb r))) ∧ w = w' := by
  have c := numberOf_any r w h
  have hn := nb_lt r
  have q := wr_eq f hf (nb r) hn
  generalize nb r = n at *
  clear h
  go_enter Tryd.func13, Tryd.ntmps13
  go_wp2_with fail
  refine c.mono ?_
  rintro e w1 ⟨rfl, rfl⟩
  go_wp2
  go_ret
  exact ⟨rfl, rfl⟩
set_option maxHeartbeats 1000000 in
theorem refRole_any (f : Nat) (hf : f < 256) (w : World) : Calls Tryd.prog 15 #[.int .u8 f] w fun e w' => e = .returned (.int .i64 (roleOf f)) ∧ w = w' := by
  unfold roleOf
  have h0 : (f : Int) / 4 % 4 = ((f / 4 % 4 : Nat) : Int) := by omega
  have hj : f / 4 % 4 < 4 := Nat.mod_lt _ (by omega)
  generalize f / 4 % 4 = j at *
  match j, hj with
  | 0, _ | 1, _ | 2, _ | 3, _ =>
    go_enter Tryd.func15, Tryd.ntmps15
    go_wp2
    go_ret
    exact ⟨rfl, rfl⟩

/-- A message's cells, and a message. -/
abbrev bpC (k f r c b p a m h d : Int) : Array Value := #[.int .i64 k, .int .u8 f, .int .u64 r, .int .u32 c, .int .u64 b, .int .u16 p, .int .u16 a, .int .u16 m, .int .u16 h, .int .u16 d]
abbrev bpV (k f r c b p a m h d : Int) : Value := .agg (bpC k f r c b p a m h d)
theorem VarAt.bp {w : World} {n : Nat} {k f r c b p a m h d : Int} {t : TypeId} (x : VarAt w n (bpC k f r c b p a m h d) t) :
    w.cell? ⟨n, 0, none⟩ = some (.int .i64 k) ∧ w.cell? ⟨n, 1, none⟩ = some (.int .u8 f) ∧ w.cell? ⟨n, 2, none⟩ = some (.int .u64 r) ∧ w.cell? ⟨n, 3, none⟩ = some (.int .u32 c) ∧ w.cell? ⟨n, 4, none⟩ = some (.int .u64 b) ∧ w.cell? ⟨n, 5, none⟩ = some (.int .u16 p) ∧
    w.cell? ⟨n, 6, none⟩ = some (.int .u16 a) ∧ w.cell? ⟨n, 7, none⟩ = some (.int .u16 m) ∧ w.cell? ⟨n, 8, none⟩ = some (.int .u16 h) ∧ w.cell? ⟨n, 9, none⟩ = some (.int .u16 d) :=
  ⟨x.cell 0, x.cell 1, x.cell 2, x.cell 3, x.cell 4, x.cell 5, x.cell 6, x.cell 7, x.cell 8, x.cell 9⟩
theorem young_any (k f r c b p a m h d : Int) (w : World) : Calls Tryd.prog 19 #[bpV k f r c b p a m h d] w fun e w' => e = .returned (.bool (decide (a < m))) ∧ w' = w.alloc (.cells (bpC k f r c b p a m h d) 31) := by
  have K := (var_new w (bpC k f r c b p a m h d) 31).bp
  obtain ⟨k0, k1, k2, k3, k4, k5, k6, k7, k8, k9⟩ := K
  go_enter Tryd.func19, Tryd.ntmps19
  go_wp2
  go_ret
  exact ⟨rfl, rfl⟩

theorem und31 : Tryd.prog.underlying 31 = some (.struct (Tryd.prog.fieldsOf 31)) := by kernel_rfl
theorem und29 : Tryd.prog.underlying 29 = some (.struct (Tryd.prog.fieldsOf 29)) := by kernel_rfl
theorem held31 : Tryd.prog.stoodInHeld 31 = false := by kernel_rfl
theorem held29 : Tryd.prog.stoodInHeld 29 = false := by kernel_rfl
theorem g31 : Tryd.prog.eqGuardType Tryd.prog.depth 31 = false := by kernel_rfl
theorem fields31 : (Tryd.prog.fieldsOf 31).toList.map (fun f => (f.name, f.type, f.offset)) = [("Kind", 22, 0), ("Flags", 5, 1), ("Vector", 29, 2), ("Age", 26, 6), ("Max", 26, 7), ("Hello", 26, 8), ("Delay", 26, 9)] := by kernel_rfl
theorem fields29 : (Tryd.prog.fieldsOf 29).toList.map (fun f => (f.name, f.type, f.offset)) = [("Root", 24, 0), ("Cost", 25, 1), ("Bridge", 24, 2), ("Port", 27, 3)] := by kernel_rfl
end Go.Proofs.YtdhmiekheecicaaDoor
