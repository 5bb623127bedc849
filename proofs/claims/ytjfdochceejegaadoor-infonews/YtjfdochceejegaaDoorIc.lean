/- Contracts of times.Lives, of the roles in flags, of a message's flags. -/
import Derived.Test.YtjfdochceejegaaDoorIa
namespace Go.Proofs.YtjfdochceejegaaDoor
open Go.RowKit Go.Sort

/-- For how long what came counts. -/
def lvV (a m h : Int) : Int := if m ≤ a then 0 else wrap64 (3 * h)
theorem lives6_any (a m h d x : Int) (w : World) : Calls Tryd.prog 60 #[tmV a m h d, .int .i64 x] w fun e w' => e = .returned (.int .i64 (lvV a m x)) ∧ Below w.heap.size w w' := by
  have hv := var_new w (tmC a m h d) 33
  have k0 := hv.cell 0
  have k1 := hv.cell 1
  simp only [List.getElem?_toArray, List.getElem?_cons_zero, List.getElem?_cons_succ] at k0 k1
  have HB := Lib.hid (box_below w (.cells (tmC a m h d) 33))
  unfold lvV
  by_cases q : m ≤ a
  · rw [if_pos q]
    go_enter Tryd.func60, Tryd.ntmps60
    go_wp2
    go_ret
    exact ⟨rfl, HB.out⟩
  · rw [if_neg q]
    go_enter Tryd.func60, Tryd.ntmps60
    go_wp2
    go_ret
    exact ⟨rfl, HB.out⟩
/-- The role that a number of the flags tells. -/
def rl : Nat → Int | 0 => 0 | 1 => 3 | 2 => 1 | _ => 2
/-- The role that flags tell. -/
def roleF (f : Nat) : Int := rl (f / 4 % 4)
/-- What the table of roles holds. -/
def Env (w : World) : Prop := ∀ i, i < 4 → w.cell? ⟨0, i, none⟩ = some (.int .i64 (rl i))
theorem Env.lt {w : World} (h : Env w) : 0 < w.heap.size := block_lt_of_cell (h 0 (by omega))
theorem Env.below {w w' : World} (h : Env w) (hb : Below w.heap.size w w') : Env w' := by
  intro i hi
  rw [hb.cell (show (⟨0, i, none⟩ : Addr).block < w.heap.size from h.lt)]; exact h i hi
theorem Env.heap {w w' : World} (h : Env w) (hb : w'.heap = w.heap) : Env w' := by
  intro i hi
  have := h i hi
  unfold World.cell? at *; rw [hb]; exact this
theorem and12 : ∀ f : Nat, f < 256 → bits BinOp.and IntKind.u8 (f : Int) 12 = ((f / 4 % 4 * 4 : Nat) : Int) := by decide +kernel
set_option maxHeartbeats 1000000 in
theorem role_any (f : Nat) (hf : f < 256) (w : World) (h : Env w) : Calls Tryd.prog 36 #[.int .u8 f] w fun e w' => e = .returned (.int .i64 (roleF f)) ∧ w = w' := by
  have h1 := and12 f hf
  have hj : f / 4 % 4 < 4 := Nat.mod_lt _ (by omega)
  have hc := h (f / 4 % 4) hj
  unfold roleF
  generalize f / 4 % 4 = j at *
  have hs : (((j * 4 : Nat) : Int) / 4) = j := by omega
  clear h
  go_enter Tryd.func36, Tryd.ntmps36
  go_wp2
  go_ret
  exact ⟨rfl, rfl⟩
set_option maxHeartbeats 1000000 in
theorem refRole_any (f : Nat) (hf : f < 256) (w : World) : Calls Tryd.prog 25 #[.int .u8 f] w fun e w' => e = .returned (.int .i64 (roleF f)) ∧ w = w' := by
  unfold roleF
  have h0 : (f : Int) / 4 % 4 = ((f / 4 % 4 : Nat) : Int) := by omega
  have hj : f / 4 % 4 < 4 := Nat.mod_lt _ (by omega)
  generalize f / 4 % 4 = j at *
  match j, hj with
  | 0, _ | 1, _ | 2, _ | 3, _ =>
    go_enter Tryd.func25, Tryd.ntmps25
    go_wp2
    go_ret
    exact ⟨rfl, rfl⟩

theorem Env.only {pb : Nat} {w w' : World} (h : Env w) (m : Only pb w w') (hne : pb ≠ 0) : Env w' := by
  intro i hi
  rw [← h i hi]
  unfold World.cell?
  simp only []
  rw [m.block 0 h.lt (by omega)]
/-- Has the message a flag? -/
def bitF (xs : Array Value) (c : Nat) : Bool := (numI xs 73).toNat / c % 2 == 1
/-- Is it an RST with a flag? -/
def rstF (xs : Array Value) (c : Nat) : Bool := (numI xs 72 == 3) && bitF xs c
theorem and_1 : ∀ f : Nat, f < 256 → (bits BinOp.and IntKind.u8 (f : Int) 1 != 0) = (f / 1 % 2 == 1) := by decide +kernel
theorem and_2 : ∀ f : Nat, f < 256 → (bits BinOp.and IntKind.u8 (f : Int) 2 != 0) = (f / 2 % 2 == 1) := by decide +kernel
theorem and_16 : ∀ f : Nat, f < 256 → (bits BinOp.and IntKind.u8 (f : Int) 16 != 0) = (f / 16 % 2 == 1) := by decide +kernel
theorem and_64 : ∀ f : Nat, f < 256 → (bits BinOp.and IntKind.u8 (f : Int) 64 != 0) = (f / 64 % 2 == 1) := by decide +kernel
theorem and_128 : ∀ f : Nat, f < 256 → (bits BinOp.and IntKind.u8 (f : Int) 128 != 0) = (f / 128 % 2 == 1) := by decide +kernel
set_option maxHeartbeats 1000000 in
theorem rst_2 (xs : Array Value) (hr : Rg xs) (w : World) : Calls Tryd.prog 59 #[.agg (msgC xs), .int .u8 2] w fun e w' => e = .returned (.bool (rstF xs 2)) ∧ Below w.heap.size w w' := by
  obtain ⟨f, ef, lf⟩ := hr.f
  have hv := var_new w (msgC xs) 36
  have k0 : (w.alloc (.cells (msgC xs) 36)).cell? ⟨w.heap.size, 0, none⟩ = some (.int .i64 (numI xs 72)) := hv.cell 0
  have k1 : (w.alloc (.cells (msgC xs) 36)).cell? ⟨w.heap.size, 1, none⟩ = some (.int .u8 (numI xs 73)) := hv.cell 1
  have HB := Lib.hid (box_below w (.cells (msgC xs) 36))
  have ha := and_2 f lf
  unfold rstF bitF
  rw [ef] at *
  rw [show ((f : Int)).toNat = f from rfl]
  clear hv lf hr
  generalize msgC xs = C at *
  generalize numI xs 72 = x72 at *
  generalize (f / 2 % 2 == 1) = F at *
  cases hk : (x72 == 3)
  · go_enter Tryd.func59, Tryd.ntmps59
    go_wp2
    go_ret
    exact ⟨rfl, HB.out⟩
  · cases F
    · go_enter Tryd.func59, Tryd.ntmps59
      go_wp2
      go_ret
      exact ⟨rfl, HB.out⟩
    · go_enter Tryd.func59, Tryd.ntmps59
      go_wp2
      go_ret
      exact ⟨rfl, HB.out⟩
set_option maxHeartbeats 1000000 in
theorem rst_16 (xs : Array Value) (hr : Rg xs) (w : World) : Calls Tryd.prog 59 #[.agg (msgC xs), .int .u8 16] w fun e w' => e = .returned (.bool (rstF xs 16)) ∧ Below w.heap.size w w' := by
  obtain ⟨f, ef, lf⟩ := hr.f
  have hv := var_new w (msgC xs) 36
  have k0 : (w.alloc (.cells (msgC xs) 36)).cell? ⟨w.heap.size, 0, none⟩ = some (.int .i64 (numI xs 72)) := hv.cell 0
  have k1 : (w.alloc (.cells (msgC xs) 36)).cell? ⟨w.heap.size, 1, none⟩ = some (.int .u8 (numI xs 73)) := hv.cell 1
  have HB := Lib.hid (box_below w (.cells (msgC xs) 36))
  have ha := and_16 f lf
  unfold rstF bitF
  rw [ef] at *
  rw [show ((f : Int)).toNat = f from rfl]
  clear hv lf hr
  generalize msgC xs = C at *
  generalize numI xs 72 = x72 at *
  generalize (f / 16 % 2 == 1) = F at *
  cases hk : (x72 == 3)
  · go_enter Tryd.func59, Tryd.ntmps59
    go_wp2
    go_ret
    exact ⟨rfl, HB.out⟩
  · cases F
    · go_enter Tryd.func59, Tryd.ntmps59
      go_wp2
      go_ret
      exact ⟨rfl, HB.out⟩
    · go_enter Tryd.func59, Tryd.ntmps59
      go_wp2
      go_ret
      exact ⟨rfl, HB.out⟩
set_option maxHeartbeats 1000000 in
theorem rst_64 (xs : Array Value) (hr : Rg xs) (w : World) : Calls Tryd.prog 59 #[.agg (msgC xs), .int .u8 64] w fun e w' => e = .returned (.bool (rstF xs 64)) ∧ Below w.heap.size w w' := by
  obtain ⟨f, ef, lf⟩ := hr.f
  have hv := var_new w (msgC xs) 36
  have k0 : (w.alloc (.cells (msgC xs) 36)).cell? ⟨w.heap.size, 0, none⟩ = some (.int .i64 (numI xs 72)) := hv.cell 0
  have k1 : (w.alloc (.cells (msgC xs) 36)).cell? ⟨w.heap.size, 1, none⟩ = some (.int .u8 (numI xs 73)) := hv.cell 1
  have HB := Lib.hid (box_below w (.cells (msgC xs) 36))
  have ha := and_64 f lf
  unfold rstF bitF
  rw [ef] at *
  rw [show ((f : Int)).toNat = f from rfl]
  clear hv lf hr
  generalize msgC xs = C at *
  generalize numI xs 72 = x72 at *
  generalize (f / 64 % 2 == 1) = F at *
  cases hk : (x72 == 3)
  · go_enter Tryd.func59, Tryd.ntmps59
    go_wp2
    go_ret
    exact ⟨rfl, HB.out⟩
  · cases F
    · go_enter Tryd.func59, Tryd.ntmps59
      go_wp2
      go_ret
      exact ⟨rfl, HB.out⟩
    · go_enter Tryd.func59, Tryd.ntmps59
      go_wp2
      go_ret
      exact ⟨rfl, HB.out⟩
theorem bit_1 (xs : Array Value) (hr : Rg xs) (w : World) : Calls Tryd.prog 64 #[.agg (msgC xs), .int .u8 1] w fun e w' => e = .returned (.bool (bitF xs 1)) ∧ Below w.heap.size w w' := by
  obtain ⟨f, ef, lf⟩ := hr.f
  have hv := var_new w (msgC xs) 36
  have k1 : (w.alloc (.cells (msgC xs) 36)).cell? ⟨w.heap.size, 1, none⟩ = some (.int .u8 (numI xs 73)) := hv.cell 1
  have HB := Lib.hid (box_below w (.cells (msgC xs) 36))
  unfold bitF
  rw [ef] at *
  rw [show ((f : Int)).toNat = f from rfl]
  have hd : (f : Int) / 1 % 2 = ((f / 1 % 2 : Nat) : Int) := by omega
  have hq : ((((f / 1 % 2 : Nat) : Int)) == 1) = (f / 1 % 2 == 1) := by
    rcases (show f / 1 % 2 = 0 ∨ f / 1 % 2 = 1 by omega) with h | h <;> rw [h] <;> rfl
  clear hv hr
  generalize msgC xs = C at *
  generalize (f / 1 % 2 == 1) = F at *
  generalize f / 1 % 2 = R at *
  go_enter Tryd.func64, Tryd.ntmps64
  go_wp2
  go_ret
  exact ⟨ret_bool (by first | exact hq | simp_all), HB.out⟩
theorem bit_2 (xs : Array Value) (hr : Rg xs) (w : World) : Calls Tryd.prog 64 #[.agg (msgC xs), .int .u8 2] w fun e w' => e = .returned (.bool (bitF xs 2)) ∧ Below w.heap.size w w' := by
  obtain ⟨f, ef, lf⟩ := hr.f
  have hv := var_new w (msgC xs) 36
  have k1 : (w.alloc (.cells (msgC xs) 36)).cell? ⟨w.heap.size, 1, none⟩ = some (.int .u8 (numI xs 73)) := hv.cell 1
  have HB := Lib.hid (box_below w (.cells (msgC xs) 36))
  unfold bitF
  rw [ef] at *
  rw [show ((f : Int)).toNat = f from rfl]
  have hd : (f : Int) / 2 % 2 = ((f / 2 % 2 : Nat) : Int) := by omega
  have hq : ((((f / 2 % 2 : Nat) : Int)) == 1) = (f / 2 % 2 == 1) := by
    rcases (show f / 2 % 2 = 0 ∨ f / 2 % 2 = 1 by omega) with h | h <;> rw [h] <;> rfl
  clear hv hr
  generalize msgC xs = C at *
  generalize (f / 2 % 2 == 1) = F at *
  generalize f / 2 % 2 = R at *
  go_enter Tryd.func64, Tryd.ntmps64
  go_wp2
  go_ret
  exact ⟨ret_bool (by first | exact hq | simp_all), HB.out⟩
theorem bit_16 (xs : Array Value) (hr : Rg xs) (w : World) : Calls Tryd.prog 64 #[.agg (msgC xs), .int .u8 16] w fun e w' => e = .returned (.bool (bitF xs 16)) ∧ Below w.heap.size w w' := by
  obtain ⟨f, ef, lf⟩ := hr.f
  have hv := var_new w (msgC xs) 36
  have k1 : (w.alloc (.cells (msgC xs) 36)).cell? ⟨w.heap.size, 1, none⟩ = some (.int .u8 (numI xs 73)) := hv.cell 1
  have HB := Lib.hid (box_below w (.cells (msgC xs) 36))
  unfold bitF
  rw [ef] at *
  rw [show ((f : Int)).toNat = f from rfl]
  have hd : (f : Int) / 16 % 2 = ((f / 16 % 2 : Nat) : Int) := by omega
  have hq : ((((f / 16 % 2 : Nat) : Int)) == 1) = (f / 16 % 2 == 1) := by
    rcases (show f / 16 % 2 = 0 ∨ f / 16 % 2 = 1 by omega) with h | h <;> rw [h] <;> rfl
  clear hv hr
  generalize msgC xs = C at *
  generalize (f / 16 % 2 == 1) = F at *
  generalize f / 16 % 2 = R at *
  go_enter Tryd.func64, Tryd.ntmps64
  go_wp2
  go_ret
  exact ⟨ret_bool (by first | exact hq | simp_all), HB.out⟩
theorem bit_64 (xs : Array Value) (hr : Rg xs) (w : World) : Calls Tryd.prog 64 #[.agg (msgC xs), .int .u8 64] w fun e w' => e = .returned (.bool (bitF xs 64)) ∧ Below w.heap.size w w' := by
  obtain ⟨f, ef, lf⟩ := hr.f
  have hv := var_new w (msgC xs) 36
  have k1 : (w.alloc (.cells (msgC xs) 36)).cell? ⟨w.heap.size, 1, none⟩ = some (.int .u8 (numI xs 73)) := hv.cell 1
  have HB := Lib.hid (box_below w (.cells (msgC xs) 36))
  unfold bitF
  rw [ef] at *
  rw [show ((f : Int)).toNat = f from rfl]
  have hd : (f : Int) / 64 % 2 = ((f / 64 % 2 : Nat) : Int) := by omega
  have hq : ((((f / 64 % 2 : Nat) : Int)) == 1) = (f / 64 % 2 == 1) := by
    rcases (show f / 64 % 2 = 0 ∨ f / 64 % 2 = 1 by omega) with h | h <;> rw [h] <;> rfl
  clear hv hr
  generalize msgC xs = C at *
  generalize (f / 64 % 2 == 1) = F at *
  generalize f / 64 % 2 = R at *
  go_enter Tryd.func64, Tryd.ntmps64
  go_wp2
  go_ret
  exact ⟨ret_bool (by first | exact hq | simp_all), HB.out⟩
theorem bit_128 (xs : Array Value) (hr : Rg xs) (w : World) : Calls Tryd.prog 64 #[.agg (msgC xs), .int .u8 128] w fun e w' => e = .returned (.bool (bitF xs 128)) ∧ Below w.heap.size w w' := by
  obtain ⟨f, ef, lf⟩ := hr.f
  have hv := var_new w (msgC xs) 36
  have k1 : (w.alloc (.cells (msgC xs) 36)).cell? ⟨w.heap.size, 1, none⟩ = some (.int .u8 (numI xs 73)) := hv.cell 1
  have HB := Lib.hid (box_below w (.cells (msgC xs) 36))
  unfold bitF
  rw [ef] at *
  rw [show ((f : Int)).toNat = f from rfl]
  have hd : (f : Int) / 128 % 2 = ((f / 128 % 2 : Nat) : Int) := by omega
  have hq : ((((f / 128 % 2 : Nat) : Int)) == 1) = (f / 128 % 2 == 1) := by
    rcases (show f / 128 % 2 = 0 ∨ f / 128 % 2 = 1 by omega) with h | h <;> rw [h] <;> rfl
  clear hv hr
  generalize msgC xs = C at *
  generalize (f / 128 % 2 == 1) = F at *
  generalize f / 128 % 2 = R at *
  go_enter Tryd.func64, Tryd.ntmps64
  go_wp2
  go_ret
  exact ⟨ret_bool (by first | exact hq | simp_all), HB.out⟩
end Go.Proofs.YtjfdochceejegaaDoor
