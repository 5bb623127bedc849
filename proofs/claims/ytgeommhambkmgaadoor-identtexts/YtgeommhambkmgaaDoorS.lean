/- The library's errors of a number that is none: the contracts of stringslite.Clone, strconv.syntaxError, rangeError and toError. Conditions: the library's two error variables hold errors; texts of at most 1000 bytes. -/
import Derived.Test.YtgeommhambkmgaaDoorR
import Derived.Lib.BufferWrite
import Derived.Lib.UnsafeStr
import Derived.Lib.IfaceEq
import Derived.Deep.RegionWith
namespace Go.Proofs.YtgeommhambkmgaaDoor
open Go.RowKit Go.Sort

theorem zeros_made (c : Nat) : madeCells #[.int .u8 0] c = ((List.replicate c (0 : UInt8)).map bV).toArray := by
  apply Array.ext
  · simp [madeCells]
  · intro i h1 h2
    simp [madeCells, Nat.mod_one]
theorem make65 (n : Nat) (h : n ≤ 100000) (w : World) : (Instr.makeSlice 65 (.int .i64 (n : Int)) (.int .i64 (n : Int))).run Tryd.prog w = .ok (.slice (some ⟨w.heap.size, 0, none⟩) n n) (w.alloc (.cells ((List.replicate n (0 : UInt8)).map bV).toArray 5)) := by
  obtain ⟨i0, hinf, hz0, hz1, hz2⟩ := info_parts info5
  have := run_make (P := Tryd.prog) w 65 5 i0 (.int .u8 0) u44 hinf hz0 .i64 .i64 n n (by omega) (by omega) (by rw [hz2]; omega) (by omega)
  rw [this, hz1, ← zeros_made]
  simp [Value.cells]
theorem und98 : Tryd.prog.underlying 98 = some (.pointer 5) := by kernel_rfl
theorem size_one : (Tryd.prog.info? 5).map (·.size) = some 1 := by kernel_rfl

set_option maxRecDepth 10000 in
set_option maxHeartbeats 1000000 in
theorem clone_any (l : List UInt8) (hl : l.length ≤ 1000) (w : World) :
    Calls Tryd.prog 60 #[strV l] w fun e w' => e = .returned (strV l) ∧ Below w.heap.size w w' := by
  cases l with
  | nil =>
    go_enter Tryd.func60, Tryd.ntmps60
    go_wp2
    go_ret
    exact ⟨rfl, Below.refl _ _⟩
  | cons c r =>
    have hsz : (⟨⟨c :: r⟩⟩ : ByteArray).size = (c :: r).length := rfl
    generalize hL : c :: r = l at *
    have hne : l ≠ [] := by rw [← hL]; simp
    have h0 : 0 < l.length := by rw [← hL]; simp
    clear hL
    have hmk := make65 l.length (by omega)
    have hrow : (w.alloc (.cells ((List.replicate l.length (0 : UInt8)).map bV).toArray 5)).heap[w.heap.size]? = some (.cells ((List.replicate l.length (0 : UInt8)).map bV).toArray 5 (0, 0)) := (MapKept.heap_alloc w _).1
    have hcp := Lib.run_copy_row_string (P := Tryd.prog) (w.alloc (.cells ((List.replicate l.length (0 : UInt8)).map bV).toArray 5)) 65 9 3 5 w.heap.size 0 l.length l.length ⟨⟨l⟩⟩ _ 5 u44 size_one hrow (by rw [hsz]; exact Nat.le_refl _) (by rw [hsz]; simp)
    have hset := setRow_heap (w.alloc (.cells ((List.replicate l.length (0 : UInt8)).map bV).toArray 5)) w.heap.size _ (((List.replicate l.length (0 : UInt8)).map bV).toArray.toList.take 0 ++ Lib.byteCells (⟨⟨l⟩⟩ : ByteArray).data.toList ++ ((List.replicate l.length (0 : UInt8)).map bV).toArray.toList.drop (0 + (⟨⟨l⟩⟩ : ByteArray).size)).toArray 5 (0, 0) hrow
    have hb : Below w.heap.size w ((w.alloc (.cells ((List.replicate l.length (0 : UInt8)).map bV).toArray 5)).setRow w.heap.size (((List.replicate l.length (0 : UInt8)).map bV).toArray.toList.take 0 ++ Lib.byteCells (⟨⟨l⟩⟩ : ByteArray).data.toList ++ ((List.replicate l.length (0 : UInt8)).map bV).toArray.toList.drop (0 + (⟨⟨l⟩⟩ : ByteArray).size)).toArray) :=
      (box_below w _).trans ⟨rfl, rfl, rfl, by simp [World.setRow], fun k hk => setRow_other _ _ _ _ (by omega)⟩
    have hY : (((List.replicate l.length (0 : UInt8)).map bV).toArray.toList.take 0 ++ Lib.byteCells (⟨⟨l⟩⟩ : ByteArray).data.toList ++ ((List.replicate l.length (0 : UInt8)).map bV).toArray.toList.drop (0 + (⟨⟨l⟩⟩ : ByteArray).size)).toArray = (l.map bV).toArray := by
      rw [hsz]; simp [Lib.byteCells]
    rw [hY] at hcp hset hb
    clear hrow hY
    generalize ((List.replicate l.length (0 : UInt8)).map bV).toArray = M at *
    generalize (w.alloc (.cells M 5)).setRow w.heap.size (l.map bV).toArray = W2 at *
    have hUS := Lib.run_unsafeString_row (P := Tryd.prog) W2 98 3 9 5 und98 c5 w.heap.size l.length (by unfold World.shape?; rw [hset]; simp) l hne (Nat.le_refl _) (by omega)
      (fun j x hx => by
        rw [Addr.add_lit, Nat.zero_add, cell_of_row W2 w.heap.size j _ 5 (0, 0) hset]
        simp [hx])
    have HB := Lib.hid (Lib.below_freeze hb (p := ⟨w.heap.size, 0, none⟩) (Nat.le_refl _) l.length)
    clear hset hb
    go_enter Tryd.func60, Tryd.ntmps60
    go_wp2
    go_ret
    exact ⟨rfl, HB.out⟩

/-- The library's two errors are there. -/
def Errs (w : World) : Prop := (∃ t p, w.cell? ⟨2, 0, none⟩ = some (.iface t p)) ∧ ∃ t p, w.cell? ⟨3, 0, none⟩ = some (.iface t p)
theorem Errs.below {w w' : World} (h : Errs w) (hb : Below w.heap.size w w') : Errs w' := by
  obtain ⟨⟨t, p, h1⟩, s, q, h2⟩ := h
  exact ⟨⟨t, p, by rw [hb.cell (block_lt_of_cell h1)]; exact h1⟩, s, q, by rw [hb.cell (block_lt_of_cell h2)]; exact h2⟩
theorem Errs.drew {w : World} (h : Errs w) : Errs w.drew := h

set_option maxRecDepth 10000 in
set_option maxHeartbeats 1000000 in
theorem syntaxError_any (f l : List UInt8) (hl : l.length ≤ 1000) (w : World) (h : Errs w) :
    Calls Tryd.prog 46 #[strV f, strV l] w fun e w' => (∃ a, e = .returned (.pointer (some a))) ∧ Below w.heap.size w w' := by
  obtain ⟨⟨t, p, h1⟩, -⟩ := h
  have hG := block_lt_of_cell h1
  have h1d : w.drew.cell? ⟨2, 0, none⟩ = some (.iface t p) := h1
  go_enter Tryd.func46, Tryd.ntmps46
  go_wp2
  go_region_with (
    go_at_call 60
    refine (clone_any l hl _).mono ?_
    rintro e w2 ⟨rfl, hbel⟩
    have hv2 : w2.cell? ⟨2, 0, none⟩ = some (.iface t p) := (hbel.cell hG).trans h1d)
  all_goals
    go_wp2
    go_ret
    exact ⟨⟨_, rfl⟩, ((Below.drew (Below.refl _ w)).trans hbel).alloc hbel.size _⟩
set_option maxRecDepth 10000 in
set_option maxHeartbeats 1000000 in
theorem rangeError_any (f l : List UInt8) (hl : l.length ≤ 1000) (w : World) (h : Errs w) :
    Calls Tryd.prog 47 #[strV f, strV l] w fun e w' => (∃ a, e = .returned (.pointer (some a))) ∧ Below w.heap.size w w' := by
  obtain ⟨-, t, p, h1⟩ := h
  have hG := block_lt_of_cell h1
  have h1d : w.drew.cell? ⟨3, 0, none⟩ = some (.iface t p) := h1
  go_enter Tryd.func47, Tryd.ntmps47
  go_wp2
  go_region_with (
    go_at_call 60
    refine (clone_any l hl _).mono ?_
    rintro e w2 ⟨rfl, hbel⟩
    have hv2 : w2.cell? ⟨3, 0, none⟩ = some (.iface t p) := (hbel.cell hG).trans h1d)
  all_goals
    go_wp2
    go_ret
    exact ⟨⟨_, rfl⟩, ((Below.drew (Below.refl _ w)).trans hbel).alloc hbel.size _⟩

set_option maxRecDepth 10000 in
set_option maxHeartbeats 1000000 in
theorem toError_syntax (f l : List UInt8) (hl : l.length ≤ 1000) (a b : Int) (w : World) (h : Errs w) :
    Calls Tryd.prog 34 #[strV f, strV l, .int .i64 a, .int .i64 b, .iface 78 (.int .i64 2)] w fun e w' => (∃ a, e = .returned (.iface 80 (.pointer (some a)))) ∧ Below w.heap.size w w' := by
  have heq : ∀ w, (binOp .eql 56 (.iface 78 (.int .i64 2)) (.iface 78 (.int .i64 2))).run Tryd.prog w = .ok (.bool true) w := fun w => by kernel_rfl
  go_enter Tryd.func34, Tryd.ntmps34
  go_wp2_with fail
  refine (syntaxError_any f l hl _ h).mono ?_
  rintro e w2 ⟨⟨p, rfl⟩, hb⟩
  have HB := Lib.hid hb
  clear hb
  go_wp2_with fail
  go_ret
  exact ⟨⟨p, rfl⟩, HB.out⟩
set_option maxRecDepth 10000 in
set_option maxHeartbeats 1000000 in
theorem toError_range (f l : List UInt8) (hl : l.length ≤ 1000) (a b : Int) (w : World) (h : Errs w) :
    Calls Tryd.prog 34 #[strV f, strV l, .int .i64 a, .int .i64 b, .iface 78 (.int .i64 1)] w fun e w' => (∃ a, e = .returned (.iface 80 (.pointer (some a)))) ∧ Below w.heap.size w w' := by
  have heq : ∀ w, (binOp .eql 56 (.iface 78 (.int .i64 1)) (.iface 78 (.int .i64 2))).run Tryd.prog w = .ok (.bool false) w := fun w => by kernel_rfl
  have heq2 : ∀ w, (binOp .eql 56 (.iface 78 (.int .i64 1)) (.iface 78 (.int .i64 1))).run Tryd.prog w = .ok (.bool true) w := fun w => by kernel_rfl
  go_enter Tryd.func34, Tryd.ntmps34
  go_wp2_with fail
  refine (rangeError_any f l hl _ h).mono ?_
  rintro e w2 ⟨⟨p, rfl⟩, hb⟩
  have HB := Lib.hid hb
  clear hb
  go_wp2_with fail
  go_ret
  exact ⟨⟨p, rfl⟩, HB.out⟩
end Go.Proofs.YtgeommhambkmgaaDoor
