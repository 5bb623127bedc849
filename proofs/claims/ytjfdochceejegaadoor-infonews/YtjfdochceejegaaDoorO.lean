/- Contract of setDesignated. -/
import Derived.Test.YtjfdochceejegaaDoorN
namespace Go.Proofs.YtjfdochceejegaaDoor
open Go.RowKit Go.Sort

/-- What a port would tell is put into its cells. -/
def desA (B : Bd) (q : Nat) (A : Array Value) (o : Nat) : Array Value :=
  putL (putL (putL A (o + 53) [.int .u64 B.r, .int .u32 B.c, .int .u64 B.id, .int .u16 q]) (o + 60) [.int .i64 B.ra, .int .i64 B.rm, .int .i64 B.rh, .int .i64 B.rd]) (o + 62) [.int .i64 B.h]
theorem s30 : (Tryd.prog.info? 31).map (·.size) = some 4 := by kernel_rfl
theorem s25 : (Tryd.prog.info? 33).map (·.size) = some 4 := by kernel_rfl
theorem store_vec (b o : Nat) (r c g p : Int) (w : World) (h : w.there b o 4) : (Instr.storeAt 31 (.pointer (some ⟨b, o, none⟩)) (vV r c g p)).run Tryd.prog w = .ok () (w.setCells b o [.int .u64 r, .int .u32 c, .int .u64 g, .int .u16 p]) :=
  run_storeAt_mid w b o 31 (vC r c g p) h (by rw [s30]; rfl) (by simp [Value.oneCell'])
theorem store_tm (b o : Nat) (x m h d : Int) (w : World) (ht : w.there b o 4) : (Instr.storeAt 33 (.pointer (some ⟨b, o, none⟩)) (tmV x m h d)).run Tryd.prog w = .ok () (w.setCells b o [.int .i64 x, .int .i64 m, .int .i64 h, .int .i64 d]) :=
  run_storeAt_mid w b o 33 (tmC x m h d) ht (by rw [s25]; rfl) (by simp [Value.oneCell'])
/-- What stands in a cell. -/
def cellD (w : World) (b k : Nat) : Value := (w.cell? ⟨b, k, none⟩).getD undef
theorem cellD_of {w : World} {b k : Nat} (h : (w.cell? ⟨b, k, none⟩).isSome = true) : w.cell? ⟨b, k, none⟩ = some (cellD w b k) := by
  obtain ⟨v, hv⟩ := Option.isSome_iff_exists.1 h
  unfold cellD; rw [hv]; rfl
theorem isSome_set {w : World} {a x : Addr} {u : Value} (h : (w.cell? x).isSome = true) : ((w.setCell a u).cell? x).isSome = true := by
  obtain ⟨v, hv⟩ := Option.isSome_iff_exists.1 h
  by_cases e : a = x
  · subst e; rw [World.cell?_setCell_same _ _ _ hv]; rfl
  · rw [World.cell?_setCell_other _ _ _ _ e, hv]; rfl
theorem cellD_set {w : World} {a : Addr} {u : Value} {b k : Nat} (h : w.cell? ⟨b, k, none⟩ = some (cellD w b k)) : (w.setCell a u).cell? ⟨b, k, none⟩ = some (cellD (w.setCell a u) b k) :=
  cellD_of (isSome_set (by rw [h]; rfl))
theorem cellD_below {w w1 : World} (hb : Below w.heap.size w w1) {b k : Nat} (h : w.cell? ⟨b, k, none⟩ = some (cellD w b k)) : w1.cell? ⟨b, k, none⟩ = some (cellD w1 b k) :=
  cellD_of (by rw [hb.cell (by exact block_lt_of_cell h), h]; rfl)
theorem cell_below {w w1 : World} (hb : Below w.heap.size w w1) {a : Addr} {v : Value} (h : w.cell? a = some v) : w1.cell? a = some v := by
  rw [hb.cell (block_lt_of_cell h)]; exact h
theorem cell_set {w : World} {a x : Addr} {u v : Value} (hne : a ≠ x) (h : w.cell? x = some v) : (w.setCell a u).cell? x = some v := by
  rw [World.cell?_setCell_other _ _ _ _ hne]; exact h
theorem addr_ne {b o b' o' : Nat} (h : b ≠ b' ∨ o ≠ o') : (⟨b, o, none⟩ : Addr) ≠ ⟨b', o', none⟩ := fun e => by
  cases e; simp at h
/-- What the first region of setDesignated asks of the world. -/
abbrev SD (B : Bd) (bb pb o q : Nat) (w : World) : Prop :=
  w.cell? ⟨bb, 7, none⟩ = some (.int .u64 B.r) ∧ w.cell? ⟨bb, 8, none⟩ = some (.int .u32 B.c) ∧ w.cell? ⟨bb, 9, none⟩ = some (.int .u64 B.b) ∧ w.cell? ⟨bb, 10, none⟩ = some (.int .u16 B.p) ∧ w.cell? ⟨bb, 0, none⟩ = some (.int .u64 B.id) ∧ w.cell? ⟨pb, o, none⟩ = some (.int .u16 q) ∧
  w.cell? ⟨pb, o + 53, none⟩ = some (cellD w pb (o + 53)) ∧ w.cell? ⟨pb, o + 53, none⟩ = some (cellD w pb (o + 53)) ∧ w.cell? ⟨pb, o + 50, none⟩ = some (cellD w pb (o + 50)) ∧ w.cell? ⟨pb, o + 51, none⟩ = some (cellD w pb (o + 51)) ∧
  (∀ k, w.frozen? ⟨pb, k, none⟩ = false)
theorem SD.call {B : Bd} {bb pb o q : Nat} {w w1 : World} (hb : Below w.heap.size w w1) (h : SD B bb pb o q w) : SD B bb pb o q w1 := by
  obtain ⟨h1, h2, h3, h4, h5, h6, h7, h8, h9, h10, h11⟩ := h
  exact ⟨cell_below hb h1, cell_below hb h2, cell_below hb h3, cell_below hb h4, cell_below hb h5, cell_below hb h6, cellD_below hb h7, cellD_below hb h8, cellD_below hb h9, cellD_below hb h10, fun k => by rw [hb.frozen (p := ⟨pb, k, none⟩) (by exact block_lt_of_cell (a := ⟨pb, o, none⟩) h6)]; exact h11 k⟩
theorem SD.set {B : Bd} {bb pb o q k : Nat} {u : Value} {w : World} (hne : bb ≠ pb) (hk : k ≠ o) (h : SD B bb pb o q w) : SD B bb pb o q (w.setCell ⟨pb, k, none⟩ u) := by
  obtain ⟨h1, h2, h3, h4, h5, h6, h7, h8, h9, h10, h11⟩ := h
  exact ⟨cell_set (addr_ne (by omega)) h1, cell_set (addr_ne (by omega)) h2, cell_set (addr_ne (by omega)) h3, cell_set (addr_ne (by omega)) h4, cell_set (addr_ne (by omega)) h5, cell_set (addr_ne (by omega)) h6, cellD_set h7, cellD_set h8, cellD_set h9, cellD_set h10, fun k => by rw [World.frozen?_setCell]; exact h11 k⟩
theorem VarAt.some {w : World} {b : Nat} {xs : Array Value} {t : TypeId} (h : VarAt w b xs t) {k : Nat} (hk : k < xs.size) : w.cell? ⟨b, k, none⟩ = some (cellD w b k) := cellD_of (by rw [h.cell]; simp; omega)

end Go.Proofs.YtjfdochceejegaaDoor
