/- A command done to a port of one's own. -/
import Derived.Test.YtlmdpaemhjcmbaaGreatDoorNa
namespace Go.Proofs.YtlmdpaemhjcmbaaGreatDoor
open Go.RowKit Go.Sort

/-- All blocks but that of a slice are as they were. -/
def Kept (w w' : World) (s : Value) : Prop := ∀ b, b < w.heap.size → (∀ g n c, s = .slice (some ⟨g, 0, none⟩) n c → b ≠ g) → w'.heap[b]? = w.heap[b]?
theorem Kept.of {w w' : World} (s : Value) (h : Below w.heap.size w w') : Kept w w' s := fun b hb _ => h.block b hb
theorem own5_set {w : World} {g n : Nat} {P : Nat → Pc} (h : Own5 w g n P) {q k : Nat} (hq : q < n) (hk : k < 5) {p : Pc} {v : Value} (hp : p.cells = (P q).cells.setIfInBounds k v) :
    Own5 (w.setCell ⟨g, q * 5 + k, none⟩ v) g n (fun i => if i = q then p else P i) := by
  obtain ⟨A, hv, hs, hc⟩ := h
  refine ⟨_, hv.set (q * 5 + k) v, by rw [Array.size_setIfInBounds]; exact hs, fun i hi j hj => ?_⟩
  rw [Array.getElem?_setIfInBounds]
  by_cases e : i = q
  · subst e
    simp only [if_true]
    rw [hp, Array.getElem?_setIfInBounds]
    by_cases f : k = j
    · subst f
      rw [if_pos (by omega), if_pos (by omega), if_pos rfl, if_pos (by show k < 5; omega)]
    · rw [if_neg (by omega), if_neg f]
      exact hc i hi j hj
  · rw [if_neg (by omega)]
    simp only [if_neg e]
    exact hc i hi j hj
theorem own5_frozen {w : World} {g n : Nat} {P : Nat → Pc} (h : Own5 w g n P) (k : Nat) : w.frozen? ⟨g, k, none⟩ = false := by
  obtain ⟨A, hv, _, _⟩ := h
  exact hv.frozen k
theorem own5_cell {w : World} {g n : Nat} {P : Nat → Pc} (h : Own5 w g n P) {q k : Nat} (hq : q < n) (hk : k < 5) : w.cell? ⟨g, q * 5 + k, none⟩ = (P q).cells[k]? := by
  obtain ⟨A, hv, _, hc⟩ := h
  rw [hv.cell]
  exact hc q hq k hk
theorem stQ_at (x : Cd.Cm) (P : Nat → Pc) (q : Nat) (h1 : 7 ≤ x.wh) (h2 : x.wh ≤ 11) (hp : x.po = (q : Int) + 1) : stQ x P = fun i => if i = q then stP x (P q) else P i := by
  funext i
  unfold stQ
  by_cases e : i = q
  · subst e; rw [if_pos ⟨h1, h2, hp.symm⟩, if_pos rfl]
  · rw [if_neg (by omega), if_neg e]
theorem u32_nn (m : Nat) (h : m ≤ 1073741824) : IntKind.u32.wrap (m : Int) = m := by
  show (m : Int) % 4294967296 = m
  omega
/-- .. the port that it names. -/
def okE (n : Nat) (x : Cd.Cm) : Int := if 1 ≤ x.po ∧ x.po ≤ n then 0 else 6
set_option maxRecDepth 20000 in
set_option maxHeartbeats 1000000 in
theorem changePort_not (x : Cd.Cm) (s : Value) (n : Nat) (P : Nat → Pc) (w : World) (hs : QIn w s n P) (hp : ¬ (1 ≤ x.po ∧ x.po ≤ n)) :
    Calls Tryz.prog 32 #[.agg x.cells, s] w fun e w' => e = .returned (.int .i64 6) ∧ Below w.heap.size w w' := by
  obtain ⟨a, c, rfl, _, _⟩ := hs
  have v := var_new w x.cells 33
  have k1 : (w.alloc (.cells x.cells 33)).cell? ⟨w.heap.size, 1, none⟩ = some (.int .i64 x.po) := v.cell 1
  have hb := Lib.hid (box_below w (.cells x.cells 33))
  clear v
  generalize x.cells = X at *
  generalize x.po = po at *
  by_cases h1 : 1 ≤ po
  · go_enter Tryz.func32, Tryz.ntmps32
    go_wp2_with fail
    go_ret
    exact ⟨rfl, hb.out⟩
  · clear hp
    go_enter Tryz.func32, Tryz.ntmps32
    go_wp2_with fail
    go_ret
    exact ⟨rfl, hb.out⟩
set_option maxRecDepth 20000 in
set_option maxHeartbeats 1000000 in
theorem changePort_7 (q m : Nat) (on : Bool) (mx : Nat → Nat) (g n c : Nat) (P : Nat → Pc) (w : World) (hs : Own5 w g n P) (hq : q < n) (hn : n ≤ 20) (hm : m ≤ 1073741824) :
    Calls Tryz.prog 32 #[.agg (⟨7, (q : Int) + 1, m, on, mx⟩ : Cd.Cm).cells, .slice (some ⟨g, 0, none⟩) n c] w fun e w' => e = .returned (.int .i64 0) ∧ ∃ w1, Below w.heap.size w w1 ∧ w' = w1.setCell ⟨g, q * 5, none⟩ (.int .i64 m) := by
  have v := var_new w (⟨7, (q : Int) + 1, m, on, mx⟩ : Cd.Cm).cells 33
  have k0 : (w.alloc (.cells (⟨7, (q : Int) + 1, m, on, mx⟩ : Cd.Cm).cells 33)).cell? ⟨w.heap.size, 0, none⟩ = some (.int .i64 7) := v.cell 0
  have k1 : (w.alloc (.cells (⟨7, (q : Int) + 1, m, on, mx⟩ : Cd.Cm).cells 33)).cell? ⟨w.heap.size, 1, none⟩ = some (.int .i64 ((q : Int) + 1)) := v.cell 1
  have k2 : (w.alloc (.cells (⟨7, (q : Int) + 1, m, on, mx⟩ : Cd.Cm).cells 33)).cell? ⟨w.heap.size, 2, none⟩ = some (.int .i64 m) := v.cell 2
  have k3 : (w.alloc (.cells (⟨7, (q : Int) + 1, m, on, mx⟩ : Cd.Cm).cells 33)).cell? ⟨w.heap.size, 3, none⟩ = some (.bool on) := v.cell 3
  have hb := Lib.hid (box_below w (.cells (⟨7, (q : Int) + 1, m, on, mx⟩ : Cd.Cm).cells 33))
  have hix := idx26 g 0 n c q hq
  have ho := hs.below hb.out hs.lt
  have fc := own5_cell ho (k := 0) hq (by omega)
  have ff := own5_frozen ho (q * 5)
  have hu := u32_nn m hm
  simp at fc
  clear v hs ho
  generalize (⟨7, (q : Int) + 1, m, on, mx⟩ : Cd.Cm).cells = X at *
  go_enter Tryz.func32, Tryz.ntmps32
  go_wp2_with fail
  go_ret
  exact ⟨rfl, _, hb.out, rfl⟩
set_option maxRecDepth 20000 in
set_option maxHeartbeats 1000000 in
theorem changePort_8 (q m : Nat) (on : Bool) (mx : Nat → Nat) (g n c : Nat) (P : Nat → Pc) (w : World) (hs : Own5 w g n P) (hq : q < n) (hn : n ≤ 20) (hm : m ≤ 1073741824) :
    Calls Tryz.prog 32 #[.agg (⟨8, (q : Int) + 1, m, on, mx⟩ : Cd.Cm).cells, .slice (some ⟨g, 0, none⟩) n c] w fun e w' => e = .returned (.int .i64 0) ∧ ∃ w1, Below w.heap.size w w1 ∧ w' = w1.setCell ⟨g, q * 5 + 1, none⟩ (.int .u32 m) := by
  have v := var_new w (⟨8, (q : Int) + 1, m, on, mx⟩ : Cd.Cm).cells 33
  have k0 : (w.alloc (.cells (⟨8, (q : Int) + 1, m, on, mx⟩ : Cd.Cm).cells 33)).cell? ⟨w.heap.size, 0, none⟩ = some (.int .i64 8) := v.cell 0
  have k1 : (w.alloc (.cells (⟨8, (q : Int) + 1, m, on, mx⟩ : Cd.Cm).cells 33)).cell? ⟨w.heap.size, 1, none⟩ = some (.int .i64 ((q : Int) + 1)) := v.cell 1
  have k2 : (w.alloc (.cells (⟨8, (q : Int) + 1, m, on, mx⟩ : Cd.Cm).cells 33)).cell? ⟨w.heap.size, 2, none⟩ = some (.int .i64 m) := v.cell 2
  have k3 : (w.alloc (.cells (⟨8, (q : Int) + 1, m, on, mx⟩ : Cd.Cm).cells 33)).cell? ⟨w.heap.size, 3, none⟩ = some (.bool on) := v.cell 3
  have hb := Lib.hid (box_below w (.cells (⟨8, (q : Int) + 1, m, on, mx⟩ : Cd.Cm).cells 33))
  have hix := idx26 g 0 n c q hq
  have ho := hs.below hb.out hs.lt
  have fc := own5_cell ho (k := 1) hq (by omega)
  have ff := own5_frozen ho (q * 5 + 1)
  have hu := u32_nn m hm
  simp at fc
  clear v hs ho
  generalize (⟨8, (q : Int) + 1, m, on, mx⟩ : Cd.Cm).cells = X at *
  go_enter Tryz.func32, Tryz.ntmps32
  go_wp2_with fail
  go_ret
  exact ⟨rfl, _, hb.out, rfl⟩
set_option maxRecDepth 20000 in
set_option maxHeartbeats 1000000 in
theorem changePort_9 (q m : Nat) (on : Bool) (mx : Nat → Nat) (g n c : Nat) (P : Nat → Pc) (w : World) (hs : Own5 w g n P) (hq : q < n) (hn : n ≤ 20) (hm : m ≤ 1073741824) :
    Calls Tryz.prog 32 #[.agg (⟨9, (q : Int) + 1, m, on, mx⟩ : Cd.Cm).cells, .slice (some ⟨g, 0, none⟩) n c] w fun e w' => e = .returned (.int .i64 0) ∧ ∃ w1, Below w.heap.size w w1 ∧ w' = w1.setCell ⟨g, q * 5 + 2, none⟩ (.bool on) := by
  have v := var_new w (⟨9, (q : Int) + 1, m, on, mx⟩ : Cd.Cm).cells 33
  have k0 : (w.alloc (.cells (⟨9, (q : Int) + 1, m, on, mx⟩ : Cd.Cm).cells 33)).cell? ⟨w.heap.size, 0, none⟩ = some (.int .i64 9) := v.cell 0
  have k1 : (w.alloc (.cells (⟨9, (q : Int) + 1, m, on, mx⟩ : Cd.Cm).cells 33)).cell? ⟨w.heap.size, 1, none⟩ = some (.int .i64 ((q : Int) + 1)) := v.cell 1
  have k2 : (w.alloc (.cells (⟨9, (q : Int) + 1, m, on, mx⟩ : Cd.Cm).cells 33)).cell? ⟨w.heap.size, 2, none⟩ = some (.int .i64 m) := v.cell 2
  have k3 : (w.alloc (.cells (⟨9, (q : Int) + 1, m, on, mx⟩ : Cd.Cm).cells 33)).cell? ⟨w.heap.size, 3, none⟩ = some (.bool on) := v.cell 3
  have hb := Lib.hid (box_below w (.cells (⟨9, (q : Int) + 1, m, on, mx⟩ : Cd.Cm).cells 33))
  have hix := idx26 g 0 n c q hq
  have ho := hs.below hb.out hs.lt
  have fc := own5_cell ho (k := 2) hq (by omega)
  have ff := own5_frozen ho (q * 5 + 2)
  have hu := u32_nn m hm
  simp at fc
  clear v hs ho
  generalize (⟨9, (q : Int) + 1, m, on, mx⟩ : Cd.Cm).cells = X at *
  go_enter Tryz.func32, Tryz.ntmps32
  go_wp2_with fail
  go_ret
  exact ⟨rfl, _, hb.out, rfl⟩
set_option maxRecDepth 20000 in
set_option maxHeartbeats 1000000 in
theorem changePort_10 (q m : Nat) (on : Bool) (mx : Nat → Nat) (g n c : Nat) (P : Nat → Pc) (w : World) (hs : Own5 w g n P) (hq : q < n) (hn : n ≤ 20) (hm : m ≤ 1073741824) :
    Calls Tryz.prog 32 #[.agg (⟨10, (q : Int) + 1, m, on, mx⟩ : Cd.Cm).cells, .slice (some ⟨g, 0, none⟩) n c] w fun e w' => e = .returned (.int .i64 0) ∧ ∃ w1, Below w.heap.size w w1 ∧ w' = w1.setCell ⟨g, q * 5 + 3, none⟩ (.bool on) := by
  have v := var_new w (⟨10, (q : Int) + 1, m, on, mx⟩ : Cd.Cm).cells 33
  have k0 : (w.alloc (.cells (⟨10, (q : Int) + 1, m, on, mx⟩ : Cd.Cm).cells 33)).cell? ⟨w.heap.size, 0, none⟩ = some (.int .i64 10) := v.cell 0
  have k1 : (w.alloc (.cells (⟨10, (q : Int) + 1, m, on, mx⟩ : Cd.Cm).cells 33)).cell? ⟨w.heap.size, 1, none⟩ = some (.int .i64 ((q : Int) + 1)) := v.cell 1
  have k2 : (w.alloc (.cells (⟨10, (q : Int) + 1, m, on, mx⟩ : Cd.Cm).cells 33)).cell? ⟨w.heap.size, 2, none⟩ = some (.int .i64 m) := v.cell 2
  have k3 : (w.alloc (.cells (⟨10, (q : Int) + 1, m, on, mx⟩ : Cd.Cm).cells 33)).cell? ⟨w.heap.size, 3, none⟩ = some (.bool on) := v.cell 3
  have hb := Lib.hid (box_below w (.cells (⟨10, (q : Int) + 1, m, on, mx⟩ : Cd.Cm).cells 33))
  have hix := idx26 g 0 n c q hq
  have ho := hs.below hb.out hs.lt
  have fc := own5_cell ho (k := 3) hq (by omega)
  have ff := own5_frozen ho (q * 5 + 3)
  have hu := u32_nn m hm
  simp at fc
  clear v hs ho
  generalize (⟨10, (q : Int) + 1, m, on, mx⟩ : Cd.Cm).cells = X at *
  go_enter Tryz.func32, Tryz.ntmps32
  go_wp2_with fail
  go_ret
  exact ⟨rfl, _, hb.out, rfl⟩
set_option maxRecDepth 20000 in
set_option maxHeartbeats 1000000 in
theorem changePort_11 (q m : Nat) (on : Bool) (mx : Nat → Nat) (g n c : Nat) (P : Nat → Pc) (w : World) (hs : Own5 w g n P) (hq : q < n) (hn : n ≤ 20) (hm : m ≤ 1073741824) :
    Calls Tryz.prog 32 #[.agg (⟨11, (q : Int) + 1, m, on, mx⟩ : Cd.Cm).cells, .slice (some ⟨g, 0, none⟩) n c] w fun e w' => e = .returned (.int .i64 0) ∧ ∃ w1, Below w.heap.size w w1 ∧ w' = w1.setCell ⟨g, q * 5 + 4, none⟩ (.int .i64 m) := by
  have v := var_new w (⟨11, (q : Int) + 1, m, on, mx⟩ : Cd.Cm).cells 33
  have k0 : (w.alloc (.cells (⟨11, (q : Int) + 1, m, on, mx⟩ : Cd.Cm).cells 33)).cell? ⟨w.heap.size, 0, none⟩ = some (.int .i64 11) := v.cell 0
  have k1 : (w.alloc (.cells (⟨11, (q : Int) + 1, m, on, mx⟩ : Cd.Cm).cells 33)).cell? ⟨w.heap.size, 1, none⟩ = some (.int .i64 ((q : Int) + 1)) := v.cell 1
  have k2 : (w.alloc (.cells (⟨11, (q : Int) + 1, m, on, mx⟩ : Cd.Cm).cells 33)).cell? ⟨w.heap.size, 2, none⟩ = some (.int .i64 m) := v.cell 2
  have k3 : (w.alloc (.cells (⟨11, (q : Int) + 1, m, on, mx⟩ : Cd.Cm).cells 33)).cell? ⟨w.heap.size, 3, none⟩ = some (.bool on) := v.cell 3
  have hb := Lib.hid (box_below w (.cells (⟨11, (q : Int) + 1, m, on, mx⟩ : Cd.Cm).cells 33))
  have hix := idx26 g 0 n c q hq
  have ho := hs.below hb.out hs.lt
  have fc := own5_cell ho (k := 4) hq (by omega)
  have ff := own5_frozen ho (q * 5 + 4)
  have hu := u32_nn m hm
  simp at fc
  clear v hs ho
  generalize (⟨11, (q : Int) + 1, m, on, mx⟩ : Cd.Cm).cells = X at *
  go_enter Tryz.func32, Tryz.ntmps32
  go_wp2_with fail
  go_ret
  exact ⟨rfl, _, hb.out, rfl⟩
end Go.Proofs.YtlmdpaemhjcmbaaGreatDoor
