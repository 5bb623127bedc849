/- The contract of addr.Parse: the address of a text and no fault, or no address and ErrForm. -/
import Derived.Test.YtlmdpaemhjcmbaaGreatDoorDF
import Derived.Test.YtlmdpaemhjcmbaaGreatDoorDG0
namespace Go.Proofs.YtlmdpaemhjcmbaaGreatDoor.Cd
open Go.RowKit Go.Sort

/-- A variable of one cell, known whole. -/
def OneAt (w : World) (b : Nat) (v : Value) (t : TypeId) : Prop := w.heap[b]? = some (.cells #[v] t)
theorem OneAt.cell {w : World} {b : Nat} {v : Value} {t : TypeId} (h : OneAt w b v t) : w.cell? ⟨b, 0, none⟩ = some v := by
  rw [cell_of_row w b 0 _ t (0, 0) h]; rfl
theorem OneAt.frozen {w : World} {b : Nat} {v : Value} {t : TypeId} (h : OneAt w b v t) (k : Nat) : w.frozen? ⟨b, k, none⟩ = false := by
  unfold World.frozen?
  simp only []
  rw [show w.heap[b]? = _ from h]
  simp
theorem OneAt.set {w : World} {b : Nat} {v : Value} {t : TypeId} (h : OneAt w b v t) (u : Value) : OneAt (w.setCell ⟨b, 0, none⟩ u) b u t := by
  unfold OneAt World.setCell
  simp only [Array.getElem?_modify, if_true]
  rw [show w.heap[b]? = _ from h]
  rfl
theorem OneAt.set_other {w : World} {b : Nat} {v : Value} {t : TypeId} (h : OneAt w b v t) {a : Addr} (ha : b ≠ a.block) (u : Value) : OneAt (w.setCell a u) b v t := by
  unfold OneAt
  rw [Below.heap_setCell _ _ _ _ ha]
  exact h
theorem OneAt.below {w w' : World} {b B : Nat} {v : Value} {t : TypeId} (h : OneAt w b v t) (hb : Below B w w') (hB : b < B) : OneAt w' b v t := (hb.block b hB).trans h
theorem parse_start (w : World) : VarAt ((w.alloc (macO zeroX 23)).alloc (.cells #[.int .i64 0] 39)) w.heap.size zeroX 23 ∧ OneAt ((w.alloc (macO zeroX 23)).alloc (.cells #[.int .i64 0] 39)) (w.heap.size + 1) (.int .i64 0) 39 ∧
    Below w.heap.size w ((w.alloc (macO zeroX 23)).alloc (.cells #[.int .i64 0] 39)) ∧ ((w.alloc (macO zeroX 23)).alloc (.cells #[.int .i64 0] 39)).heap.size = w.heap.size + 2 := by
  refine ⟨?_, ?_, (box_below _ _).alloc (by rw [alloc_size]; omega) _, by rw [alloc_size, alloc_size]⟩
  · unfold VarAt
    rw [Below.heap_alloc _ _ _ (by simp)]
    exact (MapKept.heap_alloc w _).1
  · have := (MapKept.heap_alloc (w.alloc (macO zeroX 23)) (.cells #[.int .i64 0] 39)).1
    rwa [alloc_size] at this

theorem store6 {w w1 : World} {b : Nat} {y : Nat → Nat} {t : TypeId} (x : Nat → Nat) (h : VarAt w1 b y t) (hb : Below b w w1) :
    VarAt ((((((w1.setCell ⟨b, 0, none⟩ (.int .u8 (x 0))).setCell ⟨b, 1, none⟩ (.int .u8 (x 1))).setCell ⟨b, 2, none⟩ (.int .u8 (x 2))).setCell ⟨b, 3, none⟩ (.int .u8 (x 3))).setCell ⟨b, 4, none⟩ (.int .u8 (x 4))).setCell ⟨b, 5, none⟩ (.int .u8 (x 5))) b x t ∧
    (∀ b', b' ≠ b → ∀ {v : Value} {s : TypeId}, OneAt w1 b' v s → OneAt ((((((w1.setCell ⟨b, 0, none⟩ (.int .u8 (x 0))).setCell ⟨b, 1, none⟩ (.int .u8 (x 1))).setCell ⟨b, 2, none⟩ (.int .u8 (x 2))).setCell ⟨b, 3, none⟩ (.int .u8 (x 3))).setCell ⟨b, 4, none⟩ (.int .u8 (x 4))).setCell ⟨b, 5, none⟩ (.int .u8 (x 5))) b' v s) ∧
    Below b w ((((((w1.setCell ⟨b, 0, none⟩ (.int .u8 (x 0))).setCell ⟨b, 1, none⟩ (.int .u8 (x 1))).setCell ⟨b, 2, none⟩ (.int .u8 (x 2))).setCell ⟨b, 3, none⟩ (.int .u8 (x 3))).setCell ⟨b, 4, none⟩ (.int .u8 (x 4))).setCell ⟨b, 5, none⟩ (.int .u8 (x 5))) :=
  ⟨(((((h.set 0 (x 0) (by omega)).set 1 (x 1) (by omega)).set 2 (x 2) (by omega)).set 3 (x 3) (by omega)).set 4 (x 4) (by omega)).set 5 (x 5) (by omega),
   fun _ hne _ _ o => (((((o.set_other hne _).set_other hne _).set_other hne _).set_other hne _).set_other hne _).set_other hne _,
   (((((hb.setCell (Nat.le_refl _) _).setCell (Nat.le_refl _) _).setCell (Nat.le_refl _) _).setCell (Nat.le_refl _) _).setCell (Nat.le_refl _) _).setCell (Nat.le_refl _) _⟩

set_option maxHeartbeats 1000000 in
theorem parse_good (s : ByteArray) (hs : okTxt s) (w : World) :
    Calls Tryz.prog 70 #[.string s] w fun e w' => e = .returned (.tuple #[macV (macOf s), .int .i64 0]) ∧ Below w.heap.size w w' := by
  have hmf : ∀ (fn : Fn) (first cap : Array Value) (w : World), (Instr.makeFunc fn first cap).run Tryz.prog w = .ok (.func fn first cap) w := fun _ _ _ _ => rfl
  go_enter_defers Tryz.func70, Tryz.ntmps70
  go_wp2_with fail
  have c := fun w => parseText_any s w
  rw [endOf_good hs] at c
  refine (c _).mono ?_
  rintro e w1 ⟨rfl, hb⟩
  obtain ⟨v0, o0, hb0, hz⟩ := parse_start w
  have v1 := v0.below hb (Nat.lt_of_lt_of_eq (by omega : w.heap.size < w.heap.size + 2) hz.symm)
  have o1 := o0.below hb (Nat.lt_of_lt_of_eq (by omega : w.heap.size + 1 < w.heap.size + 2) hz.symm)
  have hb1 := below_next hb0 hb
  clear v0 o0 hb0 hz hb c hs
  have b0 := v1.at 0 (by omega)
  have b1 := v1.at 1 (by omega)
  have b2 := v1.at 2 (by omega)
  have b3 := v1.at 3 (by omega)
  have b4 := v1.at 4 (by omega)
  have b5 := v1.at 5 (by omega)
  have bo := o1.cell
  have f0 := v1.frozen
  have f1 := o1.frozen
  have V1 := Lib.hid v1
  have O1 := Lib.hid o1
  have HB := Lib.hid hb1
  clear v1 o1 hb1
  go_wp2
  refine leaves_cons (f := 82) (args := #[.pointer (some ⟨w.heap.size + 1, 0, none⟩)]) (by simp) (by simp [go_sem]) ?_
  refine (catch_idle ⟨w.heap.size + 1, 0, none⟩ _).mono ?_
  rintro e u' w'' ⟨rfl, rfl, rfl⟩
  obtain ⟨v2, k2, b2'⟩ := store6 (macOf s) V1.out HB.out
  have o2 := (k2 _ (by omega) O1.out).set (.int .i64 0)
  have v3 := v2.set_other (a := ⟨w.heap.size + 1, 0, none⟩) (by simp) (.int .i64 0)
  have hb3 := b2'.setCell (p := ⟨w.heap.size + 1, 0, none⟩) (by simp) (.int .i64 0)
  clear v2 k2 b2' b0 b1 b2 b3 b4 b5 bo f0 f1
  revert o2 v3 hb3
  generalize ((((((w1.setCell ⟨w.heap.size, 0, none⟩ (.int .u8 (macOf s 0))).setCell ⟨w.heap.size, 1, none⟩ (.int .u8 (macOf s 1))).setCell ⟨w.heap.size, 2, none⟩ (.int .u8 (macOf s 2))).setCell ⟨w.heap.size, 3, none⟩ (.int .u8 (macOf s 3))).setCell ⟨w.heap.size, 4, none⟩ (.int .u8 (macOf s 4))).setCell ⟨w.heap.size, 5, none⟩ (.int .u8 (macOf s 5))).setCell ⟨w.heap.size + 1, 0, none⟩ (.int .i64 0) = W'
  intro o2 v3 hb3
  have r0 := v3.at 0 (by omega)
  have r1 := v3.at 1 (by omega)
  have r2 := v3.at 2 (by omega)
  have r3 := v3.at 3 (by omega)
  have r4 := v3.at 4 (by omega)
  have r5 := v3.at 5 (by omega)
  have ro := o2.cell
  simp [Leaves, settle, results, Tryz.results70, go_sem, r0, r1, r2, r3, r4, r5, ro, hb3]

set_option maxHeartbeats 1000000 in
theorem parse_bad (s : ByteArray) (hs : ¬ okTxt s) (w : World) :
    Calls Tryz.prog 70 #[.string s] w fun e w' => e = .returned (.tuple #[macV zeroX, .int .i64 3]) ∧ Below w.heap.size w w' := by
  have hmf : ∀ (fn : Fn) (first cap : Array Value) (w : World), (Instr.makeFunc fn first cap).run Tryz.prog w = .ok (.func fn first cap) w := fun _ _ _ _ => rfl
  go_enter_defers Tryz.func70, Tryz.ntmps70
  go_wp2_with fail
  have c := fun w => parseText_any s w
  rw [endOf_bad hs] at c
  refine (c _).mono ?_
  rintro e w1 ⟨rfl, hb⟩
  obtain ⟨v0, o0, hb0, hz⟩ := parse_start w
  have v1 := v0.below hb (Nat.lt_of_lt_of_eq (by omega : w.heap.size < w.heap.size + 2) hz.symm)
  have o1 := o0.below hb (Nat.lt_of_lt_of_eq (by omega : w.heap.size + 1 < w.heap.size + 2) hz.symm)
  have hb1 := below_next hb0 hb
  clear v0 o0 hb0 hz hb c hs
  show bodyPostD _ _ _ _ _ _
  refine leaves_cons (f := 82) (args := #[.pointer (some ⟨w.heap.size + 1, 0, none⟩)]) (by simp) (by simp [go_sem]) ?_
  refine (catch_panicking ⟨w.heap.size + 1, 0, none⟩ _ [] _ o1.cell (o1.frozen 0)).mono ?_
  rintro e u' w'' ⟨rfl, rfl, rfl⟩
  have o2 := o1.set (.int .i64 3)
  have v2 := v1.set_other (a := ⟨w.heap.size + 1, 0, none⟩) (by simp) (.int .i64 3)
  have hb2 := hb1.setCell (p := ⟨w.heap.size + 1, 0, none⟩) (by simp) (.int .i64 3)
  revert o2 v2 hb2
  generalize w1.setCell ⟨w.heap.size + 1, 0, none⟩ (.int .i64 3) = W'
  intro o2 v2 hb2
  have r0 := v2.at 0 (by omega)
  have r1 := v2.at 1 (by omega)
  have r2 := v2.at 2 (by omega)
  have r3 := v2.at 3 (by omega)
  have r4 := v2.at 4 (by omega)
  have r5 := v2.at 5 (by omega)
  have ro := o2.cell
  simp [Leaves, settle, results, Tryz.results70, go_sem, r0, r1, r2, r3, r4, r5, ro, hb2]
end Go.Proofs.YtlmdpaemhjcmbaaGreatDoor.Cd
