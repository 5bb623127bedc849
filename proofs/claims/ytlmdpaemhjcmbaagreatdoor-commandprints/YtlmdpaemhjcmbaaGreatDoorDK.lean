/- Variables known whole; what a callee leaves of the world. -/
import Derived.Test.YtlmdpaemhjcmbaaGreatDoorDJ
import Derived.Deep.RegionWith
import Derived.Deep.RegionHeld
import Derived.Deep.MidRow
import Derived.Deep.WholeRow
namespace Go.Proofs.YtlmdpaemhjcmbaaGreatDoor.Cd
open Go.RowKit Go.Sort

/-- A variable, known whole. -/
def CA (w : World) (b : Nat) (xs : Array Value) (t : TypeId) : Prop := w.heap[b]? = some (.cells xs t)
theorem CA.lt {w : World} {b : Nat} {xs : Array Value} {t : TypeId} (h : CA w b xs t) : b < w.heap.size := (Array.getElem?_eq_some_iff.1 h).1
theorem CA.cell {w : World} {b : Nat} {xs : Array Value} {t : TypeId} (h : CA w b xs t) (k : Nat) : w.cell? ⟨b, k, none⟩ = xs[k]? := by
  rw [cell_of_row w b k _ t (0, 0) h]
theorem CA.frozen {w : World} {b : Nat} {xs : Array Value} {t : TypeId} (h : CA w b xs t) (k : Nat) : w.frozen? ⟨b, k, none⟩ = false := by
  unfold World.frozen?
  simp only []
  rw [show w.heap[b]? = _ from h]
  simp
theorem CA.set {w : World} {b : Nat} {xs : Array Value} {t : TypeId} (h : CA w b xs t) (k : Nat) (u : Value) : CA (w.setCell ⟨b, k, none⟩ u) b (xs.setIfInBounds k u) t := by
  unfold CA World.setCell
  simp only [Array.getElem?_modify, if_true]
  rw [show w.heap[b]? = _ from h]
  rfl
theorem CA.below {w w' : World} {b B : Nat} {xs : Array Value} {t : TypeId} (h : CA w b xs t) (hb : Below B w w') (hB : b < B) : CA w' b xs t := (hb.block b hB).trans h
theorem CA.alloc {w : World} {b : Nat} {xs : Array Value} {t : TypeId} (h : CA w b xs t) (o : Obj) : CA (w.alloc o) b xs t := h.below (box_below w o) h.lt
theorem CA.drew {w : World} {b : Nat} {xs : Array Value} {t : TypeId} (h : CA w b xs t) : CA w.drew b xs t := h
theorem var_new (w : World) (xs : Array Value) (t : TypeId) : CA (w.alloc (.cells xs t)) w.heap.size xs t := (MapKept.heap_alloc w _).1
/-- Cells put one behind the other. -/
def putL (A : Array Value) : Nat → List Value → Array Value
  | _, [] => A
  | o, v :: l => putL (A.setIfInBounds o v) (o + 1) l
theorem putL_size : ∀ (l : List Value) (A : Array Value) (o : Nat), (putL A o l).size = A.size
  | [], _, _ => rfl
  | v :: l, A, o => by rw [putL, putL_size l]; simp
theorem putL_at : ∀ (l : List Value) (A : Array Value) (o j : Nat), (putL A o l)[j]? = if o ≤ j ∧ j < o + l.length ∧ j < A.size then l[j - o]? else A[j]?
  | [], A, o, j => by rw [putL, if_neg (by simp; omega)]
  | v :: l, A, o, j => by
    rw [putL, putL_at l, Array.getElem?_setIfInBounds]
    by_cases hj : o = j
    · subst hj
      rw [if_neg (by omega), if_pos rfl]
      by_cases hs : o < A.size
      · rw [if_pos hs, if_pos ⟨Nat.le_refl _, by simp, hs⟩]; simp
      · rw [if_neg hs, if_neg (by omega)]
        simp [hs]
    · rw [if_neg hj]
      by_cases h : o + 1 ≤ j ∧ j < o + 1 + l.length ∧ j < A.size
      · rw [if_pos (by simpa using h), if_pos (by simp; omega), show j - o = (j - (o + 1)) + 1 by omega]
        simp
      · rw [if_neg (by simpa using h), if_neg (by simp; omega)]
theorem CA.putL {b : Nat} {t : TypeId} : ∀ (l : List Value) {w : World} {A : Array Value} (o : Nat), CA w b A t → CA (w.setCells b o l) b (putL A o l) t
  | [], _, _, _, h => h
  | v :: l, _, _, o, h => CA.putL l (o + 1) (h.set o v)
theorem Below.setL {B b : Nat} {a : World} (hB : B ≤ b) : ∀ (l : List Value) {w : World} (o : Nat), Below B a w → Below B a (w.setCells b o l)
  | [], _, _, h => h
  | v :: l, _, o, h => Below.setL hB l (o + 1) (h.setCell hB v)
theorem CA.set_other {w : World} {b : Nat} {xs : Array Value} {t : TypeId} (h : CA w b xs t) {p : Addr} (hp : b ≠ p.block) (u : Value) : CA (w.setCell p u) b xs t := by
  unfold CA at *; rw [Below.heap_setCell _ _ _ _ hp]; exact h
theorem CA.setL_other {b c : Nat} {xs : Array Value} {t : TypeId} (hc : b ≠ c) : ∀ (l : List Value) {w : World} (o : Nat), CA w b xs t → CA (w.setCells c o l) b xs t
  | [], _, _, h => h
  | v :: l, _, o, h => CA.setL_other hc l (o + 1) (h.set_other hc v)
theorem CA.there {w : World} {b : Nat} {xs : Array Value} {t : TypeId} (h : CA w b xs t) (o n : Nat) (hn : o + n ≤ xs.size) : w.there b o n := fun j hj => by
  refine ⟨?_, h.frozen _⟩
  rw [h.cell]
  simp; omega

theorem wpList_load_whole {T n : Nat} {d : TypeDesc} (hu : Tryz.prog.underlying T = some d) (hd : d.isRow = true) (hn : (Tryz.prog.info? T).map (·.size) = some n)
    {ops : Array Oper} {rest : List Oper} {op : Oper} {a : Act} {w : World} {Q : Exit → Act → World → Prop} (hgd : op.guard = none) (x : Operand) (ho : op.op = .load T x) {b o : Nat} (hx : a.eval x = .pointer (some ⟨b, o, none⟩)) {xs : Array Value}
    (hv : w.rangeAt b o xs.toList) (hz : xs.size = n) (h : wpList Tryz.prog ops Q rest (a.put op.dst (.agg xs)) w) : wpList Tryz.prog ops Q (op :: rest) a w :=
  wpList_load_mid hgd T x ho b o hx xs.toList d hv hu hd (by rw [hn]; simp [hz]) (by simpa using h)
theorem wpList_store_whole {T n : Nat} (hn : (Tryz.prog.info? T).map (·.size) = some n) {ops : Array Oper} {rest : List Oper} {op : Oper} {a : Act} {w : World} {Q : Exit → Act → World → Prop} (hgd : op.guard = none) (x y : Operand) (ho : op.op = .store T x y) {b o : Nat} {xs : Array Value} (hx : a.eval x = .pointer (some ⟨b, o, none⟩)) (hy : a.eval y = .agg xs)
    {A : Array Value} {t : TypeId} (hv : CA w b A t) (h1 : xs.all (·.oneCell') = true) (hz : xs.size = n) (hA : o + n ≤ A.size)
    (h : ∀ w', CA w' b (putL A o xs.toList) t → (∀ Bl w0, Bl ≤ b → Below Bl w0 w → Below Bl w0 w') → (∀ c ys u, c ≠ b → CA w c ys u → CA w' c ys u) → w.heap.size ≤ w'.heap.size → wpList Tryz.prog ops Q rest (a.put op.dst undef) w') : wpList Tryz.prog ops Q (op :: rest) a w :=
  wpList_store_mid hgd T x y ho b o xs hx hy (hv.there o xs.size (by rw [hz]; exact hA)) (by rw [hn, hz]) h1
    (h _ (CA.putL _ _ hv) (fun _ _ hB hb => Below.setL hB _ _ hb) (fun _ _ _ hne hc => CA.setL_other hne _ _ hc) (Below.setL (Nat.zero_le _) _ _ (Below.refl 0 w)).size)
/-- A walk stands still at the load of a struct of many cells, at its store, at its end. -/
theorem stopL (T : Nat) {ops : Array Oper} {rest : List Oper} {op : Oper} {a : Act} {w : World} {Q : Exit → Act → World → Prop} (x : Operand) (_ : op.op = .load T x) (h : Hid (wpList Tryz.prog ops Q (op :: rest) a w)) : wpList Tryz.prog ops Q (op :: rest) a w := h
theorem stopE {fn : Func} {R : Ending → World → Prop} {e : Exit} {a : Act} {w : World} (h : Hid (bodyPost Tryz.prog fn R e a w)) : bodyPost Tryz.prog fn R e a w := h
theorem stopS (T : Nat) {ops : Array Oper} {rest : List Oper} {op : Oper} {a : Act} {w : World} {Q : Exit → Act → World → Prop} (x y : Operand) (_ : op.op = .store T x y) (h : Hid (wpList Tryz.prog ops Q (op :: rest) a w)) : wpList Tryz.prog ops Q (op :: rest) a w := h
theorem range_whole {w : World} {b : Nat} {xs : Array Value} {t : TypeId} (h : CA w b xs t) : w.rangeAt b 0 xs.toList := fun j v hj => by
  rw [Nat.zero_add, h.cell]; simpa using hj
end Go.Proofs.YtlmdpaemhjcmbaaGreatDoor.Cd
