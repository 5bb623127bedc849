/- One block alone turns (Only). -/
import Derived.Test.YtidgdanhnpfpmaaN
namespace Go.Proofs.Ytidgdanhnpfpmaa
open Go.RowKit Go.Sort

/-- Nothing that was there has turned but one block. -/
structure Only (b : Nat) (w w' : World) : Prop where
  os : w'.os = w.os
  tape : w'.tape = w.tape
  output : w'.output = w.output
  size : w.heap.size ≤ w'.heap.size
  block : ∀ k, k < w.heap.size → k ≠ b → w'.heap[k]? = w.heap[k]?
theorem Only.refl (b : Nat) (w : World) : Only b w w := ⟨rfl, rfl, rfl, Nat.le_refl _, fun _ _ _ => rfl⟩
theorem Only.trans {b : Nat} {x y z : World} (h : Only b x y) (k : Only b y z) : Only b x z :=
  ⟨k.os.trans h.os, k.tape.trans h.tape, k.output.trans h.output, Nat.le_trans h.size k.size, fun i hi hn => (k.block i (Nat.lt_of_lt_of_le hi h.size) hn).trans (h.block i hi hn)⟩
theorem only_below {w w' : World} (h : Below w.heap.size w w') (b : Nat) : Only b w w' := ⟨h.os, h.tape, h.output, h.size, fun k hk _ => h.block k hk⟩
theorem Only.below {b B : Nat} {w w' : World} (h : Only b w w') (hB : B ≤ b) (hs : B ≤ w.heap.size) : Below B w w' := ⟨h.os, h.tape, h.output, h.size, fun k hk => h.block k (by omega) (by omega)⟩
theorem Only.var {b c : Nat} {w w' : World} {xs : Array Value} {t : TypeId} (h : Only b w w') (hv : VarAt w c xs t) (hc : c ≠ b) : VarAt w' c xs t := (h.block c hv.lt hc).trans hv
theorem Only.set {b : Nat} {w w' : World} (h : Only b w w') (k : Nat) (u : Value) : Only b w (w'.setCell ⟨b, k, none⟩ u) := by
  refine ⟨h.os, h.tape, h.output, by simp [World.setCell]; exact h.size, fun i hi hn => ?_⟩
  rw [Below.heap_setCell _ _ _ _ hn]; exact h.block i hi hn
theorem Only.alloc {b : Nat} {w w' : World} (h : Only b w w') (o : Obj) : Only b w (w'.alloc o) := h.trans (only_below (box_below w' o) b)
theorem Only.drew {b : Nat} {w w' : World} (h : Only b w w') : Only b w w'.drew := h.trans (only_below (Below.refl _ _).drew b)
theorem Only.setL {b : Nat} {w : World} : ∀ (l : List Value) {w' : World} (o : Nat), Only b w w' → Only b w (w'.setCells b o l)
  | [], _, _, h => h
  | v :: l, _, o, h => Only.setL l (o + 1) (h.set o v)
theorem only_set4 {w0 w : World} {bb : Nat} (k : Nat) (u0 u1 u2 u3 : Value) (h : Only bb w0 w) :
    Only bb w0 ((((w.setCell ⟨bb, k, none⟩ u0).setCell ⟨bb, k + 1, none⟩ u1).setCell ⟨bb, k + 2, none⟩ u2).setCell ⟨bb, k + 3, none⟩ u3) := (((h.set _ _).set _ _).set _ _).set _ _
/-- Nothing that was there has turned but two blocks. -/
structure Only2 (a b : Nat) (w w' : World) : Prop where
  os : w'.os = w.os
  tape : w'.tape = w.tape
  output : w'.output = w.output
  size : w.heap.size ≤ w'.heap.size
  block : ∀ k, k < w.heap.size → k ≠ a → k ≠ b → w'.heap[k]? = w.heap[k]?
theorem Only2.refl (a b : Nat) (w : World) : Only2 a b w w := ⟨rfl, rfl, rfl, Nat.le_refl _, fun _ _ _ _ => rfl⟩
theorem Only2.trans {a b : Nat} {x y z : World} (h : Only2 a b x y) (k : Only2 a b y z) : Only2 a b x z :=
  ⟨k.os.trans h.os, k.tape.trans h.tape, k.output.trans h.output, Nat.le_trans h.size k.size, fun i hi hn hm => (k.block i (Nat.lt_of_lt_of_le hi h.size) hn hm).trans (h.block i hi hn hm)⟩
theorem Only.left {a : Nat} {w w' : World} (h : Only a w w') (b : Nat) : Only2 a b w w' := ⟨h.os, h.tape, h.output, h.size, fun k hk ha _ => h.block k hk ha⟩
theorem Only.right {b : Nat} {w w' : World} (h : Only b w w') (a : Nat) : Only2 a b w w' := ⟨h.os, h.tape, h.output, h.size, fun k hk _ hb => h.block k hk hb⟩
theorem only2_below {w w' : World} (h : Below w.heap.size w w') (a b : Nat) : Only2 a b w w' := (only_below h a).left b
theorem Only2.below {a b B : Nat} {w w' : World} (h : Only2 a b w w') (hA : B ≤ a) (hB : B ≤ b) (hs : B ≤ w.heap.size) : Below B w w' := ⟨h.os, h.tape, h.output, h.size, fun k hk => h.block k (by omega) (by omega) (by omega)⟩
theorem Only2.var {a b c : Nat} {w w' : World} {xs : Array Value} {t : TypeId} (h : Only2 a b w w') (hv : VarAt w c xs t) (hc : c ≠ a) (hd : c ≠ b) : VarAt w' c xs t := (h.block c hv.lt hc hd).trans hv
end Go.Proofs.Ytidgdanhnpfpmaa
