/- One block alone turns (Only); a bridge in memory with its ports in a block beside it (Br); cells put into one of the ports. -/
import Derived.Test.YtjfdochceejegaaDoorCb
namespace Go.Proofs.YtjfdochceejegaaDoor
open Go.RowKit Go.Sort

/-- Nothing that was there has turned but one block. -/
structure Only (b : Nat) (w w' : World) : Prop where
  os : w'.os = w.os
  tape : w'.tape = w.tape
  output : w'.output = w.output
  size : w.heap.size ≤ w'.heap.size
  block : ∀ k, k < w.heap.size → k ≠ b → w'.heap[k]? = w.heap[k]?
theorem Only.refl (b : Nat) (w : World) : Only b w w := ⟨rfl, rfl, rfl, Nat.le_refl _, fun _ _ _ => rfl⟩
theorem Only.trans {b : Nat} {x y z : World} (h : Only b x y) (k : Only b y z) : Only b x z :=
  ⟨k.os.trans h.os, k.tape.trans h.tape, k.output.trans h.output, Nat.le_trans h.size k.size, fun i hi hn => (k.block i (Nat.lt_of_lt_of_le hi h.size) hn).trans (h.block i hi hn)⟩
theorem only_below {w w' : World} (h : Below w.heap.size w w') (b : Nat) : Only b w w' := ⟨h.os, h.tape, h.output, h.size, fun k hk _ => h.block k hk⟩
theorem Only.below {b B : Nat} {w w' : World} (h : Only b w w') (hB : B ≤ b) (hs : B ≤ w.heap.size) : Below B w w' := ⟨h.os, h.tape, h.output, h.size, fun k hk => h.block k (by omega) (by omega)⟩
theorem Only.var {b c : Nat} {w w' : World} {xs : Array Value} {t : TypeId} (h : Only b w w') (hv : VarAt w c xs t) (hc : c ≠ b) : VarAt w' c xs t := (h.block c hv.lt hc).trans hv
theorem Only.set {b : Nat} {w w' : World} (h : Only b w w') (k : Nat) (u : Value) : Only b w (w'.setCell ⟨b, k, none⟩ u) := by
  refine ⟨h.os, h.tape, h.output, by simp [World.setCell]; exact h.size, fun i hi hn => ?_⟩
  rw [Below.heap_setCell _ _ _ _ hn]; exact h.block i hi hn
theorem Only.alloc {b : Nat} {w w' : World} (h : Only b w w') (o : Obj) : Only b w (w'.alloc o) := h.trans (only_below (box_below w' o) b)
theorem Only.drew {b : Nat} {w w' : World} (h : Only b w w') : Only b w w'.drew := h.trans (only_below (Below.refl _ _).drew b)
theorem Only.setL {b : Nat} {w : World} : ∀ (l : List Value) {w' : World} (o : Nat), Only b w w' → Only b w (w'.setCells b o l)
  | [], _, _, h => h
  | v :: l, _, o, h => Only.setL l (o + 1) (h.set o v)
/-- Stores of whole structs. -/
theorem wpList_store_only {T n : Nat} (hn : (Tryd.prog.info? T).map (·.size) = some n) {ops : Array Oper} {rest : List Oper} {op : Oper} {a : Act} {w : World} {Q : Exit → Act → World → Prop} (hgd : op.guard = none) (x y : Operand) (ho : op.op = .store T x y) {b o : Nat} {xs : Array Value} (hx : a.eval x = .pointer (some ⟨b, o, none⟩)) (hy : a.eval y = .agg xs)
    {A : Array Value} {t : TypeId} (hv : VarAt w b A t) (h1 : xs.all (·.oneCell') = true) (hz : xs.size = n) (hA : o + n ≤ A.size)
    (h : ∀ w', VarAt w' b (putL A o xs.toList) t → Only b w w' → wpList Tryd.prog ops Q rest (a.put op.dst undef) w') : wpList Tryd.prog ops Q (op :: rest) a w :=
  wpList_store_mid hgd T x y ho b o xs hx hy (hv.there o xs.size (by rw [hz]; exact hA)) (by rw [hn, hz]) h1
    (h _ (VarAt.putL _ _ hv) (Only.setL _ _ (Only.refl _ _)))
theorem wp_store_only {T n : Nat} (hn : (Tryd.prog.info? T).map (·.size) = some n) {op : Oper} {a : Act} {w : World} {K : Act → World → Prop} {Q : Exit → Act → World → Prop} (x y : Operand) (ho : op.op = .store T x y) {b o : Nat} {xs : Array Value} (hx : a.eval x = .pointer (some ⟨b, o, none⟩)) (hy : a.eval y = .agg xs)
    {A : Array Value} {t : TypeId} (hv : VarAt w b A t) (h1 : xs.all (·.oneCell') = true) (hz : xs.size = n) (hA : o + n ≤ A.size)
    (h : ∀ w', VarAt w' b (putL A o xs.toList) t → Only b w w' → K (a.put op.dst undef) w') : op.wp Tryd.prog a w K Q :=
  wp_store_mid T x y ho b o xs hx hy (hv.there o xs.size (by rw [hz]; exact hA)) (by rw [hn, hz]) h1
    (h _ (VarAt.putL _ _ hv) (Only.setL _ _ (Only.refl _ _)))

/-- A bridge in memory, and its ports in a block beside it. -/
structure Br (w : World) (B : Bd) (bb pb n cap : Nat) (XS : Nat → Array Value) : Prop where
  hb : VarAt w bb (B.cells (.slice (some ⟨pb, 0, none⟩) n cap)) 47
  ex : ∃ A, VarAt w pb A 39 ∧ n * 90 ≤ A.size ∧ ∀ i, i < n → Sub A (i * 90) (XS i)
theorem Br.ne {w : World} {B : Bd} {bb pb n cap : Nat} {XS : Nat → Array Value} (h : Br w B bb pb n cap XS) : bb ≠ pb := by
  obtain ⟨A, hA, _⟩ := h.ex
  exact var_ne h.hb hA (by decide)
theorem Br.below {w w' : World} {B : Bd} {bb pb n cap : Nat} {XS : Nat → Array Value} (h : Br w B bb pb n cap XS) (hb : Below w.heap.size w w') : Br w' B bb pb n cap XS := by
  obtain ⟨A, hA, h2, h3⟩ := h.ex
  exact ⟨h.hb.below hb h.hb.lt, A, hA.below hb hA.lt, h2, h3⟩
theorem Br.only {w w' : World} {B : Bd} {bb pb n cap c : Nat} {XS : Nat → Array Value} (h : Br w B bb pb n cap XS) (ho : Only c w w') (h1 : bb ≠ c) (h2 : pb ≠ c) : Br w' B bb pb n cap XS := by
  obtain ⟨A, hA, h3, h4⟩ := h.ex
  exact ⟨ho.var h.hb h1, A, ho.var hA h2, h3, h4⟩
theorem Br.congr {w : World} {B : Bd} {bb pb n cap : Nat} {XS YS : Nat → Array Value} (h : Br w B bb pb n cap XS) (e : ∀ i, i < n → XS i = YS i) : Br w B bb pb n cap YS := by
  obtain ⟨A, hA, h3, h4⟩ := h.ex
  exact ⟨h.hb, A, hA, h3, fun i hi => by rw [← e i hi]; exact h4 i hi⟩
theorem Br.drew {w : World} {B : Bd} {bb pb n cap : Nat} {XS : Nat → Array Value} (h : Br w B bb pb n cap XS) : Br w.drew B bb pb n cap XS := by
  obtain ⟨A, hA, h3, h4⟩ := h.ex
  exact ⟨h.hb.drew, A, hA.drew, h3, h4⟩
/-- Cells put into one of the ports. -/
theorem subs_put {A : Array Value} {n k j : Nat} {XS : Nat → Array Value} (hs : ∀ i, i < n → Sub A (i * 90) (XS i)) (hA : n * 90 ≤ A.size) (hk : k < n) (hx : (XS k).size = 90) (l : List Value) (hl : j + l.length ≤ 90) :
    ∀ i, i < n → Sub (putL A (k * 90 + j) l) (i * 90) (if i = k then putL (XS k) j l else XS i) := by
  intro i hi
  by_cases e : i = k
  · subst e
    rw [if_pos rfl]
    exact (hs i hi).put hx (by omega) j l hl
  · rw [if_neg e]
    exact (hs i hi).out (Out.put A (k * 90) j l hl) (by omega)
theorem putL_snoc (v : Value) : ∀ (l : List Value) (A : Array Value) (o : Nat), putL A o (l ++ [v]) = (putL A o l).setIfInBounds (o + l.length) v
  | [], _, _ => rfl
  | u :: l, A, o => by
    rw [List.cons_append, putL, putL_snoc v l, putL, List.length_cons, show o + 1 + l.length = o + (l.length + 1) by omega]
theorem putL_keep (v : Value) (l : List Value) (A : Array Value) (o : Nat) (h : A[o + l.length]? = some v) : putL A o (l ++ [v]) = putL A o l := by
  rw [putL_snoc]
  apply Array.ext_getElem?
  intro i
  rw [Array.getElem?_setIfInBounds, putL_size]
  split
  · rename_i e
    subst e
    rw [putL_at, h, if_pos (Array.getElem?_eq_some_iff.1 h).1, if_neg (by omega)]
  · rfl
end Go.Proofs.YtjfdochceejegaaDoor
