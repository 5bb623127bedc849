/- A bridge in memory with its ports in a block beside it (Br); cells put into one of the ports. -/
import Derived.Test.YtidgdanhnpfpmaaCb
import Derived.Test.YtidgdanhnpfpmaaGe
namespace Go.Proofs.Ytidgdanhnpfpmaa
open Go.RowKit Go.Sort

/-- Stores of whole structs. -/
theorem wpList_store_only {T n : Nat} (hn : (Try.prog.info? T).map (·.size) = some n) {ops : Array Oper} {rest : List Oper} {op : Oper} {a : Act} {w : World} {Q : Exit → Act → World → Prop} (hgd : op.guard = none) (x y : Operand) (ho : op.op = .store T x y) {b o : Nat} {xs : Array Value} (hx : a.eval x = .pointer (some ⟨b, o, none⟩)) (hy : a.eval y = .agg xs)
    {A : Array Value} {t : TypeId} (hv : VarAt w b A t) (h1 : xs.all (·.oneCell') = true) (hz : xs.size = n) (hA : o + n ≤ A.size)
    (h : ∀ w', VarAt w' b (putL A o xs.toList) t → Only b w w' → wpList Try.prog ops Q rest (a.put op.dst undef) w') : wpList Try.prog ops Q (op :: rest) a w :=
  wpList_store_mid hgd T x y ho b o xs hx hy (hv.there o xs.size (by rw [hz]; exact hA)) (by rw [hn, hz]) h1
    (h _ (VarAt.putL _ _ hv) (Only.setL _ _ (Only.refl _ _)))
theorem wp_store_only {T n : Nat} (hn : (Try.prog.info? T).map (·.size) = some n) {op : Oper} {a : Act} {w : World} {K : Act → World → Prop} {Q : Exit → Act → World → Prop} (x y : Operand) (ho : op.op = .store T x y) {b o : Nat} {xs : Array Value} (hx : a.eval x = .pointer (some ⟨b, o, none⟩)) (hy : a.eval y = .agg xs)
    {A : Array Value} {t : TypeId} (hv : VarAt w b A t) (h1 : xs.all (·.oneCell') = true) (hz : xs.size = n) (hA : o + n ≤ A.size)
    (h : ∀ w', VarAt w' b (putL A o xs.toList) t → Only b w w' → K (a.put op.dst undef) w') : op.wp Try.prog a w K Q :=
  wp_store_mid T x y ho b o xs hx hy (hv.there o xs.size (by rw [hz]; exact hA)) (by rw [hn, hz]) h1
    (h _ (VarAt.putL _ _ hv) (Only.setL _ _ (Only.refl _ _)))

/-- A bridge in memory, and its ports in a block beside it. -/
structure Br (w : World) (B : Bd) (bb pb n cap : Nat) (XS : Nat → Array Value) : Prop where
  hb : VarAt w bb (B.cells (.slice (some ⟨pb, 0, none⟩) n cap)) 34
  ex : ∃ A, VarAt w pb A 50 ∧ n * 90 ≤ A.size ∧ ∀ i, i < n → Sub A (i * 90) (XS i)
theorem Br.ne {w : World} {B : Bd} {bb pb n cap : Nat} {XS : Nat → Array Value} (h : Br w B bb pb n cap XS) : bb ≠ pb := by
  obtain ⟨A, hA, _⟩ := h.ex
  exact var_ne h.hb hA (by decide)
theorem Br.below {w w' : World} {B : Bd} {bb pb n cap : Nat} {XS : Nat → Array Value} (h : Br w B bb pb n cap XS) (hb : Below w.heap.size w w') : Br w' B bb pb n cap XS := by
  obtain ⟨A, hA, h2, h3⟩ := h.ex
  exact ⟨h.hb.below hb h.hb.lt, A, hA.below hb hA.lt, h2, h3⟩
theorem Br.only {w w' : World} {B : Bd} {bb pb n cap c : Nat} {XS : Nat → Array Value} (h : Br w B bb pb n cap XS) (ho : Only c w w') (h1 : bb ≠ c) (h2 : pb ≠ c) : Br w' B bb pb n cap XS := by
  obtain ⟨A, hA, h3, h4⟩ := h.ex
  exact ⟨ho.var h.hb h1, A, ho.var hA h2, h3, h4⟩
theorem Br.congr {w : World} {B : Bd} {bb pb n cap : Nat} {XS YS : Nat → Array Value} (h : Br w B bb pb n cap XS) (e : ∀ i, i < n → XS i = YS i) : Br w B bb pb n cap YS := by
  obtain ⟨A, hA, h3, h4⟩ := h.ex
  exact ⟨h.hb, A, hA, h3, fun i hi => by rw [← e i hi]; exact h4 i hi⟩
theorem Br.drew {w : World} {B : Bd} {bb pb n cap : Nat} {XS : Nat → Array Value} (h : Br w B bb pb n cap XS) : Br w.drew B bb pb n cap XS := by
  obtain ⟨A, hA, h3, h4⟩ := h.ex
  exact ⟨h.hb.drew, A, hA.drew, h3, h4⟩
/-- Cells put into one of the ports. -/
theorem subs_put {A : Array Value} {n k j : Nat} {XS : Nat → Array Value} (hs : ∀ i, i < n → Sub A (i * 90) (XS i)) (hA : n * 90 ≤ A.size) (hk : k < n) (hx : (XS k).size = 90) (l : List Value) (hl : j + l.length ≤ 90) :
    ∀ i, i < n → Sub (putL A (k * 90 + j) l) (i * 90) (if i = k then putL (XS k) j l else XS i) := by
  intro i hi
  by_cases e : i = k
  · subst e
    rw [if_pos rfl]
    exact (hs i hi).put hx (by omega) j l hl
  · rw [if_neg e]
    exact (hs i hi).out (Out.put A (k * 90) j l hl) (by omega)
theorem putL_snoc (v : Value) : ∀ (l : List Value) (A : Array Value) (o : Nat), putL A o (l ++ [v]) = (putL A o l).setIfInBounds (o + l.length) v
  | [], _, _ => rfl
  | u :: l, A, o => by
    rw [List.cons_append, putL, putL_snoc v l, putL, List.length_cons, show o + 1 + l.length = o + (l.length + 1) by omega]
theorem putL_keep (v : Value) (l : List Value) (A : Array Value) (o : Nat) (h : A[o + l.length]? = some v) : putL A o (l ++ [v]) = putL A o l := by
  rw [putL_snoc]
  apply Array.ext_getElem?
  intro i
  rw [Array.getElem?_setIfInBounds, putL_size]
  split
  · rename_i e
    subst e
    rw [putL_at, h, if_pos (Array.getElem?_eq_some_iff.1 h).1, if_neg (by omega)]
  · rfl
end Go.Proofs.Ytidgdanhnpfpmaa
