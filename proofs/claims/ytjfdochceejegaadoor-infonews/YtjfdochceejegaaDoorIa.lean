/- A port's cells of every kind, its message, the bounds of its numbers; stores of whole structs into a port. -/
import Derived.Test.YtjfdochceejegaaDoorH
import Derived.Test.YtjfdochceejegaaDoorKb
namespace Go.Proofs.YtjfdochceejegaaDoor
open Go.RowKit Go.Sort

theorem Typed.numk {xs : Array Value} (h : Typed xs) (k : Nat) (q : IntKind) (hk : kinds[k]? = some (some q)) : xs[k]? = some (.int q (numI xs k)) := by
  have hlt : k < xs.size := by rw [h.1, ← kinds_len]; exact (List.getElem?_eq_some_iff.1 hk).1
  obtain ⟨n, hn⟩ := h.2 k _ xs[k] hk (Array.getElem?_eq_getElem hlt)
  unfold numI
  rw [Array.getElem?_eq_getElem hlt, hn]
theorem PAt.numk {w : World} {b o : Nat} {xs : Array Value} (h : PAt w b o xs) (ht : Typed xs) (k : Nat) (q : IntKind) (hk : kinds[k]? = some (some q)) : w.cell? ⟨b, o + k, none⟩ = some (.int q (numI xs k)) := by
  rw [h k (by rw [← kinds_len]; exact (List.getElem?_eq_some_iff.1 hk).1), ht.numk k q hk]
theorem Pt.numk {w : World} {b o : Nat} {xs : Array Value} (h : Pt w b o xs) (ht : Typed xs) (k : Nat) (q : IntKind) (hk : kinds[k]? = some (some q)) : w.cell? ⟨b, o + k, none⟩ = some (.int q (numI xs k)) := h.pat.numk ht k q hk
theorem isK {k : Nat} {q : IntKind} (hk : kinds[k]? = some (some q)) (n : Int) : ∀ r, kinds[k]? = some r → kindOk r (.int q n) := fun r hr => by rw [hk] at hr; cases hr; exact ⟨n, rfl⟩
theorem upd_num {xs : Array Value} (l : List (Nat × Value)) (k : Nat) (h : k < xs.size) : numI (upd xs l) k = match look l k with | some (.int _ n) => n | some _ => 0 | none => numI xs k := by
  unfold numI
  rw [upd_at l xs k h]
  cases look l k with
  | some v => cases v <;> rfl
  | none => rfl
theorem upd_bool {xs : Array Value} (l : List (Nat × Value)) (k : Nat) (h : k < xs.size) : boolI (upd xs l) k = match look l k with | some (.bool b) => b | some _ => false | none => boolI xs k := by
  unfold boolI
  rw [upd_at l xs k h]
  cases look l k with
  | some v => cases v <;> rfl
  | none => rfl
theorem upd_append : ∀ (l m : List (Nat × Value)) (xs : Array Value), upd xs (l ++ m) = upd (upd xs l) m
  | [], _, _ => rfl
  | p :: l, m, xs => upd_append l m _
theorem upd_same {xs : Array Value} {l m : List (Nat × Value)} (h : ∀ j, j < xs.size → (look l j).or xs[j]? = (look m j).or xs[j]?) : upd xs l = upd xs m := by
  apply Array.ext_getElem?
  intro j
  by_cases hj : j < xs.size
  · rw [upd_at l xs j hj, upd_at m xs j hj, h j hj]
  · rw [Array.getElem?_eq_none (by rw [upd_size]; omega), Array.getElem?_eq_none (by rw [upd_size]; omega)]
/-- A cell set to what it is. -/
theorem set_self {xs : Array Value} {k : Nat} {v : Value} (h : xs[k]? = some v) : xs.setIfInBounds k v = xs := by
  apply Array.ext_getElem?
  intro j
  rw [Array.getElem?_setIfInBounds]
  by_cases e : k = j
  · subst e
    have hlt := (Array.getElem?_eq_some_iff.1 h).1
    rw [if_pos rfl, if_pos hlt, h]
  · rw [if_neg e]
theorem look_none : ∀ {l : List (Nat × Value)} {k : Nat}, (l.all fun p => p.1 != k) = true → look l k = none
  | [], _, _ => rfl
  | p :: l, k, h => by
    simp only [List.all_cons, Bool.and_eq_true, bne_iff_ne, ne_eq] at h
    rw [look, look_none h.2, if_neg h.1]; rfl
theorem num_out {xs : Array Value} {l : List (Nat × Value)} {k : Nat} (hx : xs.size = 90) (hk : k < 90) (h : (l.all fun p => p.1 != k) = true) : numI (upd xs l) k = numI xs k := by
  rw [upd_num l k (by omega), look_none h]
theorem bool_out {xs : Array Value} {l : List (Nat × Value)} {k : Nat} (hx : xs.size = 90) (hk : k < 90) (h : (l.all fun p => p.1 != k) = true) : boolI (upd xs l) k = boolI xs k := by
  rw [upd_bool l k (by omega), look_none h]
/-- The cells of a port's message. -/
def msgC (xs : Array Value) : Array Value := #[.int .i64 (numI xs 72), .int .u8 (numI xs 73), .int .u64 (numI xs 74), .int .u32 (numI xs 75), .int .u64 (numI xs 76), .int .u16 (numI xs 77), .int .u16 (numI xs 78), .int .u16 (numI xs 79), .int .u16 (numI xs 80), .int .u16 (numI xs 81)]
theorem msgC_size (xs : Array Value) : (msgC xs).size = 10 := rfl
theorem msgC_one (xs : Array Value) : (msgC xs).all (·.oneCell') = true := by simp [msgC, Value.oneCell']
theorem PAt.msg {w : World} {b o : Nat} {xs : Array Value} (h : PAt w b o xs) (ht : Typed xs) : w.rangeAt b (o + 72) (msgC xs).toList := by
  intro j v hj
  match j, hj with
  | 0, hj => cases hj; exact h.numk ht 72 .i64 rfl
  | 1, hj => cases hj; exact h.numk ht 73 .u8 rfl
  | 2, hj => cases hj; exact h.numk ht 74 .u64 rfl
  | 3, hj => cases hj; exact h.numk ht 75 .u32 rfl
  | 4, hj => cases hj; exact h.numk ht 76 .u64 rfl
  | 5, hj => cases hj; exact h.numk ht 77 .u16 rfl
  | 6, hj => cases hj; exact h.numk ht 78 .u16 rfl
  | 7, hj => cases hj; exact h.numk ht 79 .u16 rfl
  | 8, hj => cases hj; exact h.numk ht 80 .u16 rfl
  | 9, hj => cases hj; exact h.numk ht 81 .u16 rfl
  | j + 10, hj => simp [msgC] at hj
theorem Pt.msg {w : World} {b o : Nat} {xs : Array Value} (h : Pt w b o xs) (ht : Typed xs) : w.rangeAt b (o + 72) (msgC xs).toList := h.pat.msg ht
theorem uM : Tryd.prog.underlying 36 = some (.struct (Tryd.prog.fieldsOf 36)) := by kernel_rfl
theorem sM : (Tryd.prog.info? 36).map (·.size) = some 10 := by kernel_rfl
theorem uT : Tryd.prog.underlying 33 = some (.struct (Tryd.prog.fieldsOf 33)) := by kernel_rfl
theorem uV : Tryd.prog.underlying 31 = some (.struct (Tryd.prog.fieldsOf 31)) := by kernel_rfl
/-- Numbers among a port's cells lie in their kinds' bounds, where that is asked for. -/
structure Rg (xs : Array Value) : Prop where
  f : ∃ n : Nat, numI xs 73 = n ∧ n < 256
  b : ∃ n : Nat, numI xs 76 = n ∧ n < 18446744073709551616
  p : ∃ n : Nat, numI xs 77 = n ∧ n < 65536
  a : ∃ n : Nat, numI xs 78 = n ∧ n < 65536
  m : ∃ n : Nat, numI xs 79 = n ∧ n < 65536
  h : ∃ n : Nat, numI xs 80 = n ∧ n < 65536
  d : ∃ n : Nat, numI xs 81 = n ∧ n < 65536
  vb : ∃ n : Nat, numI xs 58 = n ∧ n < 18446744073709551616
  vp : ∃ n : Nat, numI xs 59 = n ∧ n < 65536
/-- No cell of the message, nor of the vector. -/
def off (k : Nat) : Bool := decide (k < 56) || (decide (59 < k) && (decide (k < 72) || decide (81 < k)))
/-- No cell of the message. -/
def offM (k : Nat) : Bool := decide (k < 72) || decide (81 < k)
theorem off_out {l : List (Nat × Value)} {k : Nat} (h : (l.all fun p => off p.1) = true) (hk : off k = false) : (l.all fun p => p.1 != k) = true := by
  rw [List.all_eq_true] at h ⊢
  intro p hp
  have := h p hp
  rw [bne_iff_ne]
  rintro rfl
  rw [hk] at this; cases this
theorem offM_out {l : List (Nat × Value)} {k : Nat} (h : (l.all fun p => offM p.1) = true) (hk : offM k = false) : (l.all fun p => p.1 != k) = true := by
  rw [List.all_eq_true] at h ⊢
  intro p hp
  have := h p hp
  rw [bne_iff_ne]
  rintro rfl
  rw [hk] at this; cases this
theorem Rg.upd {xs : Array Value} {l : List (Nat × Value)} (h : Rg xs) (hx : xs.size = 90) (hl : (l.all fun p => off p.1) = true) : Rg (upd xs l) := by
  have e := fun k (hk : k < 90) (ho : off k = false) => num_out hx hk (off_out hl ho)
  exact ⟨by rw [e 73 (by omega) rfl]; exact h.f, by rw [e 76 (by omega) rfl]; exact h.b, by rw [e 77 (by omega) rfl]; exact h.p, by rw [e 78 (by omega) rfl]; exact h.a, by rw [e 79 (by omega) rfl]; exact h.m, by rw [e 80 (by omega) rfl]; exact h.h, by rw [e 81 (by omega) rfl]; exact h.d, by rw [e 58 (by omega) rfl]; exact h.vb, by rw [e 59 (by omega) rfl]; exact h.vp⟩
theorem msgC_upd {xs : Array Value} {l : List (Nat × Value)} (hx : xs.size = 90) (hl : (l.all fun p => offM p.1) = true) : msgC (upd xs l) = msgC xs := by
  have e := fun k (hk : k < 90) (ho : offM k = false) => num_out hx hk (offM_out hl ho)
  unfold msgC
  rw [e 72 (by omega) rfl, e 73 (by omega) rfl, e 74 (by omega) rfl, e 75 (by omega) rfl, e 76 (by omega) rfl, e 77 (by omega) rfl, e 78 (by omega) rfl, e 79 (by omega) rfl, e 80 (by omega) rfl, e 81 (by omega) rfl]
/-- A store into a port leaves it with cells put. -/
theorem Mv.setL {pb o : Nat} {xs : Array Value} {w : World} : ∀ (l : List Value) {w' : World} {ys : Array Value} (k : Nat), k + l.length ≤ 90 → Mv w w' pb o xs ys → Mv w (w'.setCells pb (o + k) l) pb o xs (putL ys k l)
  | [], _, _, _, _, h => h
  | v :: l, _, _, k, hk, h => by
    simp only [List.length_cons] at hk
    exact Mv.setL l (k + 1) (by omega) (h.set k (by omega) v)
theorem Pt.there {w : World} {pb o : Nat} {xs : Array Value} (h : Pt w pb o xs) (k n : Nat) (hk : k + n ≤ 90) : w.there pb (o + k) n := by
  obtain ⟨A, hv, hA, _⟩ := h.ex
  exact hv.there (o + k) n (by omega)
theorem wpList_store_mv {T n : Nat} (hn : (Tryd.prog.info? T).map (·.size) = some n) {ops : Array Oper} {rest : List Oper} {op : Oper} {a : Act} {w : World} {Q : Exit → Act → World → Prop} (hgd : op.guard = none) (x y : Operand) (ho : op.op = .store T x y) {pb o : Nat} (k : Nat) {vs : Array Value} (hx : a.eval x = .pointer (some ⟨pb, o + k, none⟩)) (hy : a.eval y = .agg vs)
    {xs : Array Value} (hp : Pt w pb o xs) (h1 : vs.all (·.oneCell') = true) (hz : vs.size = n) (hk : k + n ≤ 90)
    (h : ∀ w', Mv w w' pb o xs (putL xs k vs.toList) → wpList Tryd.prog ops Q rest (a.put op.dst undef) w') : wpList Tryd.prog ops Q (op :: rest) a w :=
  wpList_store_mid hgd T x y ho pb (o + k) vs hx hy (hp.there k vs.size (by omega)) (by rw [hn, hz]) h1
    (h _ (Mv.setL _ _ (by simp; omega) (Mv.refl _ _ _ _)))
theorem wp_store_mv {T n : Nat} (hn : (Tryd.prog.info? T).map (·.size) = some n) {op : Oper} {a : Act} {w : World} {K : Act → World → Prop} {Q : Exit → Act → World → Prop} (x y : Operand) (ho : op.op = .store T x y) {pb o : Nat} (k : Nat) {vs : Array Value} (hx : a.eval x = .pointer (some ⟨pb, o + k, none⟩)) (hy : a.eval y = .agg vs)
    {xs : Array Value} (hp : Pt w pb o xs) (h1 : vs.all (·.oneCell') = true) (hz : vs.size = n) (hk : k + n ≤ 90)
    (h : ∀ w', Mv w w' pb o xs (putL xs k vs.toList) → K (a.put op.dst undef) w') : op.wp Tryd.prog a w K Q :=
  wp_store_mid T x y ho pb (o + k) vs hx hy (hp.there k vs.size (by omega)) (by rw [hn, hz]) h1
    (h _ (Mv.setL _ _ (by simp; omega) (Mv.refl _ _ _ _)))
/-- Nothing of a port has turned. -/
theorem Mv.of_below {w w' : World} (pb o : Nat) (xs : Array Value) (h : Below w.heap.size w w') : Mv w w' pb o xs xs :=
  ⟨only_below h pb, fun A hv _ hs => ⟨A, hv.below h hv.lt, Out.refl _ _, hs⟩⟩
/-- A whole load in a region that only reads. -/
theorem quiet_loadT {T n : Nat} {d : TypeDesc} (hu : Tryd.prog.underlying T = some d) (hd : d.isRow = true) (hn : (Tryd.prog.info? T).map (·.size) = some n) {ops : Array Oper} {C : World → Prop} {Q : Act → Prop} {a : Act} {op : Oper} {rest : List Oper} (hw : Region.wanted op (yielded ops a.tmps) = true) (x : Operand) (ho : op.op = .load T x) {b o : Nat} (hx : a.eval x = .pointer (some ⟨b, o, none⟩)) {xs : Array Value}
    (hC : ∀ w, C w → w.rangeAt b o xs.toList) (hz : xs.size = n) (h : wpQuiet Tryd.prog ops C Q rest (a.put op.dst (.agg xs))) : wpQuiet Tryd.prog ops C Q (op :: rest) a := by
  refine BigFrame.wpQuiet_want hw fun K hK => ⟨.agg xs, fun w hw => ?_, hK _ h⟩
  unfold Oper.quietAt execOp
  simp only [ho, hx, Instr.loadAt, Instr.sureAddr, Sem.run_bind, Sem.run_pure, Result.andThen_ok, run_loadVar_mid (P := Tryd.prog) w b o T xs.toList _ (hC w hw) hu hd (by rw [hn]; simp [hz])]
  exact ⟨rfl, by simp⟩
/-- A whole load that is wanted. -/
theorem guarded_loadT {T n : Nat} {d : TypeDesc} (hu : Tryd.prog.underlying T = some d) (hd : d.isRow = true) (hn : (Tryd.prog.info? T).map (·.size) = some n) {ops : Array Oper} {rest : List Oper} {op : Oper} {a : Act} {w : World} {Q : Exit → Act → World → Prop} (hw : Region.wanted op (yielded ops a.tmps) = true) (x : Operand) (ho : op.op = .load T x) {b o : Nat} (hx : a.eval x = .pointer (some ⟨b, o, none⟩)) {xs : Array Value}
    (hv : w.rangeAt b o xs.toList) (hz : xs.size = n) (h : wpList Tryd.prog ops Q rest (a.put op.dst (.agg xs)) w) : wpList Tryd.prog ops Q (op :: rest) a w :=
  wpList_step fun K hK => by
    rw [if_pos hw]
    exact wp_load_whole hu hd hn x ho hx hv hz (hK _ _ h)
theorem yields_T {T n : Nat} {d : TypeDesc} (hu : Tryd.prog.underlying T = some d) (hd : d.isRow = true) (hn : (Tryd.prog.info? T).map (·.size) = some n) {ops : Array Oper} {S : World → Prop} {op : Oper} {a : Act} {xs : Array Value} (hw : Region.wanted op (yielded ops a.tmps) = true) (x : Operand) (ho : op.op = .load T x) {b o : Nat} (hx : a.eval x = .pointer (some ⟨b, o, none⟩))
    (hS : ∀ w, S w → w.rangeAt b o xs.toList) (hz : xs.size = n) : YieldsIf Tryd.prog ops S op (.agg xs) a := by
  have := yieldsIf_load_mid (P := Tryd.prog) (ops := ops) hw T x ho b o hx xs.toList _ hS hu hd (by rw [hn]; simp [hz])
  simpa using this
end Go.Proofs.YtjfdochceejegaaDoor
