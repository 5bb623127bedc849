/- Cells of a port set one by one; a port in memory and what it becomes; bridges whole. -/
import Derived.Test.YtidgdanhnpfpmaaG
import Derived.Test.YtidgdanhnpfpmaaFb
import Derived.Test.YtidgdanhnpfpmaaSa
import Derived.Great.BuildSlice
namespace Go.Proofs.Ytidgdanhnpfpmaa
open Go.RowKit Go.Sort

/-- A number among a port's cells. -/
def numI (xs : Array Value) (k : Nat) : Int := match xs[k]? with | some (.int _ n) => n | _ => 0
theorem Typed.num {xs : Array Value} (h : Typed xs) (k : Nat) (hk : kinds[k]? = some (some .i64)) : xs[k]? = some (.int .i64 (numI xs k)) := by
  have hlt : k < xs.size := by rw [h.1, ← kinds_len]; exact (List.getElem?_eq_some_iff.1 hk).1
  obtain ⟨n, hn⟩ := h.2 k _ xs[k] hk (Array.getElem?_eq_getElem hlt)
  unfold numI
  rw [Array.getElem?_eq_getElem hlt, hn]
/-- A Bool among a port's cells. -/
def boolI (xs : Array Value) (k : Nat) : Bool := match xs[k]? with | some (.bool b) => b | _ => false
theorem Typed.bool {xs : Array Value} (h : Typed xs) (k : Nat) (hk : kinds[k]? = some none) : xs[k]? = some (.bool (boolI xs k)) := by
  have hlt : k < xs.size := by rw [h.1, ← kinds_len]; exact (List.getElem?_eq_some_iff.1 hk).1
  obtain ⟨n, hn⟩ := h.2 k _ xs[k] hk (Array.getElem?_eq_getElem hlt)
  unfold boolI
  rw [Array.getElem?_eq_getElem hlt, hn]
/-- A port lies in memory from a place on. -/
def PAt (w : World) (b o : Nat) (xs : Array Value) : Prop := ∀ k, k < 90 → w.cell? ⟨b, o + k, none⟩ = xs[k]?
theorem PAt.drewN {w : World} {b o : Nat} {xs : Array Value} (h : PAt w b o xs) (n : Nat) : PAt (w.drewN n) b o xs := h
theorem PAt.below {w w' : World} {b o : Nat} {xs : Array Value} (h : PAt w b o xs) (hx : xs.size = 90) (hb : Below w.heap.size w w') : PAt w' b o xs := fun k hk => by
  have h0 := h k hk
  rw [Array.getElem?_eq_getElem (by omega)] at h0 ⊢
  exact cell_below hb h0
theorem PAt.range {w : World} {b o : Nat} {xs : Array Value} (h : PAt w b o xs) (hx : xs.size = 90) : w.rangeAt b o xs.toList := fun j v hj => by
  have hj' : j < 90 := by rw [← hx]; simpa using (List.getElem?_eq_some_iff.1 hj).1
  rw [h j hj']; simpa using hj
theorem Sub.pat {w : World} {b o : Nat} {A xs : Array Value} {t : TypeId} (hs : Sub A o xs) (hA : VarAt w b A t) : PAt w b o xs := fun k hk => by rw [hA.cell]; exact hs k hk
theorem PIn.pat {w : World} {s : Value} {n : Nat} {XS : Nat → Array Value} (h : PIn w s n XS) (hn : 0 < n) : ∃ b o c, s = .slice (some ⟨b, o, none⟩) n c ∧ ∀ i, i < n → PAt w b (o + i * 90) (XS i) := by
  obtain ⟨a, c, rfl, _, h1⟩ := h
  obtain ⟨b, o, rfl, hc⟩ := h1 hn
  exact ⟨b, o, c, rfl, hc⟩
theorem below_dn (B : Nat) (w : World) (n : Nat) : Below B w (w.drewN n) := ⟨rfl, rfl, rfl, Nat.le_refl _, fun _ _ => rfl⟩

theorem idx32o (b o n c k : Nat) (h : k < n) (w : World) : (Instr.indexAt 32 (.slice (some ⟨b, o, none⟩) n c) (.int .i64 k)).run Try.prog w = .ok (.pointer (some ⟨b, o + k * 90, none⟩)) w := idx32 b o n c k h w
theorem PAt.num {w : World} {b o : Nat} {xs : Array Value} (h : PAt w b o xs) (ht : Typed xs) (k : Nat) (hk : kinds[k]? = some (some .i64)) : w.cell? ⟨b, o + k, none⟩ = some (.int .i64 (numI xs k)) := by
  rw [h k (by rw [← kinds_len]; exact (List.getElem?_eq_some_iff.1 hk).1), ht.num k hk]
theorem PAt.bool {w : World} {b o : Nat} {xs : Array Value} (h : PAt w b o xs) (ht : Typed xs) (k : Nat) (hk : kinds[k]? = some none) : w.cell? ⟨b, o + k, none⟩ = some (.bool (boolI xs k)) := by
  rw [h k (by rw [← kinds_len]; exact (List.getElem?_eq_some_iff.1 hk).1), ht.bool k hk]
theorem z48_typed : Typed z48 := by
  refine ⟨z48_size, fun k q x hq hx => ?_⟩
  unfold z48 at hx
  simp only [List.getElem?_toArray, List.getElem?_map, hq, Option.map_some, Option.some.injEq] at hx
  subst hx
  cases q with
  | none => exact ⟨_, rfl⟩
  | some k => exact ⟨_, rfl⟩

/-- A bridge's zero. -/
def z34 : Array Value := (⟨0, 0, 0, 0, 0, 0, false, 0, 0, 0, 0, 0, 0, 0, 0, 0, 0⟩ : Bd).cells (.slice none 0 0)
theorem info34 : (Try.prog.info? 34).map (fun i => (i.zero, i.size)) = some (some (.agg z34), 18) := by kernel_rfl
theorem z34_size : z34.size = 18 := by kernel_rfl
theorem zero34 : ∀ w, (zeroValue 34).run Try.prog w = .ok (.agg z34) w := (zero_of_info info34).1
theorem wp_load_whole {T n : Nat} {d : TypeDesc} (hu : Try.prog.underlying T = some d) (hd : d.isRow = true) (hn : (Try.prog.info? T).map (·.size) = some n) {op : Oper} {a : Act} {w : World} {K : Act → World → Prop} {Q : Exit → Act → World → Prop} (x : Operand) (ho : op.op = .load T x) {b o : Nat} (hx : a.eval x = .pointer (some ⟨b, o, none⟩)) {xs : Array Value}
    (hv : w.rangeAt b o xs.toList) (hz : xs.size = n) (h : K (a.put op.dst (.agg xs)) w) : op.wp Try.prog a w K Q :=
  wp_load_mid T x ho b o hx xs.toList d hv hu hd (by rw [hn]; simp [hz]) (by simpa using h)
theorem guarded_load {ops : Array Oper} {rest : List Oper} {op : Oper} {a : Act} {w : World} {Q : Exit → Act → World → Prop} (hw : Region.wanted op (yielded ops a.tmps) = true) (x : Operand) (ho : op.op = .load 34 x) {b : Nat} (hx : a.eval x = .pointer (some ⟨b, 0, none⟩)) {xs : Array Value}
    (hv : VarAt w b xs 34) (hz : xs.size = 18) (h : wpList Try.prog ops Q rest (a.put op.dst (.agg xs)) w) : wpList Try.prog ops Q (op :: rest) a w :=
  wpList_step fun K hK => by
    rw [if_pos hw]
    exact wp_load_whole uB rfl sB x ho hx (range_whole hv) hz (hK _ _ h)
theorem yields_br {ops : Array Oper} {S : World → Prop} {op : Oper} {a : Act} {xs : Array Value} (hw : Region.wanted op (yielded ops a.tmps) = true) (x : Operand) (ho : op.op = .load 34 x) {b : Nat} (hx : a.eval x = .pointer (some ⟨b, 0, none⟩))
    (hS : ∀ w, S w → VarAt w b xs 34) (hz : xs.size = 18) : YieldsIf Try.prog ops S op (.agg xs) a := by
  have := yieldsIf_load_mid (P := Try.prog) (ops := ops) hw 34 x ho b 0 hx xs.toList _ (fun w h => range_whole (hS w h)) uB rfl (by rw [sB]; simp [hz])
  simpa using this
theorem stopS (T : Nat) {ops : Array Oper} {rest : List Oper} {op : Oper} {a : Act} {w : World} {Q : Exit → Act → World → Prop} (x y : Operand) (_ : op.op = .store T x y) (h : Hid (wpList Try.prog ops Q (op :: rest) a w)) : wpList Try.prog ops Q (op :: rest) a w := h
theorem stopG (T : Nat) {ops : Array Oper} {rest : List Oper} {op : Oper} {a : Act} {w : World} {Q : Exit → Act → World → Prop} (p : Array (Nat × Operand)) (_ : op.op = .build T p) (h : Hid (wpList Try.prog ops Q (op :: rest) a w)) : wpList Try.prog ops Q (op :: rest) a w := h
theorem wpList_buildE {ops : Array Oper} {rest : List Oper} {o : Oper} {a : Act} {w : World} {Q : Exit → Act → World → Prop} (hg : o.guard = none) (t : TypeId) (parts : Array (Nat × Operand)) (ho : o.op = .build t parts) (cells : Array Value)
    (hc : Try.prog.built t (parts.map fun (i, x) => (i, a.eval x)).toList = some cells) (h : wpList Try.prog ops Q rest (a.put o.dst (.agg cells)) w) : wpList Try.prog ops Q (o :: rest) a w :=
  wpList_build hg t parts ho (by rw [hc]; rfl) (by rw [hc]; exact h)
theorem sub_whole {A ys : Array Value} {o : Nat} (hy : ys.size = 90) (hA : o + 90 ≤ A.size) : Sub (putL A o ys.toList) o ys := fun k hk => by
  rw [putL_at, if_pos ⟨by omega, by simp; omega, by omega⟩, show o + k - o = k by omega]; simp
theorem out_whole {A ys : Array Value} {o : Nat} (hy : ys.size = 90) : Out A (putL A o ys.toList) o := ⟨putL_size _ _ _, fun j hj => by rw [putL_at, if_neg (by simp; omega)]⟩
/-- A whole port put in its place. -/
theorem subs_whole {A ys : Array Value} {n k : Nat} {XS : Nat → Array Value} (hs : ∀ i, i < n → Sub A (i * 90) (XS i)) (hA : n * 90 ≤ A.size) (hk : k < n) (hy : ys.size = 90) :
    ∀ i, i < n → Sub (putL A (k * 90) ys.toList) (i * 90) (if i = k then ys else XS i) := by
  intro i hi
  by_cases e : i = k
  · subst e
    rw [if_pos rfl]
    exact sub_whole hy (by omega)
  · rw [if_neg e]
    exact (hs i hi).out (out_whole hy) (by omega)
/-- A slice of one's own reads as one that came in. -/
theorem Br.pin {w : World} {B : Bd} {bb pb n cap : Nat} {XS : Nat → Array Value} (h : Br w B bb pb n cap XS) : PIn w (.slice (some ⟨pb, 0, none⟩) n cap) n XS := by
  obtain ⟨A, hA, h3, h4⟩ := h.ex
  refine ⟨some ⟨pb, 0, none⟩, cap, rfl, fun h => (by cases h), fun _ => ⟨pb, 0, rfl, fun i hi k hk => ?_⟩⟩
  rw [hA.cell, Nat.zero_add]; exact h4 i hi k hk

/-- Cells set one by one, the first of the list first. -/
def upd (xs : Array Value) : List (Nat × Value) → Array Value
  | [] => xs
  | p :: l => upd (xs.setIfInBounds p.1 p.2) l
theorem upd_size : ∀ (l : List (Nat × Value)) (xs : Array Value), (upd xs l).size = xs.size
  | [], _ => rfl
  | p :: l, xs => by rw [upd, upd_size l]; simp
/-- What stands in a place behind that: what was set last there. -/
def look : List (Nat × Value) → Nat → Option Value
  | [], _ => none
  | p :: l, j => (look l j).or (if p.1 = j then some p.2 else none)
theorem upd_at : ∀ (l : List (Nat × Value)) (xs : Array Value) (j : Nat), j < xs.size → (upd xs l)[j]? = (look l j).or xs[j]?
  | [], xs, j, _ => by simp [upd, look]
  | p :: l, xs, j, h => by
    rw [upd, upd_at l _ j (by simpa using h), Array.getElem?_setIfInBounds, look]
    cases look l j with
    | some v => simp
    | none =>
      by_cases e : p.1 = j
      · subst e; simp [h]
      · simp [e]
theorem upd_congr {xs : Array Value} {l m : List (Nat × Value)} (h : ∀ j, look l j = look m j) : upd xs l = upd xs m := by
  apply Array.ext_getElem?
  intro j
  by_cases hj : j < xs.size
  · rw [upd_at l xs j hj, upd_at m xs j hj, h j]
  · rw [Array.getElem?_eq_none (by rw [upd_size]; omega), Array.getElem?_eq_none (by rw [upd_size]; omega)]
theorem Typed.set {xs : Array Value} (h : Typed xs) (k : Nat) (v : Value) (hk : ∀ q, kinds[k]? = some q → kindOk q v) : Typed (xs.setIfInBounds k v) := by
  refine ⟨by simpa using h.1, fun j q x hq hx => ?_⟩
  rw [Array.getElem?_setIfInBounds] at hx
  split at hx
  · rename_i e
    subst e
    split at hx
    · cases hx; exact hk q hq
    · cases hx
  · exact h.2 j q x hq hx
theorem upd_typed : ∀ (l : List (Nat × Value)) {xs : Array Value}, Typed xs → (∀ p, p ∈ l → ∀ q, kinds[p.1]? = some q → kindOk q p.2) → Typed (upd xs l)
  | [], _, h, _ => h
  | p :: l, _, h, hl => upd_typed l (h.set p.1 p.2 (hl p (by simp))) fun q hq => hl q (by simp [hq])
theorem isB {k : Nat} (hk : kinds[k]? = some none) (b : Bool) : ∀ q, kinds[k]? = some q → kindOk q (.bool b) := fun q hq => by rw [hk] at hq; cases hq; exact ⟨b, rfl⟩
theorem isI {k : Nat} (hk : kinds[k]? = some (some .i64)) (n : Int) : ∀ q, kinds[k]? = some q → kindOk q (.int .i64 n) := fun q hq => by rw [hk] at hq; cases hq; exact ⟨n, rfl⟩

/-- A port among others in a block. -/
structure Pt (w : World) (pb o : Nat) (xs : Array Value) : Prop where
  ex : ∃ A, VarAt w pb A 50 ∧ o + 90 ≤ A.size ∧ Sub A o xs
/-- What becomes of a port; nothing else of what was there turns. -/
structure Mv (w w' : World) (pb o : Nat) (xs ys : Array Value) : Prop where
  only : Only pb w w'
  all : ∀ A, VarAt w pb A 50 → o + 90 ≤ A.size → Sub A o xs → ∃ A', VarAt w' pb A' 50 ∧ Out A A' o ∧ Sub A' o ys
theorem Mv.refl (w : World) (pb o : Nat) (xs : Array Value) : Mv w w pb o xs xs := ⟨Only.refl _ _, fun A h _ s => ⟨A, h, Out.refl _ _, s⟩⟩
theorem Mv.trans {w1 w2 w3 : World} {pb o : Nat} {xs ys zs : Array Value} (h : Mv w1 w2 pb o xs ys) (k : Mv w2 w3 pb o ys zs) : Mv w1 w3 pb o xs zs :=
  ⟨h.only.trans k.only, fun A hv hA hs => by
    obtain ⟨A', hv', ho, hs'⟩ := h.all A hv hA hs
    obtain ⟨A'', hv'', ho', hs''⟩ := k.all A' hv' (by rw [ho.1]; exact hA) hs'
    exact ⟨A'', hv'', ho.trans ho', hs''⟩⟩
theorem Sub.lt {A xs : Array Value} {o k : Nat} (h : Sub A o xs) (hA : o + 90 ≤ A.size) (hk : k < 90) : k < xs.size := by
  have h0 := h k hk
  rw [Array.getElem?_eq_getElem (show o + k < A.size by omega)] at h0
  exact (Array.getElem?_eq_some_iff.1 h0.symm).1
theorem Mv.set {w w' : World} {pb o : Nat} {xs ys : Array Value} (h : Mv w w' pb o xs ys) (k : Nat) (hk : k < 90) (v : Value) : Mv w (w'.setCell ⟨pb, o + k, none⟩ v) pb o xs (ys.setIfInBounds k v) :=
  ⟨h.only.set _ _, fun A hv hA hs => by
    obtain ⟨A', hv', ho, hs'⟩ := h.all A hv hA hs
    have hA' : o + 90 ≤ A'.size := by rw [ho.1]; exact hA
    refine ⟨_, hv'.set (o + k) v, ⟨by simpa using ho.1, fun j hj => ?_⟩, fun j hj => ?_⟩
    · rw [Array.getElem?_setIfInBounds, if_neg (by omega)]; exact ho.2 j hj
    · rw [Array.getElem?_setIfInBounds, Array.getElem?_setIfInBounds]
      by_cases e : k = j
      · subst e
        rw [if_pos rfl, if_pos rfl, if_pos (by omega), if_pos (hs'.lt hA' hk)]
      · rw [if_neg (by omega), if_neg e]; exact hs' j hj⟩
theorem Mv.drew {w w' : World} {pb o : Nat} {xs ys : Array Value} (h : Mv w w' pb o xs ys) : Mv w w'.drew pb o xs ys := ⟨h.only.drew, fun A a b c => h.all A a b c⟩
theorem Mv.of_drewN {w w' : World} {pb o n : Nat} {xs ys : Array Value} (h : Mv (w.drewN n) w' pb o xs ys) : Mv w w' pb o xs ys := ⟨⟨h.only.os, h.only.tape, h.only.output, h.only.size, h.only.block⟩, fun A a b c => h.all A a b c⟩
theorem Pt.mv {w w' : World} {pb o : Nat} {xs ys : Array Value} (h : Pt w pb o xs) (m : Mv w w' pb o xs ys) : Pt w' pb o ys := by
  obtain ⟨A, hv, hA, hs⟩ := h.ex
  obtain ⟨A', hv', ho, hs'⟩ := m.all A hv hA hs
  exact ⟨A', hv', by rw [ho.1]; exact hA, hs'⟩
theorem Pt.below {w w' : World} {pb o : Nat} {xs : Array Value} (h : Pt w pb o xs) (m : Below w.heap.size w w') : Pt w' pb o xs := by
  obtain ⟨A, hv, hA, hs⟩ := h.ex
  exact ⟨A, hv.below m hv.lt, hA, hs⟩
theorem Pt.pat {w : World} {pb o : Nat} {xs : Array Value} (h : Pt w pb o xs) : PAt w pb o xs := by
  obtain ⟨A, hv, _, hs⟩ := h.ex
  exact hs.pat hv
theorem Pt.num {w : World} {b o : Nat} {xs : Array Value} (h : Pt w b o xs) (ht : Typed xs) (k : Nat) (hk : kinds[k]? = some (some .i64)) : w.cell? ⟨b, o + k, none⟩ = some (.int .i64 (numI xs k)) := h.pat.num ht k hk
theorem Pt.bool {w : World} {b o : Nat} {xs : Array Value} (h : Pt w b o xs) (ht : Typed xs) (k : Nat) (hk : kinds[k]? = some none) : w.cell? ⟨b, o + k, none⟩ = some (.bool (boolI xs k)) := h.pat.bool ht k hk
theorem Pt.frozen {w : World} {b o : Nat} {xs : Array Value} (h : Pt w b o xs) (k : Nat) : w.frozen? ⟨b, k, none⟩ = false := by
  obtain ⟨A, hv, _, _⟩ := h.ex
  exact hv.frozen k
theorem Br.pt {w : World} {B : Bd} {bb pb n cap k : Nat} {XS : Nat → Array Value} (h : Br w B bb pb n cap XS) (hk : k < n) : Pt w pb (k * 90) (XS k) := by
  obtain ⟨A, hA, h3, h4⟩ := h.ex
  exact ⟨A, hA, by omega, h4 k hk⟩
/-- One of the ports becomes another. -/
def at1 (XS : Nat → Array Value) (k : Nat) (ys : Array Value) (i : Nat) : Array Value := if i = k then ys else XS i
theorem at1_self (XS : Nat → Array Value) (k : Nat) (i : Nat) : at1 XS k (XS k) i = XS i := by
  unfold at1; split
  · rename_i e; rw [e]
  · rfl
theorem at1_at (XS : Nat → Array Value) (k : Nat) (ys : Array Value) : at1 XS k ys k = ys := if_pos rfl
theorem at1_typed {XS : Nat → Array Value} {n k : Nat} {ys : Array Value} (h : ∀ i, i < n → Typed (XS i)) (hy : Typed ys) (i : Nat) (hi : i < n) : Typed (at1 XS k ys i) := by
  unfold at1; split
  · exact hy
  · exact h i hi
theorem Br.mv {w w' : World} {B : Bd} {bb pb n cap k : Nat} {XS : Nat → Array Value} {ys : Array Value} (h : Br w B bb pb n cap XS) (hk : k < n) (m : Mv w w' pb (k * 90) (XS k) ys) : Br w' B bb pb n cap (at1 XS k ys) := by
  have hne := h.ne
  obtain ⟨A, hA, h3, h4⟩ := h.ex
  obtain ⟨A', hA', ho, hs⟩ := m.all A hA (by omega) (h4 k hk)
  refine ⟨m.only.var h.hb hne, A', hA', by rw [ho.1]; exact h3, fun i hi => ?_⟩
  unfold at1
  by_cases e : i = k
  · rw [if_pos e, e]; exact hs
  · rw [if_neg e]; exact (h4 i hi).out ho (by omega)
end Go.Proofs.Ytidgdanhnpfpmaa
