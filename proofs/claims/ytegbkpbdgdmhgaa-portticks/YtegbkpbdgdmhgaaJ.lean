/- Bridges whole; contracts of less, Of. -/
import Derived.Test.YtegbkpbdgdmhgaaI
import Derived.Test.YtegbkpbdgdmhgaaFb
import Derived.Great.BuildSlice
namespace Go.Proofs.Ytegbkpbdgdmhgaa
open Go.RowKit Go.Sort

/-- A bridge's zero. -/
def z34 : Array Value := (⟨0, 0, 0, 0, 0, 0, false, 0, 0, 0, 0, 0, 0, 0, 0, 0, 0⟩ : Bd).cells (.slice none 0 0)
theorem info34 : (Try.prog.info? 34).map (fun i => (i.zero, i.size)) = some (some (.agg z34), 18) := by kernel_rfl
theorem z34_size : z34.size = 18 := by kernel_rfl
theorem zero34 : ∀ w, (zeroValue 34).run Try.prog w = .ok (.agg z34) w := (zero_of_info info34).1
theorem wp_load_whole {T n : Nat} {d : TypeDesc} (hu : Try.prog.underlying T = some d) (hd : d.isRow = true) (hn : (Try.prog.info? T).map (·.size) = some n) {op : Oper} {a : Act} {w : World} {K : Act → World → Prop} {Q : Exit → Act → World → Prop} (x : Operand) (ho : op.op = .load T x) {b o : Nat} (hx : a.eval x = .pointer (some ⟨b, o, none⟩)) {xs : Array Value}
    (hv : w.rangeAt b o xs.toList) (hz : xs.size = n) (h : K (a.put op.dst (.agg xs)) w) : op.wp Try.prog a w K Q :=
  wp_load_mid T x ho b o hx xs.toList d hv hu hd (by rw [hn]; simp [hz]) (by simpa using h)
theorem guarded_load {ops : Array Oper} {rest : List Oper} {op : Oper} {a : Act} {w : World} {Q : Exit → Act → World → Prop} (hw : Region.wanted op (yielded ops a.tmps) = true) (x : Operand) (ho : op.op = .load 34 x) {b : Nat} (hx : a.eval x = .pointer (some ⟨b, 0, none⟩)) {xs : Array Value}
    (hv : VarAt w b xs 34) (hz : xs.size = 18) (h : wpList Try.prog ops Q rest (a.put op.dst (.agg xs)) w) : wpList Try.prog ops Q (op :: rest) a w :=
  wpList_step fun K hK => by
    rw [if_pos hw]
    exact wp_load_whole uB rfl sB x ho hx (range_whole hv) hz (hK _ _ h)
theorem yields_br {ops : Array Oper} {S : World → Prop} {op : Oper} {a : Act} {xs : Array Value} (hw : Region.wanted op (yielded ops a.tmps) = true) (x : Operand) (ho : op.op = .load 34 x) {b : Nat} (hx : a.eval x = .pointer (some ⟨b, 0, none⟩))
    (hS : ∀ w, S w → VarAt w b xs 34) (hz : xs.size = 18) : YieldsIf Try.prog ops S op (.agg xs) a := by
  have := yieldsIf_load_mid (P := Try.prog) (ops := ops) hw 34 x ho b 0 hx xs.toList _ (fun w h => range_whole (hS w h)) uB rfl (by rw [sB]; simp [hz])
  simpa using this
theorem stopS (T : Nat) {ops : Array Oper} {rest : List Oper} {op : Oper} {a : Act} {w : World} {Q : Exit → Act → World → Prop} (x y : Operand) (_ : op.op = .store T x y) (h : Hid (wpList Try.prog ops Q (op :: rest) a w)) : wpList Try.prog ops Q (op :: rest) a w := h
theorem stopG (T : Nat) {ops : Array Oper} {rest : List Oper} {op : Oper} {a : Act} {w : World} {Q : Exit → Act → World → Prop} (p : Array (Nat × Operand)) (_ : op.op = .build T p) (h : Hid (wpList Try.prog ops Q (op :: rest) a w)) : wpList Try.prog ops Q (op :: rest) a w := h
theorem wpList_buildE {ops : Array Oper} {rest : List Oper} {o : Oper} {a : Act} {w : World} {Q : Exit → Act → World → Prop} (hg : o.guard = none) (t : TypeId) (parts : Array (Nat × Operand)) (ho : o.op = .build t parts) (cells : Array Value)
    (hc : Try.prog.built t (parts.map fun (i, x) => (i, a.eval x)).toList = some cells) (h : wpList Try.prog ops Q rest (a.put o.dst (.agg cells)) w) : wpList Try.prog ops Q (o :: rest) a w :=
  wpList_build hg t parts ho (by rw [hc]; rfl) (by rw [hc]; exact h)
theorem sub_whole {A ys : Array Value} {o : Nat} (hy : ys.size = 90) (hA : o + 90 ≤ A.size) : Sub (putL A o ys.toList) o ys := fun k hk => by
  rw [putL_at, if_pos ⟨by omega, by simp; omega, by omega⟩, show o + k - o = k by omega]; simp
theorem out_whole {A ys : Array Value} {o : Nat} (hy : ys.size = 90) : Out A (putL A o ys.toList) o := ⟨putL_size _ _ _, fun j hj => by rw [putL_at, if_neg (by simp; omega)]⟩
/-- A whole port put in its place. -/
theorem subs_whole {A ys : Array Value} {n k : Nat} {XS : Nat → Array Value} (hs : ∀ i, i < n → Sub A (i * 90) (XS i)) (hA : n * 90 ≤ A.size) (hk : k < n) (hy : ys.size = 90) :
    ∀ i, i < n → Sub (putL A (k * 90) ys.toList) (i * 90) (if i = k then ys else XS i) := by
  intro i hi
  by_cases e : i = k
  · subst e
    rw [if_pos rfl]
    exact sub_whole hy (by omega)
  · rw [if_neg e]
    exact (hs i hi).out (out_whole hy) (by omega)
/-- A slice of one's own reads as one that came in. -/
theorem Br.pin {w : World} {B : Bd} {bb pb n cap : Nat} {XS : Nat → Array Value} (h : Br w B bb pb n cap XS) : PIn w (.slice (some ⟨pb, 0, none⟩) n cap) n XS := by
  obtain ⟨A, hA, h3, h4⟩ := h.ex
  refine ⟨some ⟨pb, 0, none⟩, cap, rfl, fun h => (by cases h), fun _ => ⟨pb, 0, rfl, fun i hi k hk => ?_⟩⟩
  rw [hA.cell, Nat.zero_add]; exact h4 i hi k hk

theorem less_any (n : Int) (w : World) : Calls Try.prog 28 #[.int .i64 n] w fun e w' => e = .returned (.int .i64 (dn n)) ∧ w = w' := by
  unfold dn
  by_cases h : 0 < n
  · rw [if_pos h]
    go_enter Try.func28, Try.ntmps28
    go_wp2_with fail
    go_ret
    exact ⟨rfl, rfl⟩
  · rw [if_neg h]
    go_enter Try.func28, Try.ntmps28
    go_wp2_with fail
    go_ret
    exact ⟨rfl, rfl⟩
theorem ofNil (i : Int) (w : World) : Calls Try.prog 9 #[.pointer none, .int .i64 i] w fun e w' => e = .returned (.pointer none) ∧ w = w' := by
  go_enter Try.func9, Try.ntmps9
  go_wp2_with fail
  go_ret
  exact ⟨rfl, rfl⟩
theorem of_some (B : Bd) (bb pb n cap k : Nat) (XS : Nat → Array Value) (w : World) (hB : Br w B bb pb n cap XS) (hk : k < n) : Calls Try.prog 9 #[.pointer (some ⟨bb, 0, none⟩), .int .i64 k] w fun e w' => e = .returned (.pointer (some ⟨pb, k * 90, none⟩)) ∧ w = w' := by
  have c17 : w.cell? ⟨bb, 17, none⟩ = some (.slice (some ⟨pb, 0, none⟩) n cap) := hB.hb.cell 17
  have i0 := idx32b pb n cap k hk
  have h1 : decide ((k : Int) < 0) = false := by simp
  clear hB
  go_enter Try.func9, Try.ntmps9
  go_wp2_with fail
  go_ret
  exact ⟨rfl, rfl⟩
theorem of_none (B : Bd) (bb pb n cap : Nat) (i : Int) (XS : Nat → Array Value) (w : World) (hB : Br w B bb pb n cap XS) (hi : i < 0 ∨ (n : Int) ≤ i) : Calls Try.prog 9 #[.pointer (some ⟨bb, 0, none⟩), .int .i64 i] w fun e w' => e = .returned (.pointer none) ∧ w = w' := by
  have c17 : w.cell? ⟨bb, 17, none⟩ = some (.slice (some ⟨pb, 0, none⟩) n cap) := hB.hb.cell 17
  clear hB
  by_cases h0 : i < 0
  · clear hi
    go_enter Try.func9, Try.ntmps9
    go_wp2_with fail
    go_ret
    exact ⟨rfl, rfl⟩
  · have h1 : (n : Int) ≤ i := by omega
    clear hi
    go_enter Try.func9, Try.ntmps9
    go_wp2_with fail
    go_ret
    exact ⟨rfl, rfl⟩
end Go.Proofs.Ytegbkpbdgdmhgaa
