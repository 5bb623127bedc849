/- Whole ports read out of and stored into memory. -/
import Derived.Test.YtidgdanhnpfpmaaN
import Derived.Deep.WholeRow
namespace Go.Proofs.Ytidgdanhnpfpmaa
open Go.RowKit Go.Sort

/-- A port's zero. -/
noncomputable def z48 : Array Value := (kinds.map fun q => match q with | some k => Value.int k 0 | none => Value.bool false).toArray
theorem info48 : (Try.prog.info? 50).map (fun i => (i.zero, i.size)) = some (some (.agg z48), 90) := by kernel_rfl
theorem z48_size : z48.size = 90 := by kernel_rfl
theorem zero48 : ∀ w, (zeroValue 50).run Try.prog w = .ok (.agg z48) w := (zero_of_info info48).1
theorem putL_all (Z xs : Array Value) (h : Z.size = xs.size) : putL Z 0 xs.toList = xs := by
  apply Array.ext_getElem?
  intro i
  rw [putL_at]
  by_cases hi : i < xs.size
  · rw [if_pos ⟨Nat.zero_le _, by simpa using hi, by omega⟩]; simp
  · rw [if_neg (by omega), Array.getElem?_eq_none (by omega), Array.getElem?_eq_none (by omega)]
theorem Typed.one {xs : Array Value} (h : Typed xs) : xs.all (·.oneCell') = true := by
  refine Array.all_eq_true_iff_forall_mem.2 fun v hv => ?_
  obtain ⟨i, hi, rfl⟩ := Array.mem_iff_getElem.1 hv
  have hk : i < kinds.length := by rw [kinds_len, ← h.1]; exact hi
  have := h.2 i kinds[i] xs[i] (List.getElem?_eq_getElem hk) (Array.getElem?_eq_getElem hi)
  cases hq : kinds[i] with
  | none => rw [hq] at this; obtain ⟨b, e⟩ := this; rw [e]; rfl
  | some k => rw [hq] at this; obtain ⟨b, e⟩ := this; rw [e]; rfl
theorem range_port {w : World} {b o : Nat} {A xs : Array Value} {t : TypeId} (hv : VarAt w b A t) (hs : Sub A o xs) (hx : xs.size = 90) : w.rangeAt b o xs.toList := fun j v hj => by
  have hj' : j < 90 := by rw [← hx]; simpa using (List.getElem?_eq_some_iff.1 hj).1
  rw [hv.cell, hs j hj']; simpa using hj
theorem wp_load_port {op : Oper} {a : Act} {w : World} {K : Act → World → Prop} {Q : Exit → Act → World → Prop} (x : Operand) (ho : op.op = .load 50 x) {b o : Nat} (hx : a.eval x = .pointer (some ⟨b, o, none⟩))
    {A xs : Array Value} {t : TypeId} (hv : VarAt w b A t) (hs : Sub A o xs) (hz : xs.size = 90) (h : K (a.put op.dst (.agg xs)) w) : op.wp Try.prog a w K Q :=
  wp_load_mid 50 x ho b o hx xs.toList _ (range_port hv hs hz) uP rfl (by rw [sP]; simp [hz]) (by simpa using h)
theorem wp_store_port {op : Oper} {a : Act} {w : World} {K : Act → World → Prop} {Q : Exit → Act → World → Prop} (x y : Operand) (ho : op.op = .store 50 x y) {b o : Nat} {xs : Array Value} (hx : a.eval x = .pointer (some ⟨b, o, none⟩)) (hy : a.eval y = .agg xs)
    {A : Array Value} {t : TypeId} (hv : VarAt w b A t) (ht : Typed xs) (hA : o + 90 ≤ A.size) (h : ∀ w', VarAt w' b (putL A o xs.toList) t → (∀ Bl w0, Bl ≤ b → Below Bl w0 w → Below Bl w0 w') → (∀ c ys u, c ≠ b → VarAt w c ys u → VarAt w' c ys u) → w.heap.size ≤ w'.heap.size → K (a.put op.dst undef) w') : op.wp Try.prog a w K Q :=
  wp_store_mid 50 x y ho b o xs hx hy (hv.there o xs.size (by rw [ht.1]; exact hA)) (by rw [sP, ht.1]) ht.one
    (h _ (VarAt.putL _ _ hv) (fun _ _ hB hb => Below.setL hB _ _ hb) (fun _ _ _ hne hc => VarAt.setL_other hne _ _ hc) (Below.setL (Nat.zero_le _) _ _ (Below.refl 0 w)).size)
theorem store_new {xs Z : Array Value} (ht : Typed xs) (hz : Z.size = 90) (w : World) : (storeCells ⟨w.heap.size, 0, none⟩ xs.toList 0).run Try.prog (w.alloc (.cells Z 50)) = .ok () (w.alloc (.cells xs 50)) :=
  run_storeCells_new w 50 Z xs (by rw [sP, ht.1]) (by rw [hz, ht.1]) ht.one
theorem yields_port {ops : Array Oper} {S : World → Prop} {op : Oper} {a : Act} {xs : Array Value} (hw : Region.wanted op (yielded ops a.tmps) = true) (x : Operand) (ho : op.op = .load 50 x) {b o : Nat} (hx : a.eval x = .pointer (some ⟨b, o, none⟩))
    (hS : ∀ w, S w → w.rangeAt b o xs.toList) (hz : xs.size = 90) : YieldsIf Try.prog ops S op (.agg xs) a := by
  have := yieldsIf_load_mid (P := Try.prog) (ops := ops) hw 50 x ho b o hx xs.toList _ hS uP rfl (by rw [sP]; simp [hz])
  simpa using this
end Go.Proofs.Ytidgdanhnpfpmaa
