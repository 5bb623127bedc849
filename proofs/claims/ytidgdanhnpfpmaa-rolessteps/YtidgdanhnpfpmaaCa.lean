/- Structs of many cells, whole; what came in; contract of Copy. -/
import Derived.Test.YtidgdanhnpfpmaaV
namespace Go.Proofs.Ytidgdanhnpfpmaa
open Go.RowKit Go.Sort

theorem wpList_load_whole {T n : Nat} {d : TypeDesc} (hu : Try.prog.underlying T = some d) (hd : d.isRow = true) (hn : (Try.prog.info? T).map (·.size) = some n)
    {ops : Array Oper} {rest : List Oper} {op : Oper} {a : Act} {w : World} {Q : Exit → Act → World → Prop} (hgd : op.guard = none) (x : Operand) (ho : op.op = .load T x) {b o : Nat} (hx : a.eval x = .pointer (some ⟨b, o, none⟩)) {xs : Array Value}
    (hv : w.rangeAt b o xs.toList) (hz : xs.size = n) (h : wpList Try.prog ops Q rest (a.put op.dst (.agg xs)) w) : wpList Try.prog ops Q (op :: rest) a w :=
  wpList_load_mid hgd T x ho b o hx xs.toList d hv hu hd (by rw [hn]; simp [hz]) (by simpa using h)
theorem wpList_store_whole {T n : Nat} (hn : (Try.prog.info? T).map (·.size) = some n) {ops : Array Oper} {rest : List Oper} {op : Oper} {a : Act} {w : World} {Q : Exit → Act → World → Prop} (hgd : op.guard = none) (x y : Operand) (ho : op.op = .store T x y) {b o : Nat} {xs : Array Value} (hx : a.eval x = .pointer (some ⟨b, o, none⟩)) (hy : a.eval y = .agg xs)
    {A : Array Value} {t : TypeId} (hv : VarAt w b A t) (h1 : xs.all (·.oneCell') = true) (hz : xs.size = n) (hA : o + n ≤ A.size)
    (h : ∀ w', VarAt w' b (putL A o xs.toList) t → (∀ Bl w0, Bl ≤ b → Below Bl w0 w → Below Bl w0 w') → (∀ c ys u, c ≠ b → VarAt w c ys u → VarAt w' c ys u) → w.heap.size ≤ w'.heap.size → wpList Try.prog ops Q rest (a.put op.dst undef) w') : wpList Try.prog ops Q (op :: rest) a w :=
  wpList_store_mid hgd T x y ho b o xs hx hy (hv.there o xs.size (by rw [hz]; exact hA)) (by rw [hn, hz]) h1
    (h _ (VarAt.putL _ _ hv) (fun _ _ hB hb => Below.setL hB _ _ hb) (fun _ _ _ hne hc => VarAt.setL_other hne _ _ hc) (Below.setL (Nat.zero_le _) _ _ (Below.refl 0 w)).size)
/-- A walk stands still at the load of a struct of many cells, at its store, at its end. -/
theorem stopL (T : Nat) {ops : Array Oper} {rest : List Oper} {op : Oper} {a : Act} {w : World} {Q : Exit → Act → World → Prop} (x : Operand) (_ : op.op = .load T x) (h : Hid (wpList Try.prog ops Q (op :: rest) a w)) : wpList Try.prog ops Q (op :: rest) a w := h
theorem stopE {fn : Func} {R : Ending → World → Prop} {e : Exit} {a : Act} {w : World} (h : Hid (bodyPost Try.prog fn R e a w)) : bodyPost Try.prog fn R e a w := h
theorem uB : Try.prog.underlying 34 = some (.struct (Try.prog.fieldsOf 34)) := by kernel_rfl
theorem sB : (Try.prog.info? 34).map (·.size) = some 18 := by kernel_rfl
theorem range_whole {w : World} {b : Nat} {xs : Array Value} {t : TypeId} (h : VarAt w b xs t) : w.rangeAt b 0 xs.toList := fun j v hj => by
  rw [Nat.zero_add, h.cell]; simpa using hj
theorem Bd.one (B : Bd) {s : Value} (hs : s.oneCell' = true) : (B.cells s).all (·.oneCell') = true := by
  refine Array.all_eq_true_iff_forall_mem.2 fun v hv => ?_
  simp at hv
  rcases hv with rfl | rfl | rfl | rfl | rfl | rfl | rfl | rfl | rfl | rfl | rfl | rfl | rfl | rfl | rfl | rfl | rfl | rfl <;> first | exact hs | rfl
/-- A slice of ports, as it came in or was made. -/
def PIn (w : World) (s : Value) (n : Nat) (XS : Nat → Array Value) : Prop :=
  ∃ a c, s = .slice a n c ∧ (a = none → n = 0 ∧ c = 0) ∧ (0 < n → ∃ b o, a = some ⟨b, o, none⟩ ∧ ∀ i, i < n → ∀ k, k < 90 → w.cell? ⟨b, o + i * 90 + k, none⟩ = (XS i)[k]?)
theorem PIn.below {w w' : World} {s : Value} {n : Nat} {XS : Nat → Array Value} (h : PIn w s n XS) (hx : ∀ i, i < n → (XS i).size = 90) (hb : Below w.heap.size w w') : PIn w' s n XS := by
  obtain ⟨a, c, rfl, h0, h1⟩ := h
  refine ⟨a, c, rfl, h0, fun hn => ?_⟩
  obtain ⟨b, o, rfl, hc⟩ := h1 hn
  have hl : b < w.heap.size := by
    have := hc 0 hn 0 (by omega)
    rw [Array.getElem?_eq_getElem (by rw [hx 0 hn]; omega)] at this
    exact block_lt_of_cell this
  exact ⟨b, o, rfl, fun i hi k hk => by rw [hb.cell (by exact hl)]; exact hc i hi k hk⟩
/-- The cells of n ports. -/
def pcs (XS : Nat → Array Value) (n : Nat) : List Value := (List.range n).flatMap fun i => (XS i).toList
theorem pcs_succ (XS : Nat → Array Value) (n : Nat) : pcs XS (n + 1) = pcs XS n ++ (XS n).toList := by simp [pcs, List.range_succ]
theorem pcs_len {XS : Nat → Array Value} : ∀ {n : Nat}, (∀ i, i < n → (XS i).size = 90) → (pcs XS n).length = n * 90
  | 0, _ => rfl
  | n + 1, h => by rw [pcs_succ, List.length_append, pcs_len (fun i hi => h i (by omega)), Array.length_toList, h n (by omega)]; omega
theorem pcs_at {XS : Nat → Array Value} : ∀ {n : Nat}, (∀ i, i < n → (XS i).size = 90) → ∀ i, i < n → ∀ k, k < 90 → (pcs XS n)[i * 90 + k]? = (XS i)[k]?
  | 0, _, i, hi, _, _ => absurd hi (by omega)
  | n + 1, h, i, hi, k, hk => by
    have hl := pcs_len (n := n) fun i hi => h i (by omega)
    rw [pcs_succ]
    by_cases e : i = n
    · subst e
      rw [List.getElem?_append_right (by omega), hl]
      simp
    · rw [List.getElem?_append_left (by omega)]
      exact pcs_at (fun i hi => h i (by omega)) i (by omega) k hk
theorem info48' : (Try.prog.info? 50).map (fun i => (i.zero, i.size, i.bytes)) = some (some (.agg z48), 90, 464) := by kernel_rfl
theorem und32 : Try.prog.underlying 32 = some (.slice 50) := by kernel_rfl
end Go.Proofs.Ytidgdanhnpfpmaa
