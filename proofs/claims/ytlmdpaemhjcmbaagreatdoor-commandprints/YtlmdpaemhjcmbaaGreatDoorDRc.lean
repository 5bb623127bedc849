/- The reference's take: a word, for a part. -/
import Derived.Test.YtlmdpaemhjcmbaaGreatDoorDRa
namespace Go.Proofs.YtlmdpaemhjcmbaaGreatDoor.Cd
open Go.RowKit Go.Sort Go.Lib

theorem s32 : (Tryz.prog.info? 36).map (·.size) = some 10 := by kernel_rfl
theorem u32 : Tryz.prog.underlying 36 = some (.struct (Tryz.prog.fieldsOf 36)) := by kernel_rfl
theorem s23 : (Tryz.prog.info? 22).map (·.size) = some 6 := by kernel_rfl
theorem yields32 {ops : Array Oper} {S : World → Prop} {op : Oper} {a : Act} {c : Cm} (hw : Region.wanted op (yielded ops a.tmps) = true) (x : Operand) (ho : op.op = .load 36 x) {b : Nat} (hx : a.eval x = .pointer (some ⟨b, 0, none⟩))
    (hS : ∀ w, S w → CA w b c.cells 36) : YieldsIf Tryz.prog ops S op (.agg c.cells) a := by
  have := yieldsIf_load_mid (P := Tryz.prog) (ops := ops) hw 36 x ho b 0 hx c.cells.toList _ (fun w h => range_whole (hS w h)) u32 rfl (by rw [s32]; rfl)
  simpa using this
theorem wp_store32 {op : Oper} {a : Act} {w : World} {K : Act → World → Prop} {Q : Exit → Act → World → Prop} (x y : Operand) (ho : op.op = .store 36 x y) {b : Nat} (c : Cm) (hx : a.eval x = .pointer (some ⟨b, 0, none⟩)) (hy : a.eval y = .agg c.cells)
    {d : Cm} (hv : CA w b d.cells 36) (h : ∀ w', CA w' b c.cells 36 → (∀ Bl w0, Bl ≤ b → Below Bl w0 w → Below Bl w0 w') → (∀ q ys u, q ≠ b → CA w q ys u → CA w' q ys u) → w.heap.size ≤ w'.heap.size → K (a.put op.dst undef) w') : op.wp Tryz.prog a w K Q :=
  wp_store_mid 36 x y ho b 0 c.cells hx hy (hv.there 0 10 (Nat.le_refl 10)) (by rw [s32]; rfl) (Cm.one c)
    (h _ (by have := CA.putL c.cells.toList 0 hv; rw [putL_all d.cells c.cells rfl] at this; exact this) (fun _ _ hB hb => Below.setL hB _ _ hb) (fun _ _ _ hne hc => CA.setL_other hne _ _ hc) (Below.setL (Nat.zero_le _) _ _ (Below.refl 0 w)).size)
theorem wpl_store32 {ops : Array Oper} {rest : List Oper} {op : Oper} {a : Act} {w : World} {Q : Exit → Act → World → Prop} (hgd : op.guard = none) (x y : Operand) (ho : op.op = .store 36 x y) {b : Nat} (c : Cm) (hx : a.eval x = .pointer (some ⟨b, 0, none⟩)) (hy : a.eval y = .agg c.cells)
    {d : Cm} (hv : CA w b d.cells 36)
    (h : ∀ w', CA w' b c.cells 36 → (∀ Bl w0, Bl ≤ b → Below Bl w0 w → Below Bl w0 w') → (∀ q ys u, q ≠ b → CA w q ys u → CA w' q ys u) → w.heap.size ≤ w'.heap.size → wpList Tryz.prog ops Q rest (a.put op.dst undef) w') : wpList Tryz.prog ops Q (op :: rest) a w :=
  wpList_store_whole s32 hgd x y ho hx hy hv (Cm.one c) rfl (show 0 + 10 ≤ d.cells.size from Nat.le_refl 10) fun w' h1 h2 h3 h4 => h w' (by rw [putL_all d.cells c.cells rfl] at h1; exact h1) h2 h3 h4
theorem wpl_load32 {ops : Array Oper} {rest : List Oper} {op : Oper} {a : Act} {w : World} {Q : Exit → Act → World → Prop} (hw : Region.wanted op (yielded ops a.tmps) = true) (x : Operand) (ho : op.op = .load 36 x) {b : Nat} {c : Cm} (hx : a.eval x = .pointer (some ⟨b, 0, none⟩)) (hv : CA w b c.cells 36)
    (h : wpList Tryz.prog ops Q rest (a.put op.dst (.agg c.cells)) w) : wpList Tryz.prog ops Q (op :: rest) a w :=
  BigFrame.wpList_want hw fun _ hK => wp_load_mid 36 x ho b 0 hx c.cells.toList _ (range_whole hv) u32 rfl (by rw [s32]; rfl) (hK _ _ (by simpa using h))
/-- What the reference's take leaves. -/
def RTook (c : Cm) (p s : List UInt8) (w : World) (e : Ending) (w' : World) : Prop :=
  (∃ c' : Cm, e = .returned (.tuple #[.agg c'.cells, .bool (tk p s).isSome]) ∧ (∀ i, c'.x i < 256) ∧ ∀ f, tk p s = some f → c' = f c) ∧ Below w.heap.size w w'
theorem numI_ge (s : List UInt8) : decide (0 ≤ numI s) = (num s).isSome := by
  unfold numI; cases num s <;> simp
end Go.Proofs.YtlmdpaemhjcmbaaGreatDoor.Cd
