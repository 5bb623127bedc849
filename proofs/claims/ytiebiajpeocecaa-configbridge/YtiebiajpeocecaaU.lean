/- Contract of a setting's Bridge. -/
import Derived.Test.YtiebiajpeocecaaO
namespace Go.Proofs.Ytiebiajpeocecaa
open Go.RowKit Go.Sort

/-- A bridge's identifier, and what is wrong with it. -/
def idC (c : Cf) : Nat := if stB c.pr 4096 61440 then idN c.pr.toNat c.x else 0
def erC (c : Cf) : Int := if stB c.pr 4096 61440 then 0 else 4
theorem bridge_any (c : Cf) (hx : ∀ i, c.x i < 256) (w : World) : Calls Try.prog 22 #[.int .i64 c.pr, macV c.x] w fun e w' => e = .returned (.tuple #[.int .u64 (idC c), .int .i64 (erC c)]) ∧ Below w.heap.size w w' := by
  obtain ⟨x, pr, a, m, h, d, ho, rs, ag⟩ := c
  unfold idC erC
  simp only at *
  cases hs : stB pr 4096 61440
  · exact bridge_not pr hs x w
  · obtain ⟨q, rfl⟩ : ∃ q : Nat, pr = q := ⟨pr.toNat, by unfold stB at hs; simp at hs; omega⟩
    exact bridge_ok q hs x hx w
/-- What becomes of a bridge that is set. -/
abbrev Bd.set (B : Bd) (c : Cf) : Bd := { B with id := idC c, a := c.a, m := c.m, h := c.h, d := c.d, tx := c.ho, rs := c.rs }
set_option maxRecDepth 20000 in
set_option maxHeartbeats 2000000 in
theorem setB_any (c : Cf) (s s' : Value) (B : Bd) (b Bl : Nat) (w : World) (hv : VarAt w b (B.cells s') 71) (hx : ∀ i, c.x i < 256) (hB : Bl ≤ b) : Calls Try.prog 17 #[.agg (c.cells s), .pointer (some ⟨b, 0, none⟩)] w fun e w' => e = .returned (.tuple #[]) ∧ VarAt w' b ((B.set c).cells s') 71 ∧ Below Bl w w' ∧ ∀ q ys t, q ≠ b → VarAt w q ys t → VarAt w' q ys t := by
  have c1 := bridge_any c hx
  have hsz : b < w.heap.size := hv.lt
  have C0 := Lib.hid (var_new w (c.cells s) 28)
  have V := Lib.hid (hv.alloc (.cells (c.cells s) 28))
  have HO := Lib.hid (fun q ys t (h : VarAt w q ys t) => h.alloc (.cells (c.cells s) 28))
  have HB := Lib.hid (show Below Bl w (w.alloc (.cells (c.cells s) 28)) from (Below.refl Bl w).alloc (by omega) _)
  obtain ⟨b0, b1, b2, b3, b4, b5, b6, -, -, -, -, -, -, -, -⟩ := C0.out.box
  unfold Bd.set
  generalize idC c = I at *
  generalize erC c = R at *
  clear hv hx
  obtain ⟨x, pr, a, m, h, d, ho, rs, ag⟩ := c
  simp only at *
  have CX := Lib.hid (fun (w1 : World) (hq : VarAt w1 w.heap.size (Cf.cells ⟨x, pr, a, m, h, d, ho, rs, ag⟩ s) 28) => hq.box)
  generalize Cf.cells ⟨x, pr, a, m, h, d, ho, rs, ag⟩ s = C at *
  go_enter Try.func17, Try.ntmps17
  go_wp2_with fail
  generalize w.alloc (.cells C 28) = W at *
  clear b0 b1 b2 b3 b4 b5 b6
  refine (c1 _).mono ?_
  rintro e w2 ⟨rfl, hb⟩
  have C2 := Lib.hid (C0.out.below hb C0.out.lt)
  have HO2 := Lib.hid (fun q ys t (h : VarAt W q ys t) => h.below hb h.lt)
  have HB2 := Lib.hid (HB.out.trans (hb.mono (Nat.le_trans hB (Nat.le_of_lt V.out.lt))))
  have V2 := Lib.hid (V.out.below hb V.out.lt)
  clear hb V C0 HB c1
  obtain ⟨-, -, -, -, -, -, -, g1, g2, g3, g4, g5, g6, -, -⟩ := CX.out w2 C2.out
  have f0 := V2.out.cell 0
  have f1 := V2.out.cell 1
  have f2 := V2.out.cell 2
  have f3 := V2.out.cell 3
  have f4 := V2.out.cell 4
  have f5 := V2.out.cell 5
  have f6 := V2.out.cell 6
  simp at f0 f1 f2 f3 f4 f5 f6
  have fz := V2.out.frozen
  have hne : ¬ b = w.heap.size := by omega
  have hne2 : ¬ w.heap.size = b := by omega
  simp only at g1 g2 g3 g4 g5 g6
  go_wp2_with fail
  go_end0
  have V3 := ((((((V2.out.set 0 (.int .u64 I)).set 1 (.int .i64 a)).set 2 (.int .i64 m)).set 3 (.int .i64 h)).set 4 (.int .i64 d)).set 5 (.int .i64 ho)).set 6 (.bool rs)
  have HB3 := ((((((HB2.out.setCell (p := ⟨b, 0, none⟩) hB (.int .u64 I)).setCell (p := ⟨b, 1, none⟩) hB (.int .i64 a)).setCell (p := ⟨b, 2, none⟩) hB (.int .i64 m)).setCell (p := ⟨b, 3, none⟩) hB (.int .i64 h)).setCell (p := ⟨b, 4, none⟩) hB (.int .i64 d)).setCell (p := ⟨b, 5, none⟩) hB (.int .i64 ho)).setCell (p := ⟨b, 6, none⟩) hB (.bool rs)
  exact ⟨rfl, V3, HB3, fun q ys t hq h => ((((((((HO2.out q ys t (HO.out q ys t h)).set_other (p := ⟨b, 0, none⟩) hq _).set_other (p := ⟨b, 1, none⟩) hq _).set_other (p := ⟨b, 2, none⟩) hq _).set_other (p := ⟨b, 3, none⟩) hq _).set_other (p := ⟨b, 4, none⟩) hq _).set_other (p := ⟨b, 5, none⟩) hq _).set_other (p := ⟨b, 6, none⟩) hq _)⟩
end Go.Proofs.Ytiebiajpeocecaa
