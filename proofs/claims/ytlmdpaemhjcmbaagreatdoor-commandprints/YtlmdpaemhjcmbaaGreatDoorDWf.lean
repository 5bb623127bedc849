/- Equality of commands. -/
import Derived.Test.YtlmdpaemhjcmbaaGreatDoorDWe
namespace Go.Proofs.YtlmdpaemhjcmbaaGreatDoor.Cd
open Go.RowKit Go.Sort Go.Lib

theorem eqItem8 {xs ys : Array Value} {i : Nat} {is : List Nat} {a b : Int} {r : Bool} {w : World} (hx : xs[i]? = some (.int .u8 a)) (hy : ys[i]? = some (.int .u8 b))
    (hr : (Op.eqItems 9998 5 1 xs ys is).run Tryz.prog w = .ok r w) : (Op.eqItems 9998 5 1 xs ys (i :: is)).run Tryz.prog w = .ok (a == b && r) w := by
  have e : i * 1 = i := Nat.mul_one i
  simp only [Op.eqItems, Sem.run_bind, e, part5 _ _ _ hx, part5 _ _ _ hy, Result.andThen_ok, run_equalIn_int _ 9997 5 .u8 .u8 a b u5]
  by_cases h : a = b
  · simp [h, hr]
  · simp [h]
/-- Are two commands alike? -/
def eqC (c d : Cm) : Bool := c.wh == d.wh && (c.po == d.po && (c.nn == d.nn && (c.on == d.on && ((c.x 0 : Int) == d.x 0 && ((c.x 1 : Int) == d.x 1 && ((c.x 2 : Int) == d.x 2 && ((c.x 3 : Int) == d.x 3 && ((c.x 4 : Int) == d.x 4 && ((c.x 5 : Int) == d.x 5 && true)))))))))
theorem eqC_self (c : Cm) : eqC c c = true := by simp [eqC]
theorem eqC_eq {c d : Cm} (hc : ∀ i, 6 ≤ i → c.x i = 0) (hd : ∀ i, 6 ≤ i → d.x i = 0) (h : eqC c d = true) : c = d := by
  unfold eqC at h
  simp only [Bool.and_eq_true, beq_iff_eq, Bool.and_true] at h
  obtain ⟨h1, h2, h3, h4, h5, h6, h7, h8, h9, h10⟩ := h
  refine Cm.eq h1 h2 h3 h4 (funext fun i => ?_)
  by_cases hi : 6 ≤ i
  · rw [hc i hi, hd i hi]
  · match i, hi with
    | 0, _ => omega
    | 1, _ => omega
    | 2, _ => omega
    | 3, _ => omega
    | 4, _ => omega
    | 5, _ => omega
    | i + 6, hi => exact absurd (by omega) hi
theorem und26 : Tryz.prog.underlying 33 = some (.struct (Tryz.prog.fieldsOf 33)) := by kernel_rfl
theorem held26 : Tryz.prog.stoodInHeld 33 = false := by kernel_rfl
theorem fields26 : (Tryz.prog.fieldsOf 33).toList.map (fun f => (f.name, f.type, f.offset)) = [("What", 31, 0), ("Port", 3, 1), ("N", 3, 2), ("On", 4, 3), ("Mac", 23, 4)] := by kernel_rfl
theorem part26_0 (c : Cm) (w : World) : (_root_.Go.part 31 c.cells 0).run Tryz.prog w = .ok (.int .i64 c.wh) w := by kernel_rfl
theorem part26_1 (c : Cm) (w : World) : (_root_.Go.part 3 c.cells 1).run Tryz.prog w = .ok (.int .i64 c.po) w := by kernel_rfl
theorem part26_2 (c : Cm) (w : World) : (_root_.Go.part 3 c.cells 2).run Tryz.prog w = .ok (.int .i64 c.nn) w := by kernel_rfl
theorem part26_3 (c : Cm) (w : World) : (_root_.Go.part 4 c.cells 3).run Tryz.prog w = .ok (.bool c.on) w := by kernel_rfl
theorem part26_4 (c : Cm) (w : World) : (_root_.Go.part 23 c.cells 4).run Tryz.prog w = .ok (.agg #[.int .u8 (c.x 0), .int .u8 (c.x 1), .int .u8 (c.x 2), .int .u8 (c.x 3), .int .u8 (c.x 4), .int .u8 (c.x 5)]) w := by kernel_rfl
theorem mac_eq26 (a0 a1 a2 a3 a4 a5 b0 b1 b2 b3 b4 b5 : Int) (w : World) :
    (Op.equalIn 9999 23 (.agg #[.int .u8 a0, .int .u8 a1, .int .u8 a2, .int .u8 a3, .int .u8 a4, .int .u8 a5]) (.agg #[.int .u8 b0, .int .u8 b1, .int .u8 b2, .int .u8 b3, .int .u8 b4, .int .u8 b5])).run Tryz.prog w
      = .ok (a0 == b0 && (a1 == b1 && (a2 == b2 && (a3 == b3 && (a4 == b4 && (a5 == b5 && true)))))) w := by
  obtain ⟨i, hi⟩ := i5
  rw [run_equalIn_array w 9998 _ _ u23 hi, c5]
  exact eqItem8 (i := 0) rfl rfl (eqItem8 (i := 1) rfl rfl (eqItem8 (i := 2) rfl rfl (eqItem8 (i := 3) rfl rfl (eqItem8 (i := 4) rfl rfl (eqItem8 (i := 5) rfl rfl rfl)))))
theorem cm_equal26 (c d : Cm) (w : World) : (Op.equalIn 10000 33 (.agg c.cells) (.agg d.cells)).run Tryz.prog w = .ok (eqC c d) w := by
  rw [run_equalIn_struct w 9999 33 _ _ und26 held26]
  have hf := fields26
  generalize (Tryz.prog.fieldsOf 33).toList = fs at hf ⊢
  obtain ⟨f1, f2, f3, f4, f5, rfl⟩ : ∃ f1 f2 f3 f4 f5, fs = [f1, f2, f3, f4, f5] := by
    have hl := congrArg List.length hf
    simp at hl
    match fs, hl with
    | [f1, f2, f3, f4, f5], _ => exact ⟨f1, f2, f3, f4, f5, rfl⟩
  simp only [List.map_cons, List.map_nil, List.cons.injEq, Prod.mk.injEq, and_true] at hf
  obtain ⟨⟨n1, t1, o1⟩, ⟨n2, t2, o2⟩, ⟨n3, t3, o3⟩, ⟨n4, t4, o4⟩, ⟨n5, t5, o5⟩⟩ := hf
  have i1 := fun x y w => run_equalIn_int (P := Tryz.prog) w 9998 31 .i64 .i64 x y (by kernel_rfl)
  have i2 := fun x y w => run_equalIn_int (P := Tryz.prog) w 9998 3 .i64 .i64 x y (by kernel_rfl)
  have i4 := fun x y w => run_equalIn_bool (P := Tryz.prog) w 9998 4 x y (by kernel_rfl)
  simp only [Op.eqFields, n1, n2, n3, n4, n5, t1, t2, t3, t4, t5, o1, o2, o3, o4, o5]
  simp only [Sem.run_bind, part26_0, part26_1, part26_2, part26_3, part26_4, i1, i2, i4, mac_eq26, Result.andThen_ok, Sem.run_ite]
  unfold eqC
  generalize ((c.x 0 : Int) == d.x 0 && ((c.x 1 : Int) == d.x 1 && ((c.x 2 : Int) == d.x 2 && ((c.x 3 : Int) == d.x 3 && ((c.x 4 : Int) == d.x 4 && ((c.x 5 : Int) == d.x 5 && true)))))) = q
  cases q <;> cases c.wh == d.wh <;> cases c.po == d.po <;> cases c.nn == d.nn <;> cases c.on == d.on <;> simp
theorem cm_neq26 (c d : Cm) (w : World) : (binOp .neq 33 (.agg c.cells) (.agg d.cells)).run Tryz.prog w = .ok (.bool (!eqC c d)) w := by
  rw [run_neq_struct, cm_equal26]; rfl
theorem cm_eql26 (c d : Cm) (w : World) : (binOp .eql 33 (.agg c.cells) (.agg d.cells)).run Tryz.prog w = .ok (.bool (eqC c d)) w := by
  rw [run_eql_struct, cm_equal26]; rfl
theorem cm_g26 : Tryz.prog.eqGuardType Tryz.prog.depth 33 = false := by kernel_rfl
theorem und32 : Tryz.prog.underlying 36 = some (.struct (Tryz.prog.fieldsOf 36)) := by kernel_rfl
theorem held32 : Tryz.prog.stoodInHeld 36 = false := by kernel_rfl
theorem fields32 : (Tryz.prog.fieldsOf 36).toList.map (fun f => (f.name, f.type, f.offset)) = [("What", 3, 0), ("Port", 3, 1), ("N", 3, 2), ("On", 4, 3), ("Mac", 22, 4)] := by kernel_rfl
theorem part32_0 (c : Cm) (w : World) : (_root_.Go.part 3 c.cells 0).run Tryz.prog w = .ok (.int .i64 c.wh) w := by kernel_rfl
theorem part32_1 (c : Cm) (w : World) : (_root_.Go.part 3 c.cells 1).run Tryz.prog w = .ok (.int .i64 c.po) w := by kernel_rfl
theorem part32_2 (c : Cm) (w : World) : (_root_.Go.part 3 c.cells 2).run Tryz.prog w = .ok (.int .i64 c.nn) w := by kernel_rfl
theorem part32_3 (c : Cm) (w : World) : (_root_.Go.part 4 c.cells 3).run Tryz.prog w = .ok (.bool c.on) w := by kernel_rfl
theorem part32_4 (c : Cm) (w : World) : (_root_.Go.part 22 c.cells 4).run Tryz.prog w = .ok (.agg #[.int .u8 (c.x 0), .int .u8 (c.x 1), .int .u8 (c.x 2), .int .u8 (c.x 3), .int .u8 (c.x 4), .int .u8 (c.x 5)]) w := by kernel_rfl
theorem mac_eq32 (a0 a1 a2 a3 a4 a5 b0 b1 b2 b3 b4 b5 : Int) (w : World) :
    (Op.equalIn 9999 22 (.agg #[.int .u8 a0, .int .u8 a1, .int .u8 a2, .int .u8 a3, .int .u8 a4, .int .u8 a5]) (.agg #[.int .u8 b0, .int .u8 b1, .int .u8 b2, .int .u8 b3, .int .u8 b4, .int .u8 b5])).run Tryz.prog w
      = .ok (a0 == b0 && (a1 == b1 && (a2 == b2 && (a3 == b3 && (a4 == b4 && (a5 == b5 && true)))))) w := by
  obtain ⟨i, hi⟩ := i5
  rw [run_equalIn_array w 9998 _ _ u22 hi, c5]
  exact eqItem8 (i := 0) rfl rfl (eqItem8 (i := 1) rfl rfl (eqItem8 (i := 2) rfl rfl (eqItem8 (i := 3) rfl rfl (eqItem8 (i := 4) rfl rfl (eqItem8 (i := 5) rfl rfl rfl)))))
theorem cm_equal32 (c d : Cm) (w : World) : (Op.equalIn 10000 36 (.agg c.cells) (.agg d.cells)).run Tryz.prog w = .ok (eqC c d) w := by
  rw [run_equalIn_struct w 9999 36 _ _ und32 held32]
  have hf := fields32
  generalize (Tryz.prog.fieldsOf 36).toList = fs at hf ⊢
  obtain ⟨f1, f2, f3, f4, f5, rfl⟩ : ∃ f1 f2 f3 f4 f5, fs = [f1, f2, f3, f4, f5] := by
    have hl := congrArg List.length hf
    simp at hl
    match fs, hl with
    | [f1, f2, f3, f4, f5], _ => exact ⟨f1, f2, f3, f4, f5, rfl⟩
  simp only [List.map_cons, List.map_nil, List.cons.injEq, Prod.mk.injEq, and_true] at hf
  obtain ⟨⟨n1, t1, o1⟩, ⟨n2, t2, o2⟩, ⟨n3, t3, o3⟩, ⟨n4, t4, o4⟩, ⟨n5, t5, o5⟩⟩ := hf
  have i1 := fun x y w => run_equalIn_int (P := Tryz.prog) w 9998 3 .i64 .i64 x y (by kernel_rfl)
  have i4 := fun x y w => run_equalIn_bool (P := Tryz.prog) w 9998 4 x y (by kernel_rfl)
  simp only [Op.eqFields, n1, n2, n3, n4, n5, t1, t2, t3, t4, t5, o1, o2, o3, o4, o5]
  simp only [Sem.run_bind, part32_0, part32_1, part32_2, part32_3, part32_4, i1, i4, mac_eq32, Result.andThen_ok, Sem.run_ite]
  unfold eqC
  generalize ((c.x 0 : Int) == d.x 0 && ((c.x 1 : Int) == d.x 1 && ((c.x 2 : Int) == d.x 2 && ((c.x 3 : Int) == d.x 3 && ((c.x 4 : Int) == d.x 4 && ((c.x 5 : Int) == d.x 5 && true)))))) = q
  cases q <;> cases c.wh == d.wh <;> cases c.po == d.po <;> cases c.nn == d.nn <;> cases c.on == d.on <;> simp
theorem cm_neq32 (c d : Cm) (w : World) : (binOp .neq 36 (.agg c.cells) (.agg d.cells)).run Tryz.prog w = .ok (.bool (!eqC c d)) w := by
  rw [run_neq_struct, cm_equal32]; rfl
theorem cm_eql32 (c d : Cm) (w : World) : (binOp .eql 36 (.agg c.cells) (.agg d.cells)).run Tryz.prog w = .ok (.bool (eqC c d)) w := by
  rw [run_eql_struct, cm_equal32]; rfl
theorem cm_g32 : Tryz.prog.eqGuardType Tryz.prog.depth 36 = false := by kernel_rfl
end Go.Proofs.YtlmdpaemhjcmbaaGreatDoor.Cd
