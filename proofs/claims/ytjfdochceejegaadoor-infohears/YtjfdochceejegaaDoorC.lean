/- Contracts of the sums of costs, of Own, Tell and Through; equality of vectors. -/
import Derived.Test.YtjfdochceejegaaDoorB
namespace Go.Proofs.YtjfdochceejegaaDoor
open Go.RowKit Go.Sort

/-- The sum of two costs, at most the greatest one. -/
def sat (a b : Nat) : Nat := if 4294967295 < a + b then 4294967295 else a + b
theorem sat_big {a b : Nat} (h : 4294967295 < a + b) : sat a b = 4294967295 := if_pos h
theorem sat_small {a b : Nat} (h : ¬ 4294967295 < a + b) : sat a b = a + b := if_neg h
theorem sat_comm (a b : Nat) : sat a b = sat b a := by unfold sat; rw [Nat.add_comm]
theorem sat_lt (a b : Nat) : sat a b < 4294967296 := by unfold sat; split <;> omega
theorem sat_ge {a b : Nat} (ha : a < 4294967296) : a ≤ sat a b := by unfold sat; split <;> omega

theorem und28 : Tryd.prog.underlying 31 = some (.struct (Tryd.prog.fieldsOf 31)) := by kernel_rfl
theorem held28 : Tryd.prog.stoodInHeld 31 = false := by kernel_rfl
theorem fields28 : (Tryd.prog.fieldsOf 31).toList.map (fun f => (f.name, f.type, f.offset)) = [("Root", 29, 0), ("Cost", 24, 1), ("Bridge", 29, 2), ("Port", 23, 3)] := by kernel_rfl
section
variable (r c b p : Int) (w : World)
theorem v_part0 : (part 29 (vC r c b p) 0).run Tryd.prog w = .ok (.int .u64 r) w := by kernel_rfl
theorem v_part1 : (part 24 (vC r c b p) 1).run Tryd.prog w = .ok (.int .u32 c) w := by kernel_rfl
theorem v_part2 : (part 29 (vC r c b p) 2).run Tryd.prog w = .ok (.int .u64 b) w := by kernel_rfl
theorem v_part3 : (part 23 (vC r c b p) 3).run Tryd.prog w = .ok (.int .u16 p) w := by kernel_rfl
end
/-- Are two vectors alike? -/
def eqV (r c b p r' c' b' p' : Int) : Bool := r == r' && (c == c' && (b == b' && p == p'))
theorem v_equal (r c b p r' c' b' p' : Int) (w : World) : (Op.equalIn 10000 31 (vV r c b p) (vV r' c' b' p')).run Tryd.prog w = .ok (eqV r c b p r' c' b' p') w := by
  rw [run_equalIn_struct w 9999 31 _ _ und28 held28]
  have hf := fields28
  generalize (Tryd.prog.fieldsOf 31).toList = fs at hf ⊢
  obtain ⟨f1, f2, f3, f4, rfl⟩ : ∃ f1 f2 f3 f4, fs = [f1, f2, f3, f4] := by
    have hl := congrArg List.length hf
    simp at hl
    match fs, hl with
    | [f1, f2, f3, f4], _ => exact ⟨f1, f2, f3, f4, rfl⟩
  simp only [List.map_cons, List.map_nil, List.cons.injEq, Prod.mk.injEq, and_true] at hf
  obtain ⟨⟨n1, t1, o1⟩, ⟨n2, t2, o2⟩, ⟨n3, t3, o3⟩, ⟨n4, t4, o4⟩⟩ := hf
  have i1 := fun x y w => run_equalIn_int (P := Tryd.prog) w 9998 29 .u64 .u64 x y (by kernel_rfl)
  have i2 := fun x y w => run_equalIn_int (P := Tryd.prog) w 9998 24 .u32 .u32 x y (by kernel_rfl)
  have i3 := fun x y w => run_equalIn_int (P := Tryd.prog) w 9998 23 .u16 .u16 x y (by kernel_rfl)
  simp only [Op.eqFields, n1, n2, n3, n4, t1, t2, t3, t4, o1, o2, o3, o4]
  simp only [Sem.run_bind, v_part0, v_part1, v_part2, v_part3, i1, i2, i3, Result.andThen_ok, Sem.run_ite]
  unfold eqV
  cases r == r' <;> cases c == c' <;> cases b == b' <;> cases p == p' <;> simp
theorem v_eql (r c b p r' c' b' p' : Int) (w : World) : (binOp .eql 31 (vV r c b p) (vV r' c' b' p')).run Tryd.prog w = .ok (.bool (eqV r c b p r' c' b' p')) w := by
  rw [run_eql_struct, v_equal]; rfl
theorem g28 : Tryd.prog.eqGuardType Tryd.prog.depth 31 = false := by kernel_rfl
end Go.Proofs.YtjfdochceejegaaDoor
