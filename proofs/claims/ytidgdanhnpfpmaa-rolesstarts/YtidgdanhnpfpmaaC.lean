/- Contracts of the sums of costs, of Own, Tell and Through; equality of vectors. -/
import Derived.Test.YtidgdanhnpfpmaaB
namespace Go.Proofs.Ytidgdanhnpfpmaa
open Go.RowKit Go.Sort

/-- The sum of two costs, at most the greatest one. -/
def sat (a b : Nat) : Nat := if 4294967295 < a + b then 4294967295 else a + b
theorem sat_big {a b : Nat} (h : 4294967295 < a + b) : sat a b = 4294967295 := if_pos h
theorem sat_small {a b : Nat} (h : ¬ 4294967295 < a + b) : sat a b = a + b := if_neg h
theorem sat_comm (a b : Nat) : sat a b = sat b a := by unfold sat; rw [Nat.add_comm]
theorem sat_lt (a b : Nat) : sat a b < 4294967296 := by unfold sat; split <;> omega
theorem sat_ge {a b : Nat} (ha : a < 4294967296) : a ≤ sat a b := by unfold sat; split <;> omega

theorem refAdd_any (a b : Nat) (ha : a < 4294967296) (hb : b < 4294967296) (w : World) : Calls Try.prog 22 #[.int .u32 a, .int .u32 b] w fun e w' => e = .returned (.int .u32 (sat a b)) ∧ w = w' := by
  by_cases h : 4294967295 < a + b
  · rw [sat_big h]
    go_enter Try.func22, Try.ntmps22
    go_wp2
    go_ret
    exact ⟨rfl, rfl⟩
  · rw [sat_small h]
    go_enter Try.func22, Try.ntmps22
    go_wp2
    go_ret
    exact ⟨ret_int (by omega), rfl⟩
theorem add_any (a b : Nat) (ha : a < 4294967296) (hb : b < 4294967296) (w : World) : Calls Try.prog 45 #[.int .u32 a, .int .u32 b] w fun e w' => e = .returned (.int .u32 (sat a b)) ∧ w = w' := by
  by_cases h : 4294967295 < a + b
  · rw [sat_big h]
    go_enter Try.func45, Try.ntmps45
    go_wp2
    go_ret
    exact ⟨rfl, rfl⟩
  · rw [sat_small h]
    go_enter Try.func45, Try.ntmps45
    go_wp2
    go_ret
    exact ⟨ret_int (by omega), rfl⟩
theorem own_any (b : Int) (w : World) : Calls Try.prog 35 #[.int .u64 b] w fun e w' => e = .returned (vV b 0 b 0) ∧ Below w.heap.size w w' := by
  have HB := Lib.hid (box_below w (.cells (vC b 0 b 0) 30))
  go_enter Try.func35, Try.ntmps35
  go_wp2
  go_returns
  exact ⟨rfl, HB.out⟩
theorem tell_any (r c b p i q : Int) (w : World) : Calls Try.prog 37 #[vV r c b p, .int .u64 i, .int .u16 q] w fun e w' => e = .returned (vV r c i q) ∧ Below w.heap.size w w' := by
  go_enter Try.func37, Try.ntmps37
  go_wp2
  go_returns
  exact ⟨rfl, (box_below w _).alloc (by simp) _⟩
theorem through_any (r c b p d : Nat) (hc : c < 4294967296) (hd : d < 4294967296) (w : World) : Calls Try.prog 40 #[vV r c b p, .int .u32 d] w fun e w' => e = .returned (vV r (sat c d) b p) ∧ Below w.heap.size w w' := by
  go_enter Try.func40, Try.ntmps40
  go_wp2_with (go_at_call 45; refine (add_any c d hc hd _).mono ?_; rintro e w' ⟨rfl, rfl⟩)
  go_returns
  exact ⟨rfl, (box_below w _).alloc (by simp) _⟩

theorem und28 : Try.prog.underlying 30 = some (.struct (Try.prog.fieldsOf 30)) := by kernel_rfl
theorem held28 : Try.prog.stoodInHeld 30 = false := by kernel_rfl
theorem fields28 : (Try.prog.fieldsOf 30).toList.map (fun f => (f.name, f.type, f.offset)) = [("Root", 23, 0), ("Cost", 26, 1), ("Bridge", 23, 2), ("Port", 28, 3)] := by kernel_rfl
section
variable (r c b p : Int) (w : World)
theorem v_part0 : (part 23 (vC r c b p) 0).run Try.prog w = .ok (.int .u64 r) w := by kernel_rfl
theorem v_part1 : (part 26 (vC r c b p) 1).run Try.prog w = .ok (.int .u32 c) w := by kernel_rfl
theorem v_part2 : (part 23 (vC r c b p) 2).run Try.prog w = .ok (.int .u64 b) w := by kernel_rfl
theorem v_part3 : (part 28 (vC r c b p) 3).run Try.prog w = .ok (.int .u16 p) w := by kernel_rfl
end
/-- Are two vectors alike? -/
def eqV (r c b p r' c' b' p' : Int) : Bool := r == r' && (c == c' && (b == b' && p == p'))
theorem v_equal (r c b p r' c' b' p' : Int) (w : World) : (Op.equalIn 10000 30 (vV r c b p) (vV r' c' b' p')).run Try.prog w = .ok (eqV r c b p r' c' b' p') w := by
  rw [run_equalIn_struct w 9999 30 _ _ und28 held28]
  have hf := fields28
  generalize (Try.prog.fieldsOf 30).toList = fs at hf ⊢
  obtain ⟨f1, f2, f3, f4, rfl⟩ : ∃ f1 f2 f3 f4, fs = [f1, f2, f3, f4] := by
    have hl := congrArg List.length hf
    simp at hl
    match fs, hl with
    | [f1, f2, f3, f4], _ => exact ⟨f1, f2, f3, f4, rfl⟩
  simp only [List.map_cons, List.map_nil, List.cons.injEq, Prod.mk.injEq, and_true] at hf
  obtain ⟨⟨n1, t1, o1⟩, ⟨n2, t2, o2⟩, ⟨n3, t3, o3⟩, ⟨n4, t4, o4⟩⟩ := hf
  have i1 := fun x y w => run_equalIn_int (P := Try.prog) w 9998 23 .u64 .u64 x y (by kernel_rfl)
  have i2 := fun x y w => run_equalIn_int (P := Try.prog) w 9998 26 .u32 .u32 x y (by kernel_rfl)
  have i3 := fun x y w => run_equalIn_int (P := Try.prog) w 9998 28 .u16 .u16 x y (by kernel_rfl)
  simp only [Op.eqFields, n1, n2, n3, n4, t1, t2, t3, t4, o1, o2, o3, o4]
  simp only [Sem.run_bind, v_part0, v_part1, v_part2, v_part3, i1, i2, i3, Result.andThen_ok, Sem.run_ite]
  unfold eqV
  cases r == r' <;> cases c == c' <;> cases b == b' <;> cases p == p' <;> simp
theorem v_eql (r c b p r' c' b' p' : Int) (w : World) : (binOp .eql 30 (vV r c b p) (vV r' c' b' p')).run Try.prog w = .ok (.bool (eqV r c b p r' c' b' p')) w := by
  rw [run_eql_struct, v_equal]; rfl
theorem g28 : Try.prog.eqGuardType Try.prog.depth 30 = false := by kernel_rfl
end Go.Proofs.Ytidgdanhnpfpmaa
