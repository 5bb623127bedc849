/- Equality of messages; Right, the program's and the reference's. -/
import Derived.Test.YtdhmiekheecicaaDoorG
namespace Go.Proofs.YtdhmiekheecicaaDoor
open Go.RowKit Go.Sort

section parts
variable (k f r c b p a m h d : Int) (w : World)
theorem bp_part0 : (part 22 (bpC k f r c b p a m h d) 0).run Tryd.prog w = .ok (.int .i64 k) w := by kernel_rfl
theorem bp_part1 : (part 5 (bpC k f r c b p a m h d) 1).run Tryd.prog w = .ok (.int .u8 f) w := by kernel_rfl
theorem bp_part2 : (part 29 (bpC k f r c b p a m h d) 2).run Tryd.prog w = .ok (.agg #[.int .u64 r, .int .u32 c, .int .u64 b, .int .u16 p]) w := by kernel_rfl
theorem bp_part6 : (part 26 (bpC k f r c b p a m h d) 6).run Tryd.prog w = .ok (.int .u16 a) w := by kernel_rfl
theorem bp_part7 : (part 26 (bpC k f r c b p a m h d) 7).run Tryd.prog w = .ok (.int .u16 m) w := by kernel_rfl
theorem bp_part8 : (part 26 (bpC k f r c b p a m h d) 8).run Tryd.prog w = .ok (.int .u16 h) w := by kernel_rfl
theorem bp_part9 : (part 26 (bpC k f r c b p a m h d) 9).run Tryd.prog w = .ok (.int .u16 d) w := by kernel_rfl
theorem vc_part0 : (part 24 #[.int .u64 r, .int .u32 c, .int .u64 b, .int .u16 p] 0).run Tryd.prog w = .ok (.int .u64 r) w := by kernel_rfl
theorem vc_part1 : (part 25 #[.int .u64 r, .int .u32 c, .int .u64 b, .int .u16 p] 1).run Tryd.prog w = .ok (.int .u32 c) w := by kernel_rfl
theorem vc_part2 : (part 24 #[.int .u64 r, .int .u32 c, .int .u64 b, .int .u16 p] 2).run Tryd.prog w = .ok (.int .u64 b) w := by kernel_rfl
theorem vc_part3 : (part 27 #[.int .u64 r, .int .u32 c, .int .u64 b, .int .u16 p] 3).run Tryd.prog w = .ok (.int .u16 p) w := by kernel_rfl
end parts
theorem vc_equal (r c b p r' c' b' p' : Int) (w : World) : (Op.equalIn 9999 29 (.agg #[.int .u64 r, .int .u32 c, .int .u64 b, .int .u16 p]) (.agg #[.int .u64 r', .int .u32 c', .int .u64 b', .int .u16 p'])).run Tryd.prog w = .ok (r == r' && (c == c' && (b == b' && p == p'))) w := by
  rw [run_equalIn_struct w 9998 29 _ _ und29 held29]
  have hf := fields29
  generalize (Tryd.prog.fieldsOf 29).toList = fs at hf ⊢
  obtain ⟨f1, f2, f3, f4, rfl⟩ : ∃ f1 f2 f3 f4, fs = [f1, f2, f3, f4] := by
    have hl := congrArg List.length hf
    simp at hl
    match fs, hl with
    | [f1, f2, f3, f4], _ => exact ⟨f1, f2, f3, f4, rfl⟩
  simp only [List.map_cons, List.map_nil, List.cons.injEq, Prod.mk.injEq, and_true] at hf
  obtain ⟨⟨n1, t1, o1⟩, ⟨n2, t2, o2⟩, ⟨n3, t3, o3⟩, ⟨n4, t4, o4⟩⟩ := hf
  have i1 := fun x y w => run_equalIn_int (P := Tryd.prog) w 9997 24 .u64 .u64 x y (by kernel_rfl)
  have i2 := fun x y w => run_equalIn_int (P := Tryd.prog) w 9997 25 .u32 .u32 x y (by kernel_rfl)
  have i3 := fun x y w => run_equalIn_int (P := Tryd.prog) w 9997 27 .u16 .u16 x y (by kernel_rfl)
  simp only [Op.eqFields, n1, n2, n3, n4, t1, t2, t3, t4, o1, o2, o3, o4]
  simp only [Sem.run_bind, vc_part0, vc_part1, vc_part2, vc_part3, i1, i2, i3, Result.andThen_ok, Sem.run_ite]
  cases r == r' <;> cases c == c' <;> cases b == b' <;> cases p == p' <;> simp
/-- Two messages are alike. -/
def bpE (k f r c b p a m h d k' f' r' c' b' p' a' m' h' d' : Int) : Bool := k == k' && (f == f' && ((r == r' && (c == c' && (b == b' && p == p'))) && (a == a' && (m == m' && (h == h' && d == d')))))
theorem bp_equal (k f r c b p a m h d k' f' r' c' b' p' a' m' h' d' : Int) (w : World) : (Op.equalIn 10000 31 (bpV k f r c b p a m h d) (bpV k' f' r' c' b' p' a' m' h' d')).run Tryd.prog w = .ok (bpE k f r c b p a m h d k' f' r' c' b' p' a' m' h' d') w := by
  rw [run_equalIn_struct w 9999 31 _ _ und31 held31]
  have hf := fields31
  generalize (Tryd.prog.fieldsOf 31).toList = fs at hf ⊢
  obtain ⟨f1, f2, f3, f4, f5, f6, f7, rfl⟩ : ∃ f1 f2 f3 f4 f5 f6 f7, fs = [f1, f2, f3, f4, f5, f6, f7] := by
    have hl := congrArg List.length hf
    simp at hl
    match fs, hl with
    | [f1, f2, f3, f4, f5, f6, f7], _ => exact ⟨f1, f2, f3, f4, f5, f6, f7, rfl⟩
  simp only [List.map_cons, List.map_nil, List.cons.injEq, Prod.mk.injEq, and_true] at hf
  obtain ⟨⟨n1, t1, o1⟩, ⟨n2, t2, o2⟩, ⟨n3, t3, o3⟩, ⟨n4, t4, o4⟩, ⟨n5, t5, o5⟩, ⟨n6, t6, o6⟩, ⟨n7, t7, o7⟩⟩ := hf
  have i1 := fun x y w => run_equalIn_int (P := Tryd.prog) w 9998 22 .i64 .i64 x y (by kernel_rfl)
  have i2 := fun x y w => run_equalIn_int (P := Tryd.prog) w 9998 5 .u8 .u8 x y (by kernel_rfl)
  have i3 := fun x y w => run_equalIn_int (P := Tryd.prog) w 9998 26 .u16 .u16 x y (by kernel_rfl)
  simp only [Op.eqFields, n1, n2, n3, n4, n5, n6, n7, t1, t2, t3, t4, t5, t6, t7, o1, o2, o3, o4, o5, o6, o7]
  simp only [Sem.run_bind, bp_part0, bp_part1, bp_part2, bp_part6, bp_part7, bp_part8, bp_part9, vc_equal, i1, i2, i3, Result.andThen_ok, Sem.run_ite]
  unfold bpE
  generalize (r == r' && (c == c' && (b == b' && p == p'))) = V
  cases k == k' <;> cases f == f' <;> cases V <;> cases a == a' <;> cases m == m' <;> cases h == h' <;> cases d == d' <;> rfl
theorem bp_eql (k f r c b p a m h d k' f' r' c' b' p' a' m' h' d' : Int) (w : World) : (binOp .eql 31 (bpV k f r c b p a m h d) (bpV k' f' r' c' b' p' a' m' h' d')).run Tryd.prog w = .ok (.bool (bpE k f r c b p a m h d k' f' r' c' b' p' a' m' h' d')) w := by
  rw [run_eql_struct, bp_equal]; rfl

/-- May a message be? -/
def cfF (f : Int) : Bool := f == 0 || f == 1 || f == 128 || f == 129
def rightB (k f r c b p a m h d : Int) : Bool :=
  if k = 2 then bpE k f r c b p a m h d 2 0 0 0 0 0 0 0 0 0 else if k = 1 then cfF f && decide (a < m) else if k = 3 then roleOf f.toNat != 0 && decide (a < m) else false
theorem not129' : ∀ f : Nat, f < 256 → (bits BinOp.andNot IntKind.u8 (f : Int) 129 == 0) = cfF f := by decide +kernel
set_option maxHeartbeats 2000000 in
theorem right_any (k : Int) (f : Nat) (r c b p a m h d : Int) (hf : f < 256) (w : World) (he : Env w) : Calls Tryd.prog 8 #[bpV k f r c b p a m h d] w fun e w' => e = .returned (.bool (rightB k f r c b p a m h d)) ∧ Below w.heap.size w w' := by
  have K := (var_new w (bpC k f r c b p a m h d) 31).bp
  obtain ⟨k0, k1, k2, k3, k4, k5, k6, k7, k8, k9⟩ := K
  have HB := Lib.hid (box_below w (.cells (bpC k f r c b p a m h d) 31))
  have HB2 := Lib.hid (below_next (box_below w (.cells (bpC k f r c b p a m h d) 31)) (box_below _ (.cells (bpC k f r c b p a m h d) 31)))
  have c1 := young_any k f r c b p a m h d
  have c2 := role_any f hf (w.alloc (.cells (bpC k f r c b p a m h d) 31)) (he.below HB.out)
  have e1 := bp_eql k f r c b p a m h d 2 0 0 0 0 0 0 0 0 0
  have e2 := not129' f hf
  unfold rightB
  simp only [Int.toNat_natCast]
  generalize hF : cfF f = F at *
  generalize hA : decide (a < m) = A at *
  generalize hR : roleOf f = R at *
  generalize hE : bpE k f r c b p a m h d 2 0 0 0 0 0 0 0 0 0 = E at *
  clear hF hA hR hE he
  by_cases h2 : k = 2
  · subst h2
    rw [if_pos rfl]
    clear c1 c2 e2
    go_enter Tryd.func8, Tryd.ntmps8
    go_wp2
    go_ret
    exact ⟨rfl, HB.out⟩
  · rw [if_neg h2]
    by_cases h1 : k = 1
    · subst h1
      rw [if_pos rfl]
      clear c2 e1
      cases F
      · go_enter Tryd.func8, Tryd.ntmps8
        go_wp2_with fail
        go_ret
        exact ⟨ret_bool (by simp), HB.out⟩
      · go_enter Tryd.func8, Tryd.ntmps8
        go_wp2_with fail
        refine (c1 _).mono ?_
        rintro e w1 ⟨rfl, rfl⟩
        go_wp2_with fail
        go_ret
        exact ⟨ret_bool (by simp), HB2.out⟩
    · rw [if_neg h1]
      by_cases h3 : k = 3
      · subst h3
        rw [if_pos rfl]
        clear e1 e2
        by_cases hr : R = 0
        · subst hr
          go_enter Tryd.func8, Tryd.ntmps8
          go_wp2_with fail
          refine c2.mono ?_
          rintro e w1 ⟨rfl, rfl⟩
          go_wp2_with fail
          go_ret
          exact ⟨ret_bool (by simp), HB.out⟩
        · go_enter Tryd.func8, Tryd.ntmps8
          go_wp2_with fail
          refine c2.mono ?_
          rintro e w1 ⟨rfl, rfl⟩
          go_wp2_with fail
          refine (c1 _).mono ?_
          rintro e w1 ⟨rfl, rfl⟩
          go_wp2_with fail
          go_ret
          exact ⟨ret_bool (by simp), HB2.out⟩
      · rw [if_neg h3]
        clear c1 c2 e1 e2
        go_enter Tryd.func8, Tryd.ntmps8
        go_wp2_with fail
        go_ret
        exact ⟨rfl, HB.out⟩
end Go.Proofs.YtdhmiekheecicaaDoor
