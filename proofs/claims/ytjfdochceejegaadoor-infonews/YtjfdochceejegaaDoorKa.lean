/- Contracts of cmp.Compare, cmp.Or, vector.Compare and Better, and of the reference's Less. -/
import Derived.Test.YtjfdochceejegaaDoorC
namespace Go.Proofs.YtjfdochceejegaaDoor
open Go.RowKit Go.Sort

theorem isNaN26 (x : Int) (w : World) : Calls Tryd.prog 67 #[.int .u64 x] w fun e w' => e = .returned (.bool false) ∧ w = w' := by
  go_enter Tryd.func67, Tryd.ntmps67
  go_wp2
  go_ret
  exact ⟨by simp, rfl⟩
theorem isNaN27 (x : Int) (w : World) : Calls Tryd.prog 68 #[.int .u32 x] w fun e w' => e = .returned (.bool false) ∧ w = w' := by
  go_enter Tryd.func68, Tryd.ntmps68
  go_wp2
  go_ret
  exact ⟨by simp, rfl⟩
theorem isNaN28 (x : Int) (w : World) : Calls Tryd.prog 69 #[.int .u16 x] w fun e w' => e = .returned (.bool false) ∧ w = w' := by
  go_enter Tryd.func69, Tryd.ntmps69
  go_wp2
  go_ret
  exact ⟨by simp, rfl⟩
theorem cmp20 (x y : Int) (w : World) : Calls Tryd.prog 56 #[.int .u64 x, .int .u64 y] w fun e w' => e = .returned (.int .i64 (sgn x y)) ∧ w = w' := by
  by_cases h1 : x < y
  · rw [sgn_lt h1]
    go_enter Tryd.func56, Tryd.ntmps56
    go_wp2_with (first | (go_at_call 67; refine (isNaN26 _ _).mono ?_; rintro e w' ⟨rfl, rfl⟩))
    go_ret
    exact ⟨rfl, rfl⟩
  · by_cases h2 : y < x
    · rw [sgn_gt h2]
      go_enter Tryd.func56, Tryd.ntmps56
      go_wp2_with (first | (go_at_call 67; refine (isNaN26 _ _).mono ?_; rintro e w' ⟨rfl, rfl⟩))
      go_ret
      exact ⟨rfl, rfl⟩
    · rw [sgn_eq h1 h2]
      go_enter Tryd.func56, Tryd.ntmps56
      go_wp2_with (first | (go_at_call 67; refine (isNaN26 _ _).mono ?_; rintro e w' ⟨rfl, rfl⟩))
      go_ret
      exact ⟨rfl, rfl⟩
theorem cmp21 (x y : Int) (w : World) : Calls Tryd.prog 57 #[.int .u32 x, .int .u32 y] w fun e w' => e = .returned (.int .i64 (sgn x y)) ∧ w = w' := by
  by_cases h1 : x < y
  · rw [sgn_lt h1]
    go_enter Tryd.func57, Tryd.ntmps57
    go_wp2_with (first | (go_at_call 68; refine (isNaN27 _ _).mono ?_; rintro e w' ⟨rfl, rfl⟩))
    go_ret
    exact ⟨rfl, rfl⟩
  · by_cases h2 : y < x
    · rw [sgn_gt h2]
      go_enter Tryd.func57, Tryd.ntmps57
      go_wp2_with (first | (go_at_call 68; refine (isNaN27 _ _).mono ?_; rintro e w' ⟨rfl, rfl⟩))
      go_ret
      exact ⟨rfl, rfl⟩
    · rw [sgn_eq h1 h2]
      go_enter Tryd.func57, Tryd.ntmps57
      go_wp2_with (first | (go_at_call 68; refine (isNaN27 _ _).mono ?_; rintro e w' ⟨rfl, rfl⟩))
      go_ret
      exact ⟨rfl, rfl⟩
theorem cmp22 (x y : Int) (w : World) : Calls Tryd.prog 58 #[.int .u16 x, .int .u16 y] w fun e w' => e = .returned (.int .i64 (sgn x y)) ∧ w = w' := by
  by_cases h1 : x < y
  · rw [sgn_lt h1]
    go_enter Tryd.func58, Tryd.ntmps58
    go_wp2_with (first | (go_at_call 69; refine (isNaN28 _ _).mono ?_; rintro e w' ⟨rfl, rfl⟩))
    go_ret
    exact ⟨rfl, rfl⟩
  · by_cases h2 : y < x
    · rw [sgn_gt h2]
      go_enter Tryd.func58, Tryd.ntmps58
      go_wp2_with (first | (go_at_call 69; refine (isNaN28 _ _).mono ?_; rintro e w' ⟨rfl, rfl⟩))
      go_ret
      exact ⟨rfl, rfl⟩
    · rw [sgn_eq h1 h2]
      go_enter Tryd.func58, Tryd.ntmps58
      go_wp2_with (first | (go_at_call 69; refine (isNaN28 _ _).mono ?_; rintro e w' ⟨rfl, rfl⟩))
      go_ret
      exact ⟨rfl, rfl⟩
theorem or_any (b : Nat) (l : List Int) (cap : Nat) (w : World) (hl : l.length < 1000) (hc : ∀ k a, l[k]? = some a → w.cell? ⟨b, k, none⟩ = some (.int .i64 a)) :
    Calls Tryd.prog 55 #[.slice (some ⟨b, 0, none⟩) l.length cap] w fun e w' => e = .returned (.int .i64 (orL l)) ∧ w = w' := by
  have HC := Lib.hid hc
  clear hc
  go_enter Tryd.func55, Tryd.ntmps55
  go_wp2
  go_loop [8] (fun i => ∃ k : Nat, k ≤ l.length ∧ i = .int .i64 k ∧ ∀ j, j < k → l[j]? = some 0) (fun i => l.length - (intOf i).toNat)
  case atStart => exact ⟨0, Nat.zero_le _, rfl, fun j hj => absurd hj (by omega)⟩
  case round =>
    obtain ⟨k, hk, rfl, hz⟩ := hrel
    have HZ := Lib.hid hz
    clear hz
    by_cases hlt : k < l.length
    · have hi := HC.out k l[k] (List.getElem?_eq_getElem hlt)
      have hg := Lib.hid (List.getElem?_eq_getElem hlt)
      generalize l[k] = a at *
      by_cases ha : a = 0
      · subst ha
        go_wp2
        refine ⟨⟨k + 1, by omega, by go_num, fun j hj => ?_⟩, by simp [intOf]; omega⟩
        by_cases e : j = k
        · rw [e]; exact hg.out
        · exact HZ.out j (by omega)
      · go_wp2
        go_ret
        exact ⟨ret_int (orL_at HZ.out hg.out ha).symm, rfl⟩
    · have hkl : k = l.length := by omega
      subst hkl
      go_wp2
      go_ret
      exact ⟨ret_int (orL_none HZ.out).symm, rfl⟩
theorem or4 (x0 x1 x2 x3 : Int) (W : World) : Calls Tryd.prog 55 #[.slice (some ⟨W.heap.size, 0, none⟩) 4 4] (W.alloc (.cells #[.int .i64 x0, .int .i64 x1, .int .i64 x2, .int .i64 x3] 3)).drew fun e w' => e = .returned (.int .i64 (orL [x0, x1, x2, x3])) ∧ (W.alloc (.cells #[.int .i64 x0, .int .i64 x1, .int .i64 x2, .int .i64 x3] 3)).drew = w' :=
  or_any _ [x0, x1, x2, x3] 4 _ (by simp) (l4_cells _ x0 x1 x2 x3 _ (var_new _ _ _).drew)
set_option maxHeartbeats 400000 in
theorem compare_any (r c b p r' c' b' p' : Int) (w : World) : Calls Tryd.prog 39 #[vV r c b p, vV r' c' b' p'] w fun e w' => e = .returned (.int .i64 (cmpV r c b p r' c' b' p')) ∧ Below w.heap.size w w' := by
  unfold cmpV
  go_enter Tryd.func39, Tryd.ntmps39
  go_wp2
  have hb := (box_below w (.cells (vC r c b p) 31)).alloc (by simp) (.cells (vC r' c' b' p') 31)
  have hx := ((var_new w (vC r c b p) 31).alloc (.cells (vC r' c' b' p') 31)).v
  have hy := (var_new (w.alloc (.cells (vC r c b p) 31)) (vC r' c' b' p') 31).v
  rw [alloc_size] at hy
  have HB := Lib.hid hb
  clear hb
  generalize (w.alloc (.cells (vC r c b p) 31)).alloc (.cells (vC r' c' b' p') 31) = W at *
  obtain ⟨x0, x1, x2, x3⟩ := hx
  obtain ⟨y0, y1, y2, y3⟩ := hy
  have hW := Lib.hid (HB.out.size)
  go_region_held (fun w' => w'.cell? ⟨w.heap.size, 0, none⟩ = some (.int .u64 r) ∧ w'.cell? ⟨w.heap.size, 1, none⟩ = some (.int .u32 c) ∧ w'.cell? ⟨w.heap.size, 2, none⟩ = some (.int .u64 b) ∧ w'.cell? ⟨w.heap.size, 3, none⟩ = some (.int .u16 p) ∧
      w'.cell? ⟨w.heap.size + 1, 0, none⟩ = some (.int .u64 r') ∧ w'.cell? ⟨w.heap.size + 1, 1, none⟩ = some (.int .u32 c') ∧ w'.cell? ⟨w.heap.size + 1, 2, none⟩ = some (.int .u64 b') ∧ w'.cell? ⟨w.heap.size + 1, 3, none⟩ = some (.int .u16 p')) (go_keep)
    (first | (go_at_call 56; refine (cmp20 _ _ _).mono ?_; rintro e w1 ⟨rfl, rfl⟩) | (go_at_call 57; refine (cmp21 _ _ _).mono ?_; rintro e w1 ⟨rfl, rfl⟩) | (go_at_call 58; refine (cmp22 _ _ _).mono ?_; rintro e w1 ⟨rfl, rfl⟩) | (go_at_call 55; refine (or4 _ _ _ _ _).mono ?_; rintro e w1 ⟨rfl, rfl⟩))
  go_wp2
  go_ret
  exact ⟨rfl, (HB.out.alloc hW.out _).drew⟩
theorem better_any (r c b p r' c' b' p' : Int) (w : World) : Calls Tryd.prog 23 #[vV r c b p, vV r' c' b' p'] w fun e w' => e = .returned (.bool (ltV r c b p r' c' b' p')) ∧ Below w.heap.size w w' := by
  have hb := (box_below w (.cells (vC r c b p) 31)).alloc (by simp) (.cells (vC r' c' b' p') 31)
  have hx := ((var_new w (vC r c b p) 31).alloc (.cells (vC r' c' b' p') 31)).v
  have hy := (var_new (w.alloc (.cells (vC r c b p) 31)) (vC r' c' b' p') 31).v
  rw [alloc_size] at hy
  have HB := Lib.hid hb
  clear hb
  unfold ltV
  go_enter Tryd.func23, Tryd.ntmps23
  go_wp2_with fail
  generalize (w.alloc (.cells (vC r c b p) 31)).alloc (.cells (vC r' c' b' p') 31) = W at *
  obtain ⟨x0, x1, x2, x3⟩ := hx
  obtain ⟨y0, y1, y2, y3⟩ := hy
  refine (compare_any r c b p r' c' b' p' _).mono ?_
  rintro e w1 ⟨rfl, hb⟩
  have HB1 := Lib.hid hb
  clear hb
  go_wp2
  go_ret
  exact ⟨rfl, below_next HB.out HB1.out⟩
theorem less_any (r c b p r' c' b' p' : Int) (w : World) : Calls Tryd.prog 26 #[vV r c b p, vV r' c' b' p'] w fun e w' => e = .returned (.bool (ltV r c b p r' c' b' p')) ∧ Below w.heap.size w w' := by
  have hb := (box_below w (.cells (vC r c b p) 31)).alloc (by simp) (.cells (vC r' c' b' p') 31)
  have hx := ((var_new w (vC r c b p) 31).alloc (.cells (vC r' c' b' p') 31)).v
  have hy := (var_new (w.alloc (.cells (vC r c b p) 31)) (vC r' c' b' p') 31).v
  rw [alloc_size] at hy
  have HB := Lib.hid hb
  clear hb
  unfold ltV
  obtain ⟨x0, x1, x2, x3⟩ := hx
  obtain ⟨y0, y1, y2, y3⟩ := hy
  by_cases h0 : r = r'
  · subst h0
    by_cases h1 : c = c'
    · subst h1
      by_cases h2 : b = b'
      · subst h2
        rw [cmpV_p, sgn_neg]
        go_enter Tryd.func26, Tryd.ntmps26
        go_wp2
        go_ret
        exact ⟨rfl, HB.out⟩
      · rw [cmpV_b _ _ _ _ _ _ h2, sgn_neg]
        go_enter Tryd.func26, Tryd.ntmps26
        go_wp2
        go_ret
        exact ⟨rfl, HB.out⟩
    · rw [cmpV_c _ _ _ _ _ _ _ h1, sgn_neg]
      go_enter Tryd.func26, Tryd.ntmps26
      go_wp2
      go_ret
      exact ⟨rfl, HB.out⟩
  · rw [cmpV_r _ _ _ _ _ _ _ _ h0, sgn_neg]
    go_enter Tryd.func26, Tryd.ntmps26
    go_wp2
    go_ret
    exact ⟨rfl, HB.out⟩
end Go.Proofs.YtjfdochceejegaaDoor
