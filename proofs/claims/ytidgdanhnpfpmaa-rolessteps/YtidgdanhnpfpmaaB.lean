/- Contracts of vector.Compare and Better, the reference's Less; equality of vectors. -/
import Derived.Test.YtidgdanhnpfpmaaA
namespace Go.Proofs.Ytidgdanhnpfpmaa
open Go.RowKit Go.Sort

/-- A vector's cells, and a vector. -/
abbrev vC (r c b p : Int) : Array Value := #[.int .u64 r, .int .u32 c, .int .u64 b, .int .u16 p]
abbrev vV (r c b p : Int) : Value := .agg (vC r c b p)
theorem VarAt.v {w : World} {n : Nat} {r c b p : Int} {t : TypeId} (x : VarAt w n (vC r c b p) t) :
    w.cell? ⟨n, 0, none⟩ = some (.int .u64 r) ∧ w.cell? ⟨n, 1, none⟩ = some (.int .u32 c) ∧ w.cell? ⟨n, 2, none⟩ = some (.int .u64 b) ∧ w.cell? ⟨n, 3, none⟩ = some (.int .u16 p) :=
  ⟨x.cell 0, x.cell 1, x.cell 2, x.cell 3⟩

/-- How two vectors stand. -/
def cmpV (r c b p r' c' b' p' : Int) : Int := orL [sgn r r', sgn c c', sgn b b', sgn p p']

theorem l4_cells (b : Nat) (x0 x1 x2 x3 : Int) (w : World) (h : VarAt w b #[.int .i64 x0, .int .i64 x1, .int .i64 x2, .int .i64 x3] 3) : ∀ (k : Nat) (a : Int), [x0, x1, x2, x3][k]? = some a → w.cell? ⟨b, k, none⟩ = some (.int .i64 a) := by
  intro k a hk
  rw [h.cell]
  match k, hk with
  | 0, hk => simp at hk; subst hk; rfl
  | 1, hk => simp at hk; subst hk; rfl
  | 2, hk => simp at hk; subst hk; rfl
  | 3, hk => simp at hk; subst hk; rfl
  | k + 4, hk => simp at hk

theorem or4 (x0 x1 x2 x3 : Int) (W : World) : Calls Try.prog 41 #[.slice (some ⟨W.heap.size, 0, none⟩) 4 4] (W.alloc (.cells #[.int .i64 x0, .int .i64 x1, .int .i64 x2, .int .i64 x3] 3)).drew fun e w' => e = .returned (.int .i64 (orL [x0, x1, x2, x3])) ∧ (W.alloc (.cells #[.int .i64 x0, .int .i64 x1, .int .i64 x2, .int .i64 x3] 3)).drew = w' :=
  or_any _ [x0, x1, x2, x3] 4 _ (by simp) (l4_cells _ x0 x1 x2 x3 _ (var_new _ _ _).drew)
set_option maxHeartbeats 400000 in
theorem compare_any (r c b p r' c' b' p' : Int) (w : World) : Calls Try.prog 42 #[vV r c b p, vV r' c' b' p'] w fun e w' => e = .returned (.int .i64 (cmpV r c b p r' c' b' p')) ∧ Below w.heap.size w w' := by
  unfold cmpV
  go_enter Try.func42, Try.ntmps42
  go_wp2
  have hb := (box_below w (.cells (vC r c b p) 30)).alloc (by simp) (.cells (vC r' c' b' p') 30)
  have hx := ((var_new w (vC r c b p) 30).alloc (.cells (vC r' c' b' p') 30)).v
  have hy := (var_new (w.alloc (.cells (vC r c b p) 30)) (vC r' c' b' p') 30).v
  rw [alloc_size] at hy
  have HB := Lib.hid hb
  clear hb
  generalize (w.alloc (.cells (vC r c b p) 30)).alloc (.cells (vC r' c' b' p') 30) = W at *
  obtain ⟨x0, x1, x2, x3⟩ := hx
  obtain ⟨y0, y1, y2, y3⟩ := hy
  have hW := Lib.hid (HB.out.size)
  go_region_held (fun w' => w'.cell? ⟨w.heap.size, 0, none⟩ = some (.int .u64 r) ∧ w'.cell? ⟨w.heap.size, 1, none⟩ = some (.int .u32 c) ∧ w'.cell? ⟨w.heap.size, 2, none⟩ = some (.int .u64 b) ∧ w'.cell? ⟨w.heap.size, 3, none⟩ = some (.int .u16 p) ∧
      w'.cell? ⟨w.heap.size + 1, 0, none⟩ = some (.int .u64 r') ∧ w'.cell? ⟨w.heap.size + 1, 1, none⟩ = some (.int .u32 c') ∧ w'.cell? ⟨w.heap.size + 1, 2, none⟩ = some (.int .u64 b') ∧ w'.cell? ⟨w.heap.size + 1, 3, none⟩ = some (.int .u16 p')) (go_keep)
    (first | (go_at_call 46; refine (cmp20 _ _ _).mono ?_; rintro e w1 ⟨rfl, rfl⟩) | (go_at_call 47; refine (cmp21 _ _ _).mono ?_; rintro e w1 ⟨rfl, rfl⟩) | (go_at_call 43; refine (cmp22 _ _ _).mono ?_; rintro e w1 ⟨rfl, rfl⟩) | (go_at_call 41; refine (or4 _ _ _ _ _).mono ?_; rintro e w1 ⟨rfl, rfl⟩))
  go_wp2
  go_ret
  exact ⟨rfl, (HB.out.alloc hW.out _).drew⟩

theorem sgn_ne {x y : Int} (h : x ≠ y) : sgn x y ≠ 0 := by unfold sgn; (repeat' split) <;> omega
theorem sgn_same (x : Int) : sgn x x = 0 := by unfold sgn; simp
theorem sgn_neg (x y : Int) : (decide (sgn x y < 0)) = decide (x < y) := by
  unfold sgn; by_cases h : x < y
  · simp [h]
  · by_cases h2 : y < x <;> simp [h, h2]
section
variable (r c b p r' c' b' p' : Int)
theorem cmpV_r (h : r ≠ r') : cmpV r c b p r' c' b' p' = sgn r r' := by simp [cmpV, orL, sgn_ne h]
theorem cmpV_c (h : c ≠ c') : cmpV r c b p r c' b' p' = sgn c c' := by simp [cmpV, orL, sgn_ne h, sgn_same]
theorem cmpV_b (h : b ≠ b') : cmpV r c b p r c b' p' = sgn b b' := by simp [cmpV, orL, sgn_ne h, sgn_same]
theorem cmpV_p : cmpV r c b p r c b p' = sgn p p' := by
  by_cases h : p = p'
  · subst h; simp [cmpV, orL, sgn_same]
  · simp [cmpV, orL, sgn_ne h, sgn_same]
end
/-- Is a vector better than another one? -/
def ltV (r c b p r' c' b' p' : Int) : Bool := decide (cmpV r c b p r' c' b' p' < 0)

theorem better_any (r c b p r' c' b' p' : Int) (w : World) : Calls Try.prog 34 #[vV r c b p, vV r' c' b' p'] w fun e w' => e = .returned (.bool (ltV r c b p r' c' b' p')) ∧ Below w.heap.size w w' := by
  have hb := (box_below w (.cells (vC r c b p) 30)).alloc (by simp) (.cells (vC r' c' b' p') 30)
  have hx := ((var_new w (vC r c b p) 30).alloc (.cells (vC r' c' b' p') 30)).v
  have hy := (var_new (w.alloc (.cells (vC r c b p) 30)) (vC r' c' b' p') 30).v
  rw [alloc_size] at hy
  have HB := Lib.hid hb
  clear hb
  unfold ltV
  go_enter Try.func34, Try.ntmps34
  go_wp2_with fail
  generalize (w.alloc (.cells (vC r c b p) 30)).alloc (.cells (vC r' c' b' p') 30) = W at *
  obtain ⟨x0, x1, x2, x3⟩ := hx
  obtain ⟨y0, y1, y2, y3⟩ := hy
  refine (compare_any r c b p r' c' b' p' _).mono ?_
  rintro e w1 ⟨rfl, hb⟩
  have HB1 := Lib.hid hb
  clear hb
  go_wp2
  go_ret
  exact ⟨rfl, below_next HB.out HB1.out⟩

theorem less_any (r c b p r' c' b' p' : Int) (w : World) : Calls Try.prog 23 #[vV r c b p, vV r' c' b' p'] w fun e w' => e = .returned (.bool (ltV r c b p r' c' b' p')) ∧ Below w.heap.size w w' := by
  have hb := (box_below w (.cells (vC r c b p) 30)).alloc (by simp) (.cells (vC r' c' b' p') 30)
  have hx := ((var_new w (vC r c b p) 30).alloc (.cells (vC r' c' b' p') 30)).v
  have hy := (var_new (w.alloc (.cells (vC r c b p) 30)) (vC r' c' b' p') 30).v
  rw [alloc_size] at hy
  have HB := Lib.hid hb
  clear hb
  unfold ltV
  obtain ⟨x0, x1, x2, x3⟩ := hx
  obtain ⟨y0, y1, y2, y3⟩ := hy
  by_cases h0 : r = r'
  · subst h0
    by_cases h1 : c = c'
    · subst h1
      by_cases h2 : b = b'
      · subst h2
        rw [cmpV_p, sgn_neg]
        go_enter Try.func23, Try.ntmps23
        go_wp2
        go_ret
        exact ⟨rfl, HB.out⟩
      · rw [cmpV_b _ _ _ _ _ _ h2, sgn_neg]
        go_enter Try.func23, Try.ntmps23
        go_wp2
        go_ret
        exact ⟨rfl, HB.out⟩
    · rw [cmpV_c _ _ _ _ _ _ _ h1, sgn_neg]
      go_enter Try.func23, Try.ntmps23
      go_wp2
      go_ret
      exact ⟨rfl, HB.out⟩
  · rw [cmpV_r _ _ _ _ _ _ _ _ h0, sgn_neg]
    go_enter Try.func23, Try.ntmps23
    go_wp2
    go_ret
    exact ⟨rfl, HB.out⟩
end Go.Proofs.Ytidgdanhnpfpmaa
