/- TimesChecks' whole call. -/
import Derived.Test.YtogmacdcaoigfaaD
namespace Go.Proofs.Ytogmacdcaoigfaa
open Go.RowKit Go.Sort

theorem bad_facts {a m h d : Int} (hn : inR a m h d = false) : ((a != 0) = true) ∨ ((a != 0) = false ∧ decide (m < 6) = true) ∨ ((a != 0) = false ∧ decide (m < 6) = false ∧ decide (40 < m) = true) ∨ ((a != 0) = false ∧ decide (m < 6) = false ∧ decide (40 < m) = false ∧ decide (h < 1) = true) ∨
    ((a != 0) = false ∧ decide (m < 6) = false ∧ decide (40 < m) = false ∧ decide (h < 1) = false ∧ decide (2 < h) = true) ∨ ((a != 0) = false ∧ decide (m < 6) = false ∧ decide (40 < m) = false ∧ decide (h < 1) = false ∧ decide (2 < h) = false ∧ decide (d < 4) = true) ∨
    ((a != 0) = false ∧ decide (m < 6) = false ∧ decide (40 < m) = false ∧ decide (h < 1) = false ∧ decide (2 < h) = false ∧ decide (d < 4) = false ∧ decide (30 < d) = true) := by
  by_cases h0 : a = 0
  · have e : (a != 0) = false := by simp [h0]
    have hr : ¬ ((6 ≤ m ∧ m ≤ 40) ∧ (1 ≤ h ∧ h ≤ 2) ∧ (4 ≤ d ∧ d ≤ 30)) := by
      intro ⟨⟨h1, h2⟩, ⟨h3, h4⟩, ⟨h5, h6⟩⟩
      unfold inR at hn
      simp [h0, h1, h2, h3, h4, h5, h6] at hn
    simp only [e, true_and, decide_eq_true_eq, decide_eq_false_iff_not, Bool.false_eq_true, false_or]
    omega
  · exact .inl (by simp [h0])
theorem good_facts {a m h d : Int} (hn : inR a m h d = true) : ((a != 0) = false ∧ decide (m < 6) = false ∧ decide (40 < m) = false ∧ decide (h < 1) = false ∧ decide (2 < h) = false ∧ decide (d < 4) = false ∧ decide (30 < d) = false) ∧
    ∃ X Y Z V : Int, wrap64 (2 * d) = X ∧ wrap64 (X - 2) = Y ∧ wrap64 (2 * h) = Z ∧ wrap64 (Z + 2) = V ∧ isC m h d = (!decide (Y < m) && !decide (m < V)) := by
  obtain ⟨h0, h1, h2, h3⟩ := inR_true hn
  refine ⟨?_, 2 * d, 2 * d - 2, 2 * h, 2 * h + 2, ?_, ?_, ?_, ?_, ?_⟩
  · simp only [h0, decide_eq_false_iff_not]; exact ⟨rfl, by omega, by omega, by omega, by omega, by omega, by omega⟩
  · unfold wrap64; omega
  · unfold wrap64; omega
  · unfold wrap64; omega
  · unfold wrap64; omega
  · unfold isC
    rw [show (2 * (d - 1)) = 2 * d - 2 by omega, show 2 * (h + 1) = 2 * h + 2 by omega]
    simp [← decide_not, Int.not_lt]
set_option maxHeartbeats 1000000 in
theorem checks_bad (a m h d : Int) (hn : inR a m h d = false) (w : World) : Calls Try.prog 3 #[tmV a m h d] w fun e w' => e = .returned (.bool true) ∧ Below w.heap.size w w' := by
  have hF := bad_facts hn
  have c0 := lives_ok
  have c1 := check_any a m h d
  unfold chk at c1
  rw [hn] at c1
  simp only [Bool.false_eq_true, if_false] at c1
  clear hn
  rcases hF with g1 | ⟨g1, g2⟩ | ⟨g1, g2, g3⟩ | ⟨g1, g2, g3, g4⟩ | ⟨g1, g2, g3, g4, g5⟩ | ⟨g1, g2, g3, g4, g5, g6⟩ | ⟨g1, g2, g3, g4, g5, g6, g7⟩
  all_goals
    go_enter Try.func3, Try.ntmps3
    go_wp2_with fail
    have hb0 := box_below w (.cells (tmC a m h d) 23)
    have hv0 := var_new w (tmC a m h d) 23
    generalize w.alloc (.cells (tmC a m h d) 23) = w0 at *
    refine (c0 w0).mono ?_
    rintro e w1 ⟨rfl, hb⟩
    have HB := Lib.hid (below_next hb0 hb)
    have v1 := hv0.below hb hv0.lt
    have k0 := v1.cell 0
    have k1 := v1.cell 1
    have k2 := v1.cell 2
    have k3 := v1.cell 3
    simp only [List.getElem?_toArray, List.getElem?_cons_zero, List.getElem?_cons_succ] at k0 k1 k2 k3
    clear hb hb0 hv0 c0 v1
    go_wp2_with fail
    refine (c1 w1).mono ?_
    rintro e w2 ⟨rfl, hb⟩
    have HB2 := Lib.hid (below_next HB.out hb)
    clear hb
    go_wp2_with fail
    go_ret
    exact ⟨rfl, HB2.out⟩
set_option maxHeartbeats 1000000 in
theorem checks_good (a m h d : Int) (hn : inR a m h d = true) (w : World) : Calls Try.prog 3 #[tmV a m h d] w fun e w' => e = .returned (.bool true) ∧ Below w.heap.size w w' := by
  obtain ⟨⟨g1, g2, g3, g4, g5, g6, g7⟩, X, Y, Z, V, e1, e2, e3, e4, e5⟩ := good_facts hn
  have c0 := lives_ok
  have c1 := check_any a m h d
  unfold chk at c1
  rw [hn, e5] at c1
  clear hn e5
  cases g8 : decide (Y < m) <;> cases g9 : decide (m < V)
  all_goals
    rw [g8, g9] at c1
    simp only [Bool.not_true, Bool.not_false, Bool.and_true, Bool.and_false, Bool.false_eq_true, if_false, if_true] at c1
    go_enter Try.func3, Try.ntmps3
    go_wp2_with fail
    have hb0 := box_below w (.cells (tmC a m h d) 23)
    have hv0 := var_new w (tmC a m h d) 23
    generalize w.alloc (.cells (tmC a m h d) 23) = w0 at *
    refine (c0 w0).mono ?_
    rintro e w1 ⟨rfl, hb⟩
    have HB := Lib.hid (below_next hb0 hb)
    have v1 := hv0.below hb hv0.lt
    have k0 := v1.cell 0
    have k1 := v1.cell 1
    have k2 := v1.cell 2
    have k3 := v1.cell 3
    simp only [List.getElem?_toArray, List.getElem?_cons_zero, List.getElem?_cons_succ] at k0 k1 k2 k3
    clear hb hb0 hv0 c0 v1
    go_wp2_with fail
    refine (c1 w1).mono ?_
    rintro e w2 ⟨rfl, hb⟩
    have HB2 := Lib.hid (below_next HB.out hb)
    clear hb
    go_wp2_with fail
    go_ret
    exact ⟨rfl, HB2.out⟩
theorem checks_any (a m h d : Int) (w : World) : Calls Try.prog 3 #[tmV a m h d] w fun e w' => e = .returned (.bool true) ∧ Below w.heap.size w w' := by
  cases hn : inR a m h d
  · exact checks_bad a m h d hn w
  · exact checks_good a m h d hn w
theorem lives_any (a m h d hello : Int) (w : World) : Calls Try.prog 5 #[tmV a m h d, .int .i64 hello] w fun e w' => e = .returned (.bool true) ∧ Below w.heap.size w w' := by
  by_cases hn : (-2147483648 ≤ a ∧ a ≤ 2147483648) ∧ -2147483648 ≤ hello ∧ hello ≤ 2147483648
  · exact lives_in a m h d hello hn w
  · exact lives_out a m h d hello hn w
end Go.Proofs.Ytogmacdcaoigfaa
