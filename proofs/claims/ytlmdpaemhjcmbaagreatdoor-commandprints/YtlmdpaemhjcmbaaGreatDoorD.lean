/- Contracts of times' functions. -/
import Derived.Test.YtlmdpaemhjcmbaaGreatDoorA
namespace Go.Proofs.YtlmdpaemhjcmbaaGreatDoor
open Go.RowKit Go.Sort

/-- Times as cells, as a value. -/
abbrev tmC (a m h d : Int) : Array Value := #[.int .i64 a, .int .i64 m, .int .i64 h, .int .i64 d]
abbrev tmV (a m h d : Int) : Value := .agg (tmC a m h d)
theorem within_any (n l m : Int) (w : World) : Calls Tryz.prog 50 #[.int .i64 n, .int .i64 l, .int .i64 m] w fun e w' => e = .returned (.bool (decide (l ≤ n) && decide (n ≤ m))) ∧ w = w' := by
  by_cases h1 : l ≤ n
  · by_cases h2 : n ≤ m
    · go_enter Tryz.func50, Tryz.ntmps50
      go_wp2
      go_ret
      exact ⟨ret_bool (by simp; omega), rfl⟩
    · go_enter Tryz.func50, Tryz.ntmps50
      go_wp2
      go_ret
      exact ⟨ret_bool (by simp; omega), rfl⟩
  · go_enter Tryz.func50, Tryz.ntmps50
    go_wp2
    go_ret
    exact ⟨ret_bool (by simp; omega), rfl⟩
/-- In range. -/
def inR (a m h d : Int) : Bool := a == 0 && (decide (6 ≤ m) && decide (m ≤ 40)) && (decide (1 ≤ h) && decide (h ≤ 2)) && (decide (4 ≤ d) && decide (d ≤ 30))
def isC (m h d : Int) : Bool := decide (m ≤ 2 * (d - 1)) && decide (2 * (h + 1) ≤ m)
set_option maxHeartbeats 1000000 in
theorem inRange_any (a m h d : Int) (w : World) : Calls Tryz.prog 35 #[tmV a m h d] w fun e w' => e = .returned (.bool (inR a m h d)) ∧ Below w.heap.size w w' := by
  have c1 := within_any m 6 40
  have c2 := within_any h 1 2
  have c3 := within_any d 4 30
  have hb := box_below w (.cells (tmC a m h d) 25)
  have HB := Lib.hid hb
  clear hb
  have k0 := (var_new w (tmC a m h d) 25).cell 0
  have k1 := (var_new w (tmC a m h d) 25).cell 1
  have k2 := (var_new w (tmC a m h d) 25).cell 2
  have k3 := (var_new w (tmC a m h d) 25).cell 3
  simp at k0 k1 k2 k3
  unfold inR
  generalize (decide (6 ≤ m) && decide (m ≤ 40)) = b1 at *
  generalize (decide (1 ≤ h) && decide (h ≤ 2)) = b2 at *
  generalize (decide (4 ≤ d) && decide (d ≤ 30)) = b3 at *
  by_cases h0 : a = 0
  · subst h0
    cases b1
    · go_enter Tryz.func35, Tryz.ntmps35
      go_wp2_with fail
      refine (c1 _).mono ?_
      rintro e w' ⟨rfl, rfl⟩
      go_wp2_with fail
      go_ret
      exact ⟨ret_bool (by simp), HB.out⟩
    · cases b2
      · go_enter Tryz.func35, Tryz.ntmps35
        go_wp2_with fail
        refine (c1 _).mono ?_
        rintro e w' ⟨rfl, rfl⟩
        go_wp2_with fail
        refine (c2 _).mono ?_
        rintro e w' ⟨rfl, rfl⟩
        go_wp2_with fail
        go_ret
        exact ⟨ret_bool (by simp), HB.out⟩
      · go_enter Tryz.func35, Tryz.ntmps35
        go_wp2_with fail
        refine (c1 _).mono ?_
        rintro e w' ⟨rfl, rfl⟩
        go_wp2_with fail
        refine (c2 _).mono ?_
        rintro e w' ⟨rfl, rfl⟩
        go_wp2_with fail
        refine (c3 _).mono ?_
        rintro e w' ⟨rfl, rfl⟩
        go_wp2_with fail
        go_ret
        exact ⟨ret_bool (by simp), HB.out⟩
  · go_enter Tryz.func35, Tryz.ntmps35
    go_wp2_with fail
    go_ret
    exact ⟨ret_bool (by simp [h0]), HB.out⟩

theorem cons_facts {m h d : Int} (hh : 1 ≤ h ∧ h ≤ 2) (hd : 4 ≤ d ∧ d ≤ 30) : ∃ X Y : Int, wrap64 (d - 1) = d - 1 ∧ wrap64 (2 * (d - 1)) = X ∧ wrap64 (h + 1) = h + 1 ∧ wrap64 (2 * (h + 1)) = Y ∧ isC m h d = (decide (m ≤ X) && decide (Y ≤ m)) := by
  refine ⟨2 * (d - 1), 2 * (h + 1), ?_, ?_, ?_, ?_, rfl⟩ <;> (unfold wrap64; omega)
theorem consistent_any (a m h d : Int) (hh : 1 ≤ h ∧ h ≤ 2) (hd : 4 ≤ d ∧ d ≤ 30) (w : World) : Calls Tryz.prog 36 #[tmV a m h d] w fun e w' => e = .returned (.bool (isC m h d)) ∧ Below w.heap.size w w' := by
  have hb := box_below w (.cells (tmC a m h d) 25)
  have HB := Lib.hid hb
  clear hb
  obtain ⟨X, Y, e1, e2, e3, e4, e5⟩ := cons_facts (m := m) hh hd
  rw [e5]
  clear e5 hh hd
  cases b1 : decide (m ≤ X)
  · go_enter Tryz.func36, Tryz.ntmps36
    go_wp2
    go_ret
    exact ⟨rfl, HB.out⟩
  · cases b2 : decide (Y ≤ m)
    · go_enter Tryz.func36, Tryz.ntmps36
      go_wp2
      go_ret
      exact ⟨rfl, HB.out⟩
    · go_enter Tryz.func36, Tryz.ntmps36
      go_wp2
      go_ret
      exact ⟨rfl, HB.out⟩
/-- What is wrong with times. -/
def chT (a m h d : Int) : Int := if inR a m h d then (if isC m h d then 0 else 5) else 4
theorem inR_true {a m h d : Int} (e : inR a m h d = true) : a = 0 ∧ (6 ≤ m ∧ m ≤ 40) ∧ (1 ≤ h ∧ h ≤ 2) ∧ (4 ≤ d ∧ d ≤ 30) := by
  unfold inR at e; simp at e; omega
set_option maxHeartbeats 1000000 in
theorem check_any (a m h d : Int) (w : World) : Calls Tryz.prog 21 #[tmV a m h d] w fun e w' => e = .returned (.int .i64 (chT a m h d)) ∧ Below w.heap.size w w' := by
  have hv := var_new w (tmC a m h d) 25
  have hb := box_below w (.cells (tmC a m h d) 25)
  have c1 := inRange_any a m h d (w.alloc (.cells (tmC a m h d) 25))
  have HV := Lib.hid hv
  have HB := Lib.hid hb
  clear hv hb
  unfold chT
  cases hi : inR a m h d
  · rw [hi] at c1
    clear hi
    go_enter Tryz.func21, Tryz.ntmps21
    go_wp2_with fail
    refine c1.mono ?_
    rintro e w1 ⟨rfl, hb1⟩
    have HB1 := Lib.hid (below_next HB.out hb1)
    clear hb1
    go_wp2_with fail
    go_ret
    exact ⟨by simp, HB1.out⟩
  · rw [hi] at c1
    obtain ⟨-, -, hh, hd⟩ := inR_true hi
    have c2 := consistent_any a m h d hh hd
    clear hi hh hd
    cases hc : isC m h d
    · rw [hc] at c2
      clear hc
      go_enter Tryz.func21, Tryz.ntmps21
      go_wp2_with fail
      refine c1.mono ?_
      rintro e w1 ⟨rfl, hb1⟩
      have v1 := HV.out.below hb1 HV.out.lt
      have k0 := v1.cell 0
      have k1 := v1.cell 1
      have k2 := v1.cell 2
      have k3 := v1.cell 3
      simp at k0 k1 k2 k3
      have HB1 := Lib.hid (below_next HB.out hb1)
      clear hb1 v1
      go_wp2_with fail
      refine (c2 _).mono ?_
      rintro e w2 ⟨rfl, hb2⟩
      have HB2 := Lib.hid (below_next HB1.out hb2)
      clear hb2
      go_wp2_with fail
      go_ret
      exact ⟨by simp, HB2.out⟩
    · rw [hc] at c2
      clear hc
      go_enter Tryz.func21, Tryz.ntmps21
      go_wp2_with fail
      refine c1.mono ?_
      rintro e w1 ⟨rfl, hb1⟩
      have v1 := HV.out.below hb1 HV.out.lt
      have k0 := v1.cell 0
      have k1 := v1.cell 1
      have k2 := v1.cell 2
      have k3 := v1.cell 3
      simp at k0 k1 k2 k3
      have HB1 := Lib.hid (below_next HB.out hb1)
      clear hb1 v1
      go_wp2_with fail
      refine (c2 _).mono ?_
      rintro e w2 ⟨rfl, hb2⟩
      have HB2 := Lib.hid (below_next HB1.out hb2)
      clear hb2
      go_wp2_with fail
      go_ret
      exact ⟨by simp, HB2.out⟩
theorem usual_any (w : World) : Calls Tryz.prog 30 #[] w fun e w' => e = .returned (tmV 0 20 2 15) ∧ Below w.heap.size w w' := by
  go_enter Tryz.func30, Tryz.ntmps30
  go_wp2
  go_returns
  exact ⟨rfl, (Below.refl _ _).alloc (Nat.le_refl _) _⟩
end Go.Proofs.YtlmdpaemhjcmbaaGreatDoor
