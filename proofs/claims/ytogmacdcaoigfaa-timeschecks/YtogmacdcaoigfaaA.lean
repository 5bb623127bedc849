/- Contracts of the small functions of layer 6: each says what one call returns, whatever the world. -/
import Derived.Test.YtogmacdcaoigfaaProg
import Derived.WalkKit
import Derived.WalkSpells
import Derived.WalkLawsBesides
import Derived.WalkMore
import Derived.Handy
import Derived.Lib.Hide
import Derived.Deep.QuietTactic
import Derived.BigQuiet
import Derived.IntWalk
import Derived.Lib.QuietBelow
import Derived.StillTailTactics
import Derived.Laws.BitsAllLaws
import Derived.WalkSmall
import Derived.Deep.MidRow
import Derived.ChangeKeysEq
import Derived.Deep.RegionLaw
import Derived.MapKept
import Derived.Deep.RegionWith
namespace Go.Proofs.Ytogmacdcaoigfaa
open Go.RowKit Go.Sort

theorem box_below (w : World) (o : Obj) : Below w.heap.size w (w.alloc o) := (Below.refl _ _).alloc (Nat.le_refl _) _
theorem alloc_size (w : World) (o : Obj) : (w.alloc o).heap.size = w.heap.size + 1 := by simp
theorem below_next {w w1 w2 : World} (h : Below w.heap.size w w1) (k : Below w1.heap.size w1 w2) : Below w.heap.size w w2 := h.trans (k.mono h.size)
/-- A variable that is known whole. -/
def VarAt (w : World) (b : Nat) (xs : Array Value) (t : TypeId) : Prop := w.heap[b]? = some (.cells xs t)
theorem VarAt.lt {w : World} {b : Nat} {xs : Array Value} {t : TypeId} (h : VarAt w b xs t) : b < w.heap.size := (Array.getElem?_eq_some_iff.1 h).1
theorem VarAt.cell {w : World} {b : Nat} {xs : Array Value} {t : TypeId} (h : VarAt w b xs t) (k : Nat) : w.cell? ⟨b, k, none⟩ = xs[k]? := by
  unfold VarAt at h; simp [World.cell?, h]
theorem VarAt.below {w w' : World} {b B : Nat} {xs : Array Value} {t : TypeId} (h : VarAt w b xs t) (hb : Below B w w') (hB : b < B) : VarAt w' b xs t := (hb.block b hB).trans h
theorem VarAt.alloc {w : World} {b : Nat} {xs : Array Value} {t : TypeId} (h : VarAt w b xs t) (o : Obj) : VarAt (w.alloc o) b xs t := h.below (box_below w o) h.lt
theorem var_new (w : World) (xs : Array Value) (t : TypeId) : VarAt (w.alloc (.cells xs t)) w.heap.size xs t := (MapKept.heap_alloc w _).1
theorem ret_int {k : IntKind} {a b : Int} (h : a = b) : Ending.returned (.int k a) = .returned (.int k b) := by rw [h]
theorem ret_bool {a b : Bool} (h : a = b) : Ending.returned (.bool a) = .returned (.bool b) := by rw [h]

/-- Times as cells, as a value. -/
abbrev tmC (a m h d : Int) : Array Value := #[.int .i64 a, .int .i64 m, .int .i64 h, .int .i64 d]
abbrev tmV (a m h d : Int) : Value := .agg (tmC a m h d)
/-- It is an int. -/
def I64 (a : Int) : Prop := -9223372036854775808 ≤ a ∧ a ≤ 9223372036854775807

theorem within_any (n l m : Int) (w : World) : Calls Try.prog 20 #[.int .i64 n, .int .i64 l, .int .i64 m] w fun e w' => e = .returned (.bool (decide (l ≤ n) && decide (n ≤ m))) ∧ w = w' := by
  by_cases h1 : l ≤ n
  · by_cases h2 : n ≤ m
    · go_enter Try.func20, Try.ntmps20
      go_wp2
      go_ret
      exact ⟨ret_bool (by simp; omega), rfl⟩
    · go_enter Try.func20, Try.ntmps20
      go_wp2
      go_ret
      exact ⟨ret_bool (by simp; omega), rfl⟩
  · go_enter Try.func20, Try.ntmps20
    go_wp2
    go_ret
    exact ⟨ret_bool (by simp; omega), rfl⟩
/-- In range. -/
def inR (a m h d : Int) : Bool := a == 0 && (decide (6 ≤ m) && decide (m ≤ 40)) && (decide (1 ≤ h) && decide (h ≤ 2)) && (decide (4 ≤ d) && decide (d ≤ 30))
def isC (m h d : Int) : Bool := decide (m ≤ 2 * (d - 1)) && decide (2 * (h + 1) ≤ m)
set_option maxHeartbeats 1000000 in
theorem inRange_any (a m h d : Int) (w : World) : Calls Try.prog 15 #[tmV a m h d] w fun e w' => e = .returned (.bool (inR a m h d)) ∧ Below w.heap.size w w' := by
  have c1 := within_any m 6 40
  have c2 := within_any h 1 2
  have c3 := within_any d 4 30
  have hb := box_below w (.cells (tmC a m h d) 23)
  have HB := Lib.hid hb
  clear hb
  have k0 := (var_new w (tmC a m h d) 23).cell 0
  have k1 := (var_new w (tmC a m h d) 23).cell 1
  have k2 := (var_new w (tmC a m h d) 23).cell 2
  have k3 := (var_new w (tmC a m h d) 23).cell 3
  simp at k0 k1 k2 k3
  unfold inR
  generalize (decide (6 ≤ m) && decide (m ≤ 40)) = b1 at *
  generalize (decide (1 ≤ h) && decide (h ≤ 2)) = b2 at *
  generalize (decide (4 ≤ d) && decide (d ≤ 30)) = b3 at *
  by_cases h0 : a = 0
  · subst h0
    cases b1
    · go_enter Try.func15, Try.ntmps15
      go_wp2_with fail
      refine (c1 _).mono ?_
      rintro e w' ⟨rfl, rfl⟩
      go_wp2_with fail
      go_ret
      exact ⟨ret_bool (by simp), HB.out⟩
    · cases b2
      · go_enter Try.func15, Try.ntmps15
        go_wp2_with fail
        refine (c1 _).mono ?_
        rintro e w' ⟨rfl, rfl⟩
        go_wp2_with fail
        refine (c2 _).mono ?_
        rintro e w' ⟨rfl, rfl⟩
        go_wp2_with fail
        go_ret
        exact ⟨ret_bool (by simp), HB.out⟩
      · go_enter Try.func15, Try.ntmps15
        go_wp2_with fail
        refine (c1 _).mono ?_
        rintro e w' ⟨rfl, rfl⟩
        go_wp2_with fail
        refine (c2 _).mono ?_
        rintro e w' ⟨rfl, rfl⟩
        go_wp2_with fail
        refine (c3 _).mono ?_
        rintro e w' ⟨rfl, rfl⟩
        go_wp2_with fail
        go_ret
        exact ⟨ret_bool (by simp), HB.out⟩
  · go_enter Try.func15, Try.ntmps15
    go_wp2_with fail
    go_ret
    exact ⟨ret_bool (by simp [h0]), HB.out⟩

theorem cons_facts {m h d : Int} (hh : 1 ≤ h ∧ h ≤ 2) (hd : 4 ≤ d ∧ d ≤ 30) : ∃ X Y : Int, wrap64 (d - 1) = d - 1 ∧ wrap64 (2 * (d - 1)) = X ∧ wrap64 (h + 1) = h + 1 ∧ wrap64 (2 * (h + 1)) = Y ∧ isC m h d = (decide (m ≤ X) && decide (Y ≤ m)) := by
  refine ⟨2 * (d - 1), 2 * (h + 1), ?_, ?_, ?_, ?_, rfl⟩ <;> (unfold wrap64; omega)
theorem consistent_any (a m h d : Int) (hh : 1 ≤ h ∧ h ≤ 2) (hd : 4 ≤ d ∧ d ≤ 30) (w : World) : Calls Try.prog 16 #[tmV a m h d] w fun e w' => e = .returned (.bool (isC m h d)) ∧ Below w.heap.size w w' := by
  have hb := box_below w (.cells (tmC a m h d) 23)
  have HB := Lib.hid hb
  clear hb
  obtain ⟨X, Y, e1, e2, e3, e4, e5⟩ := cons_facts (m := m) hh hd
  rw [e5]
  clear e5 hh hd
  cases b1 : decide (m ≤ X)
  · go_enter Try.func16, Try.ntmps16
    go_wp2
    go_ret
    exact ⟨rfl, HB.out⟩
  · cases b2 : decide (Y ≤ m)
    · go_enter Try.func16, Try.ntmps16
      go_wp2
      go_ret
      exact ⟨rfl, HB.out⟩
    · go_enter Try.func16, Try.ntmps16
      go_wp2
      go_ret
      exact ⟨rfl, HB.out⟩
/-- What is wrong with times. -/
def chk (a m h d : Int) : Int := if inR a m h d then (if isC m h d then 0 else 5) else 4
theorem inR_true {a m h d : Int} (e : inR a m h d = true) : a = 0 ∧ (6 ≤ m ∧ m ≤ 40) ∧ (1 ≤ h ∧ h ≤ 2) ∧ (4 ≤ d ∧ d ≤ 30) := by
  unfold inR at e; simp at e; omega
set_option maxHeartbeats 1000000 in
theorem check_any (a m h d : Int) (w : World) : Calls Try.prog 7 #[tmV a m h d] w fun e w' => e = .returned (.int .i64 (chk a m h d)) ∧ Below w.heap.size w w' := by
  have hv := var_new w (tmC a m h d) 23
  have hb := box_below w (.cells (tmC a m h d) 23)
  have c1 := inRange_any a m h d (w.alloc (.cells (tmC a m h d) 23))
  have HV := Lib.hid hv
  have HB := Lib.hid hb
  clear hv hb
  unfold chk
  cases hi : inR a m h d
  · rw [hi] at c1
    clear hi
    go_enter Try.func7, Try.ntmps7
    go_wp2_with fail
    refine c1.mono ?_
    rintro e w1 ⟨rfl, hb1⟩
    have HB1 := Lib.hid (below_next HB.out hb1)
    clear hb1
    go_wp2_with fail
    go_ret
    exact ⟨by simp, HB1.out⟩
  · rw [hi] at c1
    obtain ⟨-, -, hh, hd⟩ := inR_true hi
    have c2 := consistent_any a m h d hh hd
    clear hi hh hd
    cases hc : isC m h d
    · rw [hc] at c2
      clear hc
      go_enter Try.func7, Try.ntmps7
      go_wp2_with fail
      refine c1.mono ?_
      rintro e w1 ⟨rfl, hb1⟩
      have v1 := HV.out.below hb1 HV.out.lt
      have k0 := v1.cell 0
      have k1 := v1.cell 1
      have k2 := v1.cell 2
      have k3 := v1.cell 3
      simp at k0 k1 k2 k3
      have HB1 := Lib.hid (below_next HB.out hb1)
      clear hb1 v1
      go_wp2_with fail
      refine (c2 _).mono ?_
      rintro e w2 ⟨rfl, hb2⟩
      have HB2 := Lib.hid (below_next HB1.out hb2)
      clear hb2
      go_wp2_with fail
      go_ret
      exact ⟨by simp, HB2.out⟩
    · rw [hc] at c2
      clear hc
      go_enter Try.func7, Try.ntmps7
      go_wp2_with fail
      refine c1.mono ?_
      rintro e w1 ⟨rfl, hb1⟩
      have v1 := HV.out.below hb1 HV.out.lt
      have k0 := v1.cell 0
      have k1 := v1.cell 1
      have k2 := v1.cell 2
      have k3 := v1.cell 3
      simp at k0 k1 k2 k3
      have HB1 := Lib.hid (below_next HB.out hb1)
      clear hb1 v1
      go_wp2_with fail
      refine (c2 _).mono ?_
      rintro e w2 ⟨rfl, hb2⟩
      have HB2 := Lib.hid (below_next HB1.out hb2)
      clear hb2
      go_wp2_with fail
      go_ret
      exact ⟨by simp, HB2.out⟩
/-- How long it counts. -/
def lvs (a m hello : Int) : Int := if m ≤ a then 0 else 3 * hello
theorem lives6_any (a m h d hello : Int) (hh : -2147483648 ≤ hello ∧ hello ≤ 2147483648) (w : World) : Calls Try.prog 12 #[tmV a m h d, .int .i64 hello] w fun e w' => e = .returned (.int .i64 (lvs a m hello)) ∧ Below w.heap.size w w' := by
  have HB := Lib.hid (box_below w (.cells (tmC a m h d) 23))
  by_cases h1 : m ≤ a
  · go_enter Try.func12, Try.ntmps12
    go_wp2
    go_ret
    exact ⟨ret_int (by unfold lvs; rw [if_pos h1]), HB.out⟩
  · go_enter Try.func12, Try.ntmps12
    go_wp2
    go_ret
    exact ⟨ret_int (by unfold lvs; rw [if_neg (by omega)]), HB.out⟩
theorem older_any (a m h d : Int) (ha : -2147483648 ≤ a ∧ a ≤ 2147483648) (w : World) : Calls Try.prog 13 #[tmV a m h d] w fun e w' => e = .returned (tmV (a + 1) m h d) ∧ Below w.heap.size w w' := by
  go_enter Try.func13, Try.ntmps13
  go_wp2
  go_returns
  exact ⟨rfl, ((Below.refl _ _).alloc (Nat.le_refl _) _).alloc (by rw [alloc_size]; omega) _⟩
theorem usual_any (w : World) : Calls Try.prog 14 #[] w fun e w' => e = .returned (tmV 0 20 2 15) ∧ Below w.heap.size w w' := by
  go_enter Try.func14, Try.ntmps14
  go_wp2
  go_returns
  exact ⟨rfl, (Below.refl _ _).alloc (Nat.le_refl _) _⟩
theorem roundDown_any (n : Nat) (hn : n < 65536) (w : World) : Calls Try.prog 19 #[.int .u16 n] w fun e w' => e = .returned (.int .i64 (n / 256 : Nat)) ∧ w = w' := by
  go_enter Try.func19, Try.ntmps19
  go_wp2
  go_ret
  exact ⟨ret_int (by omega), rfl⟩
theorem roundUp_any (n : Nat) (hn : n < 65536) (w : World) : Calls Try.prog 18 #[.int .u16 n] w fun e w' => e = .returned (.int .i64 ((n + 255) / 256 : Nat)) ∧ w = w' := by
  go_enter Try.func18, Try.ntmps18
  go_wp2
  go_ret
  exact ⟨ret_int (by omega), rfl⟩
end Go.Proofs.Ytogmacdcaoigfaa
