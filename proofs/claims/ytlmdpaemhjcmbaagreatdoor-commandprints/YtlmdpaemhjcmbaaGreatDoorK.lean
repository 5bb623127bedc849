/- A bridge's setting in memory; contracts of within, isGroup and inRange. -/
import Derived.Test.YtlmdpaemhjcmbaaGreatDoorC
import Derived.Test.YtlmdpaemhjcmbaaGreatDoorCa
namespace Go.Proofs.YtlmdpaemhjcmbaaGreatDoor
open Go.RowKit Go.Sort

/-- How a bridge is set, but for its ports. -/
structure Cf where
  x : Nat → Nat
  pr : Int
  a : Int
  m : Int
  h : Int
  d : Int
  ho : Int
  rs : Bool
  ag : Int
/-- Its cells. -/
def Cf.cells (c : Cf) (s : Value) : Array Value := #[.int .u8 (c.x 0), .int .u8 (c.x 1), .int .u8 (c.x 2), .int .u8 (c.x 3), .int .u8 (c.x 4), .int .u8 (c.x 5), .int .i64 c.pr, .int .i64 c.a, .int .i64 c.m, .int .i64 c.h, .int .i64 c.d, .int .i64 c.ho, .bool c.rs, .int .i64 c.ag, s]
theorem Cf.size (c : Cf) (s : Value) : (c.cells s).size = 15 := rfl
abbrev bxC (w : World) (c : Cf) (s : Value) : World := w.alloc (.cells (c.cells s) 28)

theorem withinC_any (n l m : Int) (w : World) : Calls Tryz.prog 38 #[.int .i64 n, .int .i64 l, .int .i64 m] w fun e w' => e = .returned (.bool (decide (l ≤ n) && decide (n ≤ m))) ∧ w = w' := by
  by_cases h1 : l ≤ n
  · by_cases h2 : n ≤ m
    · go_enter Tryz.func38, Tryz.ntmps38
      go_wp2
      go_ret
      exact ⟨ret_bool (by simp; omega), rfl⟩
    · go_enter Tryz.func38, Tryz.ntmps38
      go_wp2
      go_ret
      exact ⟨ret_bool (by simp; omega), rfl⟩
  · go_enter Tryz.func38, Tryz.ntmps38
    go_wp2
    go_ret
    exact ⟨ret_bool (by simp; omega), rfl⟩
/-- Is an address one of a group? -/
def grp (x : Nat → Nat) : Bool := decide (x 0 % 2 = 1)
theorem isGroup_any (x : Nat → Nat) (hx : ∀ i, x i < 256) (w : World) : Calls Tryz.prog 37 #[macV x] w fun e w' => e = .returned (.bool (grp x)) ∧ Below w.heap.size w w' := by
  have hb := Lib.hid (box_below w (macO x 23))
  have h0 := hx 0
  go_enter Tryz.func37, Tryz.ntmps37
  go_wp2
  go_ret
  exact ⟨ret_bool (by unfold grp; rw [Bool.eq_iff_iff]; simp; omega), hb.out⟩
/-- What neither a lower layer nor a port limits. -/
def rgC (c : Cf) (n : Nat) : Bool := !grp c.x && (decide (1 ≤ c.ho) && decide (c.ho ≤ 10)) && (decide (10 ≤ c.ag) && decide (c.ag ≤ 1000000)) && decide (n ≤ 8)
set_option maxHeartbeats 1000000 in
theorem inRangeC_any (c : Cf) (a : Option Addr) (n cap : Nat) (hx : ∀ i, c.x i < 256) (hn : n ≤ 100) (w : World) : Calls Tryz.prog 22 #[.agg (c.cells (.slice a n cap))] w fun e w' => e = .returned (.bool (rgC c n)) ∧ Below w.heap.size w w' := by
  have v := Lib.hid (var_new w (c.cells (.slice a n cap)) 28)
  have hb := Lib.hid (box_below w (.cells (c.cells (.slice a n cap)) 28))
  have c0 := isGroup_any c.x hx
  have c1 := withinC_any c.ho 1 10
  have c2 := withinC_any c.ag 10 1000000
  have m0 : (w.alloc (.cells (c.cells (.slice a n cap)) 28)).cell? ⟨w.heap.size, 0, none⟩ = some (.int .u8 (c.x 0)) := v.out.cell 0
  have m1 : (w.alloc (.cells (c.cells (.slice a n cap)) 28)).cell? ⟨w.heap.size, 1, none⟩ = some (.int .u8 (c.x 1)) := v.out.cell 1
  have m2 : (w.alloc (.cells (c.cells (.slice a n cap)) 28)).cell? ⟨w.heap.size, 2, none⟩ = some (.int .u8 (c.x 2)) := v.out.cell 2
  have m3 : (w.alloc (.cells (c.cells (.slice a n cap)) 28)).cell? ⟨w.heap.size, 3, none⟩ = some (.int .u8 (c.x 3)) := v.out.cell 3
  have m4 : (w.alloc (.cells (c.cells (.slice a n cap)) 28)).cell? ⟨w.heap.size, 4, none⟩ = some (.int .u8 (c.x 4)) := v.out.cell 4
  have m5 : (w.alloc (.cells (c.cells (.slice a n cap)) 28)).cell? ⟨w.heap.size, 5, none⟩ = some (.int .u8 (c.x 5)) := v.out.cell 5
  have k11 : ∀ w1, Below (w.alloc (.cells (c.cells (.slice a n cap)) 28)).heap.size (w.alloc (.cells (c.cells (.slice a n cap)) 28)) w1 → w1.cell? ⟨w.heap.size, 11, none⟩ = some (.int .i64 c.ho) := fun w1 h => (v.out.below h v.out.lt).cell 11
  have k13 : ∀ w1, Below (w.alloc (.cells (c.cells (.slice a n cap)) 28)).heap.size (w.alloc (.cells (c.cells (.slice a n cap)) 28)) w1 → w1.cell? ⟨w.heap.size, 13, none⟩ = some (.int .i64 c.ag) := fun w1 h => (v.out.below h v.out.lt).cell 13
  have k14 : ∀ w1, Below (w.alloc (.cells (c.cells (.slice a n cap)) 28)).heap.size (w.alloc (.cells (c.cells (.slice a n cap)) 28)) w1 → w1.cell? ⟨w.heap.size, 14, none⟩ = some (.slice a n cap) := fun w1 h => (v.out.below h v.out.lt).cell 14
  have K11 := Lib.hid k11
  have K13 := Lib.hid k13
  have K14 := Lib.hid k14
  clear k11 k13 k14 v hx
  unfold rgC
  generalize grp c.x = g at *
  generalize (decide (1 ≤ c.ho) && decide (c.ho ≤ 10)) = b1 at *
  generalize (decide (10 ≤ c.ag) && decide (c.ag ≤ 1000000)) = b2 at *
  generalize c.ho = ho at *
  generalize c.ag = ag at *
  generalize c.x = x at *
  generalize c.cells (.slice a n cap) = C at *
  cases g
  · cases b1
    · go_enter Tryz.func22, Tryz.ntmps22
      go_wp2_with fail
      refine (c0 _).mono ?_
      rintro e w1 ⟨rfl, hb1⟩
      have q11 := K11.out w1 hb1
      have q13 := K13.out w1 hb1
      have q14 := K14.out w1 hb1
      have HB := Lib.hid (below_next hb.out hb1)
      clear K11 K13 K14 hb hb1 m0 m1 m2 m3 m4 m5 c0
      go_wp2_with fail
      refine (c1 _).mono ?_
      rintro e w' ⟨rfl, rfl⟩
      go_wp2_with fail
      go_ret
      exact ⟨ret_bool (by simp), HB.out⟩
    · cases b2
      · go_enter Tryz.func22, Tryz.ntmps22
        go_wp2_with fail
        refine (c0 _).mono ?_
        rintro e w1 ⟨rfl, hb1⟩
        have q11 := K11.out w1 hb1
        have q13 := K13.out w1 hb1
        have q14 := K14.out w1 hb1
        have HB := Lib.hid (below_next hb.out hb1)
        clear K11 K13 K14 hb hb1 m0 m1 m2 m3 m4 m5 c0
        go_wp2_with fail
        refine (c1 _).mono ?_
        rintro e w' ⟨rfl, rfl⟩
        go_wp2_with fail
        refine (c2 _).mono ?_
        rintro e w' ⟨rfl, rfl⟩
        go_wp2_with fail
        go_ret
        exact ⟨ret_bool (by simp), HB.out⟩
      · by_cases hn8 : n ≤ 8
        · go_enter Tryz.func22, Tryz.ntmps22
          go_wp2_with fail
          refine (c0 _).mono ?_
          rintro e w1 ⟨rfl, hb1⟩
          have q11 := K11.out w1 hb1
          have q13 := K13.out w1 hb1
          have q14 := K14.out w1 hb1
          have HB := Lib.hid (below_next hb.out hb1)
          clear K11 K13 K14 hb hb1 m0 m1 m2 m3 m4 m5 c0
          go_wp2_with fail
          refine (c1 _).mono ?_
          rintro e w' ⟨rfl, rfl⟩
          go_wp2_with fail
          refine (c2 _).mono ?_
          rintro e w' ⟨rfl, rfl⟩
          go_wp2_with fail
          go_ret
          exact ⟨ret_bool (by simp; omega), HB.out⟩
        · go_enter Tryz.func22, Tryz.ntmps22
          go_wp2_with fail
          refine (c0 _).mono ?_
          rintro e w1 ⟨rfl, hb1⟩
          have q11 := K11.out w1 hb1
          have q13 := K13.out w1 hb1
          have q14 := K14.out w1 hb1
          have HB := Lib.hid (below_next hb.out hb1)
          clear K11 K13 K14 hb hb1 m0 m1 m2 m3 m4 m5 c0
          go_wp2_with fail
          refine (c1 _).mono ?_
          rintro e w' ⟨rfl, rfl⟩
          go_wp2_with fail
          refine (c2 _).mono ?_
          rintro e w' ⟨rfl, rfl⟩
          go_wp2_with fail
          go_ret
          exact ⟨ret_bool (by simp; omega), HB.out⟩
  · go_enter Tryz.func22, Tryz.ntmps22
    go_wp2_with fail
    refine (c0 _).mono ?_
    rintro e w1 ⟨rfl, hb1⟩
    have q11 := K11.out w1 hb1
    have q13 := K13.out w1 hb1
    have q14 := K14.out w1 hb1
    have HB := Lib.hid (below_next hb.out hb1)
    clear K11 K13 K14 hb hb1 m0 m1 m2 m3 m4 m5 c0
    go_wp2_with fail
    go_ret
    exact ⟨ret_bool (by simp), HB.out⟩
end Go.Proofs.YtlmdpaemhjcmbaaGreatDoor
