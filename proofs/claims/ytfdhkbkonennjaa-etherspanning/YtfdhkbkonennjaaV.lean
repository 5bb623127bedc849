/- EtherBytes: a frame that may not be encoded, and one whose Body is too long for the statement. -/
import Derived.Test.YtfdhkbkonennjaaR
import Derived.Test.YtfdhkbkonennjaaO
namespace Go.Proofs.Ytfdhkbkonennjaa
open Go.RowKit Go.Sort

set_option maxRecDepth 20000 in
set_option maxHeartbeats 4000000 in
theorem ebytes_long (x y : Nat → Nat) (t : Nat) (p : Option Addr) (n cap : Nat) (w : World) (hn : n ≤ 9223372036854775807) (hl : 2000 < n) :
    Calls Try.prog 3 #[frV x y t (.slice p n cap)] w fun e w' => e = .returned (.bool true) ∧ Below w.heap.size w w' := by
  have HF0 := Lib.hid (var_new w (frC x y t (.slice p n cap)) 27)
  have HB0 := Lib.hid (box_below w (.cells (frC x y t (.slice p n cap)) 27))
  have t1 : decide ((2000 : Int) < (n : Int)) = true := by simp; omega
  clear hl hn
  go_enter Try.func3, Try.ntmps3
  go_wp2_with fail
  refine (lives_any _).mono ?_
  rintro e w1 ⟨rfl, hb1⟩
  have k13 : w1.cell? ⟨w.heap.size, 13, none⟩ = some (.slice p n cap) := (HF0.out.below hb1 HF0.out.lt).cell 13
  have HB1 := Lib.hid (below_next HB0.out hb1)
  clear hb1 HF0 HB0
  go_wp2_with fail
  refine (lives_any _).mono ?_
  rintro e w2 ⟨rfl, hb2⟩
  have HB2 := Lib.hid (below_next HB1.out hb2)
  clear hb2 HB1
  go_wp2_with fail
  go_ret
  exact ⟨rfl, HB2.out⟩
theorem VarAt.grown' {w : World} {b : Nat} {xs : Array Value} {t : TypeId} (h : VarAt w b xs t) (d : Nat) (os : Array Obj) : VarAt (grow (redrawn w d) os) b xs t := h.below (below_regrown w d os) h.lt
set_option maxRecDepth 20000 in
set_option maxHeartbeats 40000000 in
theorem ebytes_bad (x y : Nat → Nat) (t : Nat) (v : Value) (l : List UInt8) (w : World) (hx : ∀ i, x i < 256) (hy : ∀ i, y i < 256) (ht : t < 65536) (hv : Bts w w.heap.size v l) (hl : l.length ≤ 2000) (hr : ¬ Rt y t l.length) :
    Calls Try.prog 3 #[frV x y t v] w fun e w' => e = .returned (.bool true) ∧ Below w.heap.size w w' := by
  obtain ⟨p, cap, rfl, hlen⟩ := bts_len hv
  have HF0 := Lib.hid (var_new w (frC x y t (.slice p l.length cap)) 27)
  have HB0 := Lib.hid (box_below w (.cells (frC x y t (.slice p l.length cap)) 27))
  have HV := Lib.hid hv
  have HX := Lib.hid hx
  have HY := Lib.hid hy
  have hlI : (l.length : Int) ≤ 2000 := by omega
  have HL := Lib.hid hl
  have HT := Lib.hid ht
  clear hv hx hy hl hlen ht
  go_enter Try.func3, Try.ntmps3
  go_wp2_with fail
  refine (lives_any _).mono ?_
  rintro e w1 ⟨rfl, hb1⟩
  have f1 := HF0.out.below hb1 HF0.out.lt
  have hw1 := below_next HB0.out hb1
  obtain ⟨k0, k1, k2, k3, k4, k5, k6, k7, k8, k9, k10, k11, k12, k13⟩ := f1.frCells
  have HF1 := Lib.hid f1
  have HB1 := Lib.hid hw1
  have c2 := plain_any x y t _ l w.heap.size w1 HT.out (HV.out.below hw1 (Nat.le_refl _)) hw1.size
  clear f1 hw1 hb1 HF0 HB0
  go_wp2_with fail
  refine c2.mono ?_
  rintro e w2 ⟨rfl, hb2⟩
  clear k0 k1 k2 k3 k4 k5 k6 k7 k8 k9 k10 k11 k12 k13 c2
  have f2 := (HF1.out.below hb2 HF1.out.lt).alloc (.cells (rfC x y t l) 30)
  have r2 := var_new w2 (rfC x y t l) 30
  have hw2 := (below_next HB1.out hb2).alloc (below_next HB1.out hb2).size (.cells (rfC x y t l) 30)
  have s2 := f2.lt
  have hb1lt : w.heap.size < w2.heap.size := Nat.lt_of_lt_of_le HF1.out.lt hb2.size
  obtain ⟨k0, k1, k2, k3, k4, k5, k6, k7, k8, k9, k10, k11, k12, k13⟩ := f2.frCells
  have H2 := Lib.hid (And.intro f2 (And.intro r2 hw2))
  have HV2 := Lib.hid (HV.out.below hw2 (Nat.le_refl _))
  have c3 := ebytes_not x y t _ l w.heap.size _ HT.out HV2.out hr
  have HR := Lib.hid hr
  clear f2 r2 hw2 hb2 HF1 HB1 s2 hr HV2
  go_wp2_with fail
  refine c3.mono ?_
  rintro e w4 ⟨rfl, hb4⟩
  obtain ⟨f2, r2, hw2⟩ := H2.out
  have f4 := f2.below hb4 f2.lt
  have r4 := r2.below hb4 r2.lt
  have hw4 := below_next hw2 hb4
  generalize hbx : w2.heap.size = bx at *
  clear k0 k1 k2 k3 k4 k5 k6 k7 k8 k9 k10 k11 k12 k13 f2 r2 hw2 H2 c3 hb4 hbx
  have a0 : ∀ d os, (grow (redrawn w4 d) os).cell? ⟨w.heap.size, 0, none⟩ = some (.int .u8 (x 0)) := fun d os => (VarAt.grown' f4 d os).cell 0
  have a1 : ∀ d os, (grow (redrawn w4 d) os).cell? ⟨w.heap.size, 1, none⟩ = some (.int .u8 (x 1)) := fun d os => (VarAt.grown' f4 d os).cell 1
  have a2 : ∀ d os, (grow (redrawn w4 d) os).cell? ⟨w.heap.size, 2, none⟩ = some (.int .u8 (x 2)) := fun d os => (VarAt.grown' f4 d os).cell 2
  have a3 : ∀ d os, (grow (redrawn w4 d) os).cell? ⟨w.heap.size, 3, none⟩ = some (.int .u8 (x 3)) := fun d os => (VarAt.grown' f4 d os).cell 3
  have a4 : ∀ d os, (grow (redrawn w4 d) os).cell? ⟨w.heap.size, 4, none⟩ = some (.int .u8 (x 4)) := fun d os => (VarAt.grown' f4 d os).cell 4
  have a5 : ∀ d os, (grow (redrawn w4 d) os).cell? ⟨w.heap.size, 5, none⟩ = some (.int .u8 (x 5)) := fun d os => (VarAt.grown' f4 d os).cell 5
  have a6 : ∀ d os, (grow (redrawn w4 d) os).cell? ⟨w.heap.size, 6, none⟩ = some (.int .u8 (y 0)) := fun d os => (VarAt.grown' f4 d os).cell 6
  have a7 : ∀ d os, (grow (redrawn w4 d) os).cell? ⟨w.heap.size, 7, none⟩ = some (.int .u8 (y 1)) := fun d os => (VarAt.grown' f4 d os).cell 7
  have a8 : ∀ d os, (grow (redrawn w4 d) os).cell? ⟨w.heap.size, 8, none⟩ = some (.int .u8 (y 2)) := fun d os => (VarAt.grown' f4 d os).cell 8
  have a9 : ∀ d os, (grow (redrawn w4 d) os).cell? ⟨w.heap.size, 9, none⟩ = some (.int .u8 (y 3)) := fun d os => (VarAt.grown' f4 d os).cell 9
  have a10 : ∀ d os, (grow (redrawn w4 d) os).cell? ⟨w.heap.size, 10, none⟩ = some (.int .u8 (y 4)) := fun d os => (VarAt.grown' f4 d os).cell 10
  have a11 : ∀ d os, (grow (redrawn w4 d) os).cell? ⟨w.heap.size, 11, none⟩ = some (.int .u8 (y 5)) := fun d os => (VarAt.grown' f4 d os).cell 11
  have a12 : ∀ d os, (grow (redrawn w4 d) os).cell? ⟨w.heap.size, 12, none⟩ = some (.int .u16 t) := fun d os => (VarAt.grown' f4 d os).cell 12
  have a13 : ∀ d os, (grow (redrawn w4 d) os).cell? ⟨w.heap.size, 13, none⟩ = some (.slice p l.length cap) := fun d os => (VarAt.grown' f4 d os).cell 13
  have b0 : ∀ d os, (grow (redrawn w4 d) os).cell? ⟨bx, 0, none⟩ = some (.int .u8 (x 0)) := fun d os => (VarAt.grown' r4 d os).cell 0
  have b1 : ∀ d os, (grow (redrawn w4 d) os).cell? ⟨bx, 1, none⟩ = some (.int .u8 (x 1)) := fun d os => (VarAt.grown' r4 d os).cell 1
  have b2 : ∀ d os, (grow (redrawn w4 d) os).cell? ⟨bx, 2, none⟩ = some (.int .u8 (x 2)) := fun d os => (VarAt.grown' r4 d os).cell 2
  have b3 : ∀ d os, (grow (redrawn w4 d) os).cell? ⟨bx, 3, none⟩ = some (.int .u8 (x 3)) := fun d os => (VarAt.grown' r4 d os).cell 3
  have b4 : ∀ d os, (grow (redrawn w4 d) os).cell? ⟨bx, 4, none⟩ = some (.int .u8 (x 4)) := fun d os => (VarAt.grown' r4 d os).cell 4
  have b5 : ∀ d os, (grow (redrawn w4 d) os).cell? ⟨bx, 5, none⟩ = some (.int .u8 (x 5)) := fun d os => (VarAt.grown' r4 d os).cell 5
  have b6 : ∀ d os, (grow (redrawn w4 d) os).cell? ⟨bx, 6, none⟩ = some (.int .u8 (y 0)) := fun d os => (VarAt.grown' r4 d os).cell 6
  have b7 : ∀ d os, (grow (redrawn w4 d) os).cell? ⟨bx, 7, none⟩ = some (.int .u8 (y 1)) := fun d os => (VarAt.grown' r4 d os).cell 7
  have b8 : ∀ d os, (grow (redrawn w4 d) os).cell? ⟨bx, 8, none⟩ = some (.int .u8 (y 2)) := fun d os => (VarAt.grown' r4 d os).cell 8
  have b9 : ∀ d os, (grow (redrawn w4 d) os).cell? ⟨bx, 9, none⟩ = some (.int .u8 (y 3)) := fun d os => (VarAt.grown' r4 d os).cell 9
  have b10 : ∀ d os, (grow (redrawn w4 d) os).cell? ⟨bx, 10, none⟩ = some (.int .u8 (y 4)) := fun d os => (VarAt.grown' r4 d os).cell 10
  have b11 : ∀ d os, (grow (redrawn w4 d) os).cell? ⟨bx, 11, none⟩ = some (.int .u8 (y 5)) := fun d os => (VarAt.grown' r4 d os).cell 11
  have b12 : ∀ d os, (grow (redrawn w4 d) os).cell? ⟨bx, 12, none⟩ = some (.int .i64 t) := fun d os => (VarAt.grown' r4 d os).cell 12
  have b13 : ∀ d os, (grow (redrawn w4 d) os).cell? ⟨bx, 13, none⟩ = some (strV l) := fun d os => (VarAt.grown' r4 d os).cell 13
  have c5 : ∀ d os, Calls Try.prog 9 #[frV x y t (.slice p l.length cap)] (grow (redrawn w4 d) os) fun e w'' => e = .returned (.bool false) ∧ ∃ q : Regrown, w'' = grow (redrawn w4 q.d) q.os := fun d os => Calls.regrown_of (by have := right_any x y t p l.length cap (grow (redrawn w4 d) os) HT.out (by have := HL.out; omega); rwa [show decide (Rt y t l.length) = false from by simp [HR.out]] at this)
  have c6 : ∀ d os, Calls Try.prog 10 #[rfV x y t l] (grow (redrawn w4 d) os) fun e w'' => e = .returned (.bool false) ∧ ∃ q : Regrown, w'' = grow (redrawn w4 q.d) q.os := fun d os => Calls.regrown_of (by have := refRight_any x y t l (grow (redrawn w4 d) os) HY.out HT.out (by have := HL.out; omega); rwa [show decide (Rt y t l.length) = false from by simp [HR.out]] at this)
  have H4 := Lib.hid (And.intro f4 (And.intro r4 hw4))
  clear f4 r4 hw4
  go_wp2_with fail
  refine wp_region_quiet_below (by kernel_rfl) (by kernel_rfl) ?_
  repeat (go_big_quiet_step (first | with_reducible exact c5 _ _ | with_reducible exact c6 _ _))
  refine wpQuiet_nil ?_
  intro _ hw'
  obtain ⟨⟨dq, osq⟩, hw''⟩ := hw'
  subst hw''
  obtain ⟨f4, r4, hw4⟩ := H4.out
  have hg := below_regrown w4 dq osq
  have r5 := r4.below hg r4.lt
  have hw5 := below_next hw4 hg
  clear a0 a1 a2 a3 a4 a5 a6 a7 a8 a9 a10 a11 a12 a13 b0 b1 b2 b3 b4 b5 b6 b7 b8 b9 b10 b11 b12 b13 c5 c6 f4 r4 hw4 H4 hg
  generalize grow (redrawn w4 dq) osq = w5 at *
  obtain ⟨k0, k1, k2, k3, k4, k5, k6, k7, k8, k9, k10, k11, k12, k13⟩ := r5.rfCells
  have c7 := refRight_any x y t l w5 HY.out HT.out (by have := HL.out; omega)
  rw [show decide (Rt y t l.length) = false from by simp [HR.out]] at c7
  have H5 := Lib.hid hw5
  clear r5 hw5
  go_wp2_with fail
  refine c7.mono ?_
  rintro e w6 ⟨rfl, hb6⟩
  have H6 := Lib.hid (below_next H5.out hb6)
  clear H5 hb6 c7 k0 k1 k2 k3 k4 k5 k6 k7 k8 k9 k10 k11 k12 k13
  go_wp2_with fail
  go_ret
  exact ⟨rfl, H6.out⟩
end Go.Proofs.Ytfdhkbkonennjaa
