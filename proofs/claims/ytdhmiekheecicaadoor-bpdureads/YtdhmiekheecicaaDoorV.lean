/- BpduBytes' whole call. -/
import Derived.Test.YtdhmiekheecicaaDoorU
import Derived.Test.YtdhmiekheecicaaDoorM
namespace Go.Proofs.YtdhmiekheecicaaDoor
open Go.RowKit Go.Sort Go.Lib

theorem bts_len {w : World} {B : Nat} {v : Value} {l : List UInt8} (h : Bts w B v l) : ∃ p cap, v = .slice p l.length cap ∧ l.length ≤ 9223372036854775807 := by
  obtain ⟨h1, p, cap, h2, _⟩ := bts_parts h
  exact ⟨p, cap, h2, Nat.le_trans h1 (by unfold maxLen; omega)⟩
theorem VarAt.grown' {w : World} {b : Nat} {xs : Array Value} {t : TypeId} (h : VarAt w b xs t) (d : Nat) (os : Array Obj) : VarAt (grow (redrawn w d) os) b xs t := h.below (below_regrown w d os) h.lt
set_option maxHeartbeats 2000000 in
theorem bbytes_long (k f r c b p a m h d : Int) (v : Value) (l : List UInt8) (w : World) (hv : Bts w w.heap.size v l) (hl : 200 < l.length) (he : Env w) :
    Calls Tryd.prog 3 #[bpV k f r c b p a m h d, v] w fun e w' => e = .returned (.bool true) ∧ Below w.heap.size w w' := by
  obtain ⟨p0, cap, rfl, hn⟩ := bts_len hv
  have hb0 := box_below w (.cells (bpC k f r c b p a m h d) 31)
  have c1 := lives_ok _ (he.below hb0)
  have HE := Lib.hid (he.below hb0)
  have HB0 := Lib.hid hb0
  clear hv he hb0
  have hl2 : decide ((l.length : Int) > 200) = true := by simp; omega
  clear hl
  go_enter Tryd.func3, Tryd.ntmps3
  go_wp2_with fail
  refine c1.mono ?_
  rintro e w1 ⟨rfl, hb1⟩
  have c2 := lives_ok w1 (HE.out.below hb1)
  have HB1 := Lib.hid (below_next HB0.out hb1)
  clear c1 hb1
  go_wp2_with fail
  refine c2.mono ?_
  rintro e w2 ⟨rfl, hb2⟩
  have HB2 := Lib.hid (below_next HB1.out hb2)
  clear c2 hb2
  go_wp2_with fail
  go_ret
  exact ⟨rfl, HB2.out⟩

set_option maxHeartbeats 4000000 in
theorem bbytes_not (k : Int) (f : Nat) (r c b p a m h d : Int) (hf : f < 256) (hR : rightB k f r c b p a m h d = false) (v : Value) (l : List UInt8) (w : World) (hv : Bts w w.heap.size v l) (hl : ¬ 200 < l.length) (he : Env w) :
    Calls Tryd.prog 3 #[bpV k f r c b p a m h d, v] w fun e w' => e = .returned (.bool true) ∧ Below w.heap.size w w' := by
  obtain ⟨p0, cap, rfl, hn⟩ := bts_len hv
  have hb0 := box_below w (.cells (bpC k f r c b p a m h d) 31)
  have x0 := var_new w (bpC k f r c b p a m h d) 31
  have c1 := lives_ok _ (he.below hb0)
  have HE := Lib.hid (he.below hb0)
  have HB0 := Lib.hid hb0
  have X0 := Lib.hid x0
  have HV := Lib.hid hv
  clear hv he hb0 x0
  have hl2 : decide ((l.length : Int) > 200) = false := by simp; omega
  go_enter Tryd.func3, Tryd.ntmps3
  go_wp2_with fail
  refine c1.mono ?_
  rintro e w1 ⟨rfl, hb1⟩
  have HB1 := Lib.hid (below_next HB0.out hb1)
  have x1 := X0.out.below hb1 X0.out.lt
  obtain ⟨k0, k1, k2, k3, k4, k5, k6, k7, k8, k9⟩ := x1.bp
  have X1 := Lib.hid x1
  have HE1 := Lib.hid (HE.out.below hb1)
  clear c1 hb1 x1 HE X0 HB0
  have c2 := bytes_not k f r c b p a m h d hf hR w1 HE1.out
  go_wp2_with fail
  refine c2.mono ?_
  rintro e w2 ⟨rfl, hb2⟩
  have HB2 := Lib.hid (below_next HB1.out hb2)
  have X2 := Lib.hid (X1.out.below hb2 X1.out.lt)
  have HE2 := Lib.hid (HE1.out.below hb2)
  clear c2 hb2 X1 HE1 HB1 HV
  have fa0 : ∀ d' os, (grow (redrawn w2 d') os).cell? ⟨w.heap.size, 0, none⟩ = some (.int .i64 k) := fun d' os => (VarAt.grown' X2.out d' os).cell 0
  have fa1 : ∀ d' os, (grow (redrawn w2 d') os).cell? ⟨w.heap.size, 1, none⟩ = some (.int .u8 f) := fun d' os => (VarAt.grown' X2.out d' os).cell 1
  have fa2 : ∀ d' os, (grow (redrawn w2 d') os).cell? ⟨w.heap.size, 2, none⟩ = some (.int .u64 r) := fun d' os => (VarAt.grown' X2.out d' os).cell 2
  have fa3 : ∀ d' os, (grow (redrawn w2 d') os).cell? ⟨w.heap.size, 3, none⟩ = some (.int .u32 c) := fun d' os => (VarAt.grown' X2.out d' os).cell 3
  have fa4 : ∀ d' os, (grow (redrawn w2 d') os).cell? ⟨w.heap.size, 4, none⟩ = some (.int .u64 b) := fun d' os => (VarAt.grown' X2.out d' os).cell 4
  have fa5 : ∀ d' os, (grow (redrawn w2 d') os).cell? ⟨w.heap.size, 5, none⟩ = some (.int .u16 p) := fun d' os => (VarAt.grown' X2.out d' os).cell 5
  have fa6 : ∀ d' os, (grow (redrawn w2 d') os).cell? ⟨w.heap.size, 6, none⟩ = some (.int .u16 a) := fun d' os => (VarAt.grown' X2.out d' os).cell 6
  have fa7 : ∀ d' os, (grow (redrawn w2 d') os).cell? ⟨w.heap.size, 7, none⟩ = some (.int .u16 m) := fun d' os => (VarAt.grown' X2.out d' os).cell 7
  have fa8 : ∀ d' os, (grow (redrawn w2 d') os).cell? ⟨w.heap.size, 8, none⟩ = some (.int .u16 h) := fun d' os => (VarAt.grown' X2.out d' os).cell 8
  have fa9 : ∀ d' os, (grow (redrawn w2 d') os).cell? ⟨w.heap.size, 9, none⟩ = some (.int .u16 d) := fun d' os => (VarAt.grown' X2.out d' os).cell 9
  have c3 : ∀ d' os, Calls Tryd.prog 8 #[bpV k f r c b p a m h d] (grow (redrawn w2 d') os) fun e w'' => e = .returned (.bool (rightB k f r c b p a m h d)) ∧ ∃ q : Regrown, w'' = grow (redrawn w2 q.d) q.os := fun d' os => Calls.regrown_of (right_any k f r c b p a m h d hf _ (HE2.out.below (below_regrown w2 d' os)))
  have c4 : ∀ d' os, Calls Tryd.prog 9 #[bpV k f r c b p a m h d] (grow (redrawn w2 d') os) fun e w'' => e = .returned (.bool (rightB k f r c b p a m h d)) ∧ ∃ q : Regrown, w'' = grow (redrawn w2 q.d) q.os := fun d' os => Calls.regrown_of (refRight_any k f r c b p a m h d hf _)
  rw [hR] at c3 c4
  clear k0 k1 k2 k3 k4 k5 k6 k7 k8 k9
  go_wp2_with fail
  refine wp_region_quiet_below (by kernel_rfl) (by kernel_rfl) ?_
  repeat (go_big_quiet_step (first | with_reducible exact c3 _ _ | with_reducible exact c4 _ _))
  refine wpQuiet_nil ?_
  intro _ hw'
  obtain ⟨⟨dq, osq⟩, hw''⟩ := hw'
  subst hw''
  have b3 := below_regrown w2 dq osq
  generalize grow (redrawn w2 dq) osq = w3 at *
  have X3 := Lib.hid (X2.out.below b3 X2.out.lt)
  have HB3 := Lib.hid (below_next HB2.out b3)
  clear fa0 fa1 fa2 fa3 fa4 fa5 fa6 fa7 fa8 fa9 c3 c4
  obtain ⟨k0, k1, k2, k3, k4, k5, k6, k7, k8, k9⟩ := X3.out.bp
  have c5 := refRight_any k f r c b p a m h d hf w3
  rw [hR] at c5
  go_wp2_with fail
  refine c5.mono ?_
  rintro e w4 ⟨rfl, b4⟩
  clear c5 k0 k1 k2 k3 k4 k5 k6 k7 k8 k9
  have HB4 := Lib.hid (below_next HB3.out b4)
  clear b4 HB3 b3 X3 X2 HE2 HB2
  go_wp2_with fail
  go_ret
  exact ⟨rfl, HB4.out⟩
end Go.Proofs.YtdhmiekheecicaaDoor
