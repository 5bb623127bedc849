/- VectorOrder's call, where the second vector is better. -/
import Derived.Test.YtiifgdlifiebkaaG
namespace Go.Proofs.Ytiifgdlifiebkaa
open Go.RowKit Go.Sort

set_option maxHeartbeats 2000000 in
theorem order_gt_f (r c b p r' c' b' p' r2 c2 b2 p2 m k : Int)
    (cl : ∀ w, Calls Try.prog 7 #[vV r c b p, vV r' c' b' p'] w fun e w' => e = .returned (.bool false) ∧ Below w.heap.size w w')
    (cg : ∀ w, Calls Try.prog 7 #[vV r' c' b' p', vV r c b p] w fun e w' => e = .returned (.bool true) ∧ Below w.heap.size w w')
    (cab : ∀ w, Calls Try.prog 8 #[vV r c b p, vV r' c' b' p'] w fun e w' => e = .returned (.int .i64 1) ∧ Below w.heap.size w w')
    (cba : ∀ w, Calls Try.prog 8 #[vV r' c' b' p', vV r c b p] w fun e w' => e = .returned (.int .i64 (-1)) ∧ Below w.heap.size w w')
    (cbc : ∀ w, Calls Try.prog 8 #[vV r' c' b' p', vV r2 c2 b2 p2] w fun e w' => e = .returned (.int .i64 m) ∧ Below w.heap.size w w')
    (cac : ∀ w, Calls Try.prog 8 #[vV r c b p, vV r2 c2 b2 p2] w fun e w' => e = .returned (.int .i64 k) ∧ Below w.heap.size w w')
    (crf : ∀ w, Calls Try.prog 9 #[vV r c b p, vV r' c' b' p'] w fun e w' => e = .returned (.bool false) ∧ Below w.heap.size w w')
    (cbt : ∀ w, Calls Try.prog 10 #[vV r c b p, vV r' c' b' p'] w fun e w' => e = .returned (.bool false) ∧ Below w.heap.size w w')
    (cfr : ∀ w, Calls Try.prog 11 #[vV r c b p, vV r' c' b' p'] w fun e w' => e = .returned (.bool false) ∧ Below w.heap.size w w')
    (csu : ∀ w, Calls Try.prog 12 #[vV r c b p, vV r' c' b' p'] w fun e w' => e = .returned (.bool false) ∧ Below w.heap.size w w')
    (q : ∀ w, (Op.equalIn 10000 28 (vV r c b p) (vV r' c' b' p')).run Try.prog w = .ok false w) (w : World) :
    Calls Try.prog 3 #[vV r c b p, vV r' c' b' p', vV r2 c2 b2 p2] w fun e w' => e = .returned (.bool true) ∧ Below w.heap.size w w' := by
  have g := g28
  obtain ⟨hx, hy, hz, hB⟩ := box3 w r c b p r' c' b' p' r2 c2 b2 p2
  go_enter Try.func3, Try.ntmps3
  go_wp2_with fail
  generalize ((w.alloc (.cells (vC r c b p) 28)).alloc (.cells (vC r' c' b' p') 28)).alloc (.cells (vC r2 c2 b2 p2) 28) = W at *
  have HB := Lib.hid hB
  clear hB
  refine (lives_any _).mono ?_
  rintro e w1 ⟨rfl, hb⟩
  replace hx := hx.below hb hx.lt
  replace hy := hy.below hb hy.lt
  replace hz := hz.below hb hz.lt
  replace HB := Lib.hid (below_next HB.out hb)
  clear hb
  obtain ⟨x0, x1, x2, x3⟩ := hx.v
  obtain ⟨y0, y1, y2, y3⟩ := hy.v
  go_wp2_with fail
  refine (cl _).mono ?_
  rintro e w2 ⟨rfl, hb⟩
  clear x0 x1 x2 x3 y0 y1 y2 y3 cl
  replace hx := hx.below hb hx.lt
  replace hy := hy.below hb hy.lt
  replace hz := hz.below hb hz.lt
  replace HB := Lib.hid (below_next HB.out hb)
  clear hb
  obtain ⟨x0, x1, x2, x3⟩ := hx.v
  obtain ⟨y0, y1, y2, y3⟩ := hy.v
  go_wp2_with fail
  refine (cg _).mono ?_
  rintro e w3 ⟨rfl, hb⟩
  clear x0 x1 x2 x3 y0 y1 y2 y3 cg
  replace hx := hx.below hb hx.lt
  replace hy := hy.below hb hy.lt
  replace hz := hz.below hb hz.lt
  replace HB := Lib.hid (below_next HB.out hb)
  clear hb
  go_wp2_with fail
  have c1 : ∀ d os, Calls Try.prog 8 #[vV r c b p, vV r' c' b' p'] (grow (redrawn w3 d) os) fun e w'' => e = .returned (.int .i64 1) ∧ ∃ p : Regrown, w'' = grow (redrawn w3 p.d) p.os := fun d os => Calls.regrown_of (cab _)
  have c2' : ∀ d os, Calls Try.prog 8 #[vV r' c' b' p', vV r2 c2 b2 p2] (grow (redrawn w3 d) os) fun e w'' => e = .returned (.int .i64 m) ∧ ∃ p : Regrown, w'' = grow (redrawn w3 p.d) p.os := fun d os => Calls.regrown_of (cbc _)
  have c3 : ∀ d os, Calls Try.prog 8 #[vV r c b p, vV r2 c2 b2 p2] (grow (redrawn w3 d) os) fun e w'' => e = .returned (.int .i64 k) ∧ ∃ p : Regrown, w'' = grow (redrawn w3 p.d) p.os := fun d os => Calls.regrown_of (cac _)
  have a0 := fun d os => (hx.grown d os).v.1
  have a1 := fun d os => (hx.grown d os).v.2.1
  have a2 := fun d os => (hx.grown d os).v.2.2.1
  have a3 := fun d os => (hx.grown d os).v.2.2.2
  have b0 := fun d os => (hy.grown d os).v.1
  have b1 := fun d os => (hy.grown d os).v.2.1
  have b2' := fun d os => (hy.grown d os).v.2.2.1
  have b3 := fun d os => (hy.grown d os).v.2.2.2
  have d0 := fun d os => (hz.grown d os).v.1
  have d1 := fun d os => (hz.grown d os).v.2.1
  have d2 := fun d os => (hz.grown d os).v.2.2.1
  have d3 := fun d os => (hz.grown d os).v.2.2.2
  have HX := Lib.hid hx
  have HY := Lib.hid hy
  clear hx hy hz cab cbc cac
  refine wp_region_quiet_below (by kernel_rfl) (by kernel_rfl) ?_
  repeat (go_big_quiet_step (first | with_reducible exact c1 _ _ | with_reducible exact c2' _ _ | with_reducible exact c3 _ _))
  refine wpQuiet_nil ?_
  intro _ hw'
  obtain ⟨⟨dq, osq⟩, hw''⟩ := hw'
  clear a0 a1 a2 a3 b0 b1 b2' b3 d0 d1 d2 d3 c1 c2' c3
  have hx := HX.out.grown dq osq
  have hy := HY.out.grown dq osq
  replace HB := Lib.hid (below_next HB.out (below_regrown w3 dq osq))
  clear HX HY
  rw [hw'']
  clear hw''
  generalize grow (redrawn w3 dq) osq = w4 at *
  obtain ⟨x0, x1, x2, x3⟩ := hx.v
  obtain ⟨y0, y1, y2, y3⟩ := hy.v
  go_wp2_with fail
  refine (crf _).mono ?_
  rintro e w5 ⟨rfl, hb⟩
  clear x0 x1 x2 x3 y0 y1 y2 y3 crf
  replace hx := hx.below hb hx.lt
  replace hy := hy.below hb hy.lt
  replace HB := Lib.hid (below_next HB.out hb)
  clear hb
  obtain ⟨x0, x1, x2, x3⟩ := hx.v
  obtain ⟨y0, y1, y2, y3⟩ := hy.v
  go_wp2_with fail
  refine (cba _).mono ?_
  rintro e w6 ⟨rfl, hb⟩
  clear x0 x1 x2 x3 y0 y1 y2 y3 cba
  replace hx := hx.below hb hx.lt
  replace hy := hy.below hb hy.lt
  replace HB := Lib.hid (below_next HB.out hb)
  clear hb
  obtain ⟨x0, x1, x2, x3⟩ := hx.v
  obtain ⟨y0, y1, y2, y3⟩ := hy.v
  go_wp2_with fail
  refine (cbt _).mono ?_
  rintro e w7 ⟨rfl, hb⟩
  clear x0 x1 x2 x3 y0 y1 y2 y3 cbt
  replace hx := hx.below hb hx.lt
  replace hy := hy.below hb hy.lt
  replace HB := Lib.hid (below_next HB.out hb)
  clear hb
  obtain ⟨x0, x1, x2, x3⟩ := hx.v
  obtain ⟨y0, y1, y2, y3⟩ := hy.v
  go_wp2_with fail
  refine (cfr _).mono ?_
  rintro e w8 ⟨rfl, hb⟩
  clear x0 x1 x2 x3 y0 y1 y2 y3 cfr
  replace hx := hx.below hb hx.lt
  replace hy := hy.below hb hy.lt
  replace HB := Lib.hid (below_next HB.out hb)
  clear hb
  obtain ⟨x0, x1, x2, x3⟩ := hx.v
  obtain ⟨y0, y1, y2, y3⟩ := hy.v
  go_wp2_with fail
  refine (csu _).mono ?_
  rintro e w9 ⟨rfl, hb⟩
  clear x0 x1 x2 x3 y0 y1 y2 y3 csu
  replace hx := hx.below hb hx.lt
  replace hy := hy.below hb hy.lt
  replace HB := Lib.hid (below_next HB.out hb)
  clear hb
  obtain ⟨x0, x1, x2, x3⟩ := hx.v
  obtain ⟨y0, y1, y2, y3⟩ := hy.v
  go_wp2
  go_ret
  exact ⟨rfl, HB.out⟩
set_option maxHeartbeats 2000000 in
theorem order_gt_t (r c b p r' c' b' p' r2 c2 b2 p2 m k : Int)
    (cl : ∀ w, Calls Try.prog 7 #[vV r c b p, vV r' c' b' p'] w fun e w' => e = .returned (.bool false) ∧ Below w.heap.size w w')
    (cg : ∀ w, Calls Try.prog 7 #[vV r' c' b' p', vV r c b p] w fun e w' => e = .returned (.bool true) ∧ Below w.heap.size w w')
    (cab : ∀ w, Calls Try.prog 8 #[vV r c b p, vV r' c' b' p'] w fun e w' => e = .returned (.int .i64 1) ∧ Below w.heap.size w w')
    (cba : ∀ w, Calls Try.prog 8 #[vV r' c' b' p', vV r c b p] w fun e w' => e = .returned (.int .i64 (-1)) ∧ Below w.heap.size w w')
    (cbc : ∀ w, Calls Try.prog 8 #[vV r' c' b' p', vV r2 c2 b2 p2] w fun e w' => e = .returned (.int .i64 m) ∧ Below w.heap.size w w')
    (cac : ∀ w, Calls Try.prog 8 #[vV r c b p, vV r2 c2 b2 p2] w fun e w' => e = .returned (.int .i64 k) ∧ Below w.heap.size w w')
    (crf : ∀ w, Calls Try.prog 9 #[vV r c b p, vV r' c' b' p'] w fun e w' => e = .returned (.bool true) ∧ Below w.heap.size w w')
    (cbt : ∀ w, Calls Try.prog 10 #[vV r c b p, vV r' c' b' p'] w fun e w' => e = .returned (.bool false) ∧ Below w.heap.size w w')
    (cfr : ∀ w, Calls Try.prog 11 #[vV r c b p, vV r' c' b' p'] w fun e w' => e = .returned (.bool true) ∧ Below w.heap.size w w')
    (csu : ∀ w, Calls Try.prog 12 #[vV r c b p, vV r' c' b' p'] w fun e w' => e = .returned (.bool true) ∧ Below w.heap.size w w')
    (q : ∀ w, (Op.equalIn 10000 28 (vV r c b p) (vV r' c' b' p')).run Try.prog w = .ok false w) (w : World) :
    Calls Try.prog 3 #[vV r c b p, vV r' c' b' p', vV r2 c2 b2 p2] w fun e w' => e = .returned (.bool true) ∧ Below w.heap.size w w' := by
  have g := g28
  obtain ⟨hx, hy, hz, hB⟩ := box3 w r c b p r' c' b' p' r2 c2 b2 p2
  go_enter Try.func3, Try.ntmps3
  go_wp2_with fail
  generalize ((w.alloc (.cells (vC r c b p) 28)).alloc (.cells (vC r' c' b' p') 28)).alloc (.cells (vC r2 c2 b2 p2) 28) = W at *
  have HB := Lib.hid hB
  clear hB
  refine (lives_any _).mono ?_
  rintro e w1 ⟨rfl, hb⟩
  replace hx := hx.below hb hx.lt
  replace hy := hy.below hb hy.lt
  replace hz := hz.below hb hz.lt
  replace HB := Lib.hid (below_next HB.out hb)
  clear hb
  obtain ⟨x0, x1, x2, x3⟩ := hx.v
  obtain ⟨y0, y1, y2, y3⟩ := hy.v
  go_wp2_with fail
  refine (cl _).mono ?_
  rintro e w2 ⟨rfl, hb⟩
  clear x0 x1 x2 x3 y0 y1 y2 y3 cl
  replace hx := hx.below hb hx.lt
  replace hy := hy.below hb hy.lt
  replace hz := hz.below hb hz.lt
  replace HB := Lib.hid (below_next HB.out hb)
  clear hb
  obtain ⟨x0, x1, x2, x3⟩ := hx.v
  obtain ⟨y0, y1, y2, y3⟩ := hy.v
  go_wp2_with fail
  refine (cg _).mono ?_
  rintro e w3 ⟨rfl, hb⟩
  clear x0 x1 x2 x3 y0 y1 y2 y3 cg
  replace hx := hx.below hb hx.lt
  replace hy := hy.below hb hy.lt
  replace hz := hz.below hb hz.lt
  replace HB := Lib.hid (below_next HB.out hb)
  clear hb
  go_wp2_with fail
  have c1 : ∀ d os, Calls Try.prog 8 #[vV r c b p, vV r' c' b' p'] (grow (redrawn w3 d) os) fun e w'' => e = .returned (.int .i64 1) ∧ ∃ p : Regrown, w'' = grow (redrawn w3 p.d) p.os := fun d os => Calls.regrown_of (cab _)
  have c2' : ∀ d os, Calls Try.prog 8 #[vV r' c' b' p', vV r2 c2 b2 p2] (grow (redrawn w3 d) os) fun e w'' => e = .returned (.int .i64 m) ∧ ∃ p : Regrown, w'' = grow (redrawn w3 p.d) p.os := fun d os => Calls.regrown_of (cbc _)
  have c3 : ∀ d os, Calls Try.prog 8 #[vV r c b p, vV r2 c2 b2 p2] (grow (redrawn w3 d) os) fun e w'' => e = .returned (.int .i64 k) ∧ ∃ p : Regrown, w'' = grow (redrawn w3 p.d) p.os := fun d os => Calls.regrown_of (cac _)
  have a0 := fun d os => (hx.grown d os).v.1
  have a1 := fun d os => (hx.grown d os).v.2.1
  have a2 := fun d os => (hx.grown d os).v.2.2.1
  have a3 := fun d os => (hx.grown d os).v.2.2.2
  have b0 := fun d os => (hy.grown d os).v.1
  have b1 := fun d os => (hy.grown d os).v.2.1
  have b2' := fun d os => (hy.grown d os).v.2.2.1
  have b3 := fun d os => (hy.grown d os).v.2.2.2
  have d0 := fun d os => (hz.grown d os).v.1
  have d1 := fun d os => (hz.grown d os).v.2.1
  have d2 := fun d os => (hz.grown d os).v.2.2.1
  have d3 := fun d os => (hz.grown d os).v.2.2.2
  have HX := Lib.hid hx
  have HY := Lib.hid hy
  clear hx hy hz cab cbc cac
  refine wp_region_quiet_below (by kernel_rfl) (by kernel_rfl) ?_
  repeat (go_big_quiet_step (first | with_reducible exact c1 _ _ | with_reducible exact c2' _ _ | with_reducible exact c3 _ _))
  refine wpQuiet_nil ?_
  intro _ hw'
  obtain ⟨⟨dq, osq⟩, hw''⟩ := hw'
  clear a0 a1 a2 a3 b0 b1 b2' b3 d0 d1 d2 d3 c1 c2' c3
  have hx := HX.out.grown dq osq
  have hy := HY.out.grown dq osq
  replace HB := Lib.hid (below_next HB.out (below_regrown w3 dq osq))
  clear HX HY
  rw [hw'']
  clear hw''
  generalize grow (redrawn w3 dq) osq = w4 at *
  obtain ⟨x0, x1, x2, x3⟩ := hx.v
  obtain ⟨y0, y1, y2, y3⟩ := hy.v
  go_wp2_with fail
  refine (crf _).mono ?_
  rintro e w5 ⟨rfl, hb⟩
  clear x0 x1 x2 x3 y0 y1 y2 y3 crf
  replace hx := hx.below hb hx.lt
  replace hy := hy.below hb hy.lt
  replace HB := Lib.hid (below_next HB.out hb)
  clear hb
  obtain ⟨x0, x1, x2, x3⟩ := hx.v
  obtain ⟨y0, y1, y2, y3⟩ := hy.v
  go_wp2_with fail
  refine (cba _).mono ?_
  rintro e w6 ⟨rfl, hb⟩
  clear x0 x1 x2 x3 y0 y1 y2 y3 cba
  replace hx := hx.below hb hx.lt
  replace hy := hy.below hb hy.lt
  replace HB := Lib.hid (below_next HB.out hb)
  clear hb
  obtain ⟨x0, x1, x2, x3⟩ := hx.v
  obtain ⟨y0, y1, y2, y3⟩ := hy.v
  go_wp2_with fail
  refine (cbt _).mono ?_
  rintro e w7 ⟨rfl, hb⟩
  clear x0 x1 x2 x3 y0 y1 y2 y3 cbt
  replace hx := hx.below hb hx.lt
  replace hy := hy.below hb hy.lt
  replace HB := Lib.hid (below_next HB.out hb)
  clear hb
  obtain ⟨x0, x1, x2, x3⟩ := hx.v
  obtain ⟨y0, y1, y2, y3⟩ := hy.v
  go_wp2_with fail
  refine (cfr _).mono ?_
  rintro e w8 ⟨rfl, hb⟩
  clear x0 x1 x2 x3 y0 y1 y2 y3 cfr
  replace hx := hx.below hb hx.lt
  replace hy := hy.below hb hy.lt
  replace HB := Lib.hid (below_next HB.out hb)
  clear hb
  obtain ⟨x0, x1, x2, x3⟩ := hx.v
  obtain ⟨y0, y1, y2, y3⟩ := hy.v
  go_wp2_with fail
  refine (csu _).mono ?_
  rintro e w9 ⟨rfl, hb⟩
  clear x0 x1 x2 x3 y0 y1 y2 y3 csu
  replace hx := hx.below hb hx.lt
  replace hy := hy.below hb hy.lt
  replace HB := Lib.hid (below_next HB.out hb)
  clear hb
  obtain ⟨x0, x1, x2, x3⟩ := hx.v
  obtain ⟨y0, y1, y2, y3⟩ := hy.v
  go_wp2
  go_ret
  exact ⟨rfl, HB.out⟩
end Go.Proofs.Ytiifgdlifiebkaa
