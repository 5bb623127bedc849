/- EtherBytes: one arm. -/
import Derived.Test.YtfdhkbkonennjaaS
namespace Go.Proofs.Ytfdhkbkonennjaa
open Go.RowKit Go.Sort

set_option maxRecDepth 20000 in
set_option maxHeartbeats 40000000 in
theorem ebytesL (x y : Nat → Nat) (t : Nat) (v : Value) (l : List UInt8) (w : World) (hx : ∀ i, x i < 256) (hy : ∀ i, y i < 256) (ht : t < 65536) (hv : Bts w w.heap.size v l) (hl : l.length ≤ 2000) (hr0 : Rt y t l.length) (hc : t ≠ 0 ∧ 46 ≤ l.length) :
    Calls Try.prog 3 #[frV x y t v] w fun e w' => e = .returned (.bool true) ∧ Below w.heap.size w w' := by
  obtain ⟨p, cap, rfl, hlen⟩ := bts_len hv
  have HF0 := Lib.hid (var_new w (frC x y t (.slice p l.length cap)) 27)
  have HB0 := Lib.hid (box_below w (.cells (frC x y t (.slice p l.length cap)) 27))
  have HV := Lib.hid hv
  have HX := Lib.hid hx
  have HY := Lib.hid hy
  have hlI : (l.length : Int) ≤ 2000 := by omega
  have HL := Lib.hid hl
  have HT := Lib.hid ht
  clear hv hx hy hl hlen ht
  go_enter Try.func3, Try.ntmps3
  go_wp2_with fail
  refine (lives_any _).mono ?_
  rintro e w1 ⟨rfl, hb1⟩
  have f1 := HF0.out.below hb1 HF0.out.lt
  have hw1 := below_next HB0.out hb1
  obtain ⟨k0, k1, k2, k3, k4, k5, k6, k7, k8, k9, k10, k11, k12, k13⟩ := f1.frCells
  have HF1 := Lib.hid f1
  have HB1 := Lib.hid hw1
  have c2 := plain_any x y t _ l w.heap.size w1 HT.out (HV.out.below hw1 (Nat.le_refl _)) hw1.size
  clear f1 hw1 hb1 HF0 HB0
  go_wp2_with fail
  refine c2.mono ?_
  rintro e w2 ⟨rfl, hb2⟩
  clear k0 k1 k2 k3 k4 k5 k6 k7 k8 k9 k10 k11 k12 k13 c2
  have f2 := (HF1.out.below hb2 HF1.out.lt).alloc (.cells (rfC x y t l) 30)
  have r2 := var_new w2 (rfC x y t l) 30
  have hw2 := (below_next HB1.out hb2).alloc (below_next HB1.out hb2).size (.cells (rfC x y t l) 30)
  have s2 := f2.lt
  have hb1lt : w.heap.size < w2.heap.size := Nat.lt_of_lt_of_le HF1.out.lt hb2.size
  obtain ⟨k0, k1, k2, k3, k4, k5, k6, k7, k8, k9, k10, k11, k12, k13⟩ := f2.frCells
  have H2 := Lib.hid (And.intro f2 (And.intro r2 hw2))
  have HV2 := Lib.hid (HV.out.below hw2 (Nat.le_refl _))
  have hsz := hw2.size
  by_cases hr : Rt y t l.length
  · have c3 := ebytes_ok x y t _ l w.heap.size _ HX.out HY.out HT.out HV2.out hsz hr
    have HR := Lib.hid hr
    clear f2 r2 hw2 hb2 HF1 HB1 s2 hr hsz HV2
    go_wp2_with fail
    refine c3.mono ?_
    rintro e w4 ⟨vb, rfl, hbb, hfar, hb4⟩
    obtain ⟨f2, r2, hw2⟩ := H2.out
    have f4 := f2.below hb4 f2.lt
    have r4 := r2.below hb4 r2.lt
    have hw4 := below_next hw2 hb4
    obtain ⟨pb, capb, rfl, -⟩ := bts_len hbb
    have HFAR := Lib.hid (show Far (w2.heap.size + 1) (.slice pb (frB x y t l).length capb) from fun a n c h => by have := hfar a n c h; rwa [alloc_size] at this)
    clear hfar
    generalize hbx : w2.heap.size = bx at *
    clear k0 k1 k2 k3 k4 k5 k6 k7 k8 k9 k10 k11 k12 k13 f2 r2 hw2 H2 c3 hb4 hbx
    have a0 : ∀ d os, (grow (redrawn w4 d) os).cell? ⟨w.heap.size, 0, none⟩ = some (.int .u8 (x 0)) := fun d os => (VarAt.grown f4 d os).cell 0
    have a1 : ∀ d os, (grow (redrawn w4 d) os).cell? ⟨w.heap.size, 1, none⟩ = some (.int .u8 (x 1)) := fun d os => (VarAt.grown f4 d os).cell 1
    have a2 : ∀ d os, (grow (redrawn w4 d) os).cell? ⟨w.heap.size, 2, none⟩ = some (.int .u8 (x 2)) := fun d os => (VarAt.grown f4 d os).cell 2
    have a3 : ∀ d os, (grow (redrawn w4 d) os).cell? ⟨w.heap.size, 3, none⟩ = some (.int .u8 (x 3)) := fun d os => (VarAt.grown f4 d os).cell 3
    have a4 : ∀ d os, (grow (redrawn w4 d) os).cell? ⟨w.heap.size, 4, none⟩ = some (.int .u8 (x 4)) := fun d os => (VarAt.grown f4 d os).cell 4
    have a5 : ∀ d os, (grow (redrawn w4 d) os).cell? ⟨w.heap.size, 5, none⟩ = some (.int .u8 (x 5)) := fun d os => (VarAt.grown f4 d os).cell 5
    have a6 : ∀ d os, (grow (redrawn w4 d) os).cell? ⟨w.heap.size, 6, none⟩ = some (.int .u8 (y 0)) := fun d os => (VarAt.grown f4 d os).cell 6
    have a7 : ∀ d os, (grow (redrawn w4 d) os).cell? ⟨w.heap.size, 7, none⟩ = some (.int .u8 (y 1)) := fun d os => (VarAt.grown f4 d os).cell 7
    have a8 : ∀ d os, (grow (redrawn w4 d) os).cell? ⟨w.heap.size, 8, none⟩ = some (.int .u8 (y 2)) := fun d os => (VarAt.grown f4 d os).cell 8
    have a9 : ∀ d os, (grow (redrawn w4 d) os).cell? ⟨w.heap.size, 9, none⟩ = some (.int .u8 (y 3)) := fun d os => (VarAt.grown f4 d os).cell 9
    have a10 : ∀ d os, (grow (redrawn w4 d) os).cell? ⟨w.heap.size, 10, none⟩ = some (.int .u8 (y 4)) := fun d os => (VarAt.grown f4 d os).cell 10
    have a11 : ∀ d os, (grow (redrawn w4 d) os).cell? ⟨w.heap.size, 11, none⟩ = some (.int .u8 (y 5)) := fun d os => (VarAt.grown f4 d os).cell 11
    have a12 : ∀ d os, (grow (redrawn w4 d) os).cell? ⟨w.heap.size, 12, none⟩ = some (.int .u16 t) := fun d os => (VarAt.grown f4 d os).cell 12
    have a13 : ∀ d os, (grow (redrawn w4 d) os).cell? ⟨w.heap.size, 13, none⟩ = some (.slice p l.length cap) := fun d os => (VarAt.grown f4 d os).cell 13
    have b0 : ∀ d os, (grow (redrawn w4 d) os).cell? ⟨bx, 0, none⟩ = some (.int .u8 (x 0)) := fun d os => (VarAt.grown r4 d os).cell 0
    have b1 : ∀ d os, (grow (redrawn w4 d) os).cell? ⟨bx, 1, none⟩ = some (.int .u8 (x 1)) := fun d os => (VarAt.grown r4 d os).cell 1
    have b2 : ∀ d os, (grow (redrawn w4 d) os).cell? ⟨bx, 2, none⟩ = some (.int .u8 (x 2)) := fun d os => (VarAt.grown r4 d os).cell 2
    have b3 : ∀ d os, (grow (redrawn w4 d) os).cell? ⟨bx, 3, none⟩ = some (.int .u8 (x 3)) := fun d os => (VarAt.grown r4 d os).cell 3
    have b4 : ∀ d os, (grow (redrawn w4 d) os).cell? ⟨bx, 4, none⟩ = some (.int .u8 (x 4)) := fun d os => (VarAt.grown r4 d os).cell 4
    have b5 : ∀ d os, (grow (redrawn w4 d) os).cell? ⟨bx, 5, none⟩ = some (.int .u8 (x 5)) := fun d os => (VarAt.grown r4 d os).cell 5
    have b6 : ∀ d os, (grow (redrawn w4 d) os).cell? ⟨bx, 6, none⟩ = some (.int .u8 (y 0)) := fun d os => (VarAt.grown r4 d os).cell 6
    have b7 : ∀ d os, (grow (redrawn w4 d) os).cell? ⟨bx, 7, none⟩ = some (.int .u8 (y 1)) := fun d os => (VarAt.grown r4 d os).cell 7
    have b8 : ∀ d os, (grow (redrawn w4 d) os).cell? ⟨bx, 8, none⟩ = some (.int .u8 (y 2)) := fun d os => (VarAt.grown r4 d os).cell 8
    have b9 : ∀ d os, (grow (redrawn w4 d) os).cell? ⟨bx, 9, none⟩ = some (.int .u8 (y 3)) := fun d os => (VarAt.grown r4 d os).cell 9
    have b10 : ∀ d os, (grow (redrawn w4 d) os).cell? ⟨bx, 10, none⟩ = some (.int .u8 (y 4)) := fun d os => (VarAt.grown r4 d os).cell 10
    have b11 : ∀ d os, (grow (redrawn w4 d) os).cell? ⟨bx, 11, none⟩ = some (.int .u8 (y 5)) := fun d os => (VarAt.grown r4 d os).cell 11
    have b12 : ∀ d os, (grow (redrawn w4 d) os).cell? ⟨bx, 12, none⟩ = some (.int .i64 t) := fun d os => (VarAt.grown r4 d os).cell 12
    have b13 : ∀ d os, (grow (redrawn w4 d) os).cell? ⟨bx, 13, none⟩ = some (strV l) := fun d os => (VarAt.grown r4 d os).cell 13
    have c5 : ∀ d os, Calls Try.prog 9 #[frV x y t (.slice p l.length cap)] (grow (redrawn w4 d) os) fun e w'' => e = .returned (.bool true) ∧ ∃ q : Regrown, w'' = grow (redrawn w4 q.d) q.os := fun d os => Calls.regrown_of (by have := right_any x y t p l.length cap (grow (redrawn w4 d) os) HT.out (by have := HL.out; omega); rwa [show decide (Rt y t l.length) = true from by simp [HR.out]] at this)
    have c6 : ∀ d os, Calls Try.prog 10 #[rfV x y t l] (grow (redrawn w4 d) os) fun e w'' => e = .returned (.bool true) ∧ ∃ q : Regrown, w'' = grow (redrawn w4 q.d) q.os := fun d os => Calls.regrown_of (by have := refRight_any x y t l (grow (redrawn w4 d) os) HY.out HT.out (by have := HL.out; omega); rwa [show decide (Rt y t l.length) = true from by simp [HR.out]] at this)
    have H4 := Lib.hid (And.intro f4 (And.intro r4 (And.intro hw4 hbb)))
    clear f4 r4 hw4 hbb
    go_wp2_with fail
    refine wp_region_quiet_below (by kernel_rfl) (by kernel_rfl) ?_
    repeat (go_big_quiet_step (first | with_reducible exact c5 _ _ | with_reducible exact c6 _ _))
    refine wpQuiet_nil ?_
    intro _ hw'
    obtain ⟨⟨dq, osq⟩, hw''⟩ := hw'
    subst hw''
    obtain ⟨f4, r4, hw4, hbb⟩ := H4.out
    have hg := below_regrown w4 dq osq
    have f5 := f4.below hg f4.lt
    have r5 := r4.below hg r4.lt
    have hw5 := below_next hw4 hg
    have bb5 := (hbb.below hg (Nat.le_refl _)).mono hg.size
    clear a0 a1 a2 a3 a4 a5 a6 a7 a8 a9 a10 a11 a12 a13 b0 b1 b2 b3 b4 b5 b6 b7 b8 b9 b10 b11 b12 b13 c5 c6 f4 r4 hw4 hbb H4 hg
    generalize grow (redrawn w4 dq) osq = w5 at *
    obtain ⟨k0, k1, k2, k3, k4, k5, k6, k7, k8, k9, k10, k11, k12, k13⟩ := r5.rfCells
    have c7 := refRight_any x y t l w5 HY.out HT.out (by have := HL.out; omega)
    rw [show decide (Rt y t l.length) = true from by simp [HR.out]] at c7
    have H5 := Lib.hid (And.intro f5 (And.intro r5 (And.intro hw5 bb5)))
    clear f5 r5 hw5 bb5
    go_wp2_with fail
    refine c7.mono ?_
    rintro e w6 ⟨rfl, hb6⟩
    obtain ⟨f5, r5, hw5, bb5⟩ := H5.out
    have f6 := f5.below hb6 f5.lt
    have r6 := r5.below hb6 r5.lt
    have hw6 := below_next hw5 hb6
    have bb6 := (bb5.below hb6 (Nat.le_refl _)).mono hb6.size
    clear k0 k1 k2 k3 k4 k5 k6 k7 k8 k9 k10 k11 k12 k13 f5 r5 hw5 bb5 H5 hb6 c7
    have c8 := eread_ok _ _ w6 bb6 (frB_err HY.out HT.out HR.out)
    rw [frB_typ HT.out HR.out, frB_body HT.out HR.out] at c8
    have H6 := Lib.hid (And.intro f6 (And.intro r6 (And.intro hw6 bb6)))
    clear f6 r6 hw6 bb6
    go_wp2_with fail
    refine c8.mono ?_
    rintro e w7 ⟨bv, he, bt7, -, hb7⟩
    rw [frB_fr HX.out HY.out] at he
    subst he
    obtain ⟨f6, r6, hw6, bb6⟩ := H6.out
    have f7 := f6.below hb7 f6.lt
    have r7 := r6.below hb7 r6.lt
    have hw7 := below_next hw6 hb7
    have bb7 := (bb6.below hb7 (Nat.le_refl _)).mono hb7.size
    obtain ⟨pv, capv, rfl, -⟩ := bts_len bt7
    have hg7 := box_below w7 (.cells (frC x y t (.slice pv (gotB t l).length capv)) 27)
    have c9 := plain_any x y t _ (gotB t l) w7.heap.size _ HT.out (bt7.below hg7 (Nat.le_refl _)) hg7.size
    have f8 := f7.below hg7 f7.lt
    have r8 := r7.below hg7 r7.lt
    have hw8 := below_next hw7 hg7
    have bb8 := (bb7.below hg7 (Nat.le_refl _)).mono hg7.size
    have H8 := Lib.hid (And.intro f8 (And.intro r8 (And.intro hw8 bb8)))
    clear f6 r6 hw6 bb6 f7 r7 hw7 bb7 hb7 bt7 hg7 f8 r8 hw8 bb8 H6 c8
    go_wp2_with fail
    refine c9.mono ?_
    rintro e w9 ⟨rfl, hb9⟩
    obtain ⟨f8, r8, hw8, bb8⟩ := H8.out
    have hxb3 : bx < w9.heap.size := Nat.lt_of_lt_of_le r8.lt hb9.size
    have q9 := box_below w9 (.cells (rfC x y t (gotB t l)) 30)
    have g9 := var_new w9 (rfC x y t (gotB t l)) 30
    have fa := (f8.below hb9 f8.lt).alloc (.cells (rfC x y t (gotB t l)) 30)
    have ra := (r8.below hb9 r8.lt).alloc (.cells (rfC x y t (gotB t l)) 30)
    have hwa := below_next (below_next hw8 hb9) q9
    have bba := (((bb8.below hb9 (Nat.le_refl _)).mono hb9.size).below q9 (Nat.le_refl _)).mono q9.size
    have k12 : (w9.alloc (.cells (rfC x y t (gotB t l)) 30)).cell? ⟨w.heap.size, 12, none⟩ = some (.int .u16 t) := fa.cell 12
    have k13 : (w9.alloc (.cells (rfC x y t (gotB t l)) 30)).cell? ⟨w.heap.size, 13, none⟩ = some (.slice p l.length cap) := fa.cell 13
    have HA := Lib.hid (And.intro fa (And.intro ra (And.intro g9 (And.intro hwa bba))))
    clear f8 r8 hw8 bb8 q9 g9 fa ra hwa bba hb9 H8 c9
    clear hlI
    by_cases h0 : (t : Int) = 0
    · exact absurd h0 (by omega)
    by_cases h1 : (46 : Int) ≤ l.length
    · have eg := Lib.hid (show gotB t l = l by unfold gotB; rw [if_neg (by omega), show 46 - l.length = 0 by omega]; simp)
      have tn : ((t : Int) != 0) = true := by simp; omega
      have t46 : decide ((l.length : Int) < 46) = false := by simp; omega
      clear h0 h1
      go_wp2_with fail
      obtain ⟨fz, rz, gz, hwz, bbz⟩ := HA.out
      change Code.wp _ _ _ _ (w9.alloc (.cells (rfC x y t (gotB t l)) 30))
      generalize w9.alloc (.cells (rfC x y t (gotB t l)) 30) = wz at *
      generalize w9.heap.size = b3 at *
      generalize w7.heap.size = b2 at *
      have ez := eg.out
      rw [← ez] at rz
      clear eg ez tn t46
      clear k12 k13 HA
      have F1 : ∀ w', Below wz.heap.size wz w' → (convert 25 9 (.slice pb (frB x y t l).length capb)).run Try.prog w' = .ok (strV (frB x y t l)) w' := fun w' h => bts_string (bbz.below h (Nat.le_refl _))
      have CON7 := Lib.hid (fun (w' : World) (h : Below wz.heap.size wz w') => plain_any x y t (.slice p l.length cap) l w.heap.size w' HT.out (HV.out.below (below_next hwz h) (Nat.le_refl _)) (below_next hwz h).size)
      have CON12 := Lib.hid (fun (w' : World) => refBytes_any x y t l w' HX.out HY.out HT.out HR.out.2.1)
      have FF := Lib.hid (And.intro F1 (And.intro (fun (w' : World) (h : Below wz.heap.size wz w') => (fz.below h fz.lt).frCells) (And.intro (fun (w' : World) (h : Below wz.heap.size wz w') => (rz.below h rz.lt).rfCells) (And.intro (fun (w' : World) (h : Below wz.heap.size wz w') => (gz.below h gz.lt).rfCells) (And.intro (fun w' => rf_same x y t (gotB t l) w') g30)))))
      have HWZ := Lib.hid hwz
      clear F1 fz rz gz hwz bbz
      refine wp_region_held_drew (S := fun w' => Below wz.heap.size wz w') (by kernel_rfl) (Below.refl _ _).drew (fun hS => ?_)
      refine wpAnyH_take (i := 0) (v := ?_) rfl (by kernel_rfl) (by kernel_rfl) (by kernel_rfl) (fun _ _ _ h => h) (Or.inl ⟨by rfl, ?_⟩) hS ?_
      rotate_left
      · (intro w90 hS9; go_simp; try with_reducible rfl)
      simp only [Act.put, List.getElem_toArray, List.getElem_cons_zero, List.setIfInBounds_toArray, List.set_cons_zero, List.set_cons_succ]
      refine wpAnyH_take (i := 1) (v := ?_) rfl (by kernel_rfl) (by kernel_rfl) (by kernel_rfl) (fun _ _ _ h => h) (Or.inl ⟨by rfl, ?_⟩) hS ?_
      rotate_left
      · (intro w90 hS9; go_simp; try with_reducible rfl)
      simp only [Act.put, List.getElem_toArray, List.getElem_cons_zero, List.getElem_cons_succ, List.setIfInBounds_toArray, List.set_cons_zero, List.set_cons_succ]
      refine wpAnyH_take (i := 2) (v := ?_) rfl (by kernel_rfl) (by kernel_rfl) (by kernel_rfl) (fun _ _ _ h => h) (Or.inl ⟨by rfl, ?_⟩) hS ?_
      rotate_left
      · (intro w90 hS9; go_simp; try with_reducible rfl)
      simp only [Act.put, List.getElem_toArray, List.getElem_cons_zero, List.getElem_cons_succ, List.setIfInBounds_toArray, List.set_cons_zero, List.set_cons_succ]
      refine wpAnyH_take (i := 3) (v := ?_) rfl (by kernel_rfl) (by kernel_rfl) (by kernel_rfl) (fun _ _ _ h => h) (Or.inl ⟨by rfl, ?_⟩) hS ?_
      rotate_left
      · (intro w90 hS9; go_simp; try with_reducible rfl)
      simp only [Act.put, List.getElem_toArray, List.getElem_cons_zero, List.getElem_cons_succ, List.setIfInBounds_toArray, List.set_cons_zero, List.set_cons_succ]
      refine wpAnyH_take (i := 4) (v := ?_) rfl (by kernel_rfl) (by kernel_rfl) (by kernel_rfl) (fun _ _ _ h => h) (Or.inl ⟨by rfl, ?_⟩) hS ?_
      rotate_left
      · (intro w90 hS9; have q1 := FF.out.1 w90 hS9; go_simp; try with_reducible rfl)
      simp only [Act.put, List.getElem_toArray, List.getElem_cons_zero, List.getElem_cons_succ, List.setIfInBounds_toArray, List.set_cons_zero, List.set_cons_succ]
      refine wpAnyH_take (i := 5) (v := ?_) rfl (by kernel_rfl) (by kernel_rfl) (by kernel_rfl) (fun _ _ _ h => h) (Or.inl ⟨by rfl, ?_⟩) hS ?_
      rotate_left
      · (intro w90 hS9; obtain ⟨k0, k1, k2, k3, k4, k5, k6, k7, k8, k9, k10, k11, k12, k13⟩ := FF.out.2.1 w90 hS9; go_simp; try with_reducible rfl)
      simp only [Act.put, List.getElem_toArray, List.getElem_cons_zero, List.getElem_cons_succ, List.setIfInBounds_toArray, List.set_cons_zero, List.set_cons_succ]
      refine wpAnyH_ready (rs := [6]) (by kernel_rfl) (by simp) (AllReadyH.cons rfl (fun K hK => ?_) AllReadyH.nil)
      go_simp
      refine (CON7.out _ hS).mono ?_
      rintro e w10 ⟨rfl, hb10⟩
      have hS10 : Below wz.heap.size wz w10 := (Below.trans hS (hb10.mono (Below.size hS)))
      refine hK.out _ _ hS10 (fun hS => ?_)
      clear hK K hb10
      refine wpAnyH_ready (rs := [7]) (by kernel_rfl) (by simp) (AllReadyH.cons rfl (fun K hK => ?_) AllReadyH.nil)
      go_simp
      refine (CON12.out w10).mono ?_
      rintro e w11 ⟨vr, rfl, bt11, hb11⟩
      have hS11 : Below wz.heap.size wz w11 := (Below.trans hS10 (hb11.mono (Below.size hS10)))
      refine hK.out _ _ hS11 (fun hS => ?_)
      clear hK K hb11
      obtain ⟨pr, cr, rfl, -⟩ := bts_len bt11
      have q9 := bts_string bt11
      clear bt11
      refine wpAnyH_ready (rs := [8]) (by kernel_rfl) (by simp) (AllReadyH.cons rfl (fun K hK => ?_) AllReadyH.nil)
      go_simp
      refine hK.out _ _ hS11 (fun hS => ?_)
      clear hK K q9
      refine wpAnyH_take (i := 9) (v := ?_) rfl (by kernel_rfl) (by kernel_rfl) (by kernel_rfl) (fun _ _ _ h => h) (Or.inl ⟨by rfl, ?_⟩) hS ?_
      rotate_left
      · (intro w90 hS9; go_simp; try with_reducible rfl)
      simp only [Act.put, List.getElem_toArray, List.getElem_cons_zero, List.getElem_cons_succ, List.setIfInBounds_toArray, List.set_cons_zero, List.set_cons_succ]
      refine wpAnyH_take (i := 10) (v := ?_) rfl (by kernel_rfl) (by kernel_rfl) (by kernel_rfl) (fun _ _ _ h => h) (Or.inl ⟨by rfl, ?_⟩) hS ?_
      rotate_left
      · (intro w90 hS9; go_simp; try with_reducible rfl)
      simp only [Act.put, List.getElem_toArray, List.getElem_cons_zero, List.getElem_cons_succ, List.setIfInBounds_toArray, List.set_cons_zero, List.set_cons_succ]
      refine wpAnyH_take (i := 11) (v := ?_) rfl (by kernel_rfl) (by kernel_rfl) (by kernel_rfl) (fun _ _ _ h => h) (Or.inl ⟨by rfl, ?_⟩) hS ?_
      rotate_left
      · (intro w90 hS9; go_simp; try with_reducible rfl)
      simp only [Act.put, List.getElem_toArray, List.getElem_cons_zero, List.getElem_cons_succ, List.setIfInBounds_toArray, List.set_cons_zero, List.set_cons_succ]
      refine wpAnyH_take (i := 12) (v := ?_) rfl (by kernel_rfl) (by kernel_rfl) (by kernel_rfl) (fun _ _ _ h => h) (Or.inl ⟨by rfl, ?_⟩) hS ?_
      rotate_left
      · (intro w90 hS9; go_simp; try with_reducible rfl)
      simp only [Act.put, List.getElem_toArray, List.getElem_cons_zero, List.getElem_cons_succ, List.setIfInBounds_toArray, List.set_cons_zero, List.set_cons_succ]
      refine wpAnyH_take (i := 13) (v := ?_) rfl (by kernel_rfl) (by kernel_rfl) (by kernel_rfl) (fun _ _ _ h => h) (Or.inl ⟨by rfl, ?_⟩) hS ?_
      rotate_left
      · (intro w90 hS9; go_simp; try with_reducible rfl)
      simp only [Act.put, List.getElem_toArray, List.getElem_cons_zero, List.getElem_cons_succ, List.setIfInBounds_toArray, List.set_cons_zero, List.set_cons_succ]
      refine wpAnyH_take (i := 14) (v := ?_) rfl (by kernel_rfl) (by kernel_rfl) (by kernel_rfl) (fun _ _ _ h => h) (Or.inl ⟨by rfl, ?_⟩) hS ?_
      rotate_left
      · (intro w90 hS9; go_simp; try with_reducible rfl)
      simp only [Act.put, List.getElem_toArray, List.getElem_cons_zero, List.getElem_cons_succ, List.setIfInBounds_toArray, List.set_cons_zero, List.set_cons_succ]
      refine wpAnyH_take (i := 15) (v := ?_) rfl (by kernel_rfl) (by kernel_rfl) (by kernel_rfl) (fun _ _ _ h => h) (Or.inl ⟨by rfl, ?_⟩) hS ?_
      rotate_left
      · (intro w90 hS9; go_simp; try with_reducible rfl)
      simp only [Act.put, List.getElem_toArray, List.getElem_cons_zero, List.getElem_cons_succ, List.setIfInBounds_toArray, List.set_cons_zero, List.set_cons_succ]
      refine wpAnyH_take (i := 16) (v := ?_) rfl (by kernel_rfl) (by kernel_rfl) (by kernel_rfl) (fun _ _ _ h => h) (Or.inl ⟨by rfl, ?_⟩) hS ?_
      rotate_left
      · (intro w90 hS9; obtain ⟨k0, k1, k2, k3, k4, k5, k6, k7, k8, k9, k10, k11, k12, k13⟩ := FF.out.2.2.2.1 w90 hS9; go_simp; try with_reducible rfl)
      simp only [Act.put, List.getElem_toArray, List.getElem_cons_zero, List.getElem_cons_succ, List.setIfInBounds_toArray, List.set_cons_zero, List.set_cons_succ]
      refine wpAnyH_take (i := 17) (v := ?_) rfl (by kernel_rfl) (by kernel_rfl) (by kernel_rfl) (fun _ _ _ h => h) (Or.inl ⟨by rfl, ?_⟩) hS ?_
      rotate_left
      · (intro w90 hS9; obtain ⟨k0, k1, k2, k3, k4, k5, k6, k7, k8, k9, k10, k11, k12, k13⟩ := FF.out.2.2.1 w90 hS9; go_simp; try with_reducible rfl)
      simp only [Act.put, List.getElem_toArray, List.getElem_cons_zero, List.getElem_cons_succ, List.setIfInBounds_toArray, List.set_cons_zero, List.set_cons_succ]
      refine wpAnyH_take (i := 18) (v := ?_) rfl (by kernel_rfl) (by kernel_rfl) (by kernel_rfl) (fun _ _ _ h => h) (Or.inl ⟨by rfl, ?_⟩) hS ?_
      rotate_left
      · (intro w90 hS9; have q1 := FF.out.2.2.2.2.1; have q2 := FF.out.2.2.2.2.2; go_simp; try with_reducible rfl)
      simp only [Act.put, List.getElem_toArray, List.getElem_cons_zero, List.getElem_cons_succ, List.setIfInBounds_toArray, List.set_cons_zero, List.set_cons_succ]
      refine wpAnyH_take (i := 19) (v := ?_) rfl (by kernel_rfl) (by kernel_rfl) (by kernel_rfl) (fun _ _ _ h => h) (Or.inl ⟨by rfl, ?_⟩) hS ?_
      rotate_left
      · (intro w90 hS9; go_simp; try with_reducible rfl)
      simp only [Act.put, List.getElem_toArray, List.getElem_cons_zero, List.getElem_cons_succ, List.setIfInBounds_toArray, List.set_cons_zero, List.set_cons_succ]
      refine wpAnyH_take (i := 20) (v := ?_) rfl (by kernel_rfl) (by kernel_rfl) (by kernel_rfl) (fun _ _ _ h => h) (Or.inl ⟨by rfl, ?_⟩) hS ?_
      rotate_left
      · (intro w90 hS9; go_simp; try with_reducible rfl)
      simp only [Act.put, List.getElem_toArray, List.getElem_cons_zero, List.getElem_cons_succ, List.setIfInBounds_toArray, List.set_cons_zero, List.set_cons_succ]
      refine wpAnyH_done (by kernel_rfl) ?_ _
      go_wp2_with fail
      go_ret
      exact ⟨rfl, HWZ.out.trans (hS11.mono HWZ.out.size)⟩
    exact absurd hc (by omega)
  · exact absurd hr0 hr
end Go.Proofs.Ytfdhkbkonennjaa
