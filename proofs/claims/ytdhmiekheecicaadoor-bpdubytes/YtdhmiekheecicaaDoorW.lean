/- BpduBytes' whole call where the message may be. -/
import Derived.Test.YtdhmiekheecicaaDoorV
namespace Go.Proofs.YtdhmiekheecicaaDoor
open Go.RowKit Go.Sort Go.Lib

theorem bpE_refl (k f r c b p a m h d : Int) : bpE k f r c b p a m h d k f r c b p a m h d = true := by unfold bpE; simp
theorem same_bp (k f r c b p a m h d : Int) (w : World) : (binOp .eql 31 (bpV k f r c b p a m h d) (bpV k f r c b p a m h d)).run Tryd.prog w = .ok (.bool true) w := by rw [bp_eql, bpE_refl]
set_option maxRecDepth 20000 in
set_option maxHeartbeats 8000000 in
theorem bbytes_ok (k : Int) (f r c b p a m h d : Nat) (hf : f < 256) (hr : r < 18446744073709551616) (hc : c < 4294967296) (hb : b < 18446744073709551616) (hp : p < 65536) (ha : a < 65536) (hm : m < 65536) (hh : h < 65536) (hd : d < 65536) (hR : rightB k f r c b p a m h d = true) (v : Value) (l : List UInt8) (w : World) (hv : Bts w w.heap.size v l) (hl : ¬ 200 < l.length) (he : Env w) :
    Calls Tryd.prog 3 #[bpV k f r c b p a m h d, v] w fun e w' => e = .returned (.bool true) ∧ Below w.heap.size w w' := by
  have CB := Lib.hid (fun w he => bytes_ok7 k f r c b p a m h d hf hr hc hb hp ha hm hh hd hR w he)
  have CF := Lib.hid (fun w => refBytes_ok k f r c b p a m h d hf hr hc hb hp ha hm hh hd (right_kind hR) w)
  have OR := Lib.hid (own_read k f r c b p a m h d hf hr hc hb hp ha hm hh hd hR l)
  have hlen : (bpB k f r c b p a m h d).length ≤ 36 := by
    rcases right_kind hR with rfl | rfl | rfl
    · exact Nat.le_trans (Nat.le_of_eq (hdB_len 0 128)) (by omega)
    · exact Nat.le_trans (Nat.le_of_eq ((bdB_len (hdB 0 0) f r c b p a m h d).trans (by rw [hdB_len]))) (by omega)
    · show (bdB (hdB 2 2) f r c b p a m h d ++ lw 0 1 1).length ≤ 36
      rw [List.length_append, bdB_len, hdB_len, lw_len]; omega
  clear hr hc hb hp ha hm hh hd
  obtain ⟨p0, cap, rfl, hn⟩ := bts_len hv
  have hb0 := box_below w (.cells (bpC k f r c b p a m h d) 31)
  have x0 := var_new w (bpC k f r c b p a m h d) 31
  have c1 := lives_ok _ (he.below hb0)
  have HE := Lib.hid (he.below hb0)
  have HB0 := Lib.hid hb0
  have X0 := Lib.hid x0
  have HV := Lib.hid hv
  clear hv he hb0 x0
  have hl2 : decide ((l.length : Int) > 200) = false := by simp; omega
  go_enter Tryd.func3, Tryd.ntmps3
  go_wp2_with fail
  refine c1.mono ?_
  rintro e w1 ⟨rfl, hb1⟩
  have HB1 := Lib.hid (below_next HB0.out hb1)
  have x1 := X0.out.below hb1 X0.out.lt
  obtain ⟨k0, k1, k2, k3, k4, k5, k6, k7, k8, k9⟩ := x1.bp
  have X1 := Lib.hid x1
  have HE1 := Lib.hid (HE.out.below hb1)
  clear c1 hb1 x1 HE X0 HB0
  have c2 := CB.out w1 HE1.out
  go_wp2_with fail
  refine c2.mono ?_
  rintro e w2 ⟨vx, rfl, P2, hb2⟩
  generalize hL : bpB k f r c b p a m h d = L at *
  have HB2 := Lib.hid (below_next HB1.out hb2)
  have X2 := Lib.hid (X1.out.below hb2 X1.out.lt)
  have HE2 := Lib.hid (HE1.out.below hb2)
  have hbw : w.heap.size ≤ w2.heap.size := HB2.out.size
  have V2 := Lib.hid (HV.out.below HB2.out (Nat.le_refl _))
  have PX := Lib.hid P2.bts
  clear c2 hb2 X1 HE1 HB1 HV hL P2 CB
  have fa0 : ∀ d' os, (grow (redrawn w2 d') os).cell? ⟨w.heap.size, 0, none⟩ = some (.int .i64 k) := fun d' os => (VarAt.grown' X2.out d' os).cell 0
  have fa1 : ∀ d' os, (grow (redrawn w2 d') os).cell? ⟨w.heap.size, 1, none⟩ = some (.int .u8 f) := fun d' os => (VarAt.grown' X2.out d' os).cell 1
  have fa2 : ∀ d' os, (grow (redrawn w2 d') os).cell? ⟨w.heap.size, 2, none⟩ = some (.int .u64 r) := fun d' os => (VarAt.grown' X2.out d' os).cell 2
  have fa3 : ∀ d' os, (grow (redrawn w2 d') os).cell? ⟨w.heap.size, 3, none⟩ = some (.int .u32 c) := fun d' os => (VarAt.grown' X2.out d' os).cell 3
  have fa4 : ∀ d' os, (grow (redrawn w2 d') os).cell? ⟨w.heap.size, 4, none⟩ = some (.int .u64 b) := fun d' os => (VarAt.grown' X2.out d' os).cell 4
  have fa5 : ∀ d' os, (grow (redrawn w2 d') os).cell? ⟨w.heap.size, 5, none⟩ = some (.int .u16 p) := fun d' os => (VarAt.grown' X2.out d' os).cell 5
  have fa6 : ∀ d' os, (grow (redrawn w2 d') os).cell? ⟨w.heap.size, 6, none⟩ = some (.int .u16 a) := fun d' os => (VarAt.grown' X2.out d' os).cell 6
  have fa7 : ∀ d' os, (grow (redrawn w2 d') os).cell? ⟨w.heap.size, 7, none⟩ = some (.int .u16 m) := fun d' os => (VarAt.grown' X2.out d' os).cell 7
  have fa8 : ∀ d' os, (grow (redrawn w2 d') os).cell? ⟨w.heap.size, 8, none⟩ = some (.int .u16 h) := fun d' os => (VarAt.grown' X2.out d' os).cell 8
  have fa9 : ∀ d' os, (grow (redrawn w2 d') os).cell? ⟨w.heap.size, 9, none⟩ = some (.int .u16 d) := fun d' os => (VarAt.grown' X2.out d' os).cell 9
  have c3 : ∀ d' os, Calls Tryd.prog 8 #[bpV k f r c b p a m h d] (grow (redrawn w2 d') os) fun e w'' => e = .returned (.bool (rightB k f r c b p a m h d)) ∧ ∃ q : Regrown, w'' = grow (redrawn w2 q.d) q.os := fun d' os => Calls.regrown_of (right_any k f r c b p a m h d hf _ (HE2.out.below (below_regrown w2 d' os)))
  have c4 : ∀ d' os, Calls Tryd.prog 9 #[bpV k f r c b p a m h d] (grow (redrawn w2 d') os) fun e w'' => e = .returned (.bool (rightB k f r c b p a m h d)) ∧ ∃ q : Regrown, w'' = grow (redrawn w2 q.d) q.os := fun d' os => Calls.regrown_of (refRight_any k f r c b p a m h d hf _)
  rw [hR] at c3 c4
  clear k0 k1 k2 k3 k4 k5 k6 k7 k8 k9
  go_wp2_with fail
  refine wp_region_quiet_below (by kernel_rfl) (by kernel_rfl) ?_
  repeat (go_big_quiet_step (first | with_reducible exact c3 _ _ | with_reducible exact c4 _ _))
  refine wpQuiet_nil ?_
  intro _ hw'
  obtain ⟨⟨dq, osq⟩, hw''⟩ := hw'
  subst hw''
  have b3 := below_regrown w2 dq osq
  generalize grow (redrawn w2 dq) osq = w3 at *
  have X3 := Lib.hid (X2.out.below b3 X2.out.lt)
  have HB3 := Lib.hid (below_next HB2.out b3)
  clear fa0 fa1 fa2 fa3 fa4 fa5 fa6 fa7 fa8 fa9 c3 c4
  obtain ⟨k0, k1, k2, k3, k4, k5, k6, k7, k8, k9⟩ := X3.out.bp
  have c5 := refRight_any k f r c b p a m h d hf w3
  rw [hR] at c5
  go_wp2_with fail
  refine c5.mono ?_
  rintro e w4 ⟨rfl, b4⟩
  clear c5 k0 k1 k2 k3 k4 k5 k6 k7 k8 k9
  have b42 := below_next b3 b4
  have HB4 := Lib.hid (below_next HB3.out b4)
  have X4 := Lib.hid (X3.out.below b4 X3.out.lt)
  have V4 := Lib.hid (V2.out.below b42 hbw)
  have PX4 := Lib.hid (PX.out.below b42 (Nat.le_refl _))
  have HE4 := Lib.hid (HE2.out.below b42)
  have hs4 := b42.size
  clear b4 HB3 b3 X3 X2 HE2 HB2 V2 PX b42
  have ho := World.ownsRow_made (base := w4.heap.size) (e := 5) (size := 1) w4 #[] 0 (Nat.le_refl _) (by decide) rfl
  have HO := Lib.hid ho
  have PX5 := Lib.hid (PX4.out.below (box_below w4 (.cells #[] 5)) hs4)
  clear ho
  go_wp2_with (at_builtin; refine wpList_append_bts _ rfl _ _ rfl w4.heap.size _ _ _ rfl HO.out _ _ L rfl PX5.out (by omega) ?d5 ?_)
  case d5 => simp
  intro v5 w5 hown hgrow
  have hb5 : Below w4.heap.size w4 w5 := (box_below w4 (.cells #[] 5)).grown hgrow (by simp) (fun j hj => (HO.out.lt j hj).1)
  have HO5 := Lib.hid (own_cast (m := L.length) (ys := L.map bV) hown (by simp) (by simp))
  have V5 := Lib.hid (V4.out.below hb5 (by omega))
  have hs5 := hb5.size
  have HB5 := Lib.hid hb5
  clear hown hgrow hb5 HO PX5
  go_wp2_with (at_builtin; refine wpList_append_bts _ rfl _ _ rfl w4.heap.size _ _ _ rfl HO5.out _ _ l rfl V5.out (by omega) hs5 ?_)
  intro v6 w6 hown hgrow
  have hb6 : Below w4.heap.size w4 w6 := HB5.out.grown hgrow hs5 (fun j hj => (HO5.out.lt j hj).1)
  have HO6 := own_cast (m := (L ++ l).length) (ys := (L ++ l).map bV) hown (by simp) (by simp)
  have B6 := bts_of_own HO6
  have c7 := bread_ok v6 (L ++ l) w6 B6 (by rw [List.length_append]; omega) (HE4.out.below hb6) OR.out.1 OR.out.2
  have HB6 := Lib.hid hb6
  clear hown hgrow hb6 HO6 HO5 V5 B6 OR V4 HB5
  go_wp2_with fail
  refine c7.mono ?_
  rintro e w7 ⟨rfl, hb7⟩
  have hb47 := below_next HB6.out hb7
  have hb8 := hb47.alloc (Nat.le_trans (Nat.le_refl _) hb47.size) (.cells (bpC k f r c b p a m h d) 31)
  have Y8 := var_new w7 (bpC k f r c b p a m h d) 31
  have X8 := X4.out.below hb8 X4.out.lt
  have PX8 := PX4.out.below hb8 hs4
  have X8W := Lib.hid (show w2.heap.size ≤ (w7.alloc (.cells (bpC k f r c b p a m h d) 31)).heap.size from Nat.le_trans hs4 hb8.size)
  have HE8 := Lib.hid (below_next HB4.out hb8)
  clear c7 hb7 hb47 HB6 X4 PX4 HE4 HB4 hb8
  go_wp2_with fail
  generalize w7.alloc _ = W8 at *
  have FF := Lib.hid (fun (w9 : World) (hb : Below W8.heap.size W8 w9) => X8.below hb X8.lt)
  have FY := Lib.hid (fun (w9 : World) (hb : Below W8.heap.size W8 w9) => Y8.below hb Y8.lt)
  have FX := Lib.hid (fun (w9 : World) (hb : Below W8.heap.size W8 w9) => bts_string (PX8.below hb X8W.out))
  have SAME := Lib.hid (fun w9 => same_bp k f r c b p a m h d w9)
  clear X8 Y8 PX8 X8W hR
  refine wp_region_held_drew (S := fun w' => Below W8.heap.size W8 w') (by kernel_rfl) (Below.refl _ _).drew (fun hS => ?_)
  refine wpAnyH_take (i := 0) (v := ?_) rfl (by kernel_rfl) (by kernel_rfl) (by kernel_rfl) (fun _ _ _ h => h) (Or.inl ⟨by rfl, ?_⟩) hS ?_
  rotate_left
  · (intro w9 hS9; go_simp; try with_reducible rfl)
  simp only [Act.put, List.getElem_toArray, List.getElem_cons_zero, List.setIfInBounds_toArray, List.set_cons_zero, List.set_cons_succ]
  refine wpAnyH_take (i := 1) (v := ?_) rfl (by kernel_rfl) (by kernel_rfl) (by kernel_rfl) (fun _ _ _ h => h) (Or.inl ⟨by rfl, ?_⟩) hS ?_
  rotate_left
  · (intro w9 hS9; go_simp; try with_reducible rfl)
  simp only [Act.put, List.getElem_toArray, List.getElem_cons_zero, List.getElem_cons_succ, List.setIfInBounds_toArray, List.set_cons_zero, List.set_cons_succ]
  refine wpAnyH_take (i := 2) (v := ?_) rfl (by kernel_rfl) (by kernel_rfl) (by kernel_rfl) (fun _ _ _ h => h) (Or.inl ⟨by rfl, ?_⟩) hS ?_
  rotate_left
  · (intro w9 hS9; go_simp; try with_reducible rfl)
  simp only [Act.put, List.getElem_toArray, List.getElem_cons_zero, List.getElem_cons_succ, List.setIfInBounds_toArray, List.set_cons_zero, List.set_cons_succ]
  refine wpAnyH_take (i := 3) (v := ?_) rfl (by kernel_rfl) (by kernel_rfl) (by kernel_rfl) (fun _ _ _ h => h) (Or.inl ⟨by rfl, ?_⟩) hS ?_
  rotate_left
  · (intro w9 hS9; go_simp; try with_reducible rfl)
  simp only [Act.put, List.getElem_toArray, List.getElem_cons_zero, List.getElem_cons_succ, List.setIfInBounds_toArray, List.set_cons_zero, List.set_cons_succ]
  refine wpAnyH_take (i := 4) (v := ?_) rfl (by kernel_rfl) (by kernel_rfl) (by kernel_rfl) (fun _ _ _ h => h) (Or.inl ⟨by rfl, ?_⟩) hS ?_
  rotate_left
  · (intro w9 hS9; have q := FX.out w9 hS9; go_simp; try with_reducible rfl)
  simp only [Act.put, List.getElem_toArray, List.getElem_cons_zero, List.getElem_cons_succ, List.setIfInBounds_toArray, List.set_cons_zero, List.set_cons_succ]
  refine wpAnyH_take (i := 5) (v := ?_) rfl (by kernel_rfl) (by kernel_rfl) (by kernel_rfl) (fun _ _ _ h => h) (Or.inl ⟨by rfl, ?_⟩) hS ?_
  rotate_left
  · (intro w9 hS9; obtain ⟨k0, k1, k2, k3, k4, k5, k6, k7, k8, k9⟩ := (FF.out w9 hS9).bp; go_simp; try with_reducible rfl)
  simp only [Act.put, List.getElem_toArray, List.getElem_cons_zero, List.getElem_cons_succ, List.setIfInBounds_toArray, List.set_cons_zero, List.set_cons_succ]
  refine wpAnyH_ready (rs := [6]) (by kernel_rfl) (by simp) (AllReadyH.cons rfl (fun K hK => ?_) AllReadyH.nil)
  go_simp
  refine (CF.out _).mono ?_
  rintro e w10 ⟨vr, rfl, B10, hb10⟩
  have hS10 : Below W8.heap.size W8 w10 := (Below.trans hS (hb10.mono (Below.size hS)))
  refine hK.out _ _ hS10 (fun hS => ?_)
  clear hK K
  have q9 := bts_string B10
  clear B10 hb10 CF
  refine wpAnyH_ready (rs := [7]) (by kernel_rfl) (by simp) (AllReadyH.cons rfl (fun K hK => ?_) AllReadyH.nil)
  go_simp
  refine hK.out _ _ hS10 (fun hS => ?_)
  clear hK K q9
  refine wpAnyH_take (i := 8) (v := ?_) rfl (by kernel_rfl) (by kernel_rfl) (by kernel_rfl) (fun _ _ _ h => h) (Or.inl ⟨by rfl, ?_⟩) hS ?_
  rotate_left
  · (intro w9 hS9; go_simp; try with_reducible rfl)
  simp only [Act.put, List.getElem_toArray, List.getElem_cons_zero, List.getElem_cons_succ, List.setIfInBounds_toArray, List.set_cons_zero, List.set_cons_succ]
  refine wpAnyH_take (i := 9) (v := ?_) rfl (by kernel_rfl) (by kernel_rfl) (by kernel_rfl) (fun _ _ _ h => h) (Or.inl ⟨by rfl, ?_⟩) hS ?_
  rotate_left
  · (intro w9 hS9; go_simp; try with_reducible rfl)
  simp only [Act.put, List.getElem_toArray, List.getElem_cons_zero, List.getElem_cons_succ, List.setIfInBounds_toArray, List.set_cons_zero, List.set_cons_succ]
  refine wpAnyH_take (i := 10) (v := ?_) rfl (by kernel_rfl) (by kernel_rfl) (by kernel_rfl) (fun _ _ _ h => h) (Or.inl ⟨by rfl, ?_⟩) hS ?_
  rotate_left
  · (intro w9 hS9; go_simp; try with_reducible rfl)
  simp only [Act.put, List.getElem_toArray, List.getElem_cons_zero, List.getElem_cons_succ, List.setIfInBounds_toArray, List.set_cons_zero, List.set_cons_succ]
  refine wpAnyH_take (i := 11) (v := ?_) rfl (by kernel_rfl) (by kernel_rfl) (by kernel_rfl) (fun _ _ _ h => h) (Or.inl ⟨by rfl, ?_⟩) hS ?_
  rotate_left
  · (intro w9 hS9; go_simp; try with_reducible rfl)
  simp only [Act.put, List.getElem_toArray, List.getElem_cons_zero, List.getElem_cons_succ, List.setIfInBounds_toArray, List.set_cons_zero, List.set_cons_succ]
  refine wpAnyH_take (i := 12) (v := ?_) rfl (by kernel_rfl) (by kernel_rfl) (by kernel_rfl) (fun _ _ _ h => h) (Or.inl ⟨by rfl, ?_⟩) hS ?_
  rotate_left
  · (intro w9 hS9; go_simp; try with_reducible rfl)
  simp only [Act.put, List.getElem_toArray, List.getElem_cons_zero, List.getElem_cons_succ, List.setIfInBounds_toArray, List.set_cons_zero, List.set_cons_succ]
  refine wpAnyH_take (i := 13) (v := ?_) rfl (by kernel_rfl) (by kernel_rfl) (by kernel_rfl) (fun _ _ _ h => h) (Or.inl ⟨by rfl, ?_⟩) hS ?_
  rotate_left
  · (intro w9 hS9; go_simp; try with_reducible rfl)
  simp only [Act.put, List.getElem_toArray, List.getElem_cons_zero, List.getElem_cons_succ, List.setIfInBounds_toArray, List.set_cons_zero, List.set_cons_succ]
  refine wpAnyH_take (i := 14) (v := ?_) rfl (by kernel_rfl) (by kernel_rfl) (by kernel_rfl) (fun _ _ _ h => h) (Or.inl ⟨by rfl, ?_⟩) hS ?_
  rotate_left
  · (intro w9 hS9; go_simp; try with_reducible rfl)
  simp only [Act.put, List.getElem_toArray, List.getElem_cons_zero, List.getElem_cons_succ, List.setIfInBounds_toArray, List.set_cons_zero, List.set_cons_succ]
  refine wpAnyH_take (i := 15) (v := ?_) rfl (by kernel_rfl) (by kernel_rfl) (by kernel_rfl) (fun _ _ _ h => h) (Or.inl ⟨by rfl, ?_⟩) hS ?_
  rotate_left
  · (intro w9 hS9; obtain ⟨k0, k1, k2, k3, k4, k5, k6, k7, k8, k9⟩ := (FY.out w9 hS9).bp; go_simp; try with_reducible rfl)
  simp only [Act.put, List.getElem_toArray, List.getElem_cons_zero, List.getElem_cons_succ, List.setIfInBounds_toArray, List.set_cons_zero, List.set_cons_succ]
  refine wpAnyH_take (i := 16) (v := ?_) rfl (by kernel_rfl) (by kernel_rfl) (by kernel_rfl) (fun _ _ _ h => h) (Or.inl ⟨by rfl, ?_⟩) hS ?_
  rotate_left
  · (intro w9 hS9; obtain ⟨k0, k1, k2, k3, k4, k5, k6, k7, k8, k9⟩ := (FF.out w9 hS9).bp; go_simp; try with_reducible rfl)
  simp only [Act.put, List.getElem_toArray, List.getElem_cons_zero, List.getElem_cons_succ, List.setIfInBounds_toArray, List.set_cons_zero, List.set_cons_succ]
  refine wpAnyH_take (i := 17) (v := ?_) rfl (by kernel_rfl) (by kernel_rfl) (by kernel_rfl) (fun _ _ _ h => h) (Or.inl ⟨by rfl, ?_⟩) hS ?_
  rotate_left
  · (intro w9 hS9; have q := SAME.out; have g := g31; go_simp; try with_reducible rfl)
  simp only [Act.put, List.getElem_toArray, List.getElem_cons_zero, List.getElem_cons_succ, List.setIfInBounds_toArray, List.set_cons_zero, List.set_cons_succ]
  refine wpAnyH_take (i := 18) (v := ?_) rfl (by kernel_rfl) (by kernel_rfl) (by kernel_rfl) (fun _ _ _ h => h) (Or.inl ⟨by rfl, ?_⟩) hS ?_
  rotate_left
  · (intro w9 hS9; go_simp; try with_reducible rfl)
  simp only [Act.put, List.getElem_toArray, List.getElem_cons_zero, List.getElem_cons_succ, List.setIfInBounds_toArray, List.set_cons_zero, List.set_cons_succ]
  refine wpAnyH_take (i := 19) (v := ?_) rfl (by kernel_rfl) (by kernel_rfl) (by kernel_rfl) (fun _ _ _ h => h) (Or.inl ⟨by rfl, ?_⟩) hS ?_
  rotate_left
  · (intro w9 hS9; go_simp; try with_reducible rfl)
  simp only [Act.put, List.getElem_toArray, List.getElem_cons_zero, List.getElem_cons_succ, List.setIfInBounds_toArray, List.set_cons_zero, List.set_cons_succ]
  refine wpAnyH_done (by kernel_rfl) ?_ _
  have HB11 := Lib.hid (below_next HE8.out hS10)
  clear hS10 hS FF FY FX SAME HE8
  go_wp2_with fail
  go_ret
  exact ⟨rfl, HB11.out⟩
end Go.Proofs.YtdhmiekheecicaaDoor
