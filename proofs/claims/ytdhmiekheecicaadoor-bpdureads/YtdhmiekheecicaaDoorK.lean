/- The bytes of a message, by the program. -/
import Derived.Test.YtdhmiekheecicaaDoorJ
import Derived.Deep.RegionHeld
namespace Go.Proofs.YtdhmiekheecicaaDoor
open Go.RowKit Go.Sort

/-- A message's bytes. -/
def bpB (k : Int) (f r c b p a m h d : Nat) : List UInt8 := if k = 2 then hdB 0 128 else if k = 1 then bdB (hdB 0 0) f r c b p a m h d else bdB (hdB 2 2) f r c b p a m h d ++ lw 0 1 1
theorem hdB_len (v k : Nat) : (hdB v k).length = 4 := by simp [hdB, lw_len]
theorem right_kind {k f r c b p a m h d : Int} (hR : rightB k f r c b p a m h d = true) : k = 2 ∨ k = 1 ∨ k = 3 := by
  unfold rightB at hR
  split at hR
  · exact .inl ‹_›
  · split at hR
    · exact .inr (.inl ‹_›)
    · split at hR
      · exact .inr (.inr ‹_›)
      · cases hR

set_option maxHeartbeats 2000000 in
theorem bytes_not (k : Int) (f : Nat) (r c b p a m h d : Int) (hf : f < 256) (hR : rightB k f r c b p a m h d = false) (w : World) (he : Env w) :
    Calls Tryd.prog 7 #[bpV k f r c b p a m h d] w fun e w' => e = .returned (.tuple #[.slice none 0 0, .int .i64 1]) ∧ Below w.heap.size w w' := by
  obtain ⟨k0, k1, k2, k3, k4, k5, k6, k7, k8, k9⟩ := (var_new w (bpC k f r c b p a m h d) 31).bp
  have HB := Lib.hid (box_below w (.cells (bpC k f r c b p a m h d) 31))
  have c1 := right_any k f r c b p a m h d hf (w.alloc (.cells (bpC k f r c b p a m h d) 31)) (he.below HB.out)
  rw [hR] at c1
  clear hR he
  go_enter Tryd.func7, Tryd.ntmps7
  go_wp2_with fail
  refine c1.mono ?_
  rintro e w1 ⟨rfl, hb1⟩
  have HB1 := Lib.hid (below_next HB.out hb1)
  clear hb1 c1
  go_wp2_with fail
  exact bodyPost_ret (v := .tuple #[.slice none 0 0, .int .i64 1]) (by simp [results, Tryd.results7, go_sem]) rfl ⟨rfl, HB1.out⟩

set_option maxHeartbeats 4000000 in
theorem bytes_ok7 (k : Int) (f r c b p a m h d : Nat) (hf : f < 256) (hr : r < 18446744073709551616) (hc : c < 4294967296) (hb : b < 18446744073709551616) (hp : p < 65536) (ha : a < 65536) (hm : m < 65536) (hh : h < 65536) (hd : d < 65536) (hR : rightB k f r c b p a m h d = true) (w : World) (he : Env w) :
    Calls Tryd.prog 7 #[bpV k f r c b p a m h d] w fun e w' => ∃ v', e = .returned (.tuple #[v', .int .i64 0]) ∧ Puts w (bpB k f r c b p a m h d) v' w' ∧ Below w.heap.size w w' := by
  obtain ⟨k0, k1, k2, k3, k4, k5, k6, k7, k8, k9⟩ := (var_new w (bpC k f r c b p a m h d) 31).bp
  have HB := Lib.hid (box_below w (.cells (bpC k f r c b p a m h d) 31))
  have F0 := Lib.hid (var_new w (bpC k f r c b p a m h d) 31)
  have c1 := right_any k f r c b p a m h d hf (w.alloc (.cells (bpC k f r c b p a m h d) 31)) (he.below HB.out)
  rw [hR] at c1
  have hk := right_kind hR
  have CB := Lib.hid (fun (l : List UInt8) (v : Value) (B : Nat) (w : World) (hv : Bts w B v l) (hB : B ≤ w.heap.size) (hl : l.length ≤ 1000) => putBody_any l v B k f r c b p a m h d w hv hB hl hf hr hc hb hp ha hm hh hd)
  clear hR he hf hr hc hb hp ha hm hh hd
  go_enter Tryd.func7, Tryd.ntmps7
  go_wp2_with fail
  refine c1.mono ?_
  rintro e w1 ⟨rfl, hb1⟩
  have F1 := F0.out.below hb1 F0.out.lt
  have FF := Lib.hid (fun (w9 : World) (hb : Below w1.heap.size w1 w9) => F1.below hb F1.lt)
  have HB1 := Lib.hid (below_next HB.out hb1)
  clear k0 k1 k2 k3 k4 k5 k6 k7 k8 k9 HB F0 hb1 c1
  have kk : w1.cell? ⟨w.heap.size, 0, none⟩ = some (.int .i64 k) := F1.cell 0
  clear F1
  rcases hk with rfl | rfl | rfl
  · have c2 := putHead_any 0 128 (by omega) (by omega) w1
    go_wp2_with fail
    refine c2.mono ?_
    rintro e w2 ⟨x, rfl, P, -⟩
    have Q := Lib.hid (show Puts w (bpB 2 f r c b p a m h d) x w2 from P.back HB1.out)
    clear P c2
    go_wp2_with fail
    exact bodyPost_ret (v := .tuple #[x, .int .i64 0]) (by simp [results, Tryd.results7, go_sem]) rfl ⟨x, rfl, Q.out, Q.out.below⟩
  · have C2 := Lib.hid (putHead_any 0 0 (by omega) (by omega) w1.drew)
    go_wp2_with fail
    clear kk
    refine wp_region_held_drew (S := fun w' => Below w1.heap.size w1 w') (by kernel_rfl) (Below.refl _ _).drew (fun hS => ?_)
    refine wpAnyH_take (i := 1) (v := ?_) rfl (by kernel_rfl) (by kernel_rfl) (by kernel_rfl) (fun _ _ _ h => h) (Or.inl ⟨by rfl, ?_⟩) hS ?_
    rotate_left
    · (intro w9 hS9; obtain ⟨k0, k1, k2, k3, k4, k5, k6, k7, k8, k9⟩ := (FF.out w9 hS9).bp; go_simp; try with_reducible rfl)
    simp only [Act.put, List.getElem_toArray, List.getElem_cons_zero, List.getElem_cons_succ, List.setIfInBounds_toArray, List.set_cons_zero, List.set_cons_succ]
    refine wpAnyH_ready (rs := [0]) (by kernel_rfl) (by simp) (AllReadyH.cons rfl (fun K hK => ?_) AllReadyH.nil)
    go_simp
    refine (C2.out).mono ?_
    rintro e w2 ⟨x, rfl, P, hb2⟩
    have hS2 : Below w1.heap.size w1 w2 := Below.trans hS (hb2.mono (Below.size hS))
    refine hK.out _ _ hS2 (fun hS => ?_)
    clear hK K C2 hS2
    have C3 := Lib.hid (CB.out _ x _ w2 P.bts (Nat.le_refl _) (by rw [hdB_len]; omega))
    have P2 := Lib.hid P
    clear P hb2
    refine wpAnyH_ready (rs := [2]) (by kernel_rfl) (by simp) (AllReadyH.cons rfl (fun K hK => ?_) AllReadyH.nil)
    go_simp
    refine (C3.out).mono ?_
    rintro e w3 ⟨y, rfl, P3, hb3⟩
    have hS2 : Below w1.heap.size w1 w3 := Below.trans hS (hb3.mono (Below.size hS))
    refine hK.out _ _ hS2 (fun hS => ?_)
    clear hK K C3
    have Q := Lib.hid (show Puts w (bdB (hdB 0 0) f r c b p a m h d) y w3 from P3.back (below_next HB1.out (Below.trans (Below.refl _ _) (show Below w1.heap.size w1 w2 by assumption))))
    clear P3 hb3
    refine wpAnyH_take (i := 3) (v := ?_) rfl (by kernel_rfl) (by kernel_rfl) (by kernel_rfl) (fun _ _ _ h => h) (Or.inl ⟨by rfl, ?_⟩) hS ?_
    rotate_left
    · (intro w9 hS9; go_simp; try with_reducible rfl)
    simp only [Act.put, List.getElem_toArray, List.getElem_cons_zero, List.getElem_cons_succ, List.setIfInBounds_toArray, List.set_cons_zero, List.set_cons_succ]
    refine wpAnyH_take (i := 4) (v := ?_) rfl (by kernel_rfl) (by kernel_rfl) (by kernel_rfl) (fun _ _ _ h => h) (Or.inl ⟨by rfl, ?_⟩) hS ?_
    rotate_left
    · (intro w9 hS9; go_simp; try with_reducible rfl)
    simp only [Act.put, List.getElem_toArray, List.getElem_cons_zero, List.getElem_cons_succ, List.setIfInBounds_toArray, List.set_cons_zero, List.set_cons_succ]
    refine wpAnyH_done (by kernel_rfl) ?_ _
    clear hS hS2 FF CB P2
    go_wp2_with fail
    exact bodyPost_ret (v := .tuple #[y, .int .i64 0]) (by simp [results, Tryd.results7, go_sem]) rfl ⟨y, rfl, Q.out, Q.out.below⟩
  · have C2 := Lib.hid (putHead_any 2 2 (by omega) (by omega) w1.drew)
    go_wp2_with fail
    clear kk
    refine wp_region_held_drew (S := fun w' => Below w1.heap.size w1 w') (by kernel_rfl) (Below.refl _ _).drew (fun hS => ?_)
    refine wpAnyH_take (i := 1) (v := ?_) rfl (by kernel_rfl) (by kernel_rfl) (by kernel_rfl) (fun _ _ _ h => h) (Or.inl ⟨by rfl, ?_⟩) hS ?_
    rotate_left
    · (intro w9 hS9; obtain ⟨k0, k1, k2, k3, k4, k5, k6, k7, k8, k9⟩ := (FF.out w9 hS9).bp; go_simp; try with_reducible rfl)
    simp only [Act.put, List.getElem_toArray, List.getElem_cons_zero, List.getElem_cons_succ, List.setIfInBounds_toArray, List.set_cons_zero, List.set_cons_succ]
    refine wpAnyH_ready (rs := [0]) (by kernel_rfl) (by simp) (AllReadyH.cons rfl (fun K hK => ?_) AllReadyH.nil)
    go_simp
    refine (C2.out).mono ?_
    rintro e w2 ⟨x, rfl, P, hb2⟩
    have hS2 : Below w1.heap.size w1 w2 := Below.trans hS (hb2.mono (Below.size hS))
    refine hK.out _ _ hS2 (fun hS => ?_)
    clear hK K C2 hS2
    have C3 := Lib.hid (CB.out _ x _ w2 P.bts (Nat.le_refl _) (by rw [hdB_len]; omega))
    have P2 := Lib.hid P
    clear P hb2
    refine wpAnyH_ready (rs := [2]) (by kernel_rfl) (by simp) (AllReadyH.cons rfl (fun K hK => ?_) AllReadyH.nil)
    go_simp
    refine (C3.out).mono ?_
    rintro e w3 ⟨y, rfl, P3, hb3⟩
    have hS2 : Below w1.heap.size w1 w3 := Below.trans hS (hb3.mono (Below.size hS))
    refine hK.out _ _ hS2 (fun hS => ?_)
    clear hK K C3
    have Q := Lib.hid (show Puts w (bdB (hdB 2 2) f r c b p a m h d) y w3 from P3.back (below_next HB1.out (Below.trans (Below.refl _ _) (show Below w1.heap.size w1 w2 by assumption))))
    clear P3 hb3
    refine wpAnyH_take (i := 3) (v := ?_) rfl (by kernel_rfl) (by kernel_rfl) (by kernel_rfl) (fun _ _ _ h => h) (Or.inl ⟨by rfl, ?_⟩) hS ?_
    rotate_left
    · (intro w9 hS9; go_simp; try with_reducible rfl)
    simp only [Act.put, List.getElem_toArray, List.getElem_cons_zero, List.getElem_cons_succ, List.setIfInBounds_toArray, List.set_cons_zero, List.set_cons_succ]
    refine wpAnyH_done (by kernel_rfl) ?_ _
    have c4 := put2 (w := w) Q.out.below Q.out.bts (Nat.le_refl _) (by rw [bdB_len, hdB_len]; omega) 1 0 (by omega) (by omega)
    clear hS hS2 FF CB P2 Q
    go_wp2_with fail
    refine c4.mono ?_
    rintro e w4 ⟨z, rfl, P4, -⟩
    have R := Lib.hid (show Puts w (bpB 3 f r c b p a m h d) z w4 from P4)
    clear P4 c4
    go_wp2_with fail
    exact bodyPost_ret (v := .tuple #[z, .int .i64 0]) (by simp [results, Tryd.results7, go_sem]) rfl ⟨z, rfl, R.out, R.out.below⟩
end Go.Proofs.YtdhmiekheecicaaDoor
