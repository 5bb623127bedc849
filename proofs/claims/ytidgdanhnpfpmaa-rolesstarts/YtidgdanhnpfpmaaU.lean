/- Contract of setRoot where there is a root port. -/
import Derived.Test.YtidgdanhnpfpmaaT
import Derived.Test.YtidgdanhnpfpmaaR
namespace Go.Proofs.Ytidgdanhnpfpmaa
open Go.RowKit Go.Sort
set_option maxRecDepth 20000 in
set_option maxHeartbeats 1000000 in
theorem setRoot_some (B : Bd) (bb pb n cap j : Nat) (A xs : Array Value) (x : Pd) (w : World) (hbb : VarAt w bb (B.cells (.slice (some ⟨pb, 0, none⟩) n cap)) 34) (hpb : VarAt w pb A 50) (hs : Sub A (j * 90) xs) (hx : x.In xs) (ht : Typed xs) (hj : j < n) :
    Calls Try.prog 28 #[.pointer (some ⟨bb, 0, none⟩), .int .i64 j] w fun e w' => e = .returned (.tuple #[]) ∧ VarAt w' bb ((B.put x.vr (sat x.vc x.cost) x.vb x.vp x.id (wrap64 (x.a + 1)) x.m x.h x.d).cells (.slice (some ⟨pb, 0, none⟩) n cap)) 34 ∧ Only bb w w' := by
  have z := zero48
  have sn := store_new ht z48_size
  generalize z48 = Z at *
  have c17 : w.cell? ⟨bb, 17, none⟩ = some (.slice (some ⟨pb, 0, none⟩) n cap) := hbb.cell 17
  have e1 : ((j : Int) == -1) = false := by simp
  have lw := Lib.hid hbb.lt
  have P0 := Lib.hid hpb
  have HS := Lib.hid hs
  have HX := Lib.hid hx
  have HB0 := Lib.hid ((Only.refl bb w).alloc (.cells xs 50)).drew
  have V := Lib.hid (hbb.alloc (.cells xs 50)).drew
  have k1 := behind_any xs x hx
  have k2 := older_any x.a x.m x.h x.d
  clear hbb hpb hs hx ht
  generalize sat x.vc x.cost = SC at *
  generalize wrap64 (x.a + 1) = X1 at *
  go_enter Try.func28, Try.ntmps28
  go_wp2_with fail
  refine wp_load_port _ rfl rfl P0.out HS.out HX.out.size ?_
  have xz := HX.out.size
  go_wp2_with fail
  clear sn z c17 P0 HS hj e1 xz
  have HS0 := Lib.hid (var_new w xs 50)
  have hne : w.heap.size ≠ bb := Nat.ne_of_gt lw.out
  generalize w.alloc (.cells xs 50) = W at *
  generalize w.heap.size = pv at *
  refine wp_region_held_drew (S := fun w' => VarAt w' pv xs 50) (by kernel_rfl) HS0.out.drew (fun hS => ?_)
  refine wpAnyH_take (i := 0) (v := ?_) rfl (by kernel_rfl) (by kernel_rfl) (by kernel_rfl) (fun _ _ _ h => h) (Or.inl ⟨by rfl, ?_⟩) hS ?_
  rotate_left
  · (intro w9 hS9; go_simp; try with_reducible rfl)
  try simp only [Act.put, List.getElem_toArray, List.getElem_cons_zero, List.setIfInBounds_toArray, List.set_cons_zero, List.set_cons_succ]
  refine wpAnyH_take (i := 1) (v := ?_) rfl (by kernel_rfl) (by kernel_rfl) (by kernel_rfl) (fun _ _ _ h => h) (Or.inl ⟨by rfl, ?_⟩) hS ?_
  rotate_left
  · (intro w9 hS9; go_simp; try with_reducible rfl)
  try simp only [Act.put, List.getElem_toArray, List.getElem_cons_zero, List.getElem_cons_succ, List.setIfInBounds_toArray, List.set_cons_zero, List.set_cons_succ]
  refine wpAnyH_take (i := 2) (v := ?_) rfl (by kernel_rfl) (by kernel_rfl) (by kernel_rfl) (fun _ _ _ h => h) (Or.inl ⟨by rfl, ?_⟩) hS ?_
  rotate_left
  · (intro w9 hS9; go_simp; try with_reducible rfl)
  try simp only [Act.put, List.getElem_toArray, List.getElem_cons_zero, List.getElem_cons_succ, List.setIfInBounds_toArray, List.set_cons_zero, List.set_cons_succ]
  refine wpAnyH_take (i := 3) (v := .agg xs) rfl (by kernel_rfl) (by kernel_rfl) (by kernel_rfl) (fun _ _ _ h => h) (yields_port (by rfl) _ rfl rfl (fun w9 h9 => range_port h9 (fun k _ => by rw [Nat.zero_add]) HX.out.size) HX.out.size) hS ?_
  try simp only [Act.put, List.getElem_toArray, List.getElem_cons_zero, List.getElem_cons_succ, List.setIfInBounds_toArray, List.set_cons_zero, List.set_cons_succ]
  refine wpAnyH_take (i := 5) (v := ?_) rfl (by kernel_rfl) (by kernel_rfl) (by kernel_rfl) (fun _ _ _ h => h) (Or.inl ⟨by rfl, ?_⟩) hS ?_
  rotate_left
  · (intro w9 hS9; go_simp; try with_reducible rfl)
  try simp only [Act.put, List.getElem_toArray, List.getElem_cons_zero, List.getElem_cons_succ, List.setIfInBounds_toArray, List.set_cons_zero, List.set_cons_succ]
  refine wpAnyH_take (i := 6) (v := ?_) rfl (by kernel_rfl) (by kernel_rfl) (by kernel_rfl) (fun _ _ _ h => h) (Or.inl ⟨by rfl, ?_⟩) hS ?_
  rotate_left
  · (intro w9 hS9; have q0 := hS9.cell 0; rw [HX.out.id] at q0; go_simp; try with_reducible rfl)
  try simp only [Act.put, List.getElem_toArray, List.getElem_cons_zero, List.getElem_cons_succ, List.setIfInBounds_toArray, List.set_cons_zero, List.set_cons_succ]
  refine wpAnyH_take (i := 7) (v := ?_) rfl (by kernel_rfl) (by kernel_rfl) (by kernel_rfl) (fun _ _ _ h => h) (Or.inl ⟨by rfl, ?_⟩) hS ?_
  rotate_left
  · (intro w9 hS9; go_simp; try with_reducible rfl)
  try simp only [Act.put, List.getElem_toArray, List.getElem_cons_zero, List.getElem_cons_succ, List.setIfInBounds_toArray, List.set_cons_zero, List.set_cons_succ]
  refine wpAnyH_take (i := 8) (v := ?_) rfl (by kernel_rfl) (by kernel_rfl) (by kernel_rfl) (fun _ _ _ h => h) (Or.inl ⟨by rfl, ?_⟩) hS ?_
  rotate_left
  · (intro w9 hS9; have q68 := hS9.cell 68; rw [HX.out.a] at q68; have q69 := hS9.cell 69; rw [HX.out.m] at q69; have q70 := hS9.cell 70; rw [HX.out.h] at q70; have q71 := hS9.cell 71; rw [HX.out.d] at q71; go_simp; try with_reducible rfl)
  try simp only [Act.put, List.getElem_toArray, List.getElem_cons_zero, List.getElem_cons_succ, List.setIfInBounds_toArray, List.set_cons_zero, List.set_cons_succ]
  refine wpAnyH_ready (rs := [4]) (by kernel_rfl) (by simp) (AllReadyH.cons rfl (fun K hK => ?_) AllReadyH.nil)
  go_simp
  refine (k1 _).mono ?_
  rintro e w1 ⟨rfl, hb⟩
  replace HB0 := Lib.hid (HB0.out.trans (only_below hb bb))
  replace V := Lib.hid (V.out.below hb V.out.lt)
  refine hK.out _ _ (VarAt.below hS hb hS.lt) (fun hS => ?_)
  clear hK K hb k1 HS0
  refine wpAnyH_ready (rs := [9]) (by kernel_rfl) (by simp) (AllReadyH.cons rfl (fun K hK => ?_) AllReadyH.nil)
  go_simp
  refine (k2 _).mono ?_
  rintro e w2 ⟨rfl, hb⟩
  have HB := Lib.hid (HB0.out.trans (only_below hb bb))
  replace V := Lib.hid (V.out.below hb V.out.lt)
  refine hK.out _ _ (VarAt.below hS hb hS.lt) (fun hS => ?_)
  clear hK K hb k2 HB0
  refine wpAnyH_take (i := 10) (v := ?_) rfl (by kernel_rfl) (by kernel_rfl) (by kernel_rfl) (fun _ _ _ h => h) (Or.inl ⟨by rfl, ?_⟩) hS ?_
  rotate_left
  · (intro w9 hS9; go_simp; try with_reducible rfl)
  try simp only [Act.put, List.getElem_toArray, List.getElem_cons_zero, List.getElem_cons_succ, List.setIfInBounds_toArray, List.set_cons_zero, List.set_cons_succ]
  refine wpAnyH_take (i := 11) (v := ?_) rfl (by kernel_rfl) (by kernel_rfl) (by kernel_rfl) (fun _ _ _ h => h) (Or.inl ⟨by rfl, ?_⟩) hS ?_
  rotate_left
  · (intro w9 hS9; go_simp; try with_reducible rfl)
  try simp only [Act.put, List.getElem_toArray, List.getElem_cons_zero, List.getElem_cons_succ, List.setIfInBounds_toArray, List.set_cons_zero, List.set_cons_succ]
  have f0 := V.out.some (k := 7) (by simp)
  have f1 := V.out.some (k := 8) (by simp)
  have f2 := V.out.some (k := 9) (by simp)
  have f3 := V.out.some (k := 10) (by simp)
  have fz := V.out.frozen
  refine wpAnyH_ready (rs := [12]) (by kernel_rfl) (by simp) (AllReadyH.cons rfl (fun K hK => ?_) AllReadyH.nil)
  go_simp
  replace V := Lib.hid (put_root (x.vr) (SC) (x.vb) (x.vp) V.out)
  replace HB := Lib.hid (only_set4 7 (.int .u64 ((x.vr : Nat) : Int)) (.int .u32 ((SC : Nat) : Int)) (.int .u64 ((x.vb : Nat) : Int)) (.int .u16 ((x.vp : Nat) : Int)) HB.out)
  simp only [Nat.reduceAdd] at HB
  generalize hw : (((w2.setCell ⟨bb, 7, none⟩ (.int .u64 ((x.vr : Nat) : Int))).setCell ⟨bb, 8, none⟩ (.int .u32 ((SC : Nat) : Int))).setCell ⟨bb, 9, none⟩ (.int .u64 ((x.vb : Nat) : Int))).setCell ⟨bb, 10, none⟩ (.int .u16 ((x.vp : Nat) : Int)) = w3 at *
  have hS' : VarAt w3 pv xs 50 := by
    rw [← hw]
    exact (((hS.set_other (p := ⟨bb, 7, none⟩) hne _).set_other (p := ⟨bb, 8, none⟩) hne _).set_other (p := ⟨bb, 9, none⟩) hne _).set_other (p := ⟨bb, 10, none⟩) hne _
  clear hw
  clear f0 f1 f2 f3 fz
  refine hK.out _ _ hS' (fun hS => ?_)
  clear hK K hS'
  refine wpAnyH_take (i := 13) (v := ?_) rfl (by kernel_rfl) (by kernel_rfl) (by kernel_rfl) (fun _ _ _ h => h) (Or.inl ⟨by rfl, ?_⟩) hS ?_
  rotate_left
  · (intro w9 hS9; go_simp; try with_reducible rfl)
  try simp only [Act.put, List.getElem_toArray, List.getElem_cons_zero, List.getElem_cons_succ, List.setIfInBounds_toArray, List.set_cons_zero, List.set_cons_succ]
  refine wpAnyH_take (i := 14) (v := ?_) rfl (by kernel_rfl) (by kernel_rfl) (by kernel_rfl) (fun _ _ _ h => h) (Or.inl ⟨by rfl, ?_⟩) hS ?_
  rotate_left
  · (intro w9 hS9; go_simp; try with_reducible rfl)
  try simp only [Act.put, List.getElem_toArray, List.getElem_cons_zero, List.getElem_cons_succ, List.setIfInBounds_toArray, List.set_cons_zero, List.set_cons_succ]
  have f0 := V.out.some (k := 11) (by simp)
  have fz := V.out.frozen
  refine wpAnyH_ready (rs := [15]) (by kernel_rfl) (by simp) (AllReadyH.cons rfl (fun K hK => ?_) AllReadyH.nil)
  go_simp
  replace V := Lib.hid (put_port (x.id) V.out)
  replace HB := Lib.hid (HB.out.set 11 (.int .u16 ((x.id : Nat) : Int)))
  generalize hw : w3.setCell ⟨bb, 11, none⟩ (.int .u16 ((x.id : Nat) : Int)) = w4 at *
  have hS' : VarAt w4 pv xs 50 := by
    rw [← hw]
    exact hS.set_other (p := ⟨bb, 11, none⟩) hne _
  clear hw
  clear f0 fz
  refine hK.out _ _ hS' (fun hS => ?_)
  clear hK K hS'
  refine wpAnyH_take (i := 16) (v := ?_) rfl (by kernel_rfl) (by kernel_rfl) (by kernel_rfl) (fun _ _ _ h => h) (Or.inl ⟨by rfl, ?_⟩) hS ?_
  rotate_left
  · (intro w9 hS9; go_simp; try with_reducible rfl)
  try simp only [Act.put, List.getElem_toArray, List.getElem_cons_zero, List.getElem_cons_succ, List.setIfInBounds_toArray, List.set_cons_zero, List.set_cons_succ]
  refine wpAnyH_take (i := 17) (v := ?_) rfl (by kernel_rfl) (by kernel_rfl) (by kernel_rfl) (fun _ _ _ h => h) (Or.inl ⟨by rfl, ?_⟩) hS ?_
  rotate_left
  · (intro w9 hS9; go_simp; try with_reducible rfl)
  try simp only [Act.put, List.getElem_toArray, List.getElem_cons_zero, List.getElem_cons_succ, List.setIfInBounds_toArray, List.set_cons_zero, List.set_cons_succ]
  have f0 := V.out.some (k := 12) (by simp)
  have f1 := V.out.some (k := 13) (by simp)
  have f2 := V.out.some (k := 14) (by simp)
  have f3 := V.out.some (k := 15) (by simp)
  have fz := V.out.frozen
  refine wpAnyH_ready (rs := [18]) (by kernel_rfl) (by simp) (AllReadyH.cons rfl (fun K hK => ?_) AllReadyH.nil)
  go_simp
  replace V := Lib.hid (put_times (X1) (x.m) (x.h) (x.d) V.out)
  replace HB := Lib.hid (only_set4 12 (.int .i64 (X1)) (.int .i64 (x.m)) (.int .i64 (x.h)) (.int .i64 (x.d)) HB.out)
  simp only [Nat.reduceAdd] at HB
  generalize hw : (((w4.setCell ⟨bb, 12, none⟩ (.int .i64 (X1))).setCell ⟨bb, 13, none⟩ (.int .i64 (x.m))).setCell ⟨bb, 14, none⟩ (.int .i64 (x.h))).setCell ⟨bb, 15, none⟩ (.int .i64 (x.d)) = w5 at *
  have hS' : VarAt w5 pv xs 50 := by
    rw [← hw]
    exact (((hS.set_other (p := ⟨bb, 12, none⟩) hne _).set_other (p := ⟨bb, 13, none⟩) hne _).set_other (p := ⟨bb, 14, none⟩) hne _).set_other (p := ⟨bb, 15, none⟩) hne _
  clear hw
  clear f0 f1 f2 f3 fz
  refine hK.out _ _ hS' (fun hS => ?_)
  clear hK K hS'
  refine wpAnyH_done (by kernel_rfl) ?_ _
  go_wp2_with fail
  go_end0
  exact ⟨rfl, V.out, HB.out⟩
end Go.Proofs.Ytidgdanhnpfpmaa
