/- Contracts of times.Of and Lives, of the reference's Seconds, of the roles in flags, and of the flags' bits. -/
import Derived.Test.YtjfdochceejegaaDoorIa
import Derived.Deep.DeepCutAuto
namespace Go.Proofs.YtjfdochceejegaaDoor
open Go.RowKit Go.Sort

theorem roundUp_any (n : Nat) (hn : n < 65536) (w : World) : Calls Tryd.prog 53 #[.int .u16 n] w fun e w' => e = .returned (.int .i64 ((n + 255) / 256 : Nat)) ∧ w = w' := by
  go_enter Tryd.func53, Tryd.ntmps53
  go_wp2
  go_ret
  exact ⟨ret_int (by omega), rfl⟩
theorem roundDown_any (n : Nat) (hn : n < 65536) (w : World) : Calls Tryd.prog 54 #[.int .u16 n] w fun e w' => e = .returned (.int .i64 (n / 256 : Nat)) ∧ w = w' := by
  go_enter Tryd.func54, Tryd.ntmps54
  go_wp2
  go_ret
  exact ⟨ret_int (by omega), rfl⟩
abbrev bpC (k f r c b p a m h d : Int) : Array Value := #[.int .i64 k, .int .u8 f, .int .u64 r, .int .u32 c, .int .u64 b, .int .u16 p, .int .u16 a, .int .u16 m, .int .u16 h, .int .u16 d]
abbrev bpV (k f r c b p a m h d : Int) : Value := .agg (bpC k f r c b p a m h d)
/-- The four times of a message that lies at b. -/
def Four (w : World) (b : Nat) (a m h d : Nat) : Prop := w.cell? ⟨b, 6, none⟩ = some (.int .u16 a) ∧ w.cell? ⟨b, 7, none⟩ = some (.int .u16 m) ∧ w.cell? ⟨b, 8, none⟩ = some (.int .u16 h) ∧ w.cell? ⟨b, 9, none⟩ = some (.int .u16 d)
theorem max_if (H : Nat) : ((max H 1 : Nat) : Int) = if (H : Int) < 1 then 1 else (H : Int) := by split <;> omega
set_option maxHeartbeats 1000000 in
theorem tof_any (k f r c b p : Int) (a m h d : Nat) (ha : a < 65536) (hm : m < 65536) (hh : h < 65536) (hd : d < 65536) (w : World) :
    Calls Tryd.prog 38 #[bpV k f r c b p a m h d] w fun e w' => e = .returned (tmV ((a + 255) / 256 : Nat) (m / 256 : Nat) (max (h / 256) 1 : Nat) (d / 256 : Nat)) ∧ Below w.heap.size w w' := by
  have c1 := roundUp_any a ha
  have c2 := roundDown_any m hm
  have c3 := roundDown_any h hh
  have c4 := roundDown_any d hd
  generalize (a + 255) / 256 = A at *
  generalize m / 256 = M at *
  generalize h / 256 = H at *
  generalize d / 256 = D at *
  clear ha hm hh hd
  have S0 : ∀ xs, Four ((w.alloc (.cells (bpC k f r c b p a m h d) 36)).alloc (.cells xs 33)) w.heap.size a m h d := fun xs => by
    have hv := (var_new w (bpC k f r c b p a m h d) 36).alloc (.cells xs 33)
    exact ⟨hv.cell 6, hv.cell 7, hv.cell 8, hv.cell 9⟩
  have HS0 := Lib.hid S0
  clear S0
  go_enter Tryd.func38, Tryd.ntmps38
  go_wp2_with fail
  refine wp_region_held_drew (S := fun w' => Four w' w.heap.size a m h d) (by kernel_rfl) (HS0.out (tmC 0 0 0 0)) (fun hS => ?_)
  refine wpAnyH_take (i := 0) (v := ?_) rfl (by kernel_rfl) (by kernel_rfl) (by kernel_rfl) (fun _ _ _ h => h) (Or.inl ⟨by rfl, ?_⟩) hS ?_
  rotate_left
  · (intro w9 hS9; go_simp; try with_reducible rfl)
  simp only [Act.put, List.getElem_toArray, List.getElem_cons_zero, List.setIfInBounds_toArray, List.set_cons_zero, List.set_cons_succ]
  refine wpAnyH_take (i := 1) (v := ?_) rfl (by kernel_rfl) (by kernel_rfl) (by kernel_rfl) (fun _ _ _ h => h) (Or.inl ⟨by rfl, ?_⟩) hS ?_
  rotate_left
  · (intro w9 hS9; have q := hS9.1; go_simp; try with_reducible rfl)
  simp only [Act.put, List.getElem_toArray, List.getElem_cons_zero, List.getElem_cons_succ, List.setIfInBounds_toArray, List.set_cons_zero, List.set_cons_succ]
  refine wpAnyH_take (i := 3) (v := ?_) rfl (by kernel_rfl) (by kernel_rfl) (by kernel_rfl) (fun _ _ _ h => h) (Or.inl ⟨by rfl, ?_⟩) hS ?_
  rotate_left
  · (intro w9 hS9; go_simp; try with_reducible rfl)
  simp only [Act.put, List.getElem_toArray, List.getElem_cons_zero, List.getElem_cons_succ, List.setIfInBounds_toArray, List.set_cons_zero, List.set_cons_succ]
  refine wpAnyH_take (i := 4) (v := ?_) rfl (by kernel_rfl) (by kernel_rfl) (by kernel_rfl) (fun _ _ _ h => h) (Or.inl ⟨by rfl, ?_⟩) hS ?_
  rotate_left
  · (intro w9 hS9; have q := hS9.2.1; go_simp; try with_reducible rfl)
  simp only [Act.put, List.getElem_toArray, List.getElem_cons_zero, List.getElem_cons_succ, List.setIfInBounds_toArray, List.set_cons_zero, List.set_cons_succ]
  refine wpAnyH_take (i := 6) (v := ?_) rfl (by kernel_rfl) (by kernel_rfl) (by kernel_rfl) (fun _ _ _ h => h) (Or.inl ⟨by rfl, ?_⟩) hS ?_
  rotate_left
  · (intro w9 hS9; go_simp; try with_reducible rfl)
  simp only [Act.put, List.getElem_toArray, List.getElem_cons_zero, List.getElem_cons_succ, List.setIfInBounds_toArray, List.set_cons_zero, List.set_cons_succ]
  refine wpAnyH_take (i := 7) (v := ?_) rfl (by kernel_rfl) (by kernel_rfl) (by kernel_rfl) (fun _ _ _ h => h) (Or.inl ⟨by rfl, ?_⟩) hS ?_
  rotate_left
  · (intro w9 hS9; have q := hS9.2.2.1; go_simp; try with_reducible rfl)
  simp only [Act.put, List.getElem_toArray, List.getElem_cons_zero, List.getElem_cons_succ, List.setIfInBounds_toArray, List.set_cons_zero, List.set_cons_succ]
  refine wpAnyH_take (i := 10) (v := ?_) rfl (by kernel_rfl) (by kernel_rfl) (by kernel_rfl) (fun _ _ _ h => h) (Or.inl ⟨by rfl, ?_⟩) hS ?_
  rotate_left
  · (intro w9 hS9; go_simp; try with_reducible rfl)
  simp only [Act.put, List.getElem_toArray, List.getElem_cons_zero, List.getElem_cons_succ, List.setIfInBounds_toArray, List.set_cons_zero, List.set_cons_succ]
  refine wpAnyH_take (i := 11) (v := ?_) rfl (by kernel_rfl) (by kernel_rfl) (by kernel_rfl) (fun _ _ _ h => h) (Or.inl ⟨by rfl, ?_⟩) hS ?_
  rotate_left
  · (intro w9 hS9; have q := hS9.2.2.2; go_simp; try with_reducible rfl)
  simp only [Act.put, List.getElem_toArray, List.getElem_cons_zero, List.getElem_cons_succ, List.setIfInBounds_toArray, List.set_cons_zero, List.set_cons_succ]
  refine wpAnyH_ready (rs := [2]) (by kernel_rfl) (by simp) (AllReadyH.cons rfl (fun K hK => ?_) AllReadyH.nil)
  go_simp
  refine (c1 _).mono ?_
  rintro e w' ⟨rfl, rfl⟩
  refine hK.out _ _ hS (fun hS => ?_)
  clear hK K c1
  refine wpAnyH_ready (rs := [5]) (by kernel_rfl) (by simp) (AllReadyH.cons rfl (fun K hK => ?_) AllReadyH.nil)
  go_simp
  refine (c2 _).mono ?_
  rintro e w' ⟨rfl, rfl⟩
  refine hK.out _ _ hS (fun hS => ?_)
  clear hK K c2
  refine wpAnyH_ready (rs := [8]) (by kernel_rfl) (by simp) (AllReadyH.cons rfl (fun K hK => ?_) AllReadyH.nil)
  go_simp
  refine (c3 _).mono ?_
  rintro e w' ⟨rfl, rfl⟩
  refine hK.out _ _ hS (fun hS => ?_)
  clear hK K c3
  refine wpAnyH_take (i := 9) (v := ?_) rfl (by kernel_rfl) (by kernel_rfl) (by kernel_rfl) (fun _ _ _ h => h) (Or.inl ⟨by rfl, ?_⟩) hS ?_
  rotate_left
  · (intro w9 hS9; go_simp; try with_reducible rfl)
  simp only [Act.put, List.getElem_toArray, List.getElem_cons_zero, List.getElem_cons_succ, List.setIfInBounds_toArray, List.set_cons_zero, List.set_cons_succ]
  refine wpAnyH_ready (rs := [12]) (by kernel_rfl) (by simp) (AllReadyH.cons rfl (fun K hK => ?_) AllReadyH.nil)
  go_simp
  refine (c4 _).mono ?_
  rintro e w' ⟨rfl, rfl⟩
  refine hK.out _ _ hS (fun hS => ?_)
  clear hK K c4
  refine wpAnyH_take (i := 13) (v := ?_) rfl (by kernel_rfl) (by kernel_rfl) (by kernel_rfl) (fun _ _ _ h => h) (Or.inl ⟨by rfl, ?_⟩) hS ?_
  rotate_left
  · (intro w9 hS9; go_simp; try with_reducible rfl)
  simp only [Act.put, List.getElem_toArray, List.getElem_cons_zero, List.getElem_cons_succ, List.setIfInBounds_toArray, List.set_cons_zero, List.set_cons_succ]
  refine wpAnyH_ready (rs := [14]) (by kernel_rfl) (by simp) (AllReadyH.cons rfl (fun K hK => ?_) AllReadyH.nil)
  go_simp
  refine hK.out _ _ (HS0.out (tmC A M (if (H : Int) < 1 then 1 else (H : Int)) D)) (fun hS => ?_)
  clear hK K
  refine wpAnyH_done (by kernel_rfl) ?_ _
  have E := max_if H
  generalize (if (H : Int) < 1 then 1 else (H : Int)) = X at *
  have E := Lib.hid E
  go_wp2_with fail
  go_returns
  exact ⟨by rw [E.out], (((Below.refl _ _).alloc (Nat.le_refl _) _).alloc (by rw [alloc_size]; omega) _).drew⟩
/-- The seconds of a port's message. -/
def secA (xs : Array Value) : Int := (((numI xs 78).toNat + 255) / 256 : Nat)
def secM (xs : Array Value) : Int := ((numI xs 79).toNat / 256 : Nat)
def secH (xs : Array Value) : Int := (max ((numI xs 80).toNat / 256) 1 : Nat)
def secD (xs : Array Value) : Int := ((numI xs 81).toNat / 256 : Nat)
theorem msgC_bp (xs : Array Value) : msgC xs = bpC (numI xs 72) (numI xs 73) (numI xs 74) (numI xs 75) (numI xs 76) (numI xs 77) (numI xs 78) (numI xs 79) (numI xs 80) (numI xs 81) := rfl
theorem of_msg (xs : Array Value) (hr : Rg xs) (w : World) : Calls Tryd.prog 38 #[.agg (msgC xs)] w fun e w' => e = .returned (tmV (secA xs) (secM xs) (secH xs) (secD xs)) ∧ Below w.heap.size w w' := by
  obtain ⟨a, ea, la⟩ := hr.a
  obtain ⟨m, em, lm⟩ := hr.m
  obtain ⟨h, eh, lh⟩ := hr.h
  obtain ⟨d, ed, ld⟩ := hr.d
  rw [msgC_bp]
  unfold secA secM secH secD
  rw [ea, em, eh, ed]
  exact tof_any _ _ _ _ _ _ a m h d la lm lh ld w
end Go.Proofs.YtjfdochceejegaaDoor
