/- Contracts of what turns seconds to units and back. -/
import Derived.Test.YtogmacdcaoigfaaA
import Derived.Deep.RegionHeld
namespace Go.Proofs.Ytogmacdcaoigfaa
open Go.RowKit Go.Sort

/-- Seconds in units. -/
def unt (n : Int) : Int := if n < 0 then 0 else if 255 < n then 65280 else 256 * n
theorem units_any (n : Int) (w : World) : Calls Try.prog 17 #[.int .i64 n] w fun e w' => e = .returned (.int .u16 (unt n)) ∧ w = w' := by
  by_cases h1 : n < 0
  · have h3 : (if n < 0 then 0 else n) = 0 := if_pos h1
    go_enter Try.func17, Try.ntmps17
    go_wp2
    go_ret
    exact ⟨ret_int (by unfold unt; rw [if_pos (by omega)]), rfl⟩
  · have h3 : (if n < 0 then 0 else n) = n := if_neg h1
    by_cases h2 : 255 < n
    · go_enter Try.func17, Try.ntmps17
      go_wp2
      go_ret
      exact ⟨ret_int (by unfold unt; rw [if_neg (by omega), if_pos (by omega)]), rfl⟩
    · go_enter Try.func17, Try.ntmps17
      go_wp2
      go_ret
      exact ⟨ret_int (by unfold unt; rw [if_neg (by omega), if_neg (by omega)]; omega), rfl⟩
theorem unit_any (n : Int) (w : World) : Calls Try.prog 11 #[.int .i64 n] w fun e w' => e = .returned (.int .u16 (unt n)) ∧ w = w' := by
  by_cases h1 : n < 0
  · go_enter Try.func11, Try.ntmps11
    go_wp2
    go_ret
    exact ⟨ret_int (by unfold unt; rw [if_pos (by omega)]), rfl⟩
  · by_cases h2 : 255 < n
    · go_enter Try.func11, Try.ntmps11
      go_wp2
      go_ret
      exact ⟨ret_int (by unfold unt; rw [if_neg (by omega), if_pos (by omega)]), rfl⟩
    · go_enter Try.func11, Try.ntmps11
      go_wp2
      go_ret
      exact ⟨ret_int (by unfold unt; rw [if_neg (by omega), if_neg (by omega)]), rfl⟩
theorem in_any (n l : Int) (w : World) : Calls Try.prog 10 #[.int .i64 n, .int .i64 l] w fun e w' => e = .returned (.bool (decide (l ≤ n) && decide (n ≤ 255))) ∧ w = w' := by
  cases b1 : decide (l ≤ n)
  · go_enter Try.func10, Try.ntmps10
    go_wp2
    go_ret
    exact ⟨rfl, rfl⟩
  · cases b2 : decide (n ≤ 255)
    · go_enter Try.func10, Try.ntmps10
      go_wp2
      go_ret
      exact ⟨rfl, rfl⟩
    · go_enter Try.func10, Try.ntmps10
      go_wp2
      go_ret
      exact ⟨rfl, rfl⟩

/-- A message's cells. -/
abbrev bpC (k f r c b p a m h d : Int) : Array Value := #[.int .i64 k, .int .u8 f, .int .u64 r, .int .u32 c, .int .u64 b, .int .u16 p, .int .u16 a, .int .u16 m, .int .u16 h, .int .u16 d]
abbrev bpV (k f r c b p a m h d : Int) : Value := .agg (bpC k f r c b p a m h d)
/-- The four times of a message that lies at b. -/
def Four (w : World) (b : Nat) (a m h d : Nat) : Prop := w.cell? ⟨b, 6, none⟩ = some (.int .u16 a) ∧ w.cell? ⟨b, 7, none⟩ = some (.int .u16 m) ∧ w.cell? ⟨b, 8, none⟩ = some (.int .u16 h) ∧ w.cell? ⟨b, 9, none⟩ = some (.int .u16 d)
theorem max_if (H : Nat) : ((max H 1 : Nat) : Int) = if (H : Int) < 1 then 1 else (H : Int) := by split <;> omega
set_option maxHeartbeats 1000000 in
theorem of_any (k f r c b p : Int) (a m h d : Nat) (ha : a < 65536) (hm : m < 65536) (hh : h < 65536) (hd : d < 65536) (w : World) :
    Calls Try.prog 9 #[bpV k f r c b p a m h d] w fun e w' => e = .returned (tmV ((a + 255) / 256 : Nat) (m / 256 : Nat) (max (h / 256) 1 : Nat) (d / 256 : Nat)) ∧ Below w.heap.size w w' := by
  have c1 := roundUp_any a ha
  have c2 := roundDown_any m hm
  have c3 := roundDown_any h hh
  have c4 := roundDown_any d hd
  generalize (a + 255) / 256 = A at *
  generalize m / 256 = M at *
  generalize h / 256 = H at *
  generalize d / 256 = D at *
  clear ha hm hh hd
  have S0 : ∀ xs, Four ((w.alloc (.cells (bpC k f r c b p a m h d) 37)).alloc (.cells xs 23)) w.heap.size a m h d := fun xs => by
    have hv := (var_new w (bpC k f r c b p a m h d) 37).alloc (.cells xs 23)
    exact ⟨hv.cell 6, hv.cell 7, hv.cell 8, hv.cell 9⟩
  have HS0 := Lib.hid S0
  clear S0
  go_enter Try.func9, Try.ntmps9
  go_wp2_with fail
  refine wp_region_held_drew (S := fun w' => Four w' w.heap.size a m h d) (by kernel_rfl) (HS0.out (tmC 0 0 0 0)) (fun hS => ?_)
  refine wpAnyH_take (i := 0) (v := ?_) rfl (by kernel_rfl) (by kernel_rfl) (by kernel_rfl) (fun _ _ _ h => h) (Or.inl ⟨by rfl, ?_⟩) hS ?_
  rotate_left
  · (intro w9 hS9; go_simp; try with_reducible rfl)
  simp only [Act.put, List.getElem_toArray, List.getElem_cons_zero, List.setIfInBounds_toArray, List.set_cons_zero, List.set_cons_succ]
  refine wpAnyH_take (i := 1) (v := ?_) rfl (by kernel_rfl) (by kernel_rfl) (by kernel_rfl) (fun _ _ _ h => h) (Or.inl ⟨by rfl, ?_⟩) hS ?_
  rotate_left
  · (intro w9 hS9; have q := hS9.1; go_simp; try with_reducible rfl)
  simp only [Act.put, List.getElem_toArray, List.getElem_cons_zero, List.getElem_cons_succ, List.setIfInBounds_toArray, List.set_cons_zero, List.set_cons_succ]
  refine wpAnyH_take (i := 3) (v := ?_) rfl (by kernel_rfl) (by kernel_rfl) (by kernel_rfl) (fun _ _ _ h => h) (Or.inl ⟨by rfl, ?_⟩) hS ?_
  rotate_left
  · (intro w9 hS9; go_simp; try with_reducible rfl)
  simp only [Act.put, List.getElem_toArray, List.getElem_cons_zero, List.getElem_cons_succ, List.setIfInBounds_toArray, List.set_cons_zero, List.set_cons_succ]
  refine wpAnyH_take (i := 4) (v := ?_) rfl (by kernel_rfl) (by kernel_rfl) (by kernel_rfl) (fun _ _ _ h => h) (Or.inl ⟨by rfl, ?_⟩) hS ?_
  rotate_left
  · (intro w9 hS9; have q := hS9.2.1; go_simp; try with_reducible rfl)
  simp only [Act.put, List.getElem_toArray, List.getElem_cons_zero, List.getElem_cons_succ, List.setIfInBounds_toArray, List.set_cons_zero, List.set_cons_succ]
  refine wpAnyH_take (i := 6) (v := ?_) rfl (by kernel_rfl) (by kernel_rfl) (by kernel_rfl) (fun _ _ _ h => h) (Or.inl ⟨by rfl, ?_⟩) hS ?_
  rotate_left
  · (intro w9 hS9; go_simp; try with_reducible rfl)
  simp only [Act.put, List.getElem_toArray, List.getElem_cons_zero, List.getElem_cons_succ, List.setIfInBounds_toArray, List.set_cons_zero, List.set_cons_succ]
  refine wpAnyH_take (i := 7) (v := ?_) rfl (by kernel_rfl) (by kernel_rfl) (by kernel_rfl) (fun _ _ _ h => h) (Or.inl ⟨by rfl, ?_⟩) hS ?_
  rotate_left
  · (intro w9 hS9; have q := hS9.2.2.1; go_simp; try with_reducible rfl)
  simp only [Act.put, List.getElem_toArray, List.getElem_cons_zero, List.getElem_cons_succ, List.setIfInBounds_toArray, List.set_cons_zero, List.set_cons_succ]
  refine wpAnyH_take (i := 10) (v := ?_) rfl (by kernel_rfl) (by kernel_rfl) (by kernel_rfl) (fun _ _ _ h => h) (Or.inl ⟨by rfl, ?_⟩) hS ?_
  rotate_left
  · (intro w9 hS9; go_simp; try with_reducible rfl)
  simp only [Act.put, List.getElem_toArray, List.getElem_cons_zero, List.getElem_cons_succ, List.setIfInBounds_toArray, List.set_cons_zero, List.set_cons_succ]
  refine wpAnyH_take (i := 11) (v := ?_) rfl (by kernel_rfl) (by kernel_rfl) (by kernel_rfl) (fun _ _ _ h => h) (Or.inl ⟨by rfl, ?_⟩) hS ?_
  rotate_left
  · (intro w9 hS9; have q := hS9.2.2.2; go_simp; try with_reducible rfl)
  simp only [Act.put, List.getElem_toArray, List.getElem_cons_zero, List.getElem_cons_succ, List.setIfInBounds_toArray, List.set_cons_zero, List.set_cons_succ]
  refine wpAnyH_ready (rs := [2]) (by kernel_rfl) (by simp) (AllReadyH.cons rfl (fun K hK => ?_) AllReadyH.nil)
  go_simp
  refine (c1 _).mono ?_
  rintro e w' ⟨rfl, rfl⟩
  refine hK.out _ _ hS (fun hS => ?_)
  clear hK K c1
  refine wpAnyH_ready (rs := [5]) (by kernel_rfl) (by simp) (AllReadyH.cons rfl (fun K hK => ?_) AllReadyH.nil)
  go_simp
  refine (c2 _).mono ?_
  rintro e w' ⟨rfl, rfl⟩
  refine hK.out _ _ hS (fun hS => ?_)
  clear hK K c2
  refine wpAnyH_ready (rs := [8]) (by kernel_rfl) (by simp) (AllReadyH.cons rfl (fun K hK => ?_) AllReadyH.nil)
  go_simp
  refine (c3 _).mono ?_
  rintro e w' ⟨rfl, rfl⟩
  refine hK.out _ _ hS (fun hS => ?_)
  clear hK K c3
  refine wpAnyH_take (i := 9) (v := ?_) rfl (by kernel_rfl) (by kernel_rfl) (by kernel_rfl) (fun _ _ _ h => h) (Or.inl ⟨by rfl, ?_⟩) hS ?_
  rotate_left
  · (intro w9 hS9; go_simp; try with_reducible rfl)
  simp only [Act.put, List.getElem_toArray, List.getElem_cons_zero, List.getElem_cons_succ, List.setIfInBounds_toArray, List.set_cons_zero, List.set_cons_succ]
  refine wpAnyH_ready (rs := [12]) (by kernel_rfl) (by simp) (AllReadyH.cons rfl (fun K hK => ?_) AllReadyH.nil)
  go_simp
  refine (c4 _).mono ?_
  rintro e w' ⟨rfl, rfl⟩
  refine hK.out _ _ hS (fun hS => ?_)
  clear hK K c4
  refine wpAnyH_take (i := 13) (v := ?_) rfl (by kernel_rfl) (by kernel_rfl) (by kernel_rfl) (fun _ _ _ h => h) (Or.inl ⟨by rfl, ?_⟩) hS ?_
  rotate_left
  · (intro w9 hS9; go_simp; try with_reducible rfl)
  simp only [Act.put, List.getElem_toArray, List.getElem_cons_zero, List.getElem_cons_succ, List.setIfInBounds_toArray, List.set_cons_zero, List.set_cons_succ]
  refine wpAnyH_ready (rs := [14]) (by kernel_rfl) (by simp) (AllReadyH.cons rfl (fun K hK => ?_) AllReadyH.nil)
  go_simp
  refine hK.out _ _ (HS0.out (tmC A M (if (H : Int) < 1 then 1 else (H : Int)) D)) (fun hS => ?_)
  clear hK K
  refine wpAnyH_done (by kernel_rfl) ?_ _
  have E := max_if H
  generalize (if (H : Int) < 1 then 1 else (H : Int)) = X at *
  have E := Lib.hid E
  go_wp2_with fail
  go_returns
  exact ⟨by rw [E.out], (((Below.refl _ _).alloc (Nat.le_refl _) _).alloc (by rw [alloc_size]; omega) _).drew⟩
end Go.Proofs.Ytogmacdcaoigfaa
