/- Contracts of the reference's there, with, discard, check, sense. -/
import Derived.Test.YthkmhnajhhomoaaJ
import Derived.Deep.DeepCutAuto
namespace Go.Proofs.Ythkmhnajhhomoaa
open Go.RowKit Go.Sort

theorem there_yes (B : Bd) (a : Option Addr) (n c k : Nat) (w : World) (hk : k < n) : Calls Try.prog 25 #[.agg (B.cells (.slice a n c)), .int .i64 k] w fun e w' => e = .returned (.bool true) ∧ Below w.heap.size w w' := by
  have V := var_new w (B.cells (.slice a n c)) 34
  have B0 := Lib.hid (box_below w (.cells (B.cells (.slice a n c)) 34))
  have c17 : (w.alloc (.cells (B.cells (.slice a n c)) 34)).cell? ⟨w.heap.size, 17, none⟩ = some (.slice a n c) := V.cell 17
  have h1 : decide ((k : Int) ≥ 0) = true := by simp
  clear V
  go_enter Try.func25, Try.ntmps25
  go_wp2_with fail
  go_ret
  exact ⟨rfl, B0.out⟩
theorem there_no (B : Bd) (a : Option Addr) (n c : Nat) (i : Int) (w : World) (hi : i < 0 ∨ (n : Int) ≤ i) : Calls Try.prog 25 #[.agg (B.cells (.slice a n c)), .int .i64 i] w fun e w' => e = .returned (.bool false) ∧ Below w.heap.size w w' := by
  have V := var_new w (B.cells (.slice a n c)) 34
  have B0 := Lib.hid (box_below w (.cells (B.cells (.slice a n c)) 34))
  have c17 : (w.alloc (.cells (B.cells (.slice a n c)) 34)).cell? ⟨w.heap.size, 17, none⟩ = some (.slice a n c) := V.cell 17
  clear V
  by_cases h0 : i < 0
  · have h1 : ¬ (0 ≤ i) := by omega
    clear hi
    go_enter Try.func25, Try.ntmps25
    go_wp2_with fail
    go_ret
    exact ⟨rfl, B0.out⟩
  · have h1 : 0 ≤ i := by omega
    have h2 : ¬ (i < (n : Int)) := by omega
    clear hi h0
    go_enter Try.func25, Try.ntmps25
    go_wp2_with fail
    go_ret
    exact ⟨rfl, B0.out⟩
set_option maxHeartbeats 1000000 in
theorem refsense_any (xs : Array Value) (w : World) (ht : Typed xs) : Calls Try.prog 27 #[.agg xs] w fun e w' => e = .returned (.agg (senseX xs)) ∧ Below w.heap.size w w' := by
  have V1 := Lib.hid (show VarAt ((w.alloc (.cells xs 53)).alloc (.cells z48 53)) w.heap.size xs 53 by
    have := (var_new w xs 53).alloc (.cells z48 53)
    exact this)
  have V2 := Lib.hid (show VarAt ((w.alloc (.cells xs 53)).alloc (.cells z48 53)) (w.heap.size + 1) z48 53 by
    have := var_new (w.alloc (.cells xs 53)) z48 53
    rwa [alloc_size] at this)
  have B1 := Lib.hid (show Below w.heap.size w ((w.alloc (.cells xs 53)).alloc (.cells z48 53)) from ((Below.refl w.heap.size w).alloc (Nat.le_refl _) _).alloc (by rw [alloc_size]; omega) _)
  have zz := zero48
  have zs := Lib.hid z48_size
  have HT := Lib.hid ht
  have HU := Lib.hid (show Typed (senseX xs) from senseX_typed ht)
  have HD := Lib.hid (show senseX xs = upd xs [(32, .bool false), (33, .bool false), (83, .int .i64 2)] from rfl)
  have e32 := Lib.hid (ht.bool 32 rfl)
  have e33 := Lib.hid (ht.bool 33 rfl)
  have e83 := Lib.hid (ht.num 83 rfl)
  clear ht
  generalize z48 = Z at *
  generalize senseX xs = U at *
  go_enter Try.func27, Try.ntmps27
  go_upto_region 1 with fail
  clear zz
  generalize (w.alloc (.cells xs 53)).alloc (.cells Z 53) = w0 at *
  have c32 : w0.cell? ⟨w.heap.size, 32, none⟩ = some (.bool (boolI xs 32)) := by rw [V1.out.cell]; exact e32.out
  have c33 : w0.cell? ⟨w.heap.size, 33, none⟩ = some (.bool (boolI xs 33)) := by rw [V1.out.cell]; exact e33.out
  have c83 : w0.cell? ⟨w.heap.size, 83, none⟩ = some (.int .i64 (numI xs 83)) := by rw [V1.out.cell]; exact e83.out
  have fz := V1.out.frozen
  have VN := Lib.hid (show VarAt _ w.heap.size (upd xs [(32, .bool false), (33, .bool false), (83, .int .i64 2)]) 53 from (((V1.out.set 32 (.bool false)).set 33 (.bool false)).set 83 (.int .i64 2)))
  rw [← HD.out] at VN
  have VR := Lib.hid (((V2.out.set_other (p := ⟨w.heap.size, 32, none⟩) (by simp) (.bool false)).set_other (p := ⟨w.heap.size, 33, none⟩) (by simp) (.bool false)).set_other (p := ⟨w.heap.size, 83, none⟩) (by simp) (.int .i64 2))
  have BN := Lib.hid (((B1.out.setCell (p := ⟨w.heap.size, 32, none⟩) (by simp) (.bool false)).setCell (p := ⟨w.heap.size, 33, none⟩) (by simp) (.bool false)).setCell (p := ⟨w.heap.size, 83, none⟩) (by simp) (.int .i64 2))
  generalize boolI xs 32 = x32 at c32
  generalize boolI xs 33 = x33 at c33
  generalize numI xs 83 = x83 at c83
  go_wp2_with (with_reducible refine stopL 53 _ rfl ?_)
  refine Lib.hid ?_
  refine wpList_load_whole uP rfl sP rfl _ rfl rfl (range_whole VN.out) HU.out.1 ?_
  refine wpList_store_only sP rfl _ _ rfl rfl rfl VR.out HU.out.one HU.out.1 (by rw [zs.out]; omega) ?_
  intro w3 hv3 ho3
  rw [putL_all _ _ (by rw [zs.out, HU.out.1])] at hv3
  have V3 := Lib.hid hv3
  have B3 := Lib.hid (BN.out.trans (ho3.below (by omega) BN.out.size))
  clear hv3 ho3
  go_wp2_with (with_reducible refine stopE ?_)
  refine Lib.hid ?_
  exact bodyPost_ret (v := .agg U) (results_cell_row (p := 2) (ty := 53) rfl _ _ (w.heap.size + 1) 53 _ (0, 0) _ rfl V3.out uP rfl (by rw [sP]; simp [HU.out.1])) rfl ⟨rfl, B3.out⟩
set_option maxHeartbeats 1000000 in
theorem refcheck_any (B : Bd) (s : Value) (xs : Array Value) (w : World) (ht : Typed xs) : Calls Try.prog 28 #[.agg (B.cells s), .agg xs] w fun e w' => e = .returned (.agg (checkX B.rs xs)) ∧ Below w.heap.size w w' := by
  have V1 := Lib.hid (show VarAt (((w.alloc (.cells (B.cells s) 34)).alloc (.cells xs 53)).alloc (.cells z48 53)) (w.heap.size + 1) xs 53 by
    have := (var_new (w.alloc (.cells (B.cells s) 34)) xs 53).alloc (.cells z48 53)
    rwa [alloc_size] at this)
  have V2 := Lib.hid (show VarAt (((w.alloc (.cells (B.cells s) 34)).alloc (.cells xs 53)).alloc (.cells z48 53)) (w.heap.size + 2) z48 53 by
    have := var_new ((w.alloc (.cells (B.cells s) 34)).alloc (.cells xs 53)) z48 53
    rwa [alloc_size, alloc_size] at this)
  have V0 := Lib.hid (show VarAt (((w.alloc (.cells (B.cells s) 34)).alloc (.cells xs 53)).alloc (.cells z48 53)) w.heap.size (B.cells s) 34 from ((var_new w (B.cells s) 34).alloc (.cells xs 53)).alloc (.cells z48 53))
  have B1 := Lib.hid (show Below w.heap.size w (((w.alloc (.cells (B.cells s) 34)).alloc (.cells xs 53)).alloc (.cells z48 53)) from (((Below.refl w.heap.size w).alloc (Nat.le_refl _) _).alloc (by rw [alloc_size]; omega) _).alloc (by rw [alloc_size, alloc_size]; omega) _)
  have zz := zero48
  have zs := Lib.hid z48_size
  have HT := Lib.hid ht
  have HU := Lib.hid (show Typed (checkX B.rs xs) from checkX_typed B.rs ht)
  have HD := Lib.hid (show checkX B.rs xs = upd xs [(23, .bool false), (40, .bool B.rs), (9, .int .i64 3), (83, .int .i64 0)] from rfl)
  have e9 := Lib.hid (ht.num 9 rfl)
  have e23 := Lib.hid (ht.bool 23 rfl)
  have e40 := Lib.hid (ht.bool 40 rfl)
  have e83 := Lib.hid (ht.num 83 rfl)
  clear ht
  generalize z48 = Z at *
  generalize checkX B.rs xs = U at *
  have H6 := Lib.hid (show (B.cells s)[6]? = some (.bool B.rs) by simp)
  have C18 := Lib.hid (show (B.cells s).size = 18 by simp)
  generalize B.cells s = C at *
  go_enter Try.func28, Try.ntmps28
  go_upto_region 1 with fail
  clear zz
  generalize ((w.alloc (.cells (C) 34)).alloc (.cells xs 53)).alloc (.cells Z 53) = w0 at *
  have c9 : w0.cell? ⟨(w.heap.size + 1), 9, none⟩ = some (.int .i64 (numI xs 9)) := by rw [V1.out.cell]; exact e9.out
  have c23 : w0.cell? ⟨(w.heap.size + 1), 23, none⟩ = some (.bool (boolI xs 23)) := by rw [V1.out.cell]; exact e23.out
  have c40 : w0.cell? ⟨(w.heap.size + 1), 40, none⟩ = some (.bool (boolI xs 40)) := by rw [V1.out.cell]; exact e40.out
  have c83 : w0.cell? ⟨(w.heap.size + 1), 83, none⟩ = some (.int .i64 (numI xs 83)) := by rw [V1.out.cell]; exact e83.out
  have c6b : w0.cell? ⟨w.heap.size, 6, none⟩ = some (.bool B.rs) := by rw [V0.out.cell]; exact H6.out
  have fz := V1.out.frozen
  have VN := Lib.hid (show VarAt _ (w.heap.size + 1) (upd xs [(23, .bool false), (40, .bool B.rs), (9, .int .i64 3), (83, .int .i64 0)]) 53 from ((((V1.out.set 23 (.bool false)).set 40 (.bool B.rs)).set 9 (.int .i64 3)).set 83 (.int .i64 0)))
  rw [← HD.out] at VN
  have VR := Lib.hid ((((V2.out.set_other (p := ⟨(w.heap.size + 1), 23, none⟩) (by simp) (.bool false)).set_other (p := ⟨(w.heap.size + 1), 40, none⟩) (by simp) (.bool B.rs)).set_other (p := ⟨(w.heap.size + 1), 9, none⟩) (by simp) (.int .i64 3)).set_other (p := ⟨(w.heap.size + 1), 83, none⟩) (by simp) (.int .i64 0))
  have BN := Lib.hid ((((B1.out.setCell (p := ⟨(w.heap.size + 1), 23, none⟩) (by simp) (.bool false)).setCell (p := ⟨(w.heap.size + 1), 40, none⟩) (by simp) (.bool B.rs)).setCell (p := ⟨(w.heap.size + 1), 9, none⟩) (by simp) (.int .i64 3)).setCell (p := ⟨(w.heap.size + 1), 83, none⟩) (by simp) (.int .i64 0))
  generalize numI xs 9 = x9 at c9
  generalize boolI xs 23 = x23 at c23
  generalize boolI xs 40 = x40 at c40
  generalize numI xs 83 = x83 at c83
  go_wp2_with (with_reducible refine stopL 53 _ rfl ?_)
  refine Lib.hid ?_
  refine wpList_load_whole uP rfl sP rfl _ rfl rfl (range_whole VN.out) HU.out.1 ?_
  refine wpList_store_only sP rfl _ _ rfl rfl rfl VR.out HU.out.one HU.out.1 (by rw [zs.out]; omega) ?_
  intro w3 hv3 ho3
  rw [putL_all _ _ (by rw [zs.out, HU.out.1])] at hv3
  have V3 := Lib.hid hv3
  have B3 := Lib.hid (BN.out.trans (ho3.below (by omega) BN.out.size))
  clear hv3 ho3
  go_wp2_with (with_reducible refine stopE ?_)
  refine Lib.hid ?_
  exact bodyPost_ret (v := .agg U) (results_cell_row (p := 4) (ty := 53) rfl _ _ (w.heap.size + 2) 53 _ (0, 0) _ rfl V3.out uP rfl (by rw [sP]; simp [HU.out.1])) rfl ⟨rfl, B3.out⟩
set_option maxHeartbeats 1000000 in
theorem refdiscard_any (xs : Array Value) (w : World) (ht : Typed xs) : Calls Try.prog 34 #[.agg xs] w fun e w' => e = .returned (.agg (discX xs)) ∧ Below w.heap.size w w' := by
  have V1 := Lib.hid (show VarAt ((w.alloc (.cells xs 53)).alloc (.cells z48 53)) w.heap.size xs 53 by
    have := (var_new w xs 53).alloc (.cells z48 53)
    exact this)
  have V2 := Lib.hid (show VarAt ((w.alloc (.cells xs 53)).alloc (.cells z48 53)) (w.heap.size + 1) z48 53 by
    have := var_new (w.alloc (.cells xs 53)) z48 53
    rwa [alloc_size] at this)
  have B1 := Lib.hid (show Below w.heap.size w ((w.alloc (.cells xs 53)).alloc (.cells z48 53)) from ((Below.refl w.heap.size w).alloc (Nat.le_refl _) _).alloc (by rw [alloc_size]; omega) _)
  have zz := zero48
  have zs := Lib.hid z48_size
  have HT := Lib.hid ht
  have HU := Lib.hid (show Typed (discX xs) from discX_typed ht)
  have HD := Lib.hid (show discX xs = upd xs [(30, .bool false), (32, .bool false), (33, .bool false), (31, .bool false), (6, .int .i64 3), (82, .int .i64 0)] from rfl)
  have e6 := Lib.hid (ht.num 6 rfl)
  have e30 := Lib.hid (ht.bool 30 rfl)
  have e31 := Lib.hid (ht.bool 31 rfl)
  have e32 := Lib.hid (ht.bool 32 rfl)
  have e33 := Lib.hid (ht.bool 33 rfl)
  have e82 := Lib.hid (ht.num 82 rfl)
  clear ht
  generalize z48 = Z at *
  generalize discX xs = U at *
  go_enter Try.func34, Try.ntmps34
  go_upto_region 1 with fail
  clear zz
  generalize (w.alloc (.cells xs 53)).alloc (.cells Z 53) = w0 at *
  have c6 : w0.cell? ⟨w.heap.size, 6, none⟩ = some (.int .i64 (numI xs 6)) := by rw [V1.out.cell]; exact e6.out
  have c30 : w0.cell? ⟨w.heap.size, 30, none⟩ = some (.bool (boolI xs 30)) := by rw [V1.out.cell]; exact e30.out
  have c31 : w0.cell? ⟨w.heap.size, 31, none⟩ = some (.bool (boolI xs 31)) := by rw [V1.out.cell]; exact e31.out
  have c32 : w0.cell? ⟨w.heap.size, 32, none⟩ = some (.bool (boolI xs 32)) := by rw [V1.out.cell]; exact e32.out
  have c33 : w0.cell? ⟨w.heap.size, 33, none⟩ = some (.bool (boolI xs 33)) := by rw [V1.out.cell]; exact e33.out
  have c82 : w0.cell? ⟨w.heap.size, 82, none⟩ = some (.int .i64 (numI xs 82)) := by rw [V1.out.cell]; exact e82.out
  have fz := V1.out.frozen
  have VN := Lib.hid (show VarAt _ w.heap.size (upd xs [(30, .bool false), (32, .bool false), (33, .bool false), (31, .bool false), (6, .int .i64 3), (82, .int .i64 0)]) 53 from ((((((V1.out.set 30 (.bool false)).set 32 (.bool false)).set 33 (.bool false)).set 31 (.bool false)).set 6 (.int .i64 3)).set 82 (.int .i64 0)))
  rw [← HD.out] at VN
  have VR := Lib.hid ((((((V2.out.set_other (p := ⟨w.heap.size, 30, none⟩) (by simp) (.bool false)).set_other (p := ⟨w.heap.size, 32, none⟩) (by simp) (.bool false)).set_other (p := ⟨w.heap.size, 33, none⟩) (by simp) (.bool false)).set_other (p := ⟨w.heap.size, 31, none⟩) (by simp) (.bool false)).set_other (p := ⟨w.heap.size, 6, none⟩) (by simp) (.int .i64 3)).set_other (p := ⟨w.heap.size, 82, none⟩) (by simp) (.int .i64 0))
  have BN := Lib.hid ((((((B1.out.setCell (p := ⟨w.heap.size, 30, none⟩) (by simp) (.bool false)).setCell (p := ⟨w.heap.size, 32, none⟩) (by simp) (.bool false)).setCell (p := ⟨w.heap.size, 33, none⟩) (by simp) (.bool false)).setCell (p := ⟨w.heap.size, 31, none⟩) (by simp) (.bool false)).setCell (p := ⟨w.heap.size, 6, none⟩) (by simp) (.int .i64 3)).setCell (p := ⟨w.heap.size, 82, none⟩) (by simp) (.int .i64 0))
  generalize numI xs 6 = x6 at c6
  generalize boolI xs 30 = x30 at c30
  generalize boolI xs 31 = x31 at c31
  generalize boolI xs 32 = x32 at c32
  generalize boolI xs 33 = x33 at c33
  generalize numI xs 82 = x82 at c82
  go_wp2_with (with_reducible refine stopL 53 _ rfl ?_)
  refine Lib.hid ?_
  refine wpList_load_whole uP rfl sP rfl _ rfl rfl (range_whole VN.out) HU.out.1 ?_
  refine wpList_store_only sP rfl _ _ rfl rfl rfl VR.out HU.out.one HU.out.1 (by rw [zs.out]; omega) ?_
  intro w3 hv3 ho3
  rw [putL_all _ _ (by rw [zs.out, HU.out.1])] at hv3
  have V3 := Lib.hid hv3
  have B3 := Lib.hid (BN.out.trans (ho3.below (by omega) BN.out.size))
  clear hv3 ho3
  go_wp2_with (with_reducible refine stopE ?_)
  refine Lib.hid ?_
  exact bodyPost_ret (v := .agg U) (results_cell_row (p := 2) (ty := 53) rfl _ _ (w.heap.size + 1) 53 _ (0, 0) _ rfl V3.out uP rfl (by rw [sP]; simp [HU.out.1])) rfl ⟨rfl, B3.out⟩
end Go.Proofs.Ythkmhnajhhomoaa
