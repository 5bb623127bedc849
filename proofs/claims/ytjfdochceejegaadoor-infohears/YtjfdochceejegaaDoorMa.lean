/- Contracts of the reference's BetterOrSame, Lives, Disable, age, update. -/
import Derived.Test.YtjfdochceejegaaDoorIl
import Derived.Test.YtjfdochceejegaaDoorIe
import Derived.Laws.ResultCell
namespace Go.Proofs.YtjfdochceejegaaDoor
open Go.RowKit Go.Sort

theorem VarAt.msg {w : World} {b : Nat} {xs : Array Value} {t : TypeId} (h : VarAt w b xs t) (ht : Typed xs) : w.rangeAt b 72 (msgC xs).toList := by
  intro j v hj
  rw [h.cell]
  match j, hj with
  | 0, hj => cases hj; exact ht.numk 72 .i64 rfl
  | 1, hj => cases hj; exact ht.numk 73 .u8 rfl
  | 2, hj => cases hj; exact ht.numk 74 .u64 rfl
  | 3, hj => cases hj; exact ht.numk 75 .u32 rfl
  | 4, hj => cases hj; exact ht.numk 76 .u64 rfl
  | 5, hj => cases hj; exact ht.numk 77 .u16 rfl
  | 6, hj => cases hj; exact ht.numk 78 .u16 rfl
  | 7, hj => cases hj; exact ht.numk 79 .u16 rfl
  | 8, hj => cases hj; exact ht.numk 80 .u16 rfl
  | 9, hj => cases hj; exact ht.numk 81 .u16 rfl
  | j + 10, hj => simp [msgC] at hj
set_option maxHeartbeats 1000000 in
theorem refbos2_any (xs : Array Value) (w : World) (ht : Typed xs) : Calls Tryd.prog 61 #[.agg xs, .int .i64 2] w fun e w' => e = .returned (.bool (bosX2 xs)) ∧ Below w.heap.size w w' := by
  have V0 := Lib.hid (var_new w xs 39)
  have B0 := Lib.hid (box_below w (.cells xs 39))
  have kB := Lib.hid (fun w => less_any (numI xs 56) (numI xs 57) (numI xs 58) (numI xs 59) (numI xs 48) (numI xs 49) (numI xs 50) (numI xs 51) w)
  have H44 := Lib.hid (ht.numk 44 .i64 rfl)
  have h56 := Lib.hid (ht.numk 56 .u64 rfl)
  have h57 := Lib.hid (ht.numk 57 .u32 rfl)
  have h58 := Lib.hid (ht.numk 58 .u64 rfl)
  have h59 := Lib.hid (ht.numk 59 .u16 rfl)
  have h48 := Lib.hid (ht.numk 48 .u64 rfl)
  have h49 := Lib.hid (ht.numk 49 .u32 rfl)
  have h50 := Lib.hid (ht.numk 50 .u64 rfl)
  have h51 := Lib.hid (ht.numk 51 .u16 rfl)
  unfold bosX2
  clear ht
  generalize numI xs 44 = x44 at *
  generalize ltV (numI xs 56) (numI xs 57) (numI xs 58) (numI xs 59) (numI xs 48) (numI xs 49) (numI xs 50) (numI xs 51) = B at *
  by_cases q : x44 = 2
  · subst q
    go_enter Tryd.func61, Tryd.ntmps61
    go_upto_region 1 with fail
    generalize w.alloc (.cells xs 39) = w0 at *
    have c44 : w0.cell? ⟨w.heap.size, 44, none⟩ = some (.int .i64 2) := by rw [V0.out.cell]; exact H44.out
    have c56 : w0.cell? ⟨w.heap.size, 56, none⟩ = some (.int .u64 (numI xs 56)) := by rw [V0.out.cell]; exact h56.out
    have c57 : w0.cell? ⟨w.heap.size, 57, none⟩ = some (.int .u32 (numI xs 57)) := by rw [V0.out.cell]; exact h57.out
    have c58 : w0.cell? ⟨w.heap.size, 58, none⟩ = some (.int .u64 (numI xs 58)) := by rw [V0.out.cell]; exact h58.out
    have c59 : w0.cell? ⟨w.heap.size, 59, none⟩ = some (.int .u16 (numI xs 59)) := by rw [V0.out.cell]; exact h59.out
    have c48 : w0.cell? ⟨w.heap.size, 48, none⟩ = some (.int .u64 (numI xs 48)) := by rw [V0.out.cell]; exact h48.out
    have c49 : w0.cell? ⟨w.heap.size, 49, none⟩ = some (.int .u32 (numI xs 49)) := by rw [V0.out.cell]; exact h49.out
    have c50 : w0.cell? ⟨w.heap.size, 50, none⟩ = some (.int .u64 (numI xs 50)) := by rw [V0.out.cell]; exact h50.out
    have c51 : w0.cell? ⟨w.heap.size, 51, none⟩ = some (.int .u16 (numI xs 51)) := by rw [V0.out.cell]; exact h51.out
    go_wp2_with fail
    refine (kB.out _).mono ?_
    rintro e w1 ⟨rfl, hb⟩
    have B1 := Lib.hid (B0.out.trans (hb.mono B0.out.size))
    clear hb
    go_wp2_with fail
    go_ret
    exact ⟨rfl, B1.out⟩
  · have e1 : (2 != x44) = true := by simpa using fun h => q h.symm
    have e2 : (x44 == 2) = false := by simpa using q
    rw [e2]
    clear q
    go_enter Tryd.func61, Tryd.ntmps61
    go_upto_region 1 with fail
    generalize w.alloc (.cells xs 39) = w0 at *
    have c44 : w0.cell? ⟨w.heap.size, 44, none⟩ = some (.int .i64 x44) := by rw [V0.out.cell]; exact H44.out
    go_wp2_with fail
    go_ret
    exact ⟨rfl, B0.out⟩
set_option maxHeartbeats 1000000 in
theorem refbos3_any (xs : Array Value) (w : World) (ht : Typed xs) : Calls Tryd.prog 61 #[.agg xs, .int .i64 3] w fun e w' => e = .returned (.bool (bosX3 xs)) ∧ Below w.heap.size w w' := by
  have V0 := Lib.hid (var_new w xs 39)
  have B0 := Lib.hid (box_below w (.cells xs 39))
  have kB := Lib.hid (fun w => less_any (numI xs 56) (numI xs 57) (numI xs 58) (numI xs 59) (numI xs 52) (numI xs 53) (numI xs 54) (numI xs 55) w)
  have H44 := Lib.hid (ht.numk 44 .i64 rfl)
  have h56 := Lib.hid (ht.numk 56 .u64 rfl)
  have h57 := Lib.hid (ht.numk 57 .u32 rfl)
  have h58 := Lib.hid (ht.numk 58 .u64 rfl)
  have h59 := Lib.hid (ht.numk 59 .u16 rfl)
  have h52 := Lib.hid (ht.numk 52 .u64 rfl)
  have h53 := Lib.hid (ht.numk 53 .u32 rfl)
  have h54 := Lib.hid (ht.numk 54 .u64 rfl)
  have h55 := Lib.hid (ht.numk 55 .u16 rfl)
  unfold bosX3
  clear ht
  generalize numI xs 44 = x44 at *
  generalize ltV (numI xs 56) (numI xs 57) (numI xs 58) (numI xs 59) (numI xs 52) (numI xs 53) (numI xs 54) (numI xs 55) = B at *
  by_cases q : x44 = 3
  · subst q
    go_enter Tryd.func61, Tryd.ntmps61
    go_upto_region 1 with fail
    generalize w.alloc (.cells xs 39) = w0 at *
    have c44 : w0.cell? ⟨w.heap.size, 44, none⟩ = some (.int .i64 3) := by rw [V0.out.cell]; exact H44.out
    have c56 : w0.cell? ⟨w.heap.size, 56, none⟩ = some (.int .u64 (numI xs 56)) := by rw [V0.out.cell]; exact h56.out
    have c57 : w0.cell? ⟨w.heap.size, 57, none⟩ = some (.int .u32 (numI xs 57)) := by rw [V0.out.cell]; exact h57.out
    have c58 : w0.cell? ⟨w.heap.size, 58, none⟩ = some (.int .u64 (numI xs 58)) := by rw [V0.out.cell]; exact h58.out
    have c59 : w0.cell? ⟨w.heap.size, 59, none⟩ = some (.int .u16 (numI xs 59)) := by rw [V0.out.cell]; exact h59.out
    have c52 : w0.cell? ⟨w.heap.size, 52, none⟩ = some (.int .u64 (numI xs 52)) := by rw [V0.out.cell]; exact h52.out
    have c53 : w0.cell? ⟨w.heap.size, 53, none⟩ = some (.int .u32 (numI xs 53)) := by rw [V0.out.cell]; exact h53.out
    have c54 : w0.cell? ⟨w.heap.size, 54, none⟩ = some (.int .u64 (numI xs 54)) := by rw [V0.out.cell]; exact h54.out
    have c55 : w0.cell? ⟨w.heap.size, 55, none⟩ = some (.int .u16 (numI xs 55)) := by rw [V0.out.cell]; exact h55.out
    go_wp2_with fail
    refine (kB.out _).mono ?_
    rintro e w1 ⟨rfl, hb⟩
    have B1 := Lib.hid (B0.out.trans (hb.mono B0.out.size))
    clear hb
    go_wp2_with fail
    go_ret
    exact ⟨rfl, B1.out⟩
  · have e1 : (3 != x44) = true := by simpa using fun h => q h.symm
    have e2 : (x44 == 3) = false := by simpa using q
    rw [e2]
    clear q
    go_enter Tryd.func61, Tryd.ntmps61
    go_upto_region 1 with fail
    generalize w.alloc (.cells xs 39) = w0 at *
    have c44 : w0.cell? ⟨w.heap.size, 44, none⟩ = some (.int .i64 x44) := by rw [V0.out.cell]; exact H44.out
    go_wp2_with fail
    go_ret
    exact ⟨rfl, B0.out⟩
set_option maxHeartbeats 1000000 in
theorem refdisable_any (xs : Array Value) (w : World) (ht : Typed xs) : Calls Tryd.prog 18 #[.agg xs] w fun e w' => e = .returned (.agg (disX xs)) ∧ Below w.heap.size w w' := by
  have HU := Lib.hid (show disX xs = upd xs [(31, .bool false), (27, .bool false), (26, .bool false), (15, .bool false), (16, .bool false), (11, .int .i64 0), (44, .int .i64 0), (29, .bool true), (39, .bool false), (86, .int .i64 0)] from rfl)
  have V0 := Lib.hid (show VarAt ((w.alloc (.cells xs 39)).alloc (.cells z48 39)) w.heap.size xs 39 by
    have := (var_new w xs 39).alloc (.cells z48 39)
    exact this)
  have C0 := Lib.hid (show VarAt ((w.alloc (.cells xs 39)).alloc (.cells z48 39)) (w.heap.size + 1) z48 39 by
    have := var_new (w.alloc (.cells xs 39)) z48 39
    rwa [alloc_size] at this)
  have B0 := Lib.hid (show Below w.heap.size w ((w.alloc (.cells xs 39)).alloc (.cells z48 39)) from ((Below.refl w.heap.size w).alloc (Nat.le_refl _) _).alloc (by rw [alloc_size]; omega) _)
  have zz := zero48
  have zs := Lib.hid z48_size
  have T0 := Lib.hid ht
  clear ht
  generalize z48 = Z at *
  generalize disX xs = U at *
  go_enter Tryd.func18, Tryd.ntmps18
  go_upto_region 1 with fail
  clear zz
  generalize (w.alloc (.cells xs 39)).alloc (.cells Z 39) = w0 at *
  have s11 : w0.cell? ⟨w.heap.size, 11, none⟩ = some (.int .i64 (numI xs 11)) := by rw [V0.out.cell]; exact T0.out.numk 11 .i64 rfl
  have s15 : w0.cell? ⟨w.heap.size, 15, none⟩ = some (.bool (boolI xs 15)) := by rw [V0.out.cell]; exact T0.out.bool 15 rfl
  have s16 : w0.cell? ⟨w.heap.size, 16, none⟩ = some (.bool (boolI xs 16)) := by rw [V0.out.cell]; exact T0.out.bool 16 rfl
  have s26 : w0.cell? ⟨w.heap.size, 26, none⟩ = some (.bool (boolI xs 26)) := by rw [V0.out.cell]; exact T0.out.bool 26 rfl
  have s27 : w0.cell? ⟨w.heap.size, 27, none⟩ = some (.bool (boolI xs 27)) := by rw [V0.out.cell]; exact T0.out.bool 27 rfl
  have s29 : w0.cell? ⟨w.heap.size, 29, none⟩ = some (.bool (boolI xs 29)) := by rw [V0.out.cell]; exact T0.out.bool 29 rfl
  have s31 : w0.cell? ⟨w.heap.size, 31, none⟩ = some (.bool (boolI xs 31)) := by rw [V0.out.cell]; exact T0.out.bool 31 rfl
  have s39 : w0.cell? ⟨w.heap.size, 39, none⟩ = some (.bool (boolI xs 39)) := by rw [V0.out.cell]; exact T0.out.bool 39 rfl
  have s44 : w0.cell? ⟨w.heap.size, 44, none⟩ = some (.int .i64 (numI xs 44)) := by rw [V0.out.cell]; exact T0.out.numk 44 .i64 rfl
  have s86 : w0.cell? ⟨w.heap.size, 86, none⟩ = some (.int .i64 (numI xs 86)) := by rw [V0.out.cell]; exact T0.out.numk 86 .i64 rfl
  have fz := V0.out.frozen
  have V1 := Lib.hid (show VarAt _ w.heap.size (upd xs [(31, .bool false), (27, .bool false), (26, .bool false), (15, .bool false), (16, .bool false), (11, .int .i64 0), (44, .int .i64 0), (29, .bool true), (39, .bool false), (86, .int .i64 0)]) 39 from ((((((((((V0.out.set 31 (.bool false)).set 27 (.bool false)).set 26 (.bool false)).set 15 (.bool false)).set 16 (.bool false)).set 11 (.int .i64 0)).set 44 (.int .i64 0)).set 29 (.bool true)).set 39 (.bool false)).set 86 (.int .i64 0)))
  have C1 := Lib.hid ((((((((((C0.out.set_other (p := ⟨w.heap.size, 31, none⟩) (by simp) (.bool false)).set_other (p := ⟨w.heap.size, 27, none⟩) (by simp) (.bool false)).set_other (p := ⟨w.heap.size, 26, none⟩) (by simp) (.bool false)).set_other (p := ⟨w.heap.size, 15, none⟩) (by simp) (.bool false)).set_other (p := ⟨w.heap.size, 16, none⟩) (by simp) (.bool false)).set_other (p := ⟨w.heap.size, 11, none⟩) (by simp) (.int .i64 0)).set_other (p := ⟨w.heap.size, 44, none⟩) (by simp) (.int .i64 0)).set_other (p := ⟨w.heap.size, 29, none⟩) (by simp) (.bool true)).set_other (p := ⟨w.heap.size, 39, none⟩) (by simp) (.bool false)).set_other (p := ⟨w.heap.size, 86, none⟩) (by simp) (.int .i64 0))
  have B1 := Lib.hid ((((((((((B0.out.setCell (p := ⟨w.heap.size, 31, none⟩) (by simp) (.bool false)).setCell (p := ⟨w.heap.size, 27, none⟩) (by simp) (.bool false)).setCell (p := ⟨w.heap.size, 26, none⟩) (by simp) (.bool false)).setCell (p := ⟨w.heap.size, 15, none⟩) (by simp) (.bool false)).setCell (p := ⟨w.heap.size, 16, none⟩) (by simp) (.bool false)).setCell (p := ⟨w.heap.size, 11, none⟩) (by simp) (.int .i64 0)).setCell (p := ⟨w.heap.size, 44, none⟩) (by simp) (.int .i64 0)).setCell (p := ⟨w.heap.size, 29, none⟩) (by simp) (.bool true)).setCell (p := ⟨w.heap.size, 39, none⟩) (by simp) (.bool false)).setCell (p := ⟨w.heap.size, 86, none⟩) (by simp) (.int .i64 0))
  have T1 := Lib.hid (show Typed (upd xs [(31, .bool false), (27, .bool false), (26, .bool false), (15, .bool false), (16, .bool false), (11, .int .i64 0), (44, .int .i64 0), (29, .bool true), (39, .bool false), (86, .int .i64 0)]) from upd_typed _ T0.out (by
    simp only [List.mem_cons, List.not_mem_nil, or_false]
    rintro p (rfl | rfl | rfl | rfl | rfl | rfl | rfl | rfl | rfl | rfl)
    · exact isB rfl _
    · exact isB rfl _
    · exact isB rfl _
    · exact isB rfl _
    · exact isB rfl _
    · exact isK rfl _
    · exact isK rfl _
    · exact isB rfl _
    · exact isB rfl _
    · exact isK rfl _))
  rw [← HU.out] at V1 T1
  go_wp2_with (with_reducible refine stopL 39 _ rfl ?_)
  refine Lib.hid ?_
  refine wpList_load_whole uP rfl sP rfl _ rfl rfl (range_whole V1.out) T1.out.1 ?_
  refine wpList_store_only sP rfl _ _ rfl rfl rfl C1.out T1.out.one T1.out.1 (by rw [zs.out]; omega) ?_
  intro w99 hv ho
  rw [putL_all _ _ (by rw [zs.out, T1.out.1])] at hv
  have V99 := Lib.hid hv
  have B99 := Lib.hid (B1.out.trans (ho.below (by omega) B1.out.size))
  clear hv ho
  go_wp2_with (with_reducible refine stopE ?_)
  refine Lib.hid ?_
  exact bodyPost_ret (v := .agg U) (results_cell_row (p := 2) (ty := 39) rfl _ _ (w.heap.size + 1) 39 _ (0, 0) _ rfl V99.out uP rfl (by rw [sP]; simp [T1.out.1])) rfl ⟨rfl, B99.out⟩
set_option maxHeartbeats 1000000 in
theorem refage_any (xs : Array Value) (w : World) (ht : Typed xs) : Calls Tryd.prog 49 #[.agg xs] w fun e w' => e = .returned (.agg (ageX xs)) ∧ Below w.heap.size w w' := by
  have HU := Lib.hid (show ageX xs = upd xs [(44, .int .i64 1), (29, .bool true), (39, .bool false), (86, .int .i64 1)] from rfl)
  have V0 := Lib.hid (show VarAt ((w.alloc (.cells xs 39)).alloc (.cells z48 39)) w.heap.size xs 39 by
    have := (var_new w xs 39).alloc (.cells z48 39)
    exact this)
  have C0 := Lib.hid (show VarAt ((w.alloc (.cells xs 39)).alloc (.cells z48 39)) (w.heap.size + 1) z48 39 by
    have := var_new (w.alloc (.cells xs 39)) z48 39
    rwa [alloc_size] at this)
  have B0 := Lib.hid (show Below w.heap.size w ((w.alloc (.cells xs 39)).alloc (.cells z48 39)) from ((Below.refl w.heap.size w).alloc (Nat.le_refl _) _).alloc (by rw [alloc_size]; omega) _)
  have zz := zero48
  have zs := Lib.hid z48_size
  have T0 := Lib.hid ht
  clear ht
  generalize z48 = Z at *
  generalize ageX xs = U at *
  go_enter Tryd.func49, Tryd.ntmps49
  go_upto_region 1 with fail
  clear zz
  generalize (w.alloc (.cells xs 39)).alloc (.cells Z 39) = w0 at *
  have s29 : w0.cell? ⟨w.heap.size, 29, none⟩ = some (.bool (boolI xs 29)) := by rw [V0.out.cell]; exact T0.out.bool 29 rfl
  have s39 : w0.cell? ⟨w.heap.size, 39, none⟩ = some (.bool (boolI xs 39)) := by rw [V0.out.cell]; exact T0.out.bool 39 rfl
  have s44 : w0.cell? ⟨w.heap.size, 44, none⟩ = some (.int .i64 (numI xs 44)) := by rw [V0.out.cell]; exact T0.out.numk 44 .i64 rfl
  have s86 : w0.cell? ⟨w.heap.size, 86, none⟩ = some (.int .i64 (numI xs 86)) := by rw [V0.out.cell]; exact T0.out.numk 86 .i64 rfl
  have fz := V0.out.frozen
  have V1 := Lib.hid (show VarAt _ w.heap.size (upd xs [(44, .int .i64 1), (29, .bool true), (39, .bool false), (86, .int .i64 1)]) 39 from ((((V0.out.set 44 (.int .i64 1)).set 29 (.bool true)).set 39 (.bool false)).set 86 (.int .i64 1)))
  have C1 := Lib.hid ((((C0.out.set_other (p := ⟨w.heap.size, 44, none⟩) (by simp) (.int .i64 1)).set_other (p := ⟨w.heap.size, 29, none⟩) (by simp) (.bool true)).set_other (p := ⟨w.heap.size, 39, none⟩) (by simp) (.bool false)).set_other (p := ⟨w.heap.size, 86, none⟩) (by simp) (.int .i64 1))
  have B1 := Lib.hid ((((B0.out.setCell (p := ⟨w.heap.size, 44, none⟩) (by simp) (.int .i64 1)).setCell (p := ⟨w.heap.size, 29, none⟩) (by simp) (.bool true)).setCell (p := ⟨w.heap.size, 39, none⟩) (by simp) (.bool false)).setCell (p := ⟨w.heap.size, 86, none⟩) (by simp) (.int .i64 1))
  have T1 := Lib.hid (show Typed (upd xs [(44, .int .i64 1), (29, .bool true), (39, .bool false), (86, .int .i64 1)]) from upd_typed _ T0.out (by
    simp only [List.mem_cons, List.not_mem_nil, or_false]
    rintro p (rfl | rfl | rfl | rfl)
    · exact isK rfl _
    · exact isB rfl _
    · exact isB rfl _
    · exact isK rfl _))
  rw [← HU.out] at V1 T1
  go_wp2_with (with_reducible refine stopL 39 _ rfl ?_)
  refine Lib.hid ?_
  refine wpList_load_whole uP rfl sP rfl _ rfl rfl (range_whole V1.out) T1.out.1 ?_
  refine wpList_store_only sP rfl _ _ rfl rfl rfl C1.out T1.out.one T1.out.1 (by rw [zs.out]; omega) ?_
  intro w99 hv ho
  rw [putL_all _ _ (by rw [zs.out, T1.out.1])] at hv
  have V99 := Lib.hid hv
  have B99 := Lib.hid (B1.out.trans (ho.below (by omega) B1.out.size))
  clear hv ho
  go_wp2_with (with_reducible refine stopE ?_)
  refine Lib.hid ?_
  exact bodyPost_ret (v := .agg U) (results_cell_row (p := 2) (ty := 39) rfl _ _ (w.heap.size + 1) 39 _ (0, 0) _ rfl V99.out uP rfl (by rw [sP]; simp [T1.out.1])) rfl ⟨rfl, B99.out⟩
set_option maxHeartbeats 1000000 in
theorem reflives_any (xs : Array Value) (w : World) (ht : Typed xs) : Calls Tryd.prog 63 #[.agg xs] w fun e w' => e = .returned (.agg (lvX xs)) ∧ Below w.heap.size w w' := by
  have HU := Lib.hid (show lvX xs = upd xs [(11, .int .i64 (if numI xs 69 ≤ numI xs 68 then 0 else wrap64 (3 * numI xs 70)))] from rfl)
  have TU := Lib.hid (lvX_typed ht)
  have V0 := Lib.hid (show VarAt ((w.alloc (.cells xs 39)).alloc (.cells z48 39)) w.heap.size xs 39 by
    have := (var_new w xs 39).alloc (.cells z48 39)
    exact this)
  have C0 := Lib.hid (show VarAt ((w.alloc (.cells xs 39)).alloc (.cells z48 39)) (w.heap.size + 1) z48 39 by
    have := var_new (w.alloc (.cells xs 39)) z48 39
    rwa [alloc_size] at this)
  have B0 := Lib.hid (show Below w.heap.size w ((w.alloc (.cells xs 39)).alloc (.cells z48 39)) from ((Below.refl w.heap.size w).alloc (Nat.le_refl _) _).alloc (by rw [alloc_size]; omega) _)
  have zz := zero48
  have zs := Lib.hid z48_size
  have T0 := Lib.hid ht
  clear ht
  generalize z48 = Z at *
  generalize lvX xs = U at *
  have h68 := Lib.hid (T0.out.numk 68 .i64 rfl)
  have h69 := Lib.hid (T0.out.numk 69 .i64 rfl)
  have h70 := Lib.hid (T0.out.numk 70 .i64 rfl)
  generalize numI xs 68 = a at *
  generalize numI xs 69 = m at *
  generalize numI xs 70 = h at *
  by_cases q : m ≤ a
  · go_enter Tryd.func63, Tryd.ntmps63
    go_upto_region 1 with fail
    clear zz
    generalize (w.alloc (.cells xs 39)).alloc (.cells Z 39) = w0 at *
    have hU := HU.out
    rw [if_pos q] at hU
    have c68 : w0.cell? ⟨w.heap.size, 68, none⟩ = some (.int .i64 a) := by rw [V0.out.cell]; exact h68.out
    have c69 : w0.cell? ⟨w.heap.size, 69, none⟩ = some (.int .i64 m) := by rw [V0.out.cell]; exact h69.out
    have c70 : w0.cell? ⟨w.heap.size, 70, none⟩ = some (.int .i64 h) := by rw [V0.out.cell]; exact h70.out
    have s11 : w0.cell? ⟨w.heap.size, 11, none⟩ = some (.int .i64 (numI xs 11)) := by rw [V0.out.cell]; exact T0.out.numk 11 .i64 rfl
    have fz := V0.out.frozen
    have V1 := Lib.hid (show VarAt _ w.heap.size (upd xs [(11, .int .i64 0)]) 39 from (V0.out.set 11 (.int .i64 0)))
    have C1 := Lib.hid (C0.out.set_other (p := ⟨w.heap.size, 11, none⟩) (by simp) (.int .i64 0))
    have B1 := Lib.hid (B0.out.setCell (p := ⟨w.heap.size, 11, none⟩) (by simp) (.int .i64 0))
    have T1 := Lib.hid (show Typed (upd xs [(11, .int .i64 0)]) from upd_typed _ T0.out (by
      simp only [List.mem_cons, List.not_mem_nil, or_false]
      rintro p rfl
      exact isK rfl _))
    rw [← hU] at V1 T1
    clear hU HU TU
    go_wp2_with (with_reducible refine stopL 39 _ rfl ?_)
    refine Lib.hid ?_
    refine wpList_load_whole uP rfl sP rfl _ rfl rfl (range_whole V1.out) T1.out.1 ?_
    refine wpList_store_only sP rfl _ _ rfl rfl rfl C1.out T1.out.one T1.out.1 (by rw [zs.out]; omega) ?_
    intro w99 hv ho
    rw [putL_all _ _ (by rw [zs.out, T1.out.1])] at hv
    have V99 := Lib.hid hv
    have B99 := Lib.hid (B1.out.trans (ho.below (by omega) B1.out.size))
    clear hv ho
    go_wp2_with (with_reducible refine stopE ?_)
    refine Lib.hid ?_
    exact bodyPost_ret (v := .agg U) (results_cell_row (p := 2) (ty := 39) rfl _ _ (w.heap.size + 1) 39 _ (0, 0) _ rfl V99.out uP rfl (by rw [sP]; simp [T1.out.1])) rfl ⟨rfl, B99.out⟩
  · go_enter Tryd.func63, Tryd.ntmps63
    go_upto_region 1 with fail
    clear zz
    generalize (w.alloc (.cells xs 39)).alloc (.cells Z 39) = w0 at *
    have hU := HU.out
    rw [if_neg q] at hU
    have c68 : w0.cell? ⟨w.heap.size, 68, none⟩ = some (.int .i64 a) := by rw [V0.out.cell]; exact h68.out
    have c69 : w0.cell? ⟨w.heap.size, 69, none⟩ = some (.int .i64 m) := by rw [V0.out.cell]; exact h69.out
    have c70 : w0.cell? ⟨w.heap.size, 70, none⟩ = some (.int .i64 h) := by rw [V0.out.cell]; exact h70.out
    have s11 : w0.cell? ⟨w.heap.size, 11, none⟩ = some (.int .i64 (numI xs 11)) := by rw [V0.out.cell]; exact T0.out.numk 11 .i64 rfl
    have fz := V0.out.frozen
    have V1 := Lib.hid (show VarAt _ w.heap.size (upd xs [(11, .int .i64 0), (11, .int .i64 (wrap64 (3 * h)))]) 39 from ((V0.out.set 11 (.int .i64 0)).set 11 (.int .i64 (wrap64 (3 * h)))))
    have C1 := Lib.hid ((C0.out.set_other (p := ⟨w.heap.size, 11, none⟩) (by simp) (.int .i64 0)).set_other (p := ⟨w.heap.size, 11, none⟩) (by simp) (.int .i64 (wrap64 (3 * h))))
    have B1 := Lib.hid ((B0.out.setCell (p := ⟨w.heap.size, 11, none⟩) (by simp) (.int .i64 0)).setCell (p := ⟨w.heap.size, 11, none⟩) (by simp) (.int .i64 (wrap64 (3 * h))))
    have T1 := Lib.hid (show Typed (upd xs [(11, .int .i64 0), (11, .int .i64 (wrap64 (3 * h)))]) from upd_typed _ T0.out (by
      simp only [List.mem_cons, List.not_mem_nil, or_false]
      rintro p (rfl | rfl)
      · exact isK rfl _
      · exact isK rfl _))
    rw [show upd xs [(11, .int .i64 0), (11, .int .i64 (wrap64 (3 * h)))] = upd xs [(11, .int .i64 (wrap64 (3 * h)))] from upd_congr fun j => by simp only [look]; by_cases e : 11 = j <;> simp [e]] at V1 T1
    rw [← hU] at V1 T1
    clear hU HU TU
    go_wp2_with (with_reducible refine stopL 39 _ rfl ?_)
    refine Lib.hid ?_
    refine wpList_load_whole uP rfl sP rfl _ rfl rfl (range_whole V1.out) T1.out.1 ?_
    refine wpList_store_only sP rfl _ _ rfl rfl rfl C1.out T1.out.one T1.out.1 (by rw [zs.out]; omega) ?_
    intro w99 hv ho
    rw [putL_all _ _ (by rw [zs.out, T1.out.1])] at hv
    have V99 := Lib.hid hv
    have B99 := Lib.hid (B1.out.trans (ho.below (by omega) B1.out.size))
    clear hv ho
    go_wp2_with (with_reducible refine stopE ?_)
    refine Lib.hid ?_
    exact bodyPost_ret (v := .agg U) (results_cell_row (p := 2) (ty := 39) rfl _ _ (w.heap.size + 1) 39 _ (0, 0) _ rfl V99.out uP rfl (by rw [sP]; simp [T1.out.1])) rfl ⟨rfl, B99.out⟩
end Go.Proofs.YtjfdochceejegaaDoor
