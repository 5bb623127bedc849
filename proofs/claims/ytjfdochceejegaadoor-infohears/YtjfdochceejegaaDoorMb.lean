/- Contracts of the reference's update, told. -/
import Derived.Test.YtjfdochceejegaaDoorMa
namespace Go.Proofs.YtjfdochceejegaaDoor
open Go.RowKit Go.Sort

set_option maxHeartbeats 2000000 in
theorem refupdate_any (xs : Array Value) (w : World) (ht : Typed xs) : Calls Tryd.prog 50 #[.agg xs] w fun e w' => e = .returned (.agg (updX xs)) ∧ Below w.heap.size w w' := by
  have HU := Lib.hid (show updX xs = upd (mvU (updA xs)) [(43, .bool false), (44, .int .i64 2), (24, .bool true), (86, .int .i64 2)] from rfl)
  have HA := Lib.hid (show updA xs = upd (upd xs [(27, .bool false), (26, .bool false)]) [(16, .bool (boolI xs 16 && bosX2 xs)), (42, .bool (boolI xs 42 && (boolI xs 16 && bosX2 xs)))] from rfl)
  have TA := Lib.hid (updA_typed ht)
  have kB := Lib.hid (fun w ht => refbos2_any (upd xs [(27, .bool false), (26, .bool false)]) w ht)
  rw [bosX2_upd ht.1 rfl] at kB
  have E16 := Lib.hid (show (upd xs [(27, .bool false), (26, .bool false)])[16]? = some (.bool (boolI xs 16)) by rw [upd_at _ _ _ (by rw [ht.1]; omega)]; exact ht.bool 16 rfl)
  have E42 := Lib.hid (show (upd xs [(27, .bool false), (26, .bool false)])[42]? = some (.bool (boolI xs 42)) by rw [upd_at _ _ _ (by rw [ht.1]; omega)]; exact ht.bool 42 rfl)
  have V0 := Lib.hid (show VarAt ((w.alloc (.cells xs 39)).alloc (.cells z48 39)) w.heap.size xs 39 by
    have := (var_new w xs 39).alloc (.cells z48 39)
    exact this)
  have C0 := Lib.hid (show VarAt ((w.alloc (.cells xs 39)).alloc (.cells z48 39)) (w.heap.size + 1) z48 39 by
    have := var_new (w.alloc (.cells xs 39)) z48 39
    rwa [alloc_size] at this)
  have B0 := Lib.hid (show Below w.heap.size w ((w.alloc (.cells xs 39)).alloc (.cells z48 39)) from ((Below.refl w.heap.size w).alloc (Nat.le_refl _) _).alloc (by rw [alloc_size]; omega) _)
  have zz := zero48
  have zs := Lib.hid z48_size
  have T0 := Lib.hid ht
  clear ht
  generalize z48 = Z at *
  generalize updX xs = UX at *
  generalize updA xs = ZA at *
  go_enter Tryd.func50, Tryd.ntmps50
  go_upto_region 1 with fail
  clear zz
  generalize (w.alloc (.cells xs 39)).alloc (.cells Z 39) = w0 at *
  have s26 : w0.cell? ⟨w.heap.size, 26, none⟩ = some (.bool (boolI xs 26)) := by rw [V0.out.cell]; exact T0.out.bool 26 rfl
  have s27 : w0.cell? ⟨w.heap.size, 27, none⟩ = some (.bool (boolI xs 27)) := by rw [V0.out.cell]; exact T0.out.bool 27 rfl
  have fz := V0.out.frozen
  have V1 := Lib.hid (show VarAt _ w.heap.size (upd xs [(27, .bool false), (26, .bool false)]) 39 from ((V0.out.set 27 (.bool false)).set 26 (.bool false)))
  have C1 := Lib.hid ((C0.out.set_other (p := ⟨w.heap.size, 27, none⟩) (by simp) (.bool false)).set_other (p := ⟨w.heap.size, 26, none⟩) (by simp) (.bool false))
  have B1 := Lib.hid ((B0.out.setCell (p := ⟨w.heap.size, 27, none⟩) (by simp) (.bool false)).setCell (p := ⟨w.heap.size, 26, none⟩) (by simp) (.bool false))
  have T1 := Lib.hid (show Typed (upd xs [(27, .bool false), (26, .bool false)]) from upd_typed _ T0.out (by
    simp only [List.mem_cons, List.not_mem_nil, or_false]
    rintro p (rfl | rfl)
    · exact isB rfl _
    · exact isB rfl _))
  go_upto_region 3 with fail
  clear fz s26 s27 V0 C0 B0 T0
  generalize ((w0.setCell ⟨w.heap.size, 27, none⟩ (.bool false)).setCell ⟨w.heap.size, 26, none⟩ (.bool false)) = w1 at *
  go_wp2_with (with_reducible refine stopL 39 _ rfl ?_)
  refine Lib.hid ?_
  refine wpList_load_whole uP rfl sP rfl _ rfl rfl (range_whole V1.out) T1.out.1 ?_
  go_wp2_with fail
  refine (kB.out _ T1.out).mono ?_
  rintro e w2 ⟨rfl, hb⟩
  have V2 := Lib.hid (V1.out.below hb V1.out.lt)
  have C2 := Lib.hid (C1.out.below hb C1.out.lt)
  have B2 := Lib.hid (B1.out.trans (hb.mono B1.out.size))
  clear hb V1 C1 B1
  generalize upd xs [(27, .bool false), (26, .bool false)] = Y at *
  generalize bosX2 xs = g at *
  generalize boolI xs 16 = x16 at *
  generalize boolI xs 42 = x42 at *
  cases g
  · have hA := HA.out
    simp at hA
    have s16 : w2.cell? ⟨w.heap.size, 16, none⟩ = some (.bool (boolI Y 16)) := by rw [V2.out.cell]; exact T1.out.bool 16 rfl
    have s42 : w2.cell? ⟨w.heap.size, 42, none⟩ = some (.bool (boolI Y 42)) := by rw [V2.out.cell]; exact T1.out.bool 42 rfl
    have fz := V2.out.frozen
    have V3 := Lib.hid (show VarAt _ w.heap.size (upd Y [(16, .bool false), (42, .bool false)]) 39 from ((V2.out.set 16 (.bool false)).set 42 (.bool false)))
    have C3 := Lib.hid ((C2.out.set_other (p := ⟨w.heap.size, 16, none⟩) (by simp) (.bool false)).set_other (p := ⟨w.heap.size, 42, none⟩) (by simp) (.bool false))
    have B3 := Lib.hid ((B2.out.setCell (p := ⟨w.heap.size, 16, none⟩) (by simp) (.bool false)).setCell (p := ⟨w.heap.size, 42, none⟩) (by simp) (.bool false))
    have T3 := Lib.hid (show Typed (upd Y [(16, .bool false), (42, .bool false)]) from upd_typed _ T1.out (by
      simp only [List.mem_cons, List.not_mem_nil, or_false]
      rintro p (rfl | rfl)
      · exact isB rfl _
      · exact isB rfl _))
    rw [← hA] at V3
    clear hA HA E16 E42 kB
    go_upto_region 8 with fail
    clear fz s16 s42 V2 C2 B2 T1
    generalize ((w2.setCell ⟨w.heap.size, 16, none⟩ (.bool false)).setCell ⟨w.heap.size, 42, none⟩ (.bool false)) = w3 at *
    have TAX := Lib.hid TA.out
    have c48 : w3.cell? ⟨w.heap.size, 48, none⟩ = some (.int .u64 (numI ZA 48)) := by rw [V3.out.cell]; exact TA.out.numk 48 .u64 rfl
    have c49 : w3.cell? ⟨w.heap.size, 49, none⟩ = some (.int .u32 (numI ZA 49)) := by rw [V3.out.cell]; exact TA.out.numk 49 .u32 rfl
    have c50 : w3.cell? ⟨w.heap.size, 50, none⟩ = some (.int .u64 (numI ZA 50)) := by rw [V3.out.cell]; exact TA.out.numk 50 .u64 rfl
    have c51 : w3.cell? ⟨w.heap.size, 51, none⟩ = some (.int .u16 (numI ZA 51)) := by rw [V3.out.cell]; exact TA.out.numk 51 .u16 rfl
    go_wp2_with (with_reducible refine stopS 31 _ _ rfl ?_)
    refine Lib.hid ?_
    refine wpList_store_only sV rfl _ _ rfl rfl rfl V3.out (by simp [Value.oneCell']) rfl (by rw [TA.out.1]; omega) ?_
    intro w4 hv ho
    simp only [Act.put]
    have V4 := Lib.hid (show VarAt w4 w.heap.size (upd ZA [(56, .int .u64 (numI ZA 48)), (57, .int .u32 (numI ZA 49)), (58, .int .u64 (numI ZA 50)), (59, .int .u16 (numI ZA 51))]) 39 from hv)
    have C4 := Lib.hid (ho.var C3.out (by omega))
    have B4 := Lib.hid (B3.out.trans (ho.below (by omega) B3.out.size))
    have T4 := Lib.hid (show Typed (upd ZA [(56, .int .u64 (numI ZA 48)), (57, .int .u32 (numI ZA 49)), (58, .int .u64 (numI ZA 50)), (59, .int .u16 (numI ZA 51))]) from upd_typed _ TA.out (by
      simp only [List.mem_cons, List.not_mem_nil, or_false]
      rintro p (rfl | rfl | rfl | rfl)
      · exact isK rfl _
      · exact isK rfl _
      · exact isK rfl _
      · exact isK rfl _))
    clear hv ho V3 C3 B3 TA
    clear c48 c49 c50 c51
    have c60 : w4.cell? ⟨w.heap.size, 60, none⟩ = some (.int .i64 (numI (upd ZA [(56, .int .u64 (numI ZA 48)), (57, .int .u32 (numI ZA 49)), (58, .int .u64 (numI ZA 50)), (59, .int .u16 (numI ZA 51))]) 60)) := by rw [V4.out.cell]; exact T4.out.numk 60 .i64 rfl
    rw [num_out TAX.out.1 (by omega) rfl] at c60
    have c61 : w4.cell? ⟨w.heap.size, 61, none⟩ = some (.int .i64 (numI (upd ZA [(56, .int .u64 (numI ZA 48)), (57, .int .u32 (numI ZA 49)), (58, .int .u64 (numI ZA 50)), (59, .int .u16 (numI ZA 51))]) 61)) := by rw [V4.out.cell]; exact T4.out.numk 61 .i64 rfl
    rw [num_out TAX.out.1 (by omega) rfl] at c61
    have c62 : w4.cell? ⟨w.heap.size, 62, none⟩ = some (.int .i64 (numI (upd ZA [(56, .int .u64 (numI ZA 48)), (57, .int .u32 (numI ZA 49)), (58, .int .u64 (numI ZA 50)), (59, .int .u16 (numI ZA 51))]) 62)) := by rw [V4.out.cell]; exact T4.out.numk 62 .i64 rfl
    rw [num_out TAX.out.1 (by omega) rfl] at c62
    have c63 : w4.cell? ⟨w.heap.size, 63, none⟩ = some (.int .i64 (numI (upd ZA [(56, .int .u64 (numI ZA 48)), (57, .int .u32 (numI ZA 49)), (58, .int .u64 (numI ZA 50)), (59, .int .u16 (numI ZA 51))]) 63)) := by rw [V4.out.cell]; exact T4.out.numk 63 .i64 rfl
    rw [num_out TAX.out.1 (by omega) rfl] at c63
    go_wp2_with (with_reducible refine stopS 33 _ _ rfl ?_)
    refine Lib.hid ?_
    refine wpList_store_only s25 rfl _ _ rfl rfl rfl V4.out (by simp [Value.oneCell']) rfl (by rw [T4.out.1]; omega) ?_
    intro w5 hv ho
    simp only [Act.put]
    have V5 := Lib.hid (show VarAt w5 w.heap.size (upd (upd ZA [(56, .int .u64 (numI ZA 48)), (57, .int .u32 (numI ZA 49)), (58, .int .u64 (numI ZA 50)), (59, .int .u16 (numI ZA 51))]) [(68, .int .i64 (numI ZA 60)), (69, .int .i64 (numI ZA 61)), (70, .int .i64 (numI ZA 62)), (71, .int .i64 (numI ZA 63))]) 39 from hv)
    have C5 := Lib.hid (ho.var C4.out (by omega))
    have B5 := Lib.hid (B4.out.trans (ho.below (by omega) B4.out.size))
    have T5 := Lib.hid (show Typed (upd (upd ZA [(56, .int .u64 (numI ZA 48)), (57, .int .u32 (numI ZA 49)), (58, .int .u64 (numI ZA 50)), (59, .int .u16 (numI ZA 51))]) [(68, .int .i64 (numI ZA 60)), (69, .int .i64 (numI ZA 61)), (70, .int .i64 (numI ZA 62)), (71, .int .i64 (numI ZA 63))]) from upd_typed _ T4.out (by
      simp only [List.mem_cons, List.not_mem_nil, or_false]
      rintro p (rfl | rfl | rfl | rfl)
      · exact isK rfl _
      · exact isK rfl _
      · exact isK rfl _
      · exact isK rfl _))
    clear hv ho V4 C4 B4 T4
    have V50 := V5.out
    rw [← upd_append] at V50
    replace V50 := Lib.hid (show VarAt _ w.heap.size (mvU ZA) 39 from V50)
    have T50 := Lib.hid (mvU_typed TAX.out)
    clear V5 T5 c60 c61 c62 c63
    have s24 : w5.cell? ⟨w.heap.size, 24, none⟩ = some (.bool (boolI ((mvU ZA)) 24)) := by rw [V50.out.cell]; exact T50.out.bool 24 rfl
    have s43 : w5.cell? ⟨w.heap.size, 43, none⟩ = some (.bool (boolI ((mvU ZA)) 43)) := by rw [V50.out.cell]; exact T50.out.bool 43 rfl
    have s44 : w5.cell? ⟨w.heap.size, 44, none⟩ = some (.int .i64 (numI ((mvU ZA)) 44)) := by rw [V50.out.cell]; exact T50.out.numk 44 .i64 rfl
    have s86 : w5.cell? ⟨w.heap.size, 86, none⟩ = some (.int .i64 (numI ((mvU ZA)) 86)) := by rw [V50.out.cell]; exact T50.out.numk 86 .i64 rfl
    have fz := V50.out.frozen
    have V51 := Lib.hid (show VarAt _ w.heap.size (upd ((mvU ZA)) [(43, .bool false), (44, .int .i64 2), (24, .bool true), (86, .int .i64 2)]) 39 from ((((V50.out.set 43 (.bool false)).set 44 (.int .i64 2)).set 24 (.bool true)).set 86 (.int .i64 2)))
    have C51 := Lib.hid ((((C5.out.set_other (p := ⟨w.heap.size, 43, none⟩) (by simp) (.bool false)).set_other (p := ⟨w.heap.size, 44, none⟩) (by simp) (.int .i64 2)).set_other (p := ⟨w.heap.size, 24, none⟩) (by simp) (.bool true)).set_other (p := ⟨w.heap.size, 86, none⟩) (by simp) (.int .i64 2))
    have B51 := Lib.hid ((((B5.out.setCell (p := ⟨w.heap.size, 43, none⟩) (by simp) (.bool false)).setCell (p := ⟨w.heap.size, 44, none⟩) (by simp) (.int .i64 2)).setCell (p := ⟨w.heap.size, 24, none⟩) (by simp) (.bool true)).setCell (p := ⟨w.heap.size, 86, none⟩) (by simp) (.int .i64 2))
    have T51 := Lib.hid (show Typed (upd ((mvU ZA)) [(43, .bool false), (44, .int .i64 2), (24, .bool true), (86, .int .i64 2)]) from upd_typed _ T50.out (by
      simp only [List.mem_cons, List.not_mem_nil, or_false]
      rintro p (rfl | rfl | rfl | rfl)
      · exact isB rfl _
      · exact isK rfl _
      · exact isB rfl _
      · exact isK rfl _))
    rw [← HU.out] at V51 T51
    go_wp2_with (with_reducible refine stopL 39 _ rfl ?_)
    refine Lib.hid ?_
    refine wpList_load_whole uP rfl sP rfl _ rfl rfl (range_whole V51.out) T51.out.1 ?_
    refine wpList_store_only sP rfl _ _ rfl rfl rfl C51.out T51.out.one T51.out.1 (by rw [zs.out]; omega) ?_
    intro w99 hv ho
    rw [putL_all _ _ (by rw [zs.out, T51.out.1])] at hv
    have V99 := Lib.hid hv
    have B99 := Lib.hid (B51.out.trans (ho.below (by omega) B51.out.size))
    clear hv ho
    go_wp2_with (with_reducible refine stopE ?_)
    refine Lib.hid ?_
    exact bodyPost_ret (v := .agg UX) (results_cell_row (p := 2) (ty := 39) rfl _ _ (w.heap.size + 1) 39 _ (0, 0) _ rfl V99.out uP rfl (by rw [sP]; simp [T51.out.1])) rfl ⟨rfl, B99.out⟩
  · cases x16
    · have hA := HA.out
      rw [show upd Y [(16, .bool (false && true)), (42, .bool (x42 && (false && true)))] = (Y.setIfInBounds 16 (.bool false)).setIfInBounds 42 (.bool (x42 && false)) from rfl, set_self E16.out] at hA
      simp only [Bool.and_false] at hA
      have c16 : w2.cell? ⟨w.heap.size, 16, none⟩ = some (.bool (boolI Y 16)) := by rw [V2.out.cell]; exact T1.out.bool 16 rfl
      rw [show boolI Y 16 = false from by unfold boolI; rw [E16.out]] at c16
      have s42 : w2.cell? ⟨w.heap.size, 42, none⟩ = some (.bool (boolI Y 42)) := by rw [V2.out.cell]; exact T1.out.bool 42 rfl
      have fz := V2.out.frozen
      have V3 := Lib.hid (show VarAt _ w.heap.size (upd Y [(42, .bool false)]) 39 from (V2.out.set 42 (.bool false)))
      have C3 := Lib.hid (C2.out.set_other (p := ⟨w.heap.size, 42, none⟩) (by simp) (.bool false))
      have B3 := Lib.hid (B2.out.setCell (p := ⟨w.heap.size, 42, none⟩) (by simp) (.bool false))
      have T3 := Lib.hid (show Typed (upd Y [(42, .bool false)]) from upd_typed _ T1.out (by
        simp only [List.mem_cons, List.not_mem_nil, or_false]
        rintro p rfl
        exact isB rfl _))
      rw [show upd Y [(42, .bool false)] = Y.setIfInBounds 42 (.bool false) from rfl, ← hA] at V3
      clear hA HA E16 E42 kB
      go_upto_region 8 with fail
      clear c16
      clear fz s42 V2 C2 B2 T1
      generalize (w2.setCell ⟨w.heap.size, 42, none⟩ (.bool false)) = w3 at *
      have TAX := Lib.hid TA.out
      have c48 : w3.cell? ⟨w.heap.size, 48, none⟩ = some (.int .u64 (numI ZA 48)) := by rw [V3.out.cell]; exact TA.out.numk 48 .u64 rfl
      have c49 : w3.cell? ⟨w.heap.size, 49, none⟩ = some (.int .u32 (numI ZA 49)) := by rw [V3.out.cell]; exact TA.out.numk 49 .u32 rfl
      have c50 : w3.cell? ⟨w.heap.size, 50, none⟩ = some (.int .u64 (numI ZA 50)) := by rw [V3.out.cell]; exact TA.out.numk 50 .u64 rfl
      have c51 : w3.cell? ⟨w.heap.size, 51, none⟩ = some (.int .u16 (numI ZA 51)) := by rw [V3.out.cell]; exact TA.out.numk 51 .u16 rfl
      go_wp2_with (with_reducible refine stopS 31 _ _ rfl ?_)
      refine Lib.hid ?_
      refine wpList_store_only sV rfl _ _ rfl rfl rfl V3.out (by simp [Value.oneCell']) rfl (by rw [TA.out.1]; omega) ?_
      intro w4 hv ho
      simp only [Act.put]
      have V4 := Lib.hid (show VarAt w4 w.heap.size (upd ZA [(56, .int .u64 (numI ZA 48)), (57, .int .u32 (numI ZA 49)), (58, .int .u64 (numI ZA 50)), (59, .int .u16 (numI ZA 51))]) 39 from hv)
      have C4 := Lib.hid (ho.var C3.out (by omega))
      have B4 := Lib.hid (B3.out.trans (ho.below (by omega) B3.out.size))
      have T4 := Lib.hid (show Typed (upd ZA [(56, .int .u64 (numI ZA 48)), (57, .int .u32 (numI ZA 49)), (58, .int .u64 (numI ZA 50)), (59, .int .u16 (numI ZA 51))]) from upd_typed _ TA.out (by
        simp only [List.mem_cons, List.not_mem_nil, or_false]
        rintro p (rfl | rfl | rfl | rfl)
        · exact isK rfl _
        · exact isK rfl _
        · exact isK rfl _
        · exact isK rfl _))
      clear hv ho V3 C3 B3 TA
      clear c48 c49 c50 c51
      have c60 : w4.cell? ⟨w.heap.size, 60, none⟩ = some (.int .i64 (numI (upd ZA [(56, .int .u64 (numI ZA 48)), (57, .int .u32 (numI ZA 49)), (58, .int .u64 (numI ZA 50)), (59, .int .u16 (numI ZA 51))]) 60)) := by rw [V4.out.cell]; exact T4.out.numk 60 .i64 rfl
      rw [num_out TAX.out.1 (by omega) rfl] at c60
      have c61 : w4.cell? ⟨w.heap.size, 61, none⟩ = some (.int .i64 (numI (upd ZA [(56, .int .u64 (numI ZA 48)), (57, .int .u32 (numI ZA 49)), (58, .int .u64 (numI ZA 50)), (59, .int .u16 (numI ZA 51))]) 61)) := by rw [V4.out.cell]; exact T4.out.numk 61 .i64 rfl
      rw [num_out TAX.out.1 (by omega) rfl] at c61
      have c62 : w4.cell? ⟨w.heap.size, 62, none⟩ = some (.int .i64 (numI (upd ZA [(56, .int .u64 (numI ZA 48)), (57, .int .u32 (numI ZA 49)), (58, .int .u64 (numI ZA 50)), (59, .int .u16 (numI ZA 51))]) 62)) := by rw [V4.out.cell]; exact T4.out.numk 62 .i64 rfl
      rw [num_out TAX.out.1 (by omega) rfl] at c62
      have c63 : w4.cell? ⟨w.heap.size, 63, none⟩ = some (.int .i64 (numI (upd ZA [(56, .int .u64 (numI ZA 48)), (57, .int .u32 (numI ZA 49)), (58, .int .u64 (numI ZA 50)), (59, .int .u16 (numI ZA 51))]) 63)) := by rw [V4.out.cell]; exact T4.out.numk 63 .i64 rfl
      rw [num_out TAX.out.1 (by omega) rfl] at c63
      go_wp2_with (with_reducible refine stopS 33 _ _ rfl ?_)
      refine Lib.hid ?_
      refine wpList_store_only s25 rfl _ _ rfl rfl rfl V4.out (by simp [Value.oneCell']) rfl (by rw [T4.out.1]; omega) ?_
      intro w5 hv ho
      simp only [Act.put]
      have V5 := Lib.hid (show VarAt w5 w.heap.size (upd (upd ZA [(56, .int .u64 (numI ZA 48)), (57, .int .u32 (numI ZA 49)), (58, .int .u64 (numI ZA 50)), (59, .int .u16 (numI ZA 51))]) [(68, .int .i64 (numI ZA 60)), (69, .int .i64 (numI ZA 61)), (70, .int .i64 (numI ZA 62)), (71, .int .i64 (numI ZA 63))]) 39 from hv)
      have C5 := Lib.hid (ho.var C4.out (by omega))
      have B5 := Lib.hid (B4.out.trans (ho.below (by omega) B4.out.size))
      have T5 := Lib.hid (show Typed (upd (upd ZA [(56, .int .u64 (numI ZA 48)), (57, .int .u32 (numI ZA 49)), (58, .int .u64 (numI ZA 50)), (59, .int .u16 (numI ZA 51))]) [(68, .int .i64 (numI ZA 60)), (69, .int .i64 (numI ZA 61)), (70, .int .i64 (numI ZA 62)), (71, .int .i64 (numI ZA 63))]) from upd_typed _ T4.out (by
        simp only [List.mem_cons, List.not_mem_nil, or_false]
        rintro p (rfl | rfl | rfl | rfl)
        · exact isK rfl _
        · exact isK rfl _
        · exact isK rfl _
        · exact isK rfl _))
      clear hv ho V4 C4 B4 T4
      have V50 := V5.out
      rw [← upd_append] at V50
      replace V50 := Lib.hid (show VarAt _ w.heap.size (mvU ZA) 39 from V50)
      have T50 := Lib.hid (mvU_typed TAX.out)
      clear V5 T5 c60 c61 c62 c63
      have s24 : w5.cell? ⟨w.heap.size, 24, none⟩ = some (.bool (boolI ((mvU ZA)) 24)) := by rw [V50.out.cell]; exact T50.out.bool 24 rfl
      have s43 : w5.cell? ⟨w.heap.size, 43, none⟩ = some (.bool (boolI ((mvU ZA)) 43)) := by rw [V50.out.cell]; exact T50.out.bool 43 rfl
      have s44 : w5.cell? ⟨w.heap.size, 44, none⟩ = some (.int .i64 (numI ((mvU ZA)) 44)) := by rw [V50.out.cell]; exact T50.out.numk 44 .i64 rfl
      have s86 : w5.cell? ⟨w.heap.size, 86, none⟩ = some (.int .i64 (numI ((mvU ZA)) 86)) := by rw [V50.out.cell]; exact T50.out.numk 86 .i64 rfl
      have fz := V50.out.frozen
      have V51 := Lib.hid (show VarAt _ w.heap.size (upd ((mvU ZA)) [(43, .bool false), (44, .int .i64 2), (24, .bool true), (86, .int .i64 2)]) 39 from ((((V50.out.set 43 (.bool false)).set 44 (.int .i64 2)).set 24 (.bool true)).set 86 (.int .i64 2)))
      have C51 := Lib.hid ((((C5.out.set_other (p := ⟨w.heap.size, 43, none⟩) (by simp) (.bool false)).set_other (p := ⟨w.heap.size, 44, none⟩) (by simp) (.int .i64 2)).set_other (p := ⟨w.heap.size, 24, none⟩) (by simp) (.bool true)).set_other (p := ⟨w.heap.size, 86, none⟩) (by simp) (.int .i64 2))
      have B51 := Lib.hid ((((B5.out.setCell (p := ⟨w.heap.size, 43, none⟩) (by simp) (.bool false)).setCell (p := ⟨w.heap.size, 44, none⟩) (by simp) (.int .i64 2)).setCell (p := ⟨w.heap.size, 24, none⟩) (by simp) (.bool true)).setCell (p := ⟨w.heap.size, 86, none⟩) (by simp) (.int .i64 2))
      have T51 := Lib.hid (show Typed (upd ((mvU ZA)) [(43, .bool false), (44, .int .i64 2), (24, .bool true), (86, .int .i64 2)]) from upd_typed _ T50.out (by
        simp only [List.mem_cons, List.not_mem_nil, or_false]
        rintro p (rfl | rfl | rfl | rfl)
        · exact isB rfl _
        · exact isK rfl _
        · exact isB rfl _
        · exact isK rfl _))
      rw [← HU.out] at V51 T51
      go_wp2_with (with_reducible refine stopL 39 _ rfl ?_)
      refine Lib.hid ?_
      refine wpList_load_whole uP rfl sP rfl _ rfl rfl (range_whole V51.out) T51.out.1 ?_
      refine wpList_store_only sP rfl _ _ rfl rfl rfl C51.out T51.out.one T51.out.1 (by rw [zs.out]; omega) ?_
      intro w99 hv ho
      rw [putL_all _ _ (by rw [zs.out, T51.out.1])] at hv
      have V99 := Lib.hid hv
      have B99 := Lib.hid (B51.out.trans (ho.below (by omega) B51.out.size))
      clear hv ho
      go_wp2_with (with_reducible refine stopE ?_)
      refine Lib.hid ?_
      exact bodyPost_ret (v := .agg UX) (results_cell_row (p := 2) (ty := 39) rfl _ _ (w.heap.size + 1) 39 _ (0, 0) _ rfl V99.out uP rfl (by rw [sP]; simp [T51.out.1])) rfl ⟨rfl, B99.out⟩
    · have hA := HA.out
      rw [show upd Y [(16, .bool (true && true)), (42, .bool (x42 && (true && true)))] = (Y.setIfInBounds 16 (.bool true)).setIfInBounds 42 (.bool (x42 && true)) from rfl, set_self E16.out] at hA
      simp only [Bool.and_true] at hA
      rw [set_self E42.out] at hA
      have c16 : w2.cell? ⟨w.heap.size, 16, none⟩ = some (.bool (boolI Y 16)) := by rw [V2.out.cell]; exact T1.out.bool 16 rfl
      rw [show boolI Y 16 = true from by unfold boolI; rw [E16.out]] at c16
      rw [← hA] at V2
      clear hA HA E16 E42 kB
      go_upto_region 8 with fail
      clear c16
      have TAX := Lib.hid TA.out
      have c48 : w2.cell? ⟨w.heap.size, 48, none⟩ = some (.int .u64 (numI ZA 48)) := by rw [V2.out.cell]; exact TA.out.numk 48 .u64 rfl
      have c49 : w2.cell? ⟨w.heap.size, 49, none⟩ = some (.int .u32 (numI ZA 49)) := by rw [V2.out.cell]; exact TA.out.numk 49 .u32 rfl
      have c50 : w2.cell? ⟨w.heap.size, 50, none⟩ = some (.int .u64 (numI ZA 50)) := by rw [V2.out.cell]; exact TA.out.numk 50 .u64 rfl
      have c51 : w2.cell? ⟨w.heap.size, 51, none⟩ = some (.int .u16 (numI ZA 51)) := by rw [V2.out.cell]; exact TA.out.numk 51 .u16 rfl
      go_wp2_with (with_reducible refine stopS 31 _ _ rfl ?_)
      refine Lib.hid ?_
      refine wpList_store_only sV rfl _ _ rfl rfl rfl V2.out (by simp [Value.oneCell']) rfl (by rw [TA.out.1]; omega) ?_
      intro w3 hv ho
      simp only [Act.put]
      have V3 := Lib.hid (show VarAt w3 w.heap.size (upd ZA [(56, .int .u64 (numI ZA 48)), (57, .int .u32 (numI ZA 49)), (58, .int .u64 (numI ZA 50)), (59, .int .u16 (numI ZA 51))]) 39 from hv)
      have C3 := Lib.hid (ho.var C2.out (by omega))
      have B3 := Lib.hid (B2.out.trans (ho.below (by omega) B2.out.size))
      have T3 := Lib.hid (show Typed (upd ZA [(56, .int .u64 (numI ZA 48)), (57, .int .u32 (numI ZA 49)), (58, .int .u64 (numI ZA 50)), (59, .int .u16 (numI ZA 51))]) from upd_typed _ TA.out (by
        simp only [List.mem_cons, List.not_mem_nil, or_false]
        rintro p (rfl | rfl | rfl | rfl)
        · exact isK rfl _
        · exact isK rfl _
        · exact isK rfl _
        · exact isK rfl _))
      clear hv ho V2 C2 B2 TA
      clear c48 c49 c50 c51
      have c60 : w3.cell? ⟨w.heap.size, 60, none⟩ = some (.int .i64 (numI (upd ZA [(56, .int .u64 (numI ZA 48)), (57, .int .u32 (numI ZA 49)), (58, .int .u64 (numI ZA 50)), (59, .int .u16 (numI ZA 51))]) 60)) := by rw [V3.out.cell]; exact T3.out.numk 60 .i64 rfl
      rw [num_out TAX.out.1 (by omega) rfl] at c60
      have c61 : w3.cell? ⟨w.heap.size, 61, none⟩ = some (.int .i64 (numI (upd ZA [(56, .int .u64 (numI ZA 48)), (57, .int .u32 (numI ZA 49)), (58, .int .u64 (numI ZA 50)), (59, .int .u16 (numI ZA 51))]) 61)) := by rw [V3.out.cell]; exact T3.out.numk 61 .i64 rfl
      rw [num_out TAX.out.1 (by omega) rfl] at c61
      have c62 : w3.cell? ⟨w.heap.size, 62, none⟩ = some (.int .i64 (numI (upd ZA [(56, .int .u64 (numI ZA 48)), (57, .int .u32 (numI ZA 49)), (58, .int .u64 (numI ZA 50)), (59, .int .u16 (numI ZA 51))]) 62)) := by rw [V3.out.cell]; exact T3.out.numk 62 .i64 rfl
      rw [num_out TAX.out.1 (by omega) rfl] at c62
      have c63 : w3.cell? ⟨w.heap.size, 63, none⟩ = some (.int .i64 (numI (upd ZA [(56, .int .u64 (numI ZA 48)), (57, .int .u32 (numI ZA 49)), (58, .int .u64 (numI ZA 50)), (59, .int .u16 (numI ZA 51))]) 63)) := by rw [V3.out.cell]; exact T3.out.numk 63 .i64 rfl
      rw [num_out TAX.out.1 (by omega) rfl] at c63
      go_wp2_with (with_reducible refine stopS 33 _ _ rfl ?_)
      refine Lib.hid ?_
      refine wpList_store_only s25 rfl _ _ rfl rfl rfl V3.out (by simp [Value.oneCell']) rfl (by rw [T3.out.1]; omega) ?_
      intro w4 hv ho
      simp only [Act.put]
      have V4 := Lib.hid (show VarAt w4 w.heap.size (upd (upd ZA [(56, .int .u64 (numI ZA 48)), (57, .int .u32 (numI ZA 49)), (58, .int .u64 (numI ZA 50)), (59, .int .u16 (numI ZA 51))]) [(68, .int .i64 (numI ZA 60)), (69, .int .i64 (numI ZA 61)), (70, .int .i64 (numI ZA 62)), (71, .int .i64 (numI ZA 63))]) 39 from hv)
      have C4 := Lib.hid (ho.var C3.out (by omega))
      have B4 := Lib.hid (B3.out.trans (ho.below (by omega) B3.out.size))
      have T4 := Lib.hid (show Typed (upd (upd ZA [(56, .int .u64 (numI ZA 48)), (57, .int .u32 (numI ZA 49)), (58, .int .u64 (numI ZA 50)), (59, .int .u16 (numI ZA 51))]) [(68, .int .i64 (numI ZA 60)), (69, .int .i64 (numI ZA 61)), (70, .int .i64 (numI ZA 62)), (71, .int .i64 (numI ZA 63))]) from upd_typed _ T3.out (by
        simp only [List.mem_cons, List.not_mem_nil, or_false]
        rintro p (rfl | rfl | rfl | rfl)
        · exact isK rfl _
        · exact isK rfl _
        · exact isK rfl _
        · exact isK rfl _))
      clear hv ho V3 C3 B3 T3
      have V50 := V4.out
      rw [← upd_append] at V50
      replace V50 := Lib.hid (show VarAt _ w.heap.size (mvU ZA) 39 from V50)
      have T50 := Lib.hid (mvU_typed TAX.out)
      clear V4 T4 c60 c61 c62 c63
      have s24 : w4.cell? ⟨w.heap.size, 24, none⟩ = some (.bool (boolI ((mvU ZA)) 24)) := by rw [V50.out.cell]; exact T50.out.bool 24 rfl
      have s43 : w4.cell? ⟨w.heap.size, 43, none⟩ = some (.bool (boolI ((mvU ZA)) 43)) := by rw [V50.out.cell]; exact T50.out.bool 43 rfl
      have s44 : w4.cell? ⟨w.heap.size, 44, none⟩ = some (.int .i64 (numI ((mvU ZA)) 44)) := by rw [V50.out.cell]; exact T50.out.numk 44 .i64 rfl
      have s86 : w4.cell? ⟨w.heap.size, 86, none⟩ = some (.int .i64 (numI ((mvU ZA)) 86)) := by rw [V50.out.cell]; exact T50.out.numk 86 .i64 rfl
      have fz := V50.out.frozen
      have V51 := Lib.hid (show VarAt _ w.heap.size (upd ((mvU ZA)) [(43, .bool false), (44, .int .i64 2), (24, .bool true), (86, .int .i64 2)]) 39 from ((((V50.out.set 43 (.bool false)).set 44 (.int .i64 2)).set 24 (.bool true)).set 86 (.int .i64 2)))
      have C51 := Lib.hid ((((C4.out.set_other (p := ⟨w.heap.size, 43, none⟩) (by simp) (.bool false)).set_other (p := ⟨w.heap.size, 44, none⟩) (by simp) (.int .i64 2)).set_other (p := ⟨w.heap.size, 24, none⟩) (by simp) (.bool true)).set_other (p := ⟨w.heap.size, 86, none⟩) (by simp) (.int .i64 2))
      have B51 := Lib.hid ((((B4.out.setCell (p := ⟨w.heap.size, 43, none⟩) (by simp) (.bool false)).setCell (p := ⟨w.heap.size, 44, none⟩) (by simp) (.int .i64 2)).setCell (p := ⟨w.heap.size, 24, none⟩) (by simp) (.bool true)).setCell (p := ⟨w.heap.size, 86, none⟩) (by simp) (.int .i64 2))
      have T51 := Lib.hid (show Typed (upd ((mvU ZA)) [(43, .bool false), (44, .int .i64 2), (24, .bool true), (86, .int .i64 2)]) from upd_typed _ T50.out (by
        simp only [List.mem_cons, List.not_mem_nil, or_false]
        rintro p (rfl | rfl | rfl | rfl)
        · exact isB rfl _
        · exact isK rfl _
        · exact isB rfl _
        · exact isK rfl _))
      rw [← HU.out] at V51 T51
      go_wp2_with (with_reducible refine stopL 39 _ rfl ?_)
      refine Lib.hid ?_
      refine wpList_load_whole uP rfl sP rfl _ rfl rfl (range_whole V51.out) T51.out.1 ?_
      refine wpList_store_only sP rfl _ _ rfl rfl rfl C51.out T51.out.one T51.out.1 (by rw [zs.out]; omega) ?_
      intro w99 hv ho
      rw [putL_all _ _ (by rw [zs.out, T51.out.1])] at hv
      have V99 := Lib.hid hv
      have B99 := Lib.hid (B51.out.trans (ho.below (by omega) B51.out.size))
      clear hv ho
      go_wp2_with (with_reducible refine stopE ?_)
      refine Lib.hid ?_
      exact bodyPost_ret (v := .agg UX) (results_cell_row (p := 2) (ty := 39) rfl _ _ (w.heap.size + 1) 39 _ (0, 0) _ rfl V99.out uP rfl (by rw [sP]; simp [T51.out.1])) rfl ⟨rfl, B99.out⟩
def toldX (pr : Bool) (xs : Array Value) : Array Value := flagX (if pr then propX xs else xs)
theorem toldX_typed (pr : Bool) {xs : Array Value} (h : Typed xs) : Typed (toldX pr xs) := by
  unfold toldX
  split
  · exact flagX_typed (propX_typed h)
  · exact flagX_typed h
set_option maxHeartbeats 4000000 in
theorem reftold_any (pr : Bool) (xs : Array Value) (w : World) (ht : Typed xs) (hr : Rg xs) : Calls Tryd.prog 62 #[.agg xs, .bool pr] w fun e w' => e = .returned (.agg (toldX pr xs)) ∧ Below w.heap.size w w' := by
  have HP := Lib.hid (show propX xs = upd xs [(26, .bool (rstF xs 2 || boolI xs 26))] from rfl)
  have TP := Lib.hid (propX_typed ht)
  have RP := Lib.hid (show Rg (propX xs) from hr.upd ht.1 rfl)
  have E26 := Lib.hid (ht.bool 26 rfl)
  have kb2 := Lib.hid (fun w => bit_2 xs hr w)
  have HQ := Lib.hid (show rstF xs 2 = ((numI xs 72 == 3) && bitF xs 2) from rfl)
  have V0 := Lib.hid (show VarAt ((w.alloc (.cells xs 39)).alloc (.cells z48 39)) w.heap.size xs 39 by
    have := (var_new w xs 39).alloc (.cells z48 39)
    exact this)
  have C0 := Lib.hid (show VarAt ((w.alloc (.cells xs 39)).alloc (.cells z48 39)) (w.heap.size + 1) z48 39 by
    have := var_new (w.alloc (.cells xs 39)) z48 39
    rwa [alloc_size] at this)
  have B0 := Lib.hid (show Below w.heap.size w ((w.alloc (.cells xs 39)).alloc (.cells z48 39)) from ((Below.refl w.heap.size w).alloc (Nat.le_refl _) _).alloc (by rw [alloc_size]; omega) _)
  have zz := zero48
  have zs := Lib.hid z48_size
  have T0 := Lib.hid ht
  have R0 := Lib.hid hr
  clear ht hr
  generalize z48 = Z at *
  unfold toldX
  generalize propX xs = ZP at *
  generalize rstF xs 2 = q at *
  generalize bitF xs 2 = b2 at *
  have H72 := Lib.hid (T0.out.numk 72 .i64 rfl)
  generalize numI xs 72 = k at *
  cases pr
  · clear HP TP RP E26 kb2 HQ H72
    go_enter Tryd.func62, Tryd.ntmps62
    go_upto_region 1 with fail
    clear zz
    generalize (w.alloc (.cells xs 39)).alloc (.cells Z 39) = w0 at *
    go_upto_region 3 with fail
    have kf1 := Lib.hid (fun w => bit_1 xs R0.out w)
    have kf2 := Lib.hid (fun w => bit_128 xs R0.out w)
    have HF := Lib.hid (show flagX xs = (xs.setIfInBounds 34 (.bool (bitF xs 1 || boolI xs 34))).setIfInBounds 35 (.bool (bitF xs 128 || boolI xs 35)) from rfl)
    have TF := Lib.hid (flagX_typed T0.out)
    have E34 := Lib.hid (T0.out.bool 34 rfl)
    have E35 := Lib.hid (T0.out.bool 35 rfl)
    have RF := Lib.hid (flagX_rg R0.out T0.out)
    have TYY := Lib.hid T0.out
    generalize hZF : flagX xs = ZF at *
    have HZF := Lib.hid hZF
    clear hZF
    generalize bitF xs 1 = f1 at *
    generalize bitF xs 128 = f2 at *
    go_wp2_with (with_reducible refine stopL 36 _ rfl ?_)
    refine Lib.hid ?_
    refine wpList_load_whole uM rfl sM rfl _ rfl rfl (V0.out.msg T0.out) (msgC_size _) ?_
    go_wp2_with fail
    refine (kf1.out _).mono ?_
    rintro e w1 ⟨rfl, hb⟩
    have V1 := Lib.hid (V0.out.below hb V0.out.lt)
    have C1 := Lib.hid (C0.out.below hb C0.out.lt)
    have B1 := Lib.hid (B0.out.trans (hb.mono B0.out.size))
    clear hb V0 C0 B0
    cases f1
    · go_upto_region 5 with fail
      have HMs := Lib.hid (V1.out.msg TYY.out)
      go_wp2_with (with_reducible refine stopL 36 _ rfl ?_)
      refine Lib.hid ?_
      refine wpList_load_whole uM rfl sM rfl _ rfl rfl HMs.out (msgC_size _) ?_
      clear HMs
      go_wp2_with fail
      refine (kf2.out _).mono ?_
      rintro e w2 ⟨rfl, hb⟩
      have V2 := Lib.hid (V1.out.below hb V1.out.lt)
      have C2 := Lib.hid (C1.out.below hb C1.out.lt)
      have B2 := Lib.hid (B1.out.trans (hb.mono B1.out.size))
      clear hb V1 C1 B1
      cases f2
      · have hF := HF.out
        rw [show (false || boolI xs 34) = boolI xs 34 from rfl, set_self E34.out] at hF
        rw [show (false || boolI xs 35) = boolI xs 35 from rfl, set_self (k := 35) E35.out] at hF
        rw [← hF] at V2
        clear hF
        go_wp2_with (with_reducible refine stopL 39 _ rfl ?_)
        refine Lib.hid ?_
        refine wpList_load_whole uP rfl sP rfl _ rfl rfl (range_whole V2.out) TF.out.1 ?_
        refine wpList_store_only sP rfl _ _ rfl rfl rfl C2.out TF.out.one TF.out.1 (by rw [zs.out]; omega) ?_
        intro w99 hv ho
        rw [putL_all _ _ (by rw [zs.out, TF.out.1])] at hv
        have V99 := Lib.hid hv
        have B99 := Lib.hid (B2.out.trans (ho.below (by omega) B2.out.size))
        clear hv ho
        go_wp2_with (with_reducible refine stopE ?_)
        refine Lib.hid ?_
        exact bodyPost_ret (v := .agg ZF) (results_cell_row (p := 4) (ty := 39) rfl _ _ (w.heap.size + 1) 39 _ (0, 0) _ rfl V99.out uP rfl (by rw [sP]; simp [TF.out.1])) rfl ⟨by rw [HZF.out], B99.out⟩
      · have s35 : w2.cell? ⟨w.heap.size, 35, none⟩ = some (.bool (boolI xs 35)) := by rw [V2.out.cell]; exact E35.out
        have fz := V2.out.frozen
        have V3 := Lib.hid (show VarAt _ w.heap.size (xs.setIfInBounds 35 (.bool true)) 39 from V2.out.set 35 (.bool true))
        have C3 := Lib.hid (C2.out.set_other (p := ⟨w.heap.size, 35, none⟩) (by simp) (.bool true))
        have B3 := Lib.hid (B2.out.setCell (p := ⟨w.heap.size, 35, none⟩) (by simp) (.bool true))
        have hF := HF.out
        rw [show (false || boolI xs 34) = boolI xs 34 from rfl, set_self E34.out] at hF
        rw [show (true || boolI xs 35) = true from rfl] at hF
        rw [← hF] at V3
        clear hF
        go_wp2_with (with_reducible refine stopL 39 _ rfl ?_)
        refine Lib.hid ?_
        refine wpList_load_whole uP rfl sP rfl _ rfl rfl (range_whole V3.out) TF.out.1 ?_
        refine wpList_store_only sP rfl _ _ rfl rfl rfl C3.out TF.out.one TF.out.1 (by rw [zs.out]; omega) ?_
        intro w99 hv ho
        rw [putL_all _ _ (by rw [zs.out, TF.out.1])] at hv
        have V99 := Lib.hid hv
        have B99 := Lib.hid (B3.out.trans (ho.below (by omega) B3.out.size))
        clear hv ho
        go_wp2_with (with_reducible refine stopE ?_)
        refine Lib.hid ?_
        exact bodyPost_ret (v := .agg ZF) (results_cell_row (p := 4) (ty := 39) rfl _ _ (w.heap.size + 1) 39 _ (0, 0) _ rfl V99.out uP rfl (by rw [sP]; simp [TF.out.1])) rfl ⟨by rw [HZF.out], B99.out⟩
    · have s34 : w1.cell? ⟨w.heap.size, 34, none⟩ = some (.bool (boolI xs 34)) := by rw [V1.out.cell]; exact T0.out.bool 34 rfl
      have fz := V1.out.frozen
      have V2 := Lib.hid (show VarAt _ w.heap.size (upd xs [(34, .bool true)]) 39 from (V1.out.set 34 (.bool true)))
      have C2 := Lib.hid (C1.out.set_other (p := ⟨w.heap.size, 34, none⟩) (by simp) (.bool true))
      have B2 := Lib.hid (B1.out.setCell (p := ⟨w.heap.size, 34, none⟩) (by simp) (.bool true))
      have T2 := Lib.hid (show Typed (upd xs [(34, .bool true)]) from upd_typed _ T0.out (by
        simp only [List.mem_cons, List.not_mem_nil, or_false]
        rintro p rfl
        exact isB rfl _))
      have R2 := Lib.hid (show Rg (upd xs [(34, .bool true)]) from R0.out.upd T0.out.1 rfl)
      go_upto_region 5 with fail
      clear fz s34 V1 C1 B1 T0 R0
      generalize (w1.setCell ⟨w.heap.size, 34, none⟩ (.bool true)) = w2 at *
      rw [show upd xs [(34, .bool true)] = xs.setIfInBounds 34 (.bool true) from rfl] at V2
      have HMs := Lib.hid (show w2.rangeAt w.heap.size 72 (msgC xs).toList from (by rw [← msgC_upd (l := [(34, .bool true)]) (TYY.out).1 rfl]; exact VarAt.msg (show VarAt _ _ (upd xs [(34, .bool true)]) 39 from V2.out) T2.out))
      go_wp2_with (with_reducible refine stopL 36 _ rfl ?_)
      refine Lib.hid ?_
      refine wpList_load_whole uM rfl sM rfl _ rfl rfl HMs.out (msgC_size _) ?_
      clear HMs
      go_wp2_with fail
      refine (kf2.out _).mono ?_
      rintro e w3 ⟨rfl, hb⟩
      have V3 := Lib.hid (V2.out.below hb V2.out.lt)
      have C3 := Lib.hid (C2.out.below hb C2.out.lt)
      have B3 := Lib.hid (B2.out.trans (hb.mono B2.out.size))
      clear hb V2 C2 B2
      cases f2
      · have hF := HF.out
        rw [show (true || boolI xs 34) = true from rfl] at hF
        rw [show (false || boolI xs 35) = boolI xs 35 from rfl, set_self (k := 35) (by rw [Array.getElem?_setIfInBounds, if_neg (by omega)]; exact E35.out)] at hF
        rw [← hF] at V3
        clear hF
        go_wp2_with (with_reducible refine stopL 39 _ rfl ?_)
        refine Lib.hid ?_
        refine wpList_load_whole uP rfl sP rfl _ rfl rfl (range_whole V3.out) TF.out.1 ?_
        refine wpList_store_only sP rfl _ _ rfl rfl rfl C3.out TF.out.one TF.out.1 (by rw [zs.out]; omega) ?_
        intro w99 hv ho
        rw [putL_all _ _ (by rw [zs.out, TF.out.1])] at hv
        have V99 := Lib.hid hv
        have B99 := Lib.hid (B3.out.trans (ho.below (by omega) B3.out.size))
        clear hv ho
        go_wp2_with (with_reducible refine stopE ?_)
        refine Lib.hid ?_
        exact bodyPost_ret (v := .agg ZF) (results_cell_row (p := 4) (ty := 39) rfl _ _ (w.heap.size + 1) 39 _ (0, 0) _ rfl V99.out uP rfl (by rw [sP]; simp [TF.out.1])) rfl ⟨by rw [HZF.out], B99.out⟩
      · have s35 : w3.cell? ⟨w.heap.size, 35, none⟩ = some (.bool (boolI xs 35)) := by rw [V3.out.cell]; rw [Array.getElem?_setIfInBounds, if_neg (by omega)]; exact E35.out
        have fz := V3.out.frozen
        have V4 := Lib.hid (show VarAt _ w.heap.size ((xs.setIfInBounds 34 (.bool true)).setIfInBounds 35 (.bool true)) 39 from V3.out.set 35 (.bool true))
        have C4 := Lib.hid (C3.out.set_other (p := ⟨w.heap.size, 35, none⟩) (by simp) (.bool true))
        have B4 := Lib.hid (B3.out.setCell (p := ⟨w.heap.size, 35, none⟩) (by simp) (.bool true))
        have hF := HF.out
        rw [show (true || boolI xs 34) = true from rfl] at hF
        rw [show (true || boolI xs 35) = true from rfl] at hF
        rw [← hF] at V4
        clear hF
        go_wp2_with (with_reducible refine stopL 39 _ rfl ?_)
        refine Lib.hid ?_
        refine wpList_load_whole uP rfl sP rfl _ rfl rfl (range_whole V4.out) TF.out.1 ?_
        refine wpList_store_only sP rfl _ _ rfl rfl rfl C4.out TF.out.one TF.out.1 (by rw [zs.out]; omega) ?_
        intro w99 hv ho
        rw [putL_all _ _ (by rw [zs.out, TF.out.1])] at hv
        have V99 := Lib.hid hv
        have B99 := Lib.hid (B4.out.trans (ho.below (by omega) B4.out.size))
        clear hv ho
        go_wp2_with (with_reducible refine stopE ?_)
        refine Lib.hid ?_
        exact bodyPost_ret (v := .agg ZF) (results_cell_row (p := 4) (ty := 39) rfl _ _ (w.heap.size + 1) 39 _ (0, 0) _ rfl V99.out uP rfl (by rw [sP]; simp [TF.out.1])) rfl ⟨by rw [HZF.out], B99.out⟩
  · by_cases q3 : k = 3
    · subst q3
      have hQ := HQ.out
      simp at hQ
      go_enter Tryd.func62, Tryd.ntmps62
      go_upto_region 1 with fail
      clear zz
      generalize (w.alloc (.cells xs 39)).alloc (.cells Z 39) = w0 at *
      have c72 : w0.cell? ⟨w.heap.size, 72, none⟩ = some (.int .i64 3) := by rw [V0.out.cell]; exact H72.out
      go_wp2_with (with_reducible refine stopL 36 _ rfl ?_)
      refine Lib.hid ?_
      refine guarded_loadT uM rfl sM (by rfl) _ rfl rfl (V0.out.msg T0.out) (msgC_size _) ?_
      go_wp2_with fail
      refine (kb2.out _).mono ?_
      rintro e w1 ⟨rfl, hb⟩
      have V1 := Lib.hid (V0.out.below hb V0.out.lt)
      have C1 := Lib.hid (C0.out.below hb C0.out.lt)
      have B1 := Lib.hid (B0.out.trans (hb.mono B0.out.size))
      clear hb V0 C0 B0
      cases b2
      · have hP := HP.out
        rw [hQ] at hP
        rw [show upd xs [(26, .bool (false || boolI xs 26))] = xs from set_self E26.out] at hP
        rw [← hP] at V1
        clear hP hQ HQ HP c72
        go_upto_region 3 with fail
        have kf1 := Lib.hid (fun w => bit_1 ZP RP.out w)
        have kf2 := Lib.hid (fun w => bit_128 ZP RP.out w)
        have HF := Lib.hid (show flagX ZP = (ZP.setIfInBounds 34 (.bool (bitF ZP 1 || boolI ZP 34))).setIfInBounds 35 (.bool (bitF ZP 128 || boolI ZP 35)) from rfl)
        have TF := Lib.hid (flagX_typed TP.out)
        have E34 := Lib.hid (TP.out.bool 34 rfl)
        have E35 := Lib.hid (TP.out.bool 35 rfl)
        have RF := Lib.hid (flagX_rg RP.out TP.out)
        have TYY := Lib.hid TP.out
        generalize hZF : flagX ZP = ZF at *
        have HZF := Lib.hid hZF
        clear hZF
        generalize bitF ZP 1 = f1 at *
        generalize bitF ZP 128 = f2 at *
        go_wp2_with (with_reducible refine stopL 36 _ rfl ?_)
        refine Lib.hid ?_
        refine wpList_load_whole uM rfl sM rfl _ rfl rfl (V1.out.msg TP.out) (msgC_size _) ?_
        go_wp2_with fail
        refine (kf1.out _).mono ?_
        rintro e w2 ⟨rfl, hb⟩
        have V2 := Lib.hid (V1.out.below hb V1.out.lt)
        have C2 := Lib.hid (C1.out.below hb C1.out.lt)
        have B2 := Lib.hid (B1.out.trans (hb.mono B1.out.size))
        clear hb V1 C1 B1
        cases f1
        · go_upto_region 5 with fail
          have HMs := Lib.hid (V2.out.msg TYY.out)
          go_wp2_with (with_reducible refine stopL 36 _ rfl ?_)
          refine Lib.hid ?_
          refine wpList_load_whole uM rfl sM rfl _ rfl rfl HMs.out (msgC_size _) ?_
          clear HMs
          go_wp2_with fail
          refine (kf2.out _).mono ?_
          rintro e w3 ⟨rfl, hb⟩
          have V3 := Lib.hid (V2.out.below hb V2.out.lt)
          have C3 := Lib.hid (C2.out.below hb C2.out.lt)
          have B3 := Lib.hid (B2.out.trans (hb.mono B2.out.size))
          clear hb V2 C2 B2
          cases f2
          · have hF := HF.out
            rw [show (false || boolI ZP 34) = boolI ZP 34 from rfl, set_self E34.out] at hF
            rw [show (false || boolI ZP 35) = boolI ZP 35 from rfl, set_self (k := 35) E35.out] at hF
            rw [← hF] at V3
            clear hF
            go_wp2_with (with_reducible refine stopL 39 _ rfl ?_)
            refine Lib.hid ?_
            refine wpList_load_whole uP rfl sP rfl _ rfl rfl (range_whole V3.out) TF.out.1 ?_
            refine wpList_store_only sP rfl _ _ rfl rfl rfl C3.out TF.out.one TF.out.1 (by rw [zs.out]; omega) ?_
            intro w99 hv ho
            rw [putL_all _ _ (by rw [zs.out, TF.out.1])] at hv
            have V99 := Lib.hid hv
            have B99 := Lib.hid (B3.out.trans (ho.below (by omega) B3.out.size))
            clear hv ho
            go_wp2_with (with_reducible refine stopE ?_)
            refine Lib.hid ?_
            exact bodyPost_ret (v := .agg ZF) (results_cell_row (p := 4) (ty := 39) rfl _ _ (w.heap.size + 1) 39 _ (0, 0) _ rfl V99.out uP rfl (by rw [sP]; simp [TF.out.1])) rfl ⟨by rw [HZF.out], B99.out⟩
          · have s35 : w3.cell? ⟨w.heap.size, 35, none⟩ = some (.bool (boolI ZP 35)) := by rw [V3.out.cell]; exact E35.out
            have fz := V3.out.frozen
            have V4 := Lib.hid (show VarAt _ w.heap.size (ZP.setIfInBounds 35 (.bool true)) 39 from V3.out.set 35 (.bool true))
            have C4 := Lib.hid (C3.out.set_other (p := ⟨w.heap.size, 35, none⟩) (by simp) (.bool true))
            have B4 := Lib.hid (B3.out.setCell (p := ⟨w.heap.size, 35, none⟩) (by simp) (.bool true))
            have hF := HF.out
            rw [show (false || boolI ZP 34) = boolI ZP 34 from rfl, set_self E34.out] at hF
            rw [show (true || boolI ZP 35) = true from rfl] at hF
            rw [← hF] at V4
            clear hF
            go_wp2_with (with_reducible refine stopL 39 _ rfl ?_)
            refine Lib.hid ?_
            refine wpList_load_whole uP rfl sP rfl _ rfl rfl (range_whole V4.out) TF.out.1 ?_
            refine wpList_store_only sP rfl _ _ rfl rfl rfl C4.out TF.out.one TF.out.1 (by rw [zs.out]; omega) ?_
            intro w99 hv ho
            rw [putL_all _ _ (by rw [zs.out, TF.out.1])] at hv
            have V99 := Lib.hid hv
            have B99 := Lib.hid (B4.out.trans (ho.below (by omega) B4.out.size))
            clear hv ho
            go_wp2_with (with_reducible refine stopE ?_)
            refine Lib.hid ?_
            exact bodyPost_ret (v := .agg ZF) (results_cell_row (p := 4) (ty := 39) rfl _ _ (w.heap.size + 1) 39 _ (0, 0) _ rfl V99.out uP rfl (by rw [sP]; simp [TF.out.1])) rfl ⟨by rw [HZF.out], B99.out⟩
        · have s34 : w2.cell? ⟨w.heap.size, 34, none⟩ = some (.bool (boolI ZP 34)) := by rw [V2.out.cell]; exact TP.out.bool 34 rfl
          have fz := V2.out.frozen
          have V3 := Lib.hid (show VarAt _ w.heap.size (upd ZP [(34, .bool true)]) 39 from (V2.out.set 34 (.bool true)))
          have C3 := Lib.hid (C2.out.set_other (p := ⟨w.heap.size, 34, none⟩) (by simp) (.bool true))
          have B3 := Lib.hid (B2.out.setCell (p := ⟨w.heap.size, 34, none⟩) (by simp) (.bool true))
          have T3 := Lib.hid (show Typed (upd ZP [(34, .bool true)]) from upd_typed _ TP.out (by
            simp only [List.mem_cons, List.not_mem_nil, or_false]
            rintro p rfl
            exact isB rfl _))
          have R3 := Lib.hid (show Rg (upd ZP [(34, .bool true)]) from RP.out.upd TP.out.1 rfl)
          go_upto_region 5 with fail
          clear fz s34 V2 C2 B2 TP RP
          generalize (w2.setCell ⟨w.heap.size, 34, none⟩ (.bool true)) = w3 at *
          rw [show upd ZP [(34, .bool true)] = ZP.setIfInBounds 34 (.bool true) from rfl] at V3
          have HMs := Lib.hid (show w3.rangeAt w.heap.size 72 (msgC ZP).toList from (by rw [← msgC_upd (l := [(34, .bool true)]) (TYY.out).1 rfl]; exact VarAt.msg (show VarAt _ _ (upd ZP [(34, .bool true)]) 39 from V3.out) T3.out))
          go_wp2_with (with_reducible refine stopL 36 _ rfl ?_)
          refine Lib.hid ?_
          refine wpList_load_whole uM rfl sM rfl _ rfl rfl HMs.out (msgC_size _) ?_
          clear HMs
          go_wp2_with fail
          refine (kf2.out _).mono ?_
          rintro e w4 ⟨rfl, hb⟩
          have V4 := Lib.hid (V3.out.below hb V3.out.lt)
          have C4 := Lib.hid (C3.out.below hb C3.out.lt)
          have B4 := Lib.hid (B3.out.trans (hb.mono B3.out.size))
          clear hb V3 C3 B3
          cases f2
          · have hF := HF.out
            rw [show (true || boolI ZP 34) = true from rfl] at hF
            rw [show (false || boolI ZP 35) = boolI ZP 35 from rfl, set_self (k := 35) (by rw [Array.getElem?_setIfInBounds, if_neg (by omega)]; exact E35.out)] at hF
            rw [← hF] at V4
            clear hF
            go_wp2_with (with_reducible refine stopL 39 _ rfl ?_)
            refine Lib.hid ?_
            refine wpList_load_whole uP rfl sP rfl _ rfl rfl (range_whole V4.out) TF.out.1 ?_
            refine wpList_store_only sP rfl _ _ rfl rfl rfl C4.out TF.out.one TF.out.1 (by rw [zs.out]; omega) ?_
            intro w99 hv ho
            rw [putL_all _ _ (by rw [zs.out, TF.out.1])] at hv
            have V99 := Lib.hid hv
            have B99 := Lib.hid (B4.out.trans (ho.below (by omega) B4.out.size))
            clear hv ho
            go_wp2_with (with_reducible refine stopE ?_)
            refine Lib.hid ?_
            exact bodyPost_ret (v := .agg ZF) (results_cell_row (p := 4) (ty := 39) rfl _ _ (w.heap.size + 1) 39 _ (0, 0) _ rfl V99.out uP rfl (by rw [sP]; simp [TF.out.1])) rfl ⟨by rw [HZF.out], B99.out⟩
          · have s35 : w4.cell? ⟨w.heap.size, 35, none⟩ = some (.bool (boolI ZP 35)) := by rw [V4.out.cell]; rw [Array.getElem?_setIfInBounds, if_neg (by omega)]; exact E35.out
            have fz := V4.out.frozen
            have V5 := Lib.hid (show VarAt _ w.heap.size ((ZP.setIfInBounds 34 (.bool true)).setIfInBounds 35 (.bool true)) 39 from V4.out.set 35 (.bool true))
            have C5 := Lib.hid (C4.out.set_other (p := ⟨w.heap.size, 35, none⟩) (by simp) (.bool true))
            have B5 := Lib.hid (B4.out.setCell (p := ⟨w.heap.size, 35, none⟩) (by simp) (.bool true))
            have hF := HF.out
            rw [show (true || boolI ZP 34) = true from rfl] at hF
            rw [show (true || boolI ZP 35) = true from rfl] at hF
            rw [← hF] at V5
            clear hF
            go_wp2_with (with_reducible refine stopL 39 _ rfl ?_)
            refine Lib.hid ?_
            refine wpList_load_whole uP rfl sP rfl _ rfl rfl (range_whole V5.out) TF.out.1 ?_
            refine wpList_store_only sP rfl _ _ rfl rfl rfl C5.out TF.out.one TF.out.1 (by rw [zs.out]; omega) ?_
            intro w99 hv ho
            rw [putL_all _ _ (by rw [zs.out, TF.out.1])] at hv
            have V99 := Lib.hid hv
            have B99 := Lib.hid (B5.out.trans (ho.below (by omega) B5.out.size))
            clear hv ho
            go_wp2_with (with_reducible refine stopE ?_)
            refine Lib.hid ?_
            exact bodyPost_ret (v := .agg ZF) (results_cell_row (p := 4) (ty := 39) rfl _ _ (w.heap.size + 1) 39 _ (0, 0) _ rfl V99.out uP rfl (by rw [sP]; simp [TF.out.1])) rfl ⟨by rw [HZF.out], B99.out⟩
      · have hP := HP.out
        rw [hQ] at hP
        clear hQ HQ HP c72
        have s26 : w1.cell? ⟨w.heap.size, 26, none⟩ = some (.bool (boolI xs 26)) := by rw [V1.out.cell]; exact T0.out.bool 26 rfl
        have fz := V1.out.frozen
        have V2 := Lib.hid (show VarAt _ w.heap.size (upd xs [(26, .bool true)]) 39 from (V1.out.set 26 (.bool true)))
        have C2 := Lib.hid (C1.out.set_other (p := ⟨w.heap.size, 26, none⟩) (by simp) (.bool true))
        have B2 := Lib.hid (B1.out.setCell (p := ⟨w.heap.size, 26, none⟩) (by simp) (.bool true))
        have T2 := Lib.hid (show Typed (upd xs [(26, .bool true)]) from upd_typed _ T0.out (by
          simp only [List.mem_cons, List.not_mem_nil, or_false]
          rintro p rfl
          exact isB rfl _))
        have R2 := Lib.hid (show Rg (upd xs [(26, .bool true)]) from R0.out.upd T0.out.1 rfl)
        rw [show upd xs [(26, .bool true)] = upd xs [(26, .bool (true || boolI xs 26))] from rfl, ← hP] at V2
        clear hP
        go_upto_region 3 with fail
        clear fz s26 V1 C1 B1 T0 R0
        generalize (w1.setCell ⟨w.heap.size, 26, none⟩ (.bool true)) = w2 at *
        have kf1 := Lib.hid (fun w => bit_1 ZP RP.out w)
        have kf2 := Lib.hid (fun w => bit_128 ZP RP.out w)
        have HF := Lib.hid (show flagX ZP = (ZP.setIfInBounds 34 (.bool (bitF ZP 1 || boolI ZP 34))).setIfInBounds 35 (.bool (bitF ZP 128 || boolI ZP 35)) from rfl)
        have TF := Lib.hid (flagX_typed TP.out)
        have E34 := Lib.hid (TP.out.bool 34 rfl)
        have E35 := Lib.hid (TP.out.bool 35 rfl)
        have RF := Lib.hid (flagX_rg RP.out TP.out)
        have TYY := Lib.hid TP.out
        generalize hZF : flagX ZP = ZF at *
        have HZF := Lib.hid hZF
        clear hZF
        generalize bitF ZP 1 = f1 at *
        generalize bitF ZP 128 = f2 at *
        go_wp2_with (with_reducible refine stopL 36 _ rfl ?_)
        refine Lib.hid ?_
        refine wpList_load_whole uM rfl sM rfl _ rfl rfl (V2.out.msg TP.out) (msgC_size _) ?_
        go_wp2_with fail
        refine (kf1.out _).mono ?_
        rintro e w3 ⟨rfl, hb⟩
        have V3 := Lib.hid (V2.out.below hb V2.out.lt)
        have C3 := Lib.hid (C2.out.below hb C2.out.lt)
        have B3 := Lib.hid (B2.out.trans (hb.mono B2.out.size))
        clear hb V2 C2 B2
        cases f1
        · go_upto_region 5 with fail
          have HMs := Lib.hid (V3.out.msg TYY.out)
          go_wp2_with (with_reducible refine stopL 36 _ rfl ?_)
          refine Lib.hid ?_
          refine wpList_load_whole uM rfl sM rfl _ rfl rfl HMs.out (msgC_size _) ?_
          clear HMs
          go_wp2_with fail
          refine (kf2.out _).mono ?_
          rintro e w4 ⟨rfl, hb⟩
          have V4 := Lib.hid (V3.out.below hb V3.out.lt)
          have C4 := Lib.hid (C3.out.below hb C3.out.lt)
          have B4 := Lib.hid (B3.out.trans (hb.mono B3.out.size))
          clear hb V3 C3 B3
          cases f2
          · have hF := HF.out
            rw [show (false || boolI ZP 34) = boolI ZP 34 from rfl, set_self E34.out] at hF
            rw [show (false || boolI ZP 35) = boolI ZP 35 from rfl, set_self (k := 35) E35.out] at hF
            rw [← hF] at V4
            clear hF
            go_wp2_with (with_reducible refine stopL 39 _ rfl ?_)
            refine Lib.hid ?_
            refine wpList_load_whole uP rfl sP rfl _ rfl rfl (range_whole V4.out) TF.out.1 ?_
            refine wpList_store_only sP rfl _ _ rfl rfl rfl C4.out TF.out.one TF.out.1 (by rw [zs.out]; omega) ?_
            intro w99 hv ho
            rw [putL_all _ _ (by rw [zs.out, TF.out.1])] at hv
            have V99 := Lib.hid hv
            have B99 := Lib.hid (B4.out.trans (ho.below (by omega) B4.out.size))
            clear hv ho
            go_wp2_with (with_reducible refine stopE ?_)
            refine Lib.hid ?_
            exact bodyPost_ret (v := .agg ZF) (results_cell_row (p := 4) (ty := 39) rfl _ _ (w.heap.size + 1) 39 _ (0, 0) _ rfl V99.out uP rfl (by rw [sP]; simp [TF.out.1])) rfl ⟨by rw [HZF.out], B99.out⟩
          · have s35 : w4.cell? ⟨w.heap.size, 35, none⟩ = some (.bool (boolI ZP 35)) := by rw [V4.out.cell]; exact E35.out
            have fz := V4.out.frozen
            have V5 := Lib.hid (show VarAt _ w.heap.size (ZP.setIfInBounds 35 (.bool true)) 39 from V4.out.set 35 (.bool true))
            have C5 := Lib.hid (C4.out.set_other (p := ⟨w.heap.size, 35, none⟩) (by simp) (.bool true))
            have B5 := Lib.hid (B4.out.setCell (p := ⟨w.heap.size, 35, none⟩) (by simp) (.bool true))
            have hF := HF.out
            rw [show (false || boolI ZP 34) = boolI ZP 34 from rfl, set_self E34.out] at hF
            rw [show (true || boolI ZP 35) = true from rfl] at hF
            rw [← hF] at V5
            clear hF
            go_wp2_with (with_reducible refine stopL 39 _ rfl ?_)
            refine Lib.hid ?_
            refine wpList_load_whole uP rfl sP rfl _ rfl rfl (range_whole V5.out) TF.out.1 ?_
            refine wpList_store_only sP rfl _ _ rfl rfl rfl C5.out TF.out.one TF.out.1 (by rw [zs.out]; omega) ?_
            intro w99 hv ho
            rw [putL_all _ _ (by rw [zs.out, TF.out.1])] at hv
            have V99 := Lib.hid hv
            have B99 := Lib.hid (B5.out.trans (ho.below (by omega) B5.out.size))
            clear hv ho
            go_wp2_with (with_reducible refine stopE ?_)
            refine Lib.hid ?_
            exact bodyPost_ret (v := .agg ZF) (results_cell_row (p := 4) (ty := 39) rfl _ _ (w.heap.size + 1) 39 _ (0, 0) _ rfl V99.out uP rfl (by rw [sP]; simp [TF.out.1])) rfl ⟨by rw [HZF.out], B99.out⟩
        · have s34 : w3.cell? ⟨w.heap.size, 34, none⟩ = some (.bool (boolI ZP 34)) := by rw [V3.out.cell]; exact TP.out.bool 34 rfl
          have fz := V3.out.frozen
          have V4 := Lib.hid (show VarAt _ w.heap.size (upd ZP [(34, .bool true)]) 39 from (V3.out.set 34 (.bool true)))
          have C4 := Lib.hid (C3.out.set_other (p := ⟨w.heap.size, 34, none⟩) (by simp) (.bool true))
          have B4 := Lib.hid (B3.out.setCell (p := ⟨w.heap.size, 34, none⟩) (by simp) (.bool true))
          have T4 := Lib.hid (show Typed (upd ZP [(34, .bool true)]) from upd_typed _ TP.out (by
            simp only [List.mem_cons, List.not_mem_nil, or_false]
            rintro p rfl
            exact isB rfl _))
          have R4 := Lib.hid (show Rg (upd ZP [(34, .bool true)]) from RP.out.upd TP.out.1 rfl)
          go_upto_region 5 with fail
          clear fz s34 V3 C3 B3 TP RP
          generalize (w3.setCell ⟨w.heap.size, 34, none⟩ (.bool true)) = w4 at *
          rw [show upd ZP [(34, .bool true)] = ZP.setIfInBounds 34 (.bool true) from rfl] at V4
          have HMs := Lib.hid (show w4.rangeAt w.heap.size 72 (msgC ZP).toList from (by rw [← msgC_upd (l := [(34, .bool true)]) (TYY.out).1 rfl]; exact VarAt.msg (show VarAt _ _ (upd ZP [(34, .bool true)]) 39 from V4.out) T4.out))
          go_wp2_with (with_reducible refine stopL 36 _ rfl ?_)
          refine Lib.hid ?_
          refine wpList_load_whole uM rfl sM rfl _ rfl rfl HMs.out (msgC_size _) ?_
          clear HMs
          go_wp2_with fail
          refine (kf2.out _).mono ?_
          rintro e w5 ⟨rfl, hb⟩
          have V5 := Lib.hid (V4.out.below hb V4.out.lt)
          have C5 := Lib.hid (C4.out.below hb C4.out.lt)
          have B5 := Lib.hid (B4.out.trans (hb.mono B4.out.size))
          clear hb V4 C4 B4
          cases f2
          · have hF := HF.out
            rw [show (true || boolI ZP 34) = true from rfl] at hF
            rw [show (false || boolI ZP 35) = boolI ZP 35 from rfl, set_self (k := 35) (by rw [Array.getElem?_setIfInBounds, if_neg (by omega)]; exact E35.out)] at hF
            rw [← hF] at V5
            clear hF
            go_wp2_with (with_reducible refine stopL 39 _ rfl ?_)
            refine Lib.hid ?_
            refine wpList_load_whole uP rfl sP rfl _ rfl rfl (range_whole V5.out) TF.out.1 ?_
            refine wpList_store_only sP rfl _ _ rfl rfl rfl C5.out TF.out.one TF.out.1 (by rw [zs.out]; omega) ?_
            intro w99 hv ho
            rw [putL_all _ _ (by rw [zs.out, TF.out.1])] at hv
            have V99 := Lib.hid hv
            have B99 := Lib.hid (B5.out.trans (ho.below (by omega) B5.out.size))
            clear hv ho
            go_wp2_with (with_reducible refine stopE ?_)
            refine Lib.hid ?_
            exact bodyPost_ret (v := .agg ZF) (results_cell_row (p := 4) (ty := 39) rfl _ _ (w.heap.size + 1) 39 _ (0, 0) _ rfl V99.out uP rfl (by rw [sP]; simp [TF.out.1])) rfl ⟨by rw [HZF.out], B99.out⟩
          · have s35 : w5.cell? ⟨w.heap.size, 35, none⟩ = some (.bool (boolI ZP 35)) := by rw [V5.out.cell]; rw [Array.getElem?_setIfInBounds, if_neg (by omega)]; exact E35.out
            have fz := V5.out.frozen
            have V6 := Lib.hid (show VarAt _ w.heap.size ((ZP.setIfInBounds 34 (.bool true)).setIfInBounds 35 (.bool true)) 39 from V5.out.set 35 (.bool true))
            have C6 := Lib.hid (C5.out.set_other (p := ⟨w.heap.size, 35, none⟩) (by simp) (.bool true))
            have B6 := Lib.hid (B5.out.setCell (p := ⟨w.heap.size, 35, none⟩) (by simp) (.bool true))
            have hF := HF.out
            rw [show (true || boolI ZP 34) = true from rfl] at hF
            rw [show (true || boolI ZP 35) = true from rfl] at hF
            rw [← hF] at V6
            clear hF
            go_wp2_with (with_reducible refine stopL 39 _ rfl ?_)
            refine Lib.hid ?_
            refine wpList_load_whole uP rfl sP rfl _ rfl rfl (range_whole V6.out) TF.out.1 ?_
            refine wpList_store_only sP rfl _ _ rfl rfl rfl C6.out TF.out.one TF.out.1 (by rw [zs.out]; omega) ?_
            intro w99 hv ho
            rw [putL_all _ _ (by rw [zs.out, TF.out.1])] at hv
            have V99 := Lib.hid hv
            have B99 := Lib.hid (B6.out.trans (ho.below (by omega) B6.out.size))
            clear hv ho
            go_wp2_with (with_reducible refine stopE ?_)
            refine Lib.hid ?_
            exact bodyPost_ret (v := .agg ZF) (results_cell_row (p := 4) (ty := 39) rfl _ _ (w.heap.size + 1) 39 _ (0, 0) _ rfl V99.out uP rfl (by rw [sP]; simp [TF.out.1])) rfl ⟨by rw [HZF.out], B99.out⟩
    · have e3 : (k == 3) = false := by simpa using q3
      have hQ := HQ.out
      rw [e3] at hQ
      rw [Bool.false_and] at hQ
      have hP := HP.out
      rw [hQ] at hP
      rw [show upd xs [(26, .bool (false || boolI xs 26))] = xs from set_self E26.out] at hP
      go_enter Tryd.func62, Tryd.ntmps62
      go_upto_region 1 with fail
      clear zz
      generalize (w.alloc (.cells xs 39)).alloc (.cells Z 39) = w0 at *
      have c72 : w0.cell? ⟨w.heap.size, 72, none⟩ = some (.int .i64 k) := by rw [V0.out.cell]; exact H72.out
      rw [← hP] at V0
      clear hP hQ HQ HP q3 kb2
      go_upto_region 3 with fail
      clear c72 e3
      have kf1 := Lib.hid (fun w => bit_1 ZP RP.out w)
      have kf2 := Lib.hid (fun w => bit_128 ZP RP.out w)
      have HF := Lib.hid (show flagX ZP = (ZP.setIfInBounds 34 (.bool (bitF ZP 1 || boolI ZP 34))).setIfInBounds 35 (.bool (bitF ZP 128 || boolI ZP 35)) from rfl)
      have TF := Lib.hid (flagX_typed TP.out)
      have E34 := Lib.hid (TP.out.bool 34 rfl)
      have E35 := Lib.hid (TP.out.bool 35 rfl)
      have RF := Lib.hid (flagX_rg RP.out TP.out)
      have TYY := Lib.hid TP.out
      generalize hZF : flagX ZP = ZF at *
      have HZF := Lib.hid hZF
      clear hZF
      generalize bitF ZP 1 = f1 at *
      generalize bitF ZP 128 = f2 at *
      go_wp2_with (with_reducible refine stopL 36 _ rfl ?_)
      refine Lib.hid ?_
      refine wpList_load_whole uM rfl sM rfl _ rfl rfl (V0.out.msg TP.out) (msgC_size _) ?_
      go_wp2_with fail
      refine (kf1.out _).mono ?_
      rintro e w1 ⟨rfl, hb⟩
      have V1 := Lib.hid (V0.out.below hb V0.out.lt)
      have C1 := Lib.hid (C0.out.below hb C0.out.lt)
      have B1 := Lib.hid (B0.out.trans (hb.mono B0.out.size))
      clear hb V0 C0 B0
      cases f1
      · go_upto_region 5 with fail
        have HMs := Lib.hid (V1.out.msg TYY.out)
        go_wp2_with (with_reducible refine stopL 36 _ rfl ?_)
        refine Lib.hid ?_
        refine wpList_load_whole uM rfl sM rfl _ rfl rfl HMs.out (msgC_size _) ?_
        clear HMs
        go_wp2_with fail
        refine (kf2.out _).mono ?_
        rintro e w2 ⟨rfl, hb⟩
        have V2 := Lib.hid (V1.out.below hb V1.out.lt)
        have C2 := Lib.hid (C1.out.below hb C1.out.lt)
        have B2 := Lib.hid (B1.out.trans (hb.mono B1.out.size))
        clear hb V1 C1 B1
        cases f2
        · have hF := HF.out
          rw [show (false || boolI ZP 34) = boolI ZP 34 from rfl, set_self E34.out] at hF
          rw [show (false || boolI ZP 35) = boolI ZP 35 from rfl, set_self (k := 35) E35.out] at hF
          rw [← hF] at V2
          clear hF
          go_wp2_with (with_reducible refine stopL 39 _ rfl ?_)
          refine Lib.hid ?_
          refine wpList_load_whole uP rfl sP rfl _ rfl rfl (range_whole V2.out) TF.out.1 ?_
          refine wpList_store_only sP rfl _ _ rfl rfl rfl C2.out TF.out.one TF.out.1 (by rw [zs.out]; omega) ?_
          intro w99 hv ho
          rw [putL_all _ _ (by rw [zs.out, TF.out.1])] at hv
          have V99 := Lib.hid hv
          have B99 := Lib.hid (B2.out.trans (ho.below (by omega) B2.out.size))
          clear hv ho
          go_wp2_with (with_reducible refine stopE ?_)
          refine Lib.hid ?_
          exact bodyPost_ret (v := .agg ZF) (results_cell_row (p := 4) (ty := 39) rfl _ _ (w.heap.size + 1) 39 _ (0, 0) _ rfl V99.out uP rfl (by rw [sP]; simp [TF.out.1])) rfl ⟨by rw [HZF.out], B99.out⟩
        · have s35 : w2.cell? ⟨w.heap.size, 35, none⟩ = some (.bool (boolI ZP 35)) := by rw [V2.out.cell]; exact E35.out
          have fz := V2.out.frozen
          have V3 := Lib.hid (show VarAt _ w.heap.size (ZP.setIfInBounds 35 (.bool true)) 39 from V2.out.set 35 (.bool true))
          have C3 := Lib.hid (C2.out.set_other (p := ⟨w.heap.size, 35, none⟩) (by simp) (.bool true))
          have B3 := Lib.hid (B2.out.setCell (p := ⟨w.heap.size, 35, none⟩) (by simp) (.bool true))
          have hF := HF.out
          rw [show (false || boolI ZP 34) = boolI ZP 34 from rfl, set_self E34.out] at hF
          rw [show (true || boolI ZP 35) = true from rfl] at hF
          rw [← hF] at V3
          clear hF
          go_wp2_with (with_reducible refine stopL 39 _ rfl ?_)
          refine Lib.hid ?_
          refine wpList_load_whole uP rfl sP rfl _ rfl rfl (range_whole V3.out) TF.out.1 ?_
          refine wpList_store_only sP rfl _ _ rfl rfl rfl C3.out TF.out.one TF.out.1 (by rw [zs.out]; omega) ?_
          intro w99 hv ho
          rw [putL_all _ _ (by rw [zs.out, TF.out.1])] at hv
          have V99 := Lib.hid hv
          have B99 := Lib.hid (B3.out.trans (ho.below (by omega) B3.out.size))
          clear hv ho
          go_wp2_with (with_reducible refine stopE ?_)
          refine Lib.hid ?_
          exact bodyPost_ret (v := .agg ZF) (results_cell_row (p := 4) (ty := 39) rfl _ _ (w.heap.size + 1) 39 _ (0, 0) _ rfl V99.out uP rfl (by rw [sP]; simp [TF.out.1])) rfl ⟨by rw [HZF.out], B99.out⟩
      · have s34 : w1.cell? ⟨w.heap.size, 34, none⟩ = some (.bool (boolI ZP 34)) := by rw [V1.out.cell]; exact TP.out.bool 34 rfl
        have fz := V1.out.frozen
        have V2 := Lib.hid (show VarAt _ w.heap.size (upd ZP [(34, .bool true)]) 39 from (V1.out.set 34 (.bool true)))
        have C2 := Lib.hid (C1.out.set_other (p := ⟨w.heap.size, 34, none⟩) (by simp) (.bool true))
        have B2 := Lib.hid (B1.out.setCell (p := ⟨w.heap.size, 34, none⟩) (by simp) (.bool true))
        have T2 := Lib.hid (show Typed (upd ZP [(34, .bool true)]) from upd_typed _ TP.out (by
          simp only [List.mem_cons, List.not_mem_nil, or_false]
          rintro p rfl
          exact isB rfl _))
        have R2 := Lib.hid (show Rg (upd ZP [(34, .bool true)]) from RP.out.upd TP.out.1 rfl)
        go_upto_region 5 with fail
        clear fz s34 V1 C1 B1 TP RP
        generalize (w1.setCell ⟨w.heap.size, 34, none⟩ (.bool true)) = w2 at *
        rw [show upd ZP [(34, .bool true)] = ZP.setIfInBounds 34 (.bool true) from rfl] at V2
        have HMs := Lib.hid (show w2.rangeAt w.heap.size 72 (msgC ZP).toList from (by rw [← msgC_upd (l := [(34, .bool true)]) (TYY.out).1 rfl]; exact VarAt.msg (show VarAt _ _ (upd ZP [(34, .bool true)]) 39 from V2.out) T2.out))
        go_wp2_with (with_reducible refine stopL 36 _ rfl ?_)
        refine Lib.hid ?_
        refine wpList_load_whole uM rfl sM rfl _ rfl rfl HMs.out (msgC_size _) ?_
        clear HMs
        go_wp2_with fail
        refine (kf2.out _).mono ?_
        rintro e w3 ⟨rfl, hb⟩
        have V3 := Lib.hid (V2.out.below hb V2.out.lt)
        have C3 := Lib.hid (C2.out.below hb C2.out.lt)
        have B3 := Lib.hid (B2.out.trans (hb.mono B2.out.size))
        clear hb V2 C2 B2
        cases f2
        · have hF := HF.out
          rw [show (true || boolI ZP 34) = true from rfl] at hF
          rw [show (false || boolI ZP 35) = boolI ZP 35 from rfl, set_self (k := 35) (by rw [Array.getElem?_setIfInBounds, if_neg (by omega)]; exact E35.out)] at hF
          rw [← hF] at V3
          clear hF
          go_wp2_with (with_reducible refine stopL 39 _ rfl ?_)
          refine Lib.hid ?_
          refine wpList_load_whole uP rfl sP rfl _ rfl rfl (range_whole V3.out) TF.out.1 ?_
          refine wpList_store_only sP rfl _ _ rfl rfl rfl C3.out TF.out.one TF.out.1 (by rw [zs.out]; omega) ?_
          intro w99 hv ho
          rw [putL_all _ _ (by rw [zs.out, TF.out.1])] at hv
          have V99 := Lib.hid hv
          have B99 := Lib.hid (B3.out.trans (ho.below (by omega) B3.out.size))
          clear hv ho
          go_wp2_with (with_reducible refine stopE ?_)
          refine Lib.hid ?_
          exact bodyPost_ret (v := .agg ZF) (results_cell_row (p := 4) (ty := 39) rfl _ _ (w.heap.size + 1) 39 _ (0, 0) _ rfl V99.out uP rfl (by rw [sP]; simp [TF.out.1])) rfl ⟨by rw [HZF.out], B99.out⟩
        · have s35 : w3.cell? ⟨w.heap.size, 35, none⟩ = some (.bool (boolI ZP 35)) := by rw [V3.out.cell]; rw [Array.getElem?_setIfInBounds, if_neg (by omega)]; exact E35.out
          have fz := V3.out.frozen
          have V4 := Lib.hid (show VarAt _ w.heap.size ((ZP.setIfInBounds 34 (.bool true)).setIfInBounds 35 (.bool true)) 39 from V3.out.set 35 (.bool true))
          have C4 := Lib.hid (C3.out.set_other (p := ⟨w.heap.size, 35, none⟩) (by simp) (.bool true))
          have B4 := Lib.hid (B3.out.setCell (p := ⟨w.heap.size, 35, none⟩) (by simp) (.bool true))
          have hF := HF.out
          rw [show (true || boolI ZP 34) = true from rfl] at hF
          rw [show (true || boolI ZP 35) = true from rfl] at hF
          rw [← hF] at V4
          clear hF
          go_wp2_with (with_reducible refine stopL 39 _ rfl ?_)
          refine Lib.hid ?_
          refine wpList_load_whole uP rfl sP rfl _ rfl rfl (range_whole V4.out) TF.out.1 ?_
          refine wpList_store_only sP rfl _ _ rfl rfl rfl C4.out TF.out.one TF.out.1 (by rw [zs.out]; omega) ?_
          intro w99 hv ho
          rw [putL_all _ _ (by rw [zs.out, TF.out.1])] at hv
          have V99 := Lib.hid hv
          have B99 := Lib.hid (B4.out.trans (ho.below (by omega) B4.out.size))
          clear hv ho
          go_wp2_with (with_reducible refine stopE ?_)
          refine Lib.hid ?_
          exact bodyPost_ret (v := .agg ZF) (results_cell_row (p := 4) (ty := 39) rfl _ _ (w.heap.size + 1) 39 _ (0, 0) _ rfl V99.out uP rfl (by rw [sP]; simp [TF.out.1])) rfl ⟨by rw [HZF.out], B99.out⟩
end Go.Proofs.YtjfdochceejegaaDoor
