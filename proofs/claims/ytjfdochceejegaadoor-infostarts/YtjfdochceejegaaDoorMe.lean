/- Contract of the reference's hear, of any other message. -/
import Derived.Test.YtjfdochceejegaaDoorMc
namespace Go.Proofs.YtjfdochceejegaaDoor
open Go.RowKit Go.Sort

theorem secA_upd' {xs : Array Value} {l : List (Nat × Value)} (hx : xs.size = 90) (hl : (l.all fun p => offM p.1) = true) : secA (upd xs l) = secA xs := by
  unfold secA; rw [num_out hx (by omega) (offM_out hl rfl)]
theorem secM_upd' {xs : Array Value} {l : List (Nat × Value)} (hx : xs.size = 90) (hl : (l.all fun p => offM p.1) = true) : secM (upd xs l) = secM xs := by
  unfold secM; rw [num_out hx (by omega) (offM_out hl rfl)]
theorem secH_upd' {xs : Array Value} {l : List (Nat × Value)} (hx : xs.size = 90) (hl : (l.all fun p => offM p.1) = true) : secH (upd xs l) = secH xs := by
  unfold secH; rw [num_out hx (by omega) (offM_out hl rfl)]
theorem secD_upd' {xs : Array Value} {l : List (Nat × Value)} (hx : xs.size = 90) (hl : (l.all fun p => offM p.1) = true) : secD (upd xs l) = secD xs := by
  unfold secD; rw [num_out hx (by omega) (offM_out hl rfl)]
set_option maxHeartbeats 4000000 in
theorem refhear_not (B : Bd) (s : Value) (xs : Array Value) (w : World) (ht : Typed xs) (hr : Rg xs) (hk : (numI xs 72 == 2) = false) : Calls Tryd.prog 51 #[.agg (B.cells s), .agg xs] w fun e w' => e = .returned (.agg (hearX B.rs xs)) ∧ Below w.heap.size w w' := by
  have kN := Lib.hid (fun w => refnews_any xs w ht hr)
  have HX := Lib.hid (show hearX B.rs xs = upd (h4X B.rs (newsX xs) (h3X (h2X (h1X xs)))) [(31, .bool false)] from rfl)
  have HD1 := Lib.hid (show h1X xs = upd xs [(45, .int .i64 (newsX xs))] from rfl)
  have TZ1 := Lib.hid (h1X_typed ht)
  have RZ1 := Lib.hid (h1X_rg hr ht)
  have HD2 := Lib.hid (show h2X (h1X xs) = upd (upd (h1X xs) [(52, .int .u64 (numI (h1X xs) 74)), (53, .int .u32 (numI (h1X xs) 75)), (54, .int .u64 (numI (h1X xs) 76)), (55, .int .u16 (numI (h1X xs) 77))]) [(64, .int .i64 (secA (h1X xs))), (65, .int .i64 (secM (h1X xs))), (66, .int .i64 (secH (h1X xs))), (67, .int .i64 (secD (h1X xs)))] from (by rw [← upd_append]; rfl))
  have TZ2 := Lib.hid (h2X_typed TZ1.out)
  have RZ2 := Lib.hid (h2X_rg RZ1.out TZ1.out)
  have HD3 := Lib.hid (show h3X (h2X (h1X xs)) = if numI (h2X (h1X xs)) 72 == 2 then upd (h2X (h1X xs)) [(36, .bool true)] else h2X (h1X xs) from rfl)
  have TZ3 := Lib.hid (h3X_typed TZ2.out)
  have RZ3 := Lib.hid (h3X_rg RZ2.out TZ2.out)
  have N3 := Lib.hid (h3X_news ht)
  have HD4 := Lib.hid (show h4X B.rs (newsX xs) (h3X (h2X (h1X xs))) = if newsX xs == 1 then hsX (h3X (h2X (h1X xs))) else if newsX xs == 2 then lvX (flagX (propX (h3X (h2X (h1X xs))))) else if newsX xs == 3 then infX (h3X (h2X (h1X xs))) else if newsX xs == 4 then ndX B.rs (h3X (h2X (h1X xs))) else h3X (h2X (h1X xs)) from rfl)
  have HK := Lib.hid (show numI (h2X (h1X xs)) 72 = numI xs 72 by
    rw [show numI (h2X (h1X xs)) 72 = numI (h1X xs) 72 from num_out TZ1.out.1 (by omega) rfl]
    exact num_out ht.1 (by omega) rfl)
  rw [HK.out] at HD3
  have kS := Lib.hid (fun w => sec_msg (upd (h1X xs) [(52, .int .u64 (numI (h1X xs) 74)), (53, .int .u32 (numI (h1X xs) 75)), (54, .int .u64 (numI (h1X xs) 76)), (55, .int .u16 (numI (h1X xs) 77))]) (RZ1.out.upd TZ1.out.1 rfl) w)
  rw [secA_upd' TZ1.out.1 rfl, secM_upd' TZ1.out.1 rfl, secH_upd' TZ1.out.1 rfl, secD_upd' TZ1.out.1 rfl] at kS
  rw [hk] at HD3
  simp only [Bool.false_eq_true, if_false] at HD3
  have HK2 := Lib.hid hk
  clear hk
  have V0 := Lib.hid (show VarAt (((w.alloc (.cells (B.cells s) 47)).alloc (.cells xs 39)).alloc (.cells z48 39)) (w.heap.size + 1) xs 39 by
    have := (var_new (w.alloc (.cells (B.cells s) 47)) xs 39).alloc (.cells z48 39)
    rwa [alloc_size] at this)
  have C0 := Lib.hid (show VarAt (((w.alloc (.cells (B.cells s) 47)).alloc (.cells xs 39)).alloc (.cells z48 39)) (w.heap.size + 2) z48 39 by
    have := var_new ((w.alloc (.cells (B.cells s) 47)).alloc (.cells xs 39)) z48 39
    rwa [alloc_size, alloc_size] at this)
  have K0 := Lib.hid (show VarAt (((w.alloc (.cells (B.cells s) 47)).alloc (.cells xs 39)).alloc (.cells z48 39)) w.heap.size (B.cells s) 47 from ((var_new w (B.cells s) 47).alloc (.cells xs 39)).alloc (.cells z48 39))
  have B0 := Lib.hid (show Below w.heap.size w (((w.alloc (.cells (B.cells s) 47)).alloc (.cells xs 39)).alloc (.cells z48 39)) from (((Below.refl w.heap.size w).alloc (Nat.le_refl _) _).alloc (by rw [alloc_size]; omega) _).alloc (by rw [alloc_size, alloc_size]; omega) _)
  have H6 := Lib.hid (show (B.cells s)[6]? = some (.bool B.rs) by simp)
  have C18 := Lib.hid (show (B.cells s).size = 18 by simp)
  have zz := zero48
  have zs := Lib.hid z48_size
  have T0 := Lib.hid ht
  have R0 := Lib.hid hr
  clear ht hr
  generalize z48 = Z at *
  generalize B.cells s = C at *
  generalize B.rs = rs at *
  generalize hearX rs xs = U at *
  generalize h4X rs (newsX xs) (h3X (h2X (h1X xs))) = Z4 at *
  generalize h3X (h2X (h1X xs)) = Z3 at *
  generalize h2X (h1X xs) = Z2 at *
  generalize h1X xs = Z1 at *
  generalize newsX xs = n at *
  go_enter Tryd.func51, Tryd.ntmps51
  go_upto_region 1 with fail
  clear zz
  generalize ((w.alloc (.cells (C) 47)).alloc (.cells xs 39)).alloc (.cells Z 39) = w0 at *
  go_wp2_with (with_reducible refine stopL 39 _ rfl ?_)
  refine Lib.hid ?_
  refine wpList_load_whole uP rfl sP rfl _ rfl rfl (range_whole V0.out) T0.out.1 ?_
  go_wp2_with fail
  refine (kN.out _).mono ?_
  rintro e w1 ⟨rfl, hb⟩
  have V1 := Lib.hid (V0.out.below hb V0.out.lt)
  have C1 := Lib.hid (C0.out.below hb C0.out.lt)
  have B1 := Lib.hid (B0.out.trans (hb.mono B0.out.size))
  have K1 := Lib.hid (K0.out.below hb K0.out.lt)
  clear hb V0 C0 B0 K0
  have s45 : w1.cell? ⟨(w.heap.size + 1), 45, none⟩ = some (.int .i64 (numI xs 45)) := by rw [V1.out.cell]; exact T0.out.numk 45 .i64 rfl
  have fz := V1.out.frozen
  have V2 := Lib.hid (show VarAt _ (w.heap.size + 1) (upd xs [(45, .int .i64 n)]) 39 from (V1.out.set 45 (.int .i64 n)))
  have C2 := Lib.hid (C1.out.set_other (p := ⟨(w.heap.size + 1), 45, none⟩) (by simp) (.int .i64 n))
  have B2 := Lib.hid (B1.out.setCell (p := ⟨(w.heap.size + 1), 45, none⟩) (by simp) (.int .i64 n))
  have K2 := Lib.hid (K1.out.set_other (p := ⟨(w.heap.size + 1), 45, none⟩) (by simp) (.int .i64 n))
  have T2 := Lib.hid (show Typed (upd xs [(45, .int .i64 n)]) from upd_typed _ T0.out (by
    simp only [List.mem_cons, List.not_mem_nil, or_false]
    rintro p rfl
    exact isK rfl _))
  have R2 := Lib.hid (show Rg (upd xs [(45, .int .i64 n)]) from R0.out.upd T0.out.1 rfl)
  go_upto_region 2 with fail
  clear fz s45 V1 C1 B1 K1 T0 R0
  generalize (w1.setCell ⟨(w.heap.size + 1), 45, none⟩ (.int .i64 n)) = w2 at *
  rw [← HD1.out] at V2 T2 R2
  clear HD1 kN
  have c74 : w2.cell? ⟨(w.heap.size + 1), 74, none⟩ = some (.int .u64 (numI Z1 74)) := by rw [V2.out.cell]; exact T2.out.numk 74 .u64 rfl
  have c75 : w2.cell? ⟨(w.heap.size + 1), 75, none⟩ = some (.int .u32 (numI Z1 75)) := by rw [V2.out.cell]; exact T2.out.numk 75 .u32 rfl
  have c76 : w2.cell? ⟨(w.heap.size + 1), 76, none⟩ = some (.int .u64 (numI Z1 76)) := by rw [V2.out.cell]; exact T2.out.numk 76 .u64 rfl
  have c77 : w2.cell? ⟨(w.heap.size + 1), 77, none⟩ = some (.int .u16 (numI Z1 77)) := by rw [V2.out.cell]; exact T2.out.numk 77 .u16 rfl
  go_wp2_with (with_reducible refine stopS 31 _ _ rfl ?_)
  refine Lib.hid ?_
  refine wpList_store_only sV rfl _ _ rfl rfl rfl V2.out (by simp [Value.oneCell']) rfl (by rw [T2.out.1]; omega) ?_
  intro w3 hv ho
  simp only [Act.put]
  have V3 := Lib.hid (show VarAt w3 (w.heap.size + 1) (upd Z1 [(52, .int .u64 (numI Z1 74)), (53, .int .u32 (numI Z1 75)), (54, .int .u64 (numI Z1 76)), (55, .int .u16 (numI Z1 77))]) 39 from hv)
  have C3 := Lib.hid (ho.var C2.out (by omega))
  have B3 := Lib.hid (B2.out.trans (ho.below (by omega) B2.out.size))
  have T3 := Lib.hid (show Typed (upd Z1 [(52, .int .u64 (numI Z1 74)), (53, .int .u32 (numI Z1 75)), (54, .int .u64 (numI Z1 76)), (55, .int .u16 (numI Z1 77))]) from upd_typed _ T2.out (by
    simp only [List.mem_cons, List.not_mem_nil, or_false]
    rintro p (rfl | rfl | rfl | rfl)
    · exact isK rfl _
    · exact isK rfl _
    · exact isK rfl _
    · exact isK rfl _))
  have R3 := Lib.hid (show Rg (upd Z1 [(52, .int .u64 (numI Z1 74)), (53, .int .u32 (numI Z1 75)), (54, .int .u64 (numI Z1 76)), (55, .int .u16 (numI Z1 77))]) from R2.out.upd T2.out.1 rfl)
  have K3 := Lib.hid (ho.var K2.out (by omega))
  clear hv ho V2 C2 B2 K2 T2 R2
  clear c74 c75 c76 c77
  go_wp2_with (with_reducible refine stopL 36 _ rfl ?_)
  refine Lib.hid ?_
  refine wpList_load_whole uM rfl sM rfl _ rfl rfl (V3.out.msg T3.out) (msgC_size _) ?_
  go_wp2_with fail
  refine (kS.out _).mono ?_
  rintro e w4 ⟨rfl, hb⟩
  have V4 := Lib.hid (V3.out.below hb V3.out.lt)
  have C4 := Lib.hid (C3.out.below hb C3.out.lt)
  have B4 := Lib.hid (B3.out.trans (hb.mono B3.out.size))
  have K4 := Lib.hid (K3.out.below hb K3.out.lt)
  clear hb V3 C3 B3 K3
  go_wp2_with (with_reducible refine stopS 33 _ _ rfl ?_)
  refine Lib.hid ?_
  refine wpList_store_only s25 rfl _ _ rfl rfl rfl V4.out (by simp [Value.oneCell']) rfl (by rw [T3.out.1]; omega) ?_
  intro w5 hv ho
  simp only [Act.put]
  have V5 := Lib.hid (show VarAt w5 (w.heap.size + 1) (upd (upd Z1 [(52, .int .u64 (numI Z1 74)), (53, .int .u32 (numI Z1 75)), (54, .int .u64 (numI Z1 76)), (55, .int .u16 (numI Z1 77))]) [(64, .int .i64 (secA Z1)), (65, .int .i64 (secM Z1)), (66, .int .i64 (secH Z1)), (67, .int .i64 (secD Z1))]) 39 from hv)
  have C5 := Lib.hid (ho.var C4.out (by omega))
  have B5 := Lib.hid (B4.out.trans (ho.below (by omega) B4.out.size))
  have T5 := Lib.hid (show Typed (upd (upd Z1 [(52, .int .u64 (numI Z1 74)), (53, .int .u32 (numI Z1 75)), (54, .int .u64 (numI Z1 76)), (55, .int .u16 (numI Z1 77))]) [(64, .int .i64 (secA Z1)), (65, .int .i64 (secM Z1)), (66, .int .i64 (secH Z1)), (67, .int .i64 (secD Z1))]) from upd_typed _ T3.out (by
    simp only [List.mem_cons, List.not_mem_nil, or_false]
    rintro p (rfl | rfl | rfl | rfl)
    · exact isK rfl _
    · exact isK rfl _
    · exact isK rfl _
    · exact isK rfl _))
  have R5 := Lib.hid (show Rg (upd (upd Z1 [(52, .int .u64 (numI Z1 74)), (53, .int .u32 (numI Z1 75)), (54, .int .u64 (numI Z1 76)), (55, .int .u16 (numI Z1 77))]) [(64, .int .i64 (secA Z1)), (65, .int .i64 (secM Z1)), (66, .int .i64 (secH Z1)), (67, .int .i64 (secD Z1))]) from R3.out.upd T3.out.1 rfl)
  have K5 := Lib.hid (ho.var K4.out (by omega))
  clear hv ho V4 C4 B4 K4 T3 R3
  rw [← HD2.out] at V5 T5 R5
  clear HD2 kS TZ1 RZ1 TZ2 RZ2
  have c72 : w5.cell? ⟨(w.heap.size + 1), 72, none⟩ = some (.int .i64 (numI Z2 72)) := by rw [V5.out.cell]; exact T5.out.numk 72 .i64 rfl
  rw [HK.out] at c72
  have hk2 := HK2.out
  go_upto_region 6 with fail
  clear c72 hk2
  rw [← HD3.out] at V5
  clear T5 R5
  clear HD3 HK HK2
  have c45 : w5.cell? ⟨(w.heap.size + 1), 45, none⟩ = some (.int .i64 (numI Z3 45)) := by rw [V5.out.cell]; exact TZ3.out.numk 45 .i64 rfl
  rw [N3.out] at c45
  clear N3
  have TX := Lib.hid TZ3.out
  have RX := Lib.hid RZ3.out
  by_cases q1 : n = 1
  · subst q1
    have hD := HD4.out
    simp at hD
    have hU := HX.out
    rw [hD] at hU
    clear hD HD4 HX
    have hU2 := Lib.hid (show U = upd (lvX (mvS (hsB (hsA Z3)))) [(44, .int .i64 3), (29, .bool true), (39, .bool false), (31, .bool false)] from (by rw [hU]; unfold hsX resX; rw [← upd_append, ← upd_append]; rfl))
    clear hU
    have HA := Lib.hid (show hsA Z3 = toldX true (upd Z3 [(16, .bool false), (27, .bool false)]) from rfl)
    have TA := Lib.hid (hsA_typed TX.out)
    have HB := Lib.hid (show hsB (hsA Z3) = upd (hsA Z3) [(15, .bool (boolI (hsA Z3) 15 && bosX3 (hsA Z3)))] from rfl)
    have TB := Lib.hid (hsB_typed TA.out)
    have kB := Lib.hid (fun w => refbos3_any (hsA Z3) w TA.out)
    generalize hsB (hsA Z3) = Bz at *
    generalize hsA Z3 = A at *
    have s16 : w5.cell? ⟨(w.heap.size + 1), 16, none⟩ = some (.bool (boolI Z3 16)) := by rw [V5.out.cell]; exact TZ3.out.bool 16 rfl
    have s27 : w5.cell? ⟨(w.heap.size + 1), 27, none⟩ = some (.bool (boolI Z3 27)) := by rw [V5.out.cell]; exact TZ3.out.bool 27 rfl
    have fz := V5.out.frozen
    have V6 := Lib.hid (show VarAt _ (w.heap.size + 1) (upd Z3 [(16, .bool false), (27, .bool false)]) 39 from ((V5.out.set 16 (.bool false)).set 27 (.bool false)))
    have C6 := Lib.hid ((C5.out.set_other (p := ⟨(w.heap.size + 1), 16, none⟩) (by simp) (.bool false)).set_other (p := ⟨(w.heap.size + 1), 27, none⟩) (by simp) (.bool false))
    have B6 := Lib.hid ((B5.out.setCell (p := ⟨(w.heap.size + 1), 16, none⟩) (by simp) (.bool false)).setCell (p := ⟨(w.heap.size + 1), 27, none⟩) (by simp) (.bool false))
    have K6 := Lib.hid ((K5.out.set_other (p := ⟨(w.heap.size + 1), 16, none⟩) (by simp) (.bool false)).set_other (p := ⟨(w.heap.size + 1), 27, none⟩) (by simp) (.bool false))
    have T6 := Lib.hid (show Typed (upd Z3 [(16, .bool false), (27, .bool false)]) from upd_typed _ TZ3.out (by
      simp only [List.mem_cons, List.not_mem_nil, or_false]
      rintro p (rfl | rfl)
      · exact isB rfl _
      · exact isB rfl _))
    have R6 := Lib.hid (show Rg (upd Z3 [(16, .bool false), (27, .bool false)]) from RZ3.out.upd TZ3.out.1 rfl)
    go_upto_region 10 with fail
    clear c45
    clear fz s16 s27 V5 C5 B5 K5 TZ3 RZ3
    generalize ((w5.setCell ⟨(w.heap.size + 1), 16, none⟩ (.bool false)).setCell ⟨(w.heap.size + 1), 27, none⟩ (.bool false)) = w6 at *
    go_wp2_with (with_reducible refine stopL 39 _ rfl ?_)
    refine Lib.hid ?_
    refine wpList_load_whole uP rfl sP rfl _ rfl rfl (range_whole V6.out) T6.out.1 ?_
    have kT := Lib.hid (fun w => reftold_any true _ w T6.out R6.out)
    rw [← HA.out] at kT
    go_wp2_with fail
    refine (kT.out _).mono ?_
    rintro e w7 ⟨rfl, hb⟩
    have V7 := Lib.hid (V6.out.below hb V6.out.lt)
    have C7 := Lib.hid (C6.out.below hb C6.out.lt)
    have B7 := Lib.hid (B6.out.trans (hb.mono B6.out.size))
    have K7 := Lib.hid (K6.out.below hb K6.out.lt)
    clear hb V6 C6 B6 K6
    go_wp2_with (with_reducible refine stopS 39 _ _ rfl ?_)
    refine Lib.hid ?_
    refine wpList_store_only sP rfl _ _ rfl rfl rfl V7.out (Typed.one (TA.out)) (TA.out).1 (by rw [T6.out.1]; omega) ?_
    intro w8 hv ho
    simp only [Act.put]
    rw [putL_all _ _ (by rw [T6.out.1, (TA.out).1])] at hv
    have V8 := Lib.hid hv
    have C8 := Lib.hid (ho.var C7.out (by omega))
    have B8 := Lib.hid (B7.out.trans (ho.below (by omega) B7.out.size))
    have T8 := Lib.hid (TA.out)
    have K8 := Lib.hid (ho.var K7.out (by omega))
    clear hv ho V7 C7 B7 K7
    have TA2 := Lib.hid TA.out
    go_wp2_with (with_reducible refine stopL 39 _ rfl ?_)
    refine Lib.hid ?_
    refine wpList_load_whole uP rfl sP rfl _ rfl rfl (range_whole V8.out) T8.out.1 ?_
    go_wp2_with fail
    refine (kB.out _).mono ?_
    rintro e w9 ⟨rfl, hb⟩
    have V9 := Lib.hid (V8.out.below hb V8.out.lt)
    have C9 := Lib.hid (C8.out.below hb C8.out.lt)
    have B9 := Lib.hid (B8.out.trans (hb.mono B8.out.size))
    have K9 := Lib.hid (K8.out.below hb K8.out.lt)
    clear hb V8 C8 B8 K8
    have c15 : w9.cell? ⟨(w.heap.size + 1), 15, none⟩ = some (.bool (boolI A 15)) := by rw [V9.out.cell]; exact T8.out.bool 15 rfl
    have E15 := Lib.hid (TA2.out.bool 15 rfl)
    generalize boolI A 15 = x15 at *
    generalize bosX3 A = g at *
    cases x15
    · clear c15
      have s15 : w9.cell? ⟨(w.heap.size + 1), 15, none⟩ = some (.bool false) := by rw [V9.out.cell]; exact E15.out
      have fz := V9.out.frozen
      have V10 := Lib.hid (show VarAt _ (w.heap.size + 1) Bz 39 from (by rw [HB.out]; exact V9.out.set 15 (.bool false)))
      have C10 := Lib.hid (C9.out.set_other (p := ⟨(w.heap.size + 1), 15, none⟩) (by simp) (.bool false))
      have B10 := Lib.hid (B9.out.setCell (p := ⟨(w.heap.size + 1), 15, none⟩) (by simp) (.bool false))
      have K10 := Lib.hid (K9.out.set_other (p := ⟨(w.heap.size + 1), 15, none⟩) (by simp) (.bool false))
      go_upto_region 13 with fail
      clear s15 fz V9 C9 B9 K9 HB E15 kB
      generalize w9.setCell ⟨(w.heap.size + 1), 15, none⟩ (.bool false) = w10 at *
      have TB2 := Lib.hid TB.out
      have c52 : w10.cell? ⟨(w.heap.size + 1), 52, none⟩ = some (.int .u64 (numI Bz 52)) := by rw [V10.out.cell]; exact TB2.out.numk 52 .u64 rfl
      have c53 : w10.cell? ⟨(w.heap.size + 1), 53, none⟩ = some (.int .u32 (numI Bz 53)) := by rw [V10.out.cell]; exact TB2.out.numk 53 .u32 rfl
      have c54 : w10.cell? ⟨(w.heap.size + 1), 54, none⟩ = some (.int .u64 (numI Bz 54)) := by rw [V10.out.cell]; exact TB2.out.numk 54 .u64 rfl
      have c55 : w10.cell? ⟨(w.heap.size + 1), 55, none⟩ = some (.int .u16 (numI Bz 55)) := by rw [V10.out.cell]; exact TB2.out.numk 55 .u16 rfl
      go_wp2_with (with_reducible refine stopS 31 _ _ rfl ?_)
      refine Lib.hid ?_
      refine wpList_store_only sV rfl _ _ rfl rfl rfl V10.out (by simp [Value.oneCell']) rfl (by rw [TB2.out.1]; omega) ?_
      intro w11 hv ho
      simp only [Act.put]
      have V11 := Lib.hid (show VarAt w11 (w.heap.size + 1) (upd Bz [(56, .int .u64 (numI Bz 52)), (57, .int .u32 (numI Bz 53)), (58, .int .u64 (numI Bz 54)), (59, .int .u16 (numI Bz 55))]) 39 from hv)
      have C11 := Lib.hid (ho.var C10.out (by omega))
      have B11 := Lib.hid (B10.out.trans (ho.below (by omega) B10.out.size))
      have T11 := Lib.hid (show Typed (upd Bz [(56, .int .u64 (numI Bz 52)), (57, .int .u32 (numI Bz 53)), (58, .int .u64 (numI Bz 54)), (59, .int .u16 (numI Bz 55))]) from upd_typed _ TB2.out (by
        simp only [List.mem_cons, List.not_mem_nil, or_false]
        rintro p (rfl | rfl | rfl | rfl)
        · exact isK rfl _
        · exact isK rfl _
        · exact isK rfl _
        · exact isK rfl _))
      have K11 := Lib.hid (ho.var K10.out (by omega))
      clear hv ho V10 C10 B10 K10 TB2
      clear c52 c53 c54 c55
      have c64 : w11.cell? ⟨(w.heap.size + 1), 64, none⟩ = some (.int .i64 (numI (upd Bz [(56, .int .u64 (numI Bz 52)), (57, .int .u32 (numI Bz 53)), (58, .int .u64 (numI Bz 54)), (59, .int .u16 (numI Bz 55))]) 64)) := by rw [V11.out.cell]; exact T11.out.numk 64 .i64 rfl
      rw [num_out TB.out.1 (by omega) rfl] at c64
      have c65 : w11.cell? ⟨(w.heap.size + 1), 65, none⟩ = some (.int .i64 (numI (upd Bz [(56, .int .u64 (numI Bz 52)), (57, .int .u32 (numI Bz 53)), (58, .int .u64 (numI Bz 54)), (59, .int .u16 (numI Bz 55))]) 65)) := by rw [V11.out.cell]; exact T11.out.numk 65 .i64 rfl
      rw [num_out TB.out.1 (by omega) rfl] at c65
      have c66 : w11.cell? ⟨(w.heap.size + 1), 66, none⟩ = some (.int .i64 (numI (upd Bz [(56, .int .u64 (numI Bz 52)), (57, .int .u32 (numI Bz 53)), (58, .int .u64 (numI Bz 54)), (59, .int .u16 (numI Bz 55))]) 66)) := by rw [V11.out.cell]; exact T11.out.numk 66 .i64 rfl
      rw [num_out TB.out.1 (by omega) rfl] at c66
      have c67 : w11.cell? ⟨(w.heap.size + 1), 67, none⟩ = some (.int .i64 (numI (upd Bz [(56, .int .u64 (numI Bz 52)), (57, .int .u32 (numI Bz 53)), (58, .int .u64 (numI Bz 54)), (59, .int .u16 (numI Bz 55))]) 67)) := by rw [V11.out.cell]; exact T11.out.numk 67 .i64 rfl
      rw [num_out TB.out.1 (by omega) rfl] at c67
      go_wp2_with (with_reducible refine stopS 33 _ _ rfl ?_)
      refine Lib.hid ?_
      refine wpList_store_only s25 rfl _ _ rfl rfl rfl V11.out (by simp [Value.oneCell']) rfl (by rw [T11.out.1]; omega) ?_
      intro w12 hv ho
      simp only [Act.put]
      have V12 := Lib.hid (show VarAt w12 (w.heap.size + 1) (upd (upd Bz [(56, .int .u64 (numI Bz 52)), (57, .int .u32 (numI Bz 53)), (58, .int .u64 (numI Bz 54)), (59, .int .u16 (numI Bz 55))]) [(68, .int .i64 (numI Bz 64)), (69, .int .i64 (numI Bz 65)), (70, .int .i64 (numI Bz 66)), (71, .int .i64 (numI Bz 67))]) 39 from hv)
      have C12 := Lib.hid (ho.var C11.out (by omega))
      have B12 := Lib.hid (B11.out.trans (ho.below (by omega) B11.out.size))
      have T12 := Lib.hid (show Typed (upd (upd Bz [(56, .int .u64 (numI Bz 52)), (57, .int .u32 (numI Bz 53)), (58, .int .u64 (numI Bz 54)), (59, .int .u16 (numI Bz 55))]) [(68, .int .i64 (numI Bz 64)), (69, .int .i64 (numI Bz 65)), (70, .int .i64 (numI Bz 66)), (71, .int .i64 (numI Bz 67))]) from upd_typed _ T11.out (by
        simp only [List.mem_cons, List.not_mem_nil, or_false]
        rintro p (rfl | rfl | rfl | rfl)
        · exact isK rfl _
        · exact isK rfl _
        · exact isK rfl _
        · exact isK rfl _))
      have K12 := Lib.hid (ho.var K11.out (by omega))
      clear hv ho V11 C11 B11 K11 T11
      have V60 := V12.out
      rw [← upd_append] at V60
      replace V60 := Lib.hid (show VarAt _ (w.heap.size + 1) (mvS Bz) 39 from V60)
      have TM := Lib.hid (mvS_typed TB.out)
      clear V12 T12 c64 c65 c66 c67
      go_wp2_with (with_reducible refine stopL 39 _ rfl ?_)
      refine Lib.hid ?_
      refine wpList_load_whole uP rfl sP rfl _ rfl rfl (range_whole V60.out) TM.out.1 ?_
      go_wp2_with fail
      refine (reflives_any _ _ TM.out).mono ?_
      rintro e w61 ⟨rfl, hb⟩
      have V61 := Lib.hid (V60.out.below hb V60.out.lt)
      have C61 := Lib.hid (C12.out.below hb C12.out.lt)
      have B61 := Lib.hid (B12.out.trans (hb.mono B12.out.size))
      have K61 := Lib.hid (K12.out.below hb K12.out.lt)
      clear hb V60 C12 B12 K12
      go_wp2_with (with_reducible refine stopS 39 _ _ rfl ?_)
      refine Lib.hid ?_
      refine wpList_store_only sP rfl _ _ rfl rfl rfl V61.out (Typed.one (lvX_typed TM.out)) (lvX_typed TM.out).1 (by rw [TM.out.1]; omega) ?_
      intro w62 hv ho
      simp only [Act.put]
      rw [putL_all _ _ (by rw [TM.out.1, (lvX_typed TM.out).1])] at hv
      have V62 := Lib.hid hv
      have C62 := Lib.hid (ho.var C61.out (by omega))
      have B62 := Lib.hid (B61.out.trans (ho.below (by omega) B61.out.size))
      have T62 := Lib.hid (lvX_typed TM.out)
      have K62 := Lib.hid (ho.var K61.out (by omega))
      clear hv ho V61 C61 B61 K61
      have s29 : w62.cell? ⟨(w.heap.size + 1), 29, none⟩ = some (.bool (boolI ((lvX (mvS Bz))) 29)) := by rw [V62.out.cell]; exact T62.out.bool 29 rfl
      have s31 : w62.cell? ⟨(w.heap.size + 1), 31, none⟩ = some (.bool (boolI ((lvX (mvS Bz))) 31)) := by rw [V62.out.cell]; exact T62.out.bool 31 rfl
      have s39 : w62.cell? ⟨(w.heap.size + 1), 39, none⟩ = some (.bool (boolI ((lvX (mvS Bz))) 39)) := by rw [V62.out.cell]; exact T62.out.bool 39 rfl
      have s44 : w62.cell? ⟨(w.heap.size + 1), 44, none⟩ = some (.int .i64 (numI ((lvX (mvS Bz))) 44)) := by rw [V62.out.cell]; exact T62.out.numk 44 .i64 rfl
      have fz := V62.out.frozen
      have V63 := Lib.hid (show VarAt _ (w.heap.size + 1) (upd ((lvX (mvS Bz))) [(44, .int .i64 3), (29, .bool true), (39, .bool false), (31, .bool false)]) 39 from ((((V62.out.set 44 (.int .i64 3)).set 29 (.bool true)).set 39 (.bool false)).set 31 (.bool false)))
      have C63 := Lib.hid ((((C62.out.set_other (p := ⟨(w.heap.size + 1), 44, none⟩) (by simp) (.int .i64 3)).set_other (p := ⟨(w.heap.size + 1), 29, none⟩) (by simp) (.bool true)).set_other (p := ⟨(w.heap.size + 1), 39, none⟩) (by simp) (.bool false)).set_other (p := ⟨(w.heap.size + 1), 31, none⟩) (by simp) (.bool false))
      have B63 := Lib.hid ((((B62.out.setCell (p := ⟨(w.heap.size + 1), 44, none⟩) (by simp) (.int .i64 3)).setCell (p := ⟨(w.heap.size + 1), 29, none⟩) (by simp) (.bool true)).setCell (p := ⟨(w.heap.size + 1), 39, none⟩) (by simp) (.bool false)).setCell (p := ⟨(w.heap.size + 1), 31, none⟩) (by simp) (.bool false))
      have K63 := Lib.hid ((((K62.out.set_other (p := ⟨(w.heap.size + 1), 44, none⟩) (by simp) (.int .i64 3)).set_other (p := ⟨(w.heap.size + 1), 29, none⟩) (by simp) (.bool true)).set_other (p := ⟨(w.heap.size + 1), 39, none⟩) (by simp) (.bool false)).set_other (p := ⟨(w.heap.size + 1), 31, none⟩) (by simp) (.bool false))
      have T63 := Lib.hid (show Typed (upd ((lvX (mvS Bz))) [(44, .int .i64 3), (29, .bool true), (39, .bool false), (31, .bool false)]) from upd_typed _ T62.out (by
        simp only [List.mem_cons, List.not_mem_nil, or_false]
        rintro p (rfl | rfl | rfl | rfl)
        · exact isK rfl _
        · exact isB rfl _
        · exact isB rfl _
        · exact isB rfl _))
      rw [← hU2.out] at V63 T63
      clear hU2
      go_wp2_with (with_reducible refine stopL 39 _ rfl ?_)
      refine Lib.hid ?_
      refine wpList_load_whole uP rfl sP rfl _ rfl rfl (range_whole V63.out) T63.out.1 ?_
      refine wpList_store_only sP rfl _ _ rfl rfl rfl C63.out T63.out.one T63.out.1 (by rw [zs.out]; omega) ?_
      intro w99 hv ho
      rw [putL_all _ _ (by rw [zs.out, T63.out.1])] at hv
      have V99 := Lib.hid hv
      have B99 := Lib.hid (B63.out.trans (ho.below (by omega) B63.out.size))
      clear hv ho
      go_wp2_with (with_reducible refine stopE ?_)
      refine Lib.hid ?_
      exact bodyPost_ret (v := .agg U) (results_cell_row (p := 4) (ty := 39) rfl _ _ (w.heap.size + 2) 39 _ (0, 0) _ rfl V99.out uP rfl (by rw [sP]; simp [T63.out.1])) rfl ⟨rfl, B99.out⟩
    · clear c15
      have s15 : w9.cell? ⟨(w.heap.size + 1), 15, none⟩ = some (.bool true) := by rw [V9.out.cell]; exact E15.out
      have fz := V9.out.frozen
      have V10 := Lib.hid (show VarAt _ (w.heap.size + 1) Bz 39 from (by rw [HB.out]; exact V9.out.set 15 (.bool g)))
      have C10 := Lib.hid (C9.out.set_other (p := ⟨(w.heap.size + 1), 15, none⟩) (by simp) (.bool g))
      have B10 := Lib.hid (B9.out.setCell (p := ⟨(w.heap.size + 1), 15, none⟩) (by simp) (.bool g))
      have K10 := Lib.hid (K9.out.set_other (p := ⟨(w.heap.size + 1), 15, none⟩) (by simp) (.bool g))
      go_upto_region 13 with fail
      clear s15 fz V9 C9 B9 K9 HB E15 kB
      generalize w9.setCell ⟨(w.heap.size + 1), 15, none⟩ (.bool g) = w10 at *
      have TB2 := Lib.hid TB.out
      have c52 : w10.cell? ⟨(w.heap.size + 1), 52, none⟩ = some (.int .u64 (numI Bz 52)) := by rw [V10.out.cell]; exact TB2.out.numk 52 .u64 rfl
      have c53 : w10.cell? ⟨(w.heap.size + 1), 53, none⟩ = some (.int .u32 (numI Bz 53)) := by rw [V10.out.cell]; exact TB2.out.numk 53 .u32 rfl
      have c54 : w10.cell? ⟨(w.heap.size + 1), 54, none⟩ = some (.int .u64 (numI Bz 54)) := by rw [V10.out.cell]; exact TB2.out.numk 54 .u64 rfl
      have c55 : w10.cell? ⟨(w.heap.size + 1), 55, none⟩ = some (.int .u16 (numI Bz 55)) := by rw [V10.out.cell]; exact TB2.out.numk 55 .u16 rfl
      go_wp2_with (with_reducible refine stopS 31 _ _ rfl ?_)
      refine Lib.hid ?_
      refine wpList_store_only sV rfl _ _ rfl rfl rfl V10.out (by simp [Value.oneCell']) rfl (by rw [TB2.out.1]; omega) ?_
      intro w11 hv ho
      simp only [Act.put]
      have V11 := Lib.hid (show VarAt w11 (w.heap.size + 1) (upd Bz [(56, .int .u64 (numI Bz 52)), (57, .int .u32 (numI Bz 53)), (58, .int .u64 (numI Bz 54)), (59, .int .u16 (numI Bz 55))]) 39 from hv)
      have C11 := Lib.hid (ho.var C10.out (by omega))
      have B11 := Lib.hid (B10.out.trans (ho.below (by omega) B10.out.size))
      have T11 := Lib.hid (show Typed (upd Bz [(56, .int .u64 (numI Bz 52)), (57, .int .u32 (numI Bz 53)), (58, .int .u64 (numI Bz 54)), (59, .int .u16 (numI Bz 55))]) from upd_typed _ TB2.out (by
        simp only [List.mem_cons, List.not_mem_nil, or_false]
        rintro p (rfl | rfl | rfl | rfl)
        · exact isK rfl _
        · exact isK rfl _
        · exact isK rfl _
        · exact isK rfl _))
      have K11 := Lib.hid (ho.var K10.out (by omega))
      clear hv ho V10 C10 B10 K10 TB2
      clear c52 c53 c54 c55
      have c64 : w11.cell? ⟨(w.heap.size + 1), 64, none⟩ = some (.int .i64 (numI (upd Bz [(56, .int .u64 (numI Bz 52)), (57, .int .u32 (numI Bz 53)), (58, .int .u64 (numI Bz 54)), (59, .int .u16 (numI Bz 55))]) 64)) := by rw [V11.out.cell]; exact T11.out.numk 64 .i64 rfl
      rw [num_out TB.out.1 (by omega) rfl] at c64
      have c65 : w11.cell? ⟨(w.heap.size + 1), 65, none⟩ = some (.int .i64 (numI (upd Bz [(56, .int .u64 (numI Bz 52)), (57, .int .u32 (numI Bz 53)), (58, .int .u64 (numI Bz 54)), (59, .int .u16 (numI Bz 55))]) 65)) := by rw [V11.out.cell]; exact T11.out.numk 65 .i64 rfl
      rw [num_out TB.out.1 (by omega) rfl] at c65
      have c66 : w11.cell? ⟨(w.heap.size + 1), 66, none⟩ = some (.int .i64 (numI (upd Bz [(56, .int .u64 (numI Bz 52)), (57, .int .u32 (numI Bz 53)), (58, .int .u64 (numI Bz 54)), (59, .int .u16 (numI Bz 55))]) 66)) := by rw [V11.out.cell]; exact T11.out.numk 66 .i64 rfl
      rw [num_out TB.out.1 (by omega) rfl] at c66
      have c67 : w11.cell? ⟨(w.heap.size + 1), 67, none⟩ = some (.int .i64 (numI (upd Bz [(56, .int .u64 (numI Bz 52)), (57, .int .u32 (numI Bz 53)), (58, .int .u64 (numI Bz 54)), (59, .int .u16 (numI Bz 55))]) 67)) := by rw [V11.out.cell]; exact T11.out.numk 67 .i64 rfl
      rw [num_out TB.out.1 (by omega) rfl] at c67
      go_wp2_with (with_reducible refine stopS 33 _ _ rfl ?_)
      refine Lib.hid ?_
      refine wpList_store_only s25 rfl _ _ rfl rfl rfl V11.out (by simp [Value.oneCell']) rfl (by rw [T11.out.1]; omega) ?_
      intro w12 hv ho
      simp only [Act.put]
      have V12 := Lib.hid (show VarAt w12 (w.heap.size + 1) (upd (upd Bz [(56, .int .u64 (numI Bz 52)), (57, .int .u32 (numI Bz 53)), (58, .int .u64 (numI Bz 54)), (59, .int .u16 (numI Bz 55))]) [(68, .int .i64 (numI Bz 64)), (69, .int .i64 (numI Bz 65)), (70, .int .i64 (numI Bz 66)), (71, .int .i64 (numI Bz 67))]) 39 from hv)
      have C12 := Lib.hid (ho.var C11.out (by omega))
      have B12 := Lib.hid (B11.out.trans (ho.below (by omega) B11.out.size))
      have T12 := Lib.hid (show Typed (upd (upd Bz [(56, .int .u64 (numI Bz 52)), (57, .int .u32 (numI Bz 53)), (58, .int .u64 (numI Bz 54)), (59, .int .u16 (numI Bz 55))]) [(68, .int .i64 (numI Bz 64)), (69, .int .i64 (numI Bz 65)), (70, .int .i64 (numI Bz 66)), (71, .int .i64 (numI Bz 67))]) from upd_typed _ T11.out (by
        simp only [List.mem_cons, List.not_mem_nil, or_false]
        rintro p (rfl | rfl | rfl | rfl)
        · exact isK rfl _
        · exact isK rfl _
        · exact isK rfl _
        · exact isK rfl _))
      have K12 := Lib.hid (ho.var K11.out (by omega))
      clear hv ho V11 C11 B11 K11 T11
      have V60 := V12.out
      rw [← upd_append] at V60
      replace V60 := Lib.hid (show VarAt _ (w.heap.size + 1) (mvS Bz) 39 from V60)
      have TM := Lib.hid (mvS_typed TB.out)
      clear V12 T12 c64 c65 c66 c67
      go_wp2_with (with_reducible refine stopL 39 _ rfl ?_)
      refine Lib.hid ?_
      refine wpList_load_whole uP rfl sP rfl _ rfl rfl (range_whole V60.out) TM.out.1 ?_
      go_wp2_with fail
      refine (reflives_any _ _ TM.out).mono ?_
      rintro e w61 ⟨rfl, hb⟩
      have V61 := Lib.hid (V60.out.below hb V60.out.lt)
      have C61 := Lib.hid (C12.out.below hb C12.out.lt)
      have B61 := Lib.hid (B12.out.trans (hb.mono B12.out.size))
      have K61 := Lib.hid (K12.out.below hb K12.out.lt)
      clear hb V60 C12 B12 K12
      go_wp2_with (with_reducible refine stopS 39 _ _ rfl ?_)
      refine Lib.hid ?_
      refine wpList_store_only sP rfl _ _ rfl rfl rfl V61.out (Typed.one (lvX_typed TM.out)) (lvX_typed TM.out).1 (by rw [TM.out.1]; omega) ?_
      intro w62 hv ho
      simp only [Act.put]
      rw [putL_all _ _ (by rw [TM.out.1, (lvX_typed TM.out).1])] at hv
      have V62 := Lib.hid hv
      have C62 := Lib.hid (ho.var C61.out (by omega))
      have B62 := Lib.hid (B61.out.trans (ho.below (by omega) B61.out.size))
      have T62 := Lib.hid (lvX_typed TM.out)
      have K62 := Lib.hid (ho.var K61.out (by omega))
      clear hv ho V61 C61 B61 K61
      have s29 : w62.cell? ⟨(w.heap.size + 1), 29, none⟩ = some (.bool (boolI ((lvX (mvS Bz))) 29)) := by rw [V62.out.cell]; exact T62.out.bool 29 rfl
      have s31 : w62.cell? ⟨(w.heap.size + 1), 31, none⟩ = some (.bool (boolI ((lvX (mvS Bz))) 31)) := by rw [V62.out.cell]; exact T62.out.bool 31 rfl
      have s39 : w62.cell? ⟨(w.heap.size + 1), 39, none⟩ = some (.bool (boolI ((lvX (mvS Bz))) 39)) := by rw [V62.out.cell]; exact T62.out.bool 39 rfl
      have s44 : w62.cell? ⟨(w.heap.size + 1), 44, none⟩ = some (.int .i64 (numI ((lvX (mvS Bz))) 44)) := by rw [V62.out.cell]; exact T62.out.numk 44 .i64 rfl
      have fz := V62.out.frozen
      have V63 := Lib.hid (show VarAt _ (w.heap.size + 1) (upd ((lvX (mvS Bz))) [(44, .int .i64 3), (29, .bool true), (39, .bool false), (31, .bool false)]) 39 from ((((V62.out.set 44 (.int .i64 3)).set 29 (.bool true)).set 39 (.bool false)).set 31 (.bool false)))
      have C63 := Lib.hid ((((C62.out.set_other (p := ⟨(w.heap.size + 1), 44, none⟩) (by simp) (.int .i64 3)).set_other (p := ⟨(w.heap.size + 1), 29, none⟩) (by simp) (.bool true)).set_other (p := ⟨(w.heap.size + 1), 39, none⟩) (by simp) (.bool false)).set_other (p := ⟨(w.heap.size + 1), 31, none⟩) (by simp) (.bool false))
      have B63 := Lib.hid ((((B62.out.setCell (p := ⟨(w.heap.size + 1), 44, none⟩) (by simp) (.int .i64 3)).setCell (p := ⟨(w.heap.size + 1), 29, none⟩) (by simp) (.bool true)).setCell (p := ⟨(w.heap.size + 1), 39, none⟩) (by simp) (.bool false)).setCell (p := ⟨(w.heap.size + 1), 31, none⟩) (by simp) (.bool false))
      have K63 := Lib.hid ((((K62.out.set_other (p := ⟨(w.heap.size + 1), 44, none⟩) (by simp) (.int .i64 3)).set_other (p := ⟨(w.heap.size + 1), 29, none⟩) (by simp) (.bool true)).set_other (p := ⟨(w.heap.size + 1), 39, none⟩) (by simp) (.bool false)).set_other (p := ⟨(w.heap.size + 1), 31, none⟩) (by simp) (.bool false))
      have T63 := Lib.hid (show Typed (upd ((lvX (mvS Bz))) [(44, .int .i64 3), (29, .bool true), (39, .bool false), (31, .bool false)]) from upd_typed _ T62.out (by
        simp only [List.mem_cons, List.not_mem_nil, or_false]
        rintro p (rfl | rfl | rfl | rfl)
        · exact isK rfl _
        · exact isB rfl _
        · exact isB rfl _
        · exact isB rfl _))
      rw [← hU2.out] at V63 T63
      clear hU2
      go_wp2_with (with_reducible refine stopL 39 _ rfl ?_)
      refine Lib.hid ?_
      refine wpList_load_whole uP rfl sP rfl _ rfl rfl (range_whole V63.out) T63.out.1 ?_
      refine wpList_store_only sP rfl _ _ rfl rfl rfl C63.out T63.out.one T63.out.1 (by rw [zs.out]; omega) ?_
      intro w99 hv ho
      rw [putL_all _ _ (by rw [zs.out, T63.out.1])] at hv
      have V99 := Lib.hid hv
      have B99 := Lib.hid (B63.out.trans (ho.below (by omega) B63.out.size))
      clear hv ho
      go_wp2_with (with_reducible refine stopE ?_)
      refine Lib.hid ?_
      exact bodyPost_ret (v := .agg U) (results_cell_row (p := 4) (ty := 39) rfl _ _ (w.heap.size + 2) 39 _ (0, 0) _ rfl V99.out uP rfl (by rw [sP]; simp [T63.out.1])) rfl ⟨rfl, B99.out⟩
  · have e1_ : (n == 1) = false := by simpa using q1
    by_cases q2 : n = 2
    · subst q2
      have hD := HD4.out
      simp at hD
      have hU := HX.out
      rw [hD] at hU
      clear hD HD4 HX
      have hU2 := Lib.hid (show U = upd (lvX (toldX true Z3)) [(31, .bool false)] from hU)
      clear hU
      have kT := Lib.hid (fun w => reftold_any true Z3 w TX.out RX.out)
      have TT := Lib.hid (toldX_typed true TX.out)
      have kL := Lib.hid (fun w => reflives_any (toldX true Z3) w TT.out)
      generalize toldX true Z3 = Y at *
      go_wp2_with (with_reducible refine stopL 39 _ rfl ?_)
      refine Lib.hid ?_
      refine wpList_load_whole uP rfl sP rfl _ rfl rfl (range_whole V5.out) TZ3.out.1 ?_
      go_wp2_with fail
      refine (kT.out _).mono ?_
      rintro e w6 ⟨rfl, hb⟩
      have V6 := Lib.hid (V5.out.below hb V5.out.lt)
      have C6 := Lib.hid (C5.out.below hb C5.out.lt)
      have B6 := Lib.hid (B5.out.trans (hb.mono B5.out.size))
      have K6 := Lib.hid (K5.out.below hb K5.out.lt)
      clear hb V5 C5 B5 K5
      clear c45
      go_wp2_with fail
      refine (kL.out _).mono ?_
      rintro e w7 ⟨rfl, hb⟩
      have V7 := Lib.hid (V6.out.below hb V6.out.lt)
      have C7 := Lib.hid (C6.out.below hb C6.out.lt)
      have B7 := Lib.hid (B6.out.trans (hb.mono B6.out.size))
      have K7 := Lib.hid (K6.out.below hb K6.out.lt)
      clear hb V6 C6 B6 K6
      go_wp2_with (with_reducible refine stopS 39 _ _ rfl ?_)
      refine Lib.hid ?_
      refine wpList_store_only sP rfl _ _ rfl rfl rfl V7.out (Typed.one (lvX_typed TT.out)) (lvX_typed TT.out).1 (by rw [TZ3.out.1]; omega) ?_
      intro w8 hv ho
      simp only [Act.put]
      rw [putL_all _ _ (by rw [TZ3.out.1, (lvX_typed TT.out).1])] at hv
      have V8 := Lib.hid hv
      have C8 := Lib.hid (ho.var C7.out (by omega))
      have B8 := Lib.hid (B7.out.trans (ho.below (by omega) B7.out.size))
      have T8 := Lib.hid (lvX_typed TT.out)
      have K8 := Lib.hid (ho.var K7.out (by omega))
      clear hv ho V7 C7 B7 K7
      have s31 : w8.cell? ⟨(w.heap.size + 1), 31, none⟩ = some (.bool (boolI ((lvX Y)) 31)) := by rw [V8.out.cell]; exact T8.out.bool 31 rfl
      have fz := V8.out.frozen
      have V9 := Lib.hid (show VarAt _ (w.heap.size + 1) (upd ((lvX Y)) [(31, .bool false)]) 39 from (V8.out.set 31 (.bool false)))
      have C9 := Lib.hid (C8.out.set_other (p := ⟨(w.heap.size + 1), 31, none⟩) (by simp) (.bool false))
      have B9 := Lib.hid (B8.out.setCell (p := ⟨(w.heap.size + 1), 31, none⟩) (by simp) (.bool false))
      have K9 := Lib.hid (K8.out.set_other (p := ⟨(w.heap.size + 1), 31, none⟩) (by simp) (.bool false))
      have T9 := Lib.hid (show Typed (upd ((lvX Y)) [(31, .bool false)]) from upd_typed _ T8.out (by
        simp only [List.mem_cons, List.not_mem_nil, or_false]
        rintro p rfl
        exact isB rfl _))
      rw [← hU2.out] at V9 T9
      clear hU2
      go_wp2_with (with_reducible refine stopL 39 _ rfl ?_)
      refine Lib.hid ?_
      refine wpList_load_whole uP rfl sP rfl _ rfl rfl (range_whole V9.out) T9.out.1 ?_
      refine wpList_store_only sP rfl _ _ rfl rfl rfl C9.out T9.out.one T9.out.1 (by rw [zs.out]; omega) ?_
      intro w99 hv ho
      rw [putL_all _ _ (by rw [zs.out, T9.out.1])] at hv
      have V99 := Lib.hid hv
      have B99 := Lib.hid (B9.out.trans (ho.below (by omega) B9.out.size))
      clear hv ho
      go_wp2_with (with_reducible refine stopE ?_)
      refine Lib.hid ?_
      exact bodyPost_ret (v := .agg U) (results_cell_row (p := 4) (ty := 39) rfl _ _ (w.heap.size + 2) 39 _ (0, 0) _ rfl V99.out uP rfl (by rw [sP]; simp [T9.out.1])) rfl ⟨rfl, B99.out⟩
    · have e2_ : (n == 2) = false := by simpa using q2
      by_cases q3 : n = 3
      · subst q3
        have hD := HD4.out
        simp at hD
        have hU := HX.out
        rw [hD] at hU
        clear hD HD4 HX
        have HI := Lib.hid (show infX Z3 = if ((numI Z3 72 == 3) && bitF Z3 16) then upd Z3 [(17, .bool true), (16, .bool false)] else Z3 from rfl)
        have kb := Lib.hid (fun w => bit_16 Z3 RX.out w)
        have c72 : w5.cell? ⟨(w.heap.size + 1), 72, none⟩ = some (.int .i64 (numI Z3 72)) := by rw [V5.out.cell]; exact TZ3.out.numk 72 .i64 rfl
        generalize bitF Z3 16 = b at *
        generalize numI Z3 72 = k3 at *
        generalize infX Z3 = Y at *
        by_cases q : k3 = 3
        · subst q
          go_wp2_with (with_reducible refine stopL 36 _ rfl ?_)
          refine Lib.hid ?_
          refine guarded_loadT uM rfl sM (by rfl) _ rfl rfl (V5.out.msg TZ3.out) (msgC_size _) ?_
          go_wp2_with fail
          refine (kb.out _).mono ?_
          rintro e w6 ⟨rfl, hb⟩
          have V6 := Lib.hid (V5.out.below hb V5.out.lt)
          have C6 := Lib.hid (C5.out.below hb C5.out.lt)
          have B6 := Lib.hid (B5.out.trans (hb.mono B5.out.size))
          have K6 := Lib.hid (K5.out.below hb K5.out.lt)
          clear hb V5 C5 B5 K5
          clear c72 c45
          cases b
          · have hI := HI.out
            simp at hI
            rw [hI] at hU
            have hU2 := Lib.hid hU
            clear hU hI HI
            have s31 : w6.cell? ⟨(w.heap.size + 1), 31, none⟩ = some (.bool (boolI Z3 31)) := by rw [V6.out.cell]; exact TZ3.out.bool 31 rfl
            have fz := V6.out.frozen
            have V7 := Lib.hid (show VarAt _ (w.heap.size + 1) (upd Z3 [(31, .bool false)]) 39 from (V6.out.set 31 (.bool false)))
            have C7 := Lib.hid (C6.out.set_other (p := ⟨(w.heap.size + 1), 31, none⟩) (by simp) (.bool false))
            have B7 := Lib.hid (B6.out.setCell (p := ⟨(w.heap.size + 1), 31, none⟩) (by simp) (.bool false))
            have K7 := Lib.hid (K6.out.set_other (p := ⟨(w.heap.size + 1), 31, none⟩) (by simp) (.bool false))
            have T7 := Lib.hid (show Typed (upd Z3 [(31, .bool false)]) from upd_typed _ TZ3.out (by
              simp only [List.mem_cons, List.not_mem_nil, or_false]
              rintro p rfl
              exact isB rfl _))
            have R7 := Lib.hid (show Rg (upd Z3 [(31, .bool false)]) from RZ3.out.upd TZ3.out.1 rfl)
            rw [← hU2.out] at V7 T7
            clear hU2
            go_wp2_with (with_reducible refine stopL 39 _ rfl ?_)
            refine Lib.hid ?_
            refine wpList_load_whole uP rfl sP rfl _ rfl rfl (range_whole V7.out) T7.out.1 ?_
            refine wpList_store_only sP rfl _ _ rfl rfl rfl C7.out T7.out.one T7.out.1 (by rw [zs.out]; omega) ?_
            intro w99 hv ho
            rw [putL_all _ _ (by rw [zs.out, T7.out.1])] at hv
            have V99 := Lib.hid hv
            have B99 := Lib.hid (B7.out.trans (ho.below (by omega) B7.out.size))
            clear hv ho
            go_wp2_with (with_reducible refine stopE ?_)
            refine Lib.hid ?_
            exact bodyPost_ret (v := .agg U) (results_cell_row (p := 4) (ty := 39) rfl _ _ (w.heap.size + 2) 39 _ (0, 0) _ rfl V99.out uP rfl (by rw [sP]; simp [T7.out.1])) rfl ⟨rfl, B99.out⟩
          · have hI := HI.out
            simp at hI
            rw [hI] at hU
            have hU2 := Lib.hid (show U = upd Z3 [(17, .bool true), (16, .bool false), (31, .bool false)] from (by rw [hU, ← upd_append]; rfl))
            clear hU hI HI
            have s16 : w6.cell? ⟨(w.heap.size + 1), 16, none⟩ = some (.bool (boolI Z3 16)) := by rw [V6.out.cell]; exact TZ3.out.bool 16 rfl
            have s17 : w6.cell? ⟨(w.heap.size + 1), 17, none⟩ = some (.bool (boolI Z3 17)) := by rw [V6.out.cell]; exact TZ3.out.bool 17 rfl
            have s31 : w6.cell? ⟨(w.heap.size + 1), 31, none⟩ = some (.bool (boolI Z3 31)) := by rw [V6.out.cell]; exact TZ3.out.bool 31 rfl
            have fz := V6.out.frozen
            have V7 := Lib.hid (show VarAt _ (w.heap.size + 1) (upd Z3 [(17, .bool true), (16, .bool false), (31, .bool false)]) 39 from (((V6.out.set 17 (.bool true)).set 16 (.bool false)).set 31 (.bool false)))
            have C7 := Lib.hid (((C6.out.set_other (p := ⟨(w.heap.size + 1), 17, none⟩) (by simp) (.bool true)).set_other (p := ⟨(w.heap.size + 1), 16, none⟩) (by simp) (.bool false)).set_other (p := ⟨(w.heap.size + 1), 31, none⟩) (by simp) (.bool false))
            have B7 := Lib.hid (((B6.out.setCell (p := ⟨(w.heap.size + 1), 17, none⟩) (by simp) (.bool true)).setCell (p := ⟨(w.heap.size + 1), 16, none⟩) (by simp) (.bool false)).setCell (p := ⟨(w.heap.size + 1), 31, none⟩) (by simp) (.bool false))
            have K7 := Lib.hid (((K6.out.set_other (p := ⟨(w.heap.size + 1), 17, none⟩) (by simp) (.bool true)).set_other (p := ⟨(w.heap.size + 1), 16, none⟩) (by simp) (.bool false)).set_other (p := ⟨(w.heap.size + 1), 31, none⟩) (by simp) (.bool false))
            have T7 := Lib.hid (show Typed (upd Z3 [(17, .bool true), (16, .bool false), (31, .bool false)]) from upd_typed _ TZ3.out (by
              simp only [List.mem_cons, List.not_mem_nil, or_false]
              rintro p (rfl | rfl | rfl)
              · exact isB rfl _
              · exact isB rfl _
              · exact isB rfl _))
            have R7 := Lib.hid (show Rg (upd Z3 [(17, .bool true), (16, .bool false), (31, .bool false)]) from RZ3.out.upd TZ3.out.1 rfl)
            rw [← hU2.out] at V7 T7
            clear hU2
            go_wp2_with (with_reducible refine stopL 39 _ rfl ?_)
            refine Lib.hid ?_
            refine wpList_load_whole uP rfl sP rfl _ rfl rfl (range_whole V7.out) T7.out.1 ?_
            refine wpList_store_only sP rfl _ _ rfl rfl rfl C7.out T7.out.one T7.out.1 (by rw [zs.out]; omega) ?_
            intro w99 hv ho
            rw [putL_all _ _ (by rw [zs.out, T7.out.1])] at hv
            have V99 := Lib.hid hv
            have B99 := Lib.hid (B7.out.trans (ho.below (by omega) B7.out.size))
            clear hv ho
            go_wp2_with (with_reducible refine stopE ?_)
            refine Lib.hid ?_
            exact bodyPost_ret (v := .agg U) (results_cell_row (p := 4) (ty := 39) rfl _ _ (w.heap.size + 2) 39 _ (0, 0) _ rfl V99.out uP rfl (by rw [sP]; simp [T7.out.1])) rfl ⟨rfl, B99.out⟩
        · have e3 : (k3 == 3) = false := by simpa using q
          have hI := HI.out
          rw [e3] at hI
          simp only [Bool.false_and, Bool.false_eq_true, if_false] at hI
          rw [hI] at hU
          have hU2 := Lib.hid hU
          clear hU hI HI q
          have s31 : w5.cell? ⟨(w.heap.size + 1), 31, none⟩ = some (.bool (boolI Z3 31)) := by rw [V5.out.cell]; exact TZ3.out.bool 31 rfl
          have fz := V5.out.frozen
          have V6 := Lib.hid (show VarAt _ (w.heap.size + 1) (upd Z3 [(31, .bool false)]) 39 from (V5.out.set 31 (.bool false)))
          have C6 := Lib.hid (C5.out.set_other (p := ⟨(w.heap.size + 1), 31, none⟩) (by simp) (.bool false))
          have B6 := Lib.hid (B5.out.setCell (p := ⟨(w.heap.size + 1), 31, none⟩) (by simp) (.bool false))
          have K6 := Lib.hid (K5.out.set_other (p := ⟨(w.heap.size + 1), 31, none⟩) (by simp) (.bool false))
          have T6 := Lib.hid (show Typed (upd Z3 [(31, .bool false)]) from upd_typed _ TZ3.out (by
            simp only [List.mem_cons, List.not_mem_nil, or_false]
            rintro p rfl
            exact isB rfl _))
          have R6 := Lib.hid (show Rg (upd Z3 [(31, .bool false)]) from RZ3.out.upd TZ3.out.1 rfl)
          rw [← hU2.out] at V6 T6
          clear hU2
          go_wp2_with (with_reducible refine stopL 39 _ rfl ?_)
          refine Lib.hid ?_
          refine wpList_load_whole uP rfl sP rfl _ rfl rfl (range_whole V6.out) T6.out.1 ?_
          refine wpList_store_only sP rfl _ _ rfl rfl rfl C6.out T6.out.one T6.out.1 (by rw [zs.out]; omega) ?_
          intro w99 hv ho
          rw [putL_all _ _ (by rw [zs.out, T6.out.1])] at hv
          have V99 := Lib.hid hv
          have B99 := Lib.hid (B6.out.trans (ho.below (by omega) B6.out.size))
          clear hv ho
          go_wp2_with (with_reducible refine stopE ?_)
          refine Lib.hid ?_
          exact bodyPost_ret (v := .agg U) (results_cell_row (p := 4) (ty := 39) rfl _ _ (w.heap.size + 2) 39 _ (0, 0) _ rfl V99.out uP rfl (by rw [sP]; simp [T6.out.1])) rfl ⟨rfl, B99.out⟩
      · have e3_ : (n == 3) = false := by simpa using q3
        by_cases q4 : n = 4
        · subst q4
          have hD := HD4.out
          simp at hD
          have hU := HX.out
          rw [hD] at hU
          clear hD HD4 HX
          have hU2 := Lib.hid (show U = upd (toldX false (ndA rs Z3)) [(31, .bool false)] from hU)
          clear hU
          have HI := Lib.hid (show ndA rs Z3 = if rs && (boolI Z3 5 && ((numI Z3 72 == 3) && bitF Z3 64)) then upd Z3 [(16, .bool true), (27, .bool false)] else upd Z3 [(16, .bool false)] from rfl)
          have kb := Lib.hid (fun w => bit_64 Z3 RX.out w)
          have TN := Lib.hid (ndA_typed rs TX.out)
          have kT := Lib.hid (fun w => reftold_any false (ndA rs Z3) w (ndA_typed rs TX.out) (ndA_rg rs RX.out TX.out))
          have TT := Lib.hid (toldX_typed false TN.out)
          have c72 : w5.cell? ⟨(w.heap.size + 1), 72, none⟩ = some (.int .i64 (numI Z3 72)) := by rw [V5.out.cell]; exact TZ3.out.numk 72 .i64 rfl
          have c5 : w5.cell? ⟨(w.heap.size + 1), 5, none⟩ = some (.bool (boolI Z3 5)) := by rw [V5.out.cell]; exact TZ3.out.bool 5 rfl
          have c6b : w5.cell? ⟨w.heap.size, 6, none⟩ = some (.bool rs) := by rw [K5.out.cell]; exact H6.out
          generalize bitF Z3 64 = b at *
          generalize numI Z3 72 = k3 at *
          generalize boolI Z3 5 = x5 at *
          generalize toldX false (ndA rs Z3) = YT at *
          generalize ndA rs Z3 = Y at *
          cases rs
          · have hI := HI.out
            simp at hI
            clear HI
            have s16 : w5.cell? ⟨(w.heap.size + 1), 16, none⟩ = some (.bool (boolI Z3 16)) := by rw [V5.out.cell]; exact TZ3.out.bool 16 rfl
            have fz := V5.out.frozen
            have V6 := Lib.hid (show VarAt _ (w.heap.size + 1) (upd Z3 [(16, .bool false)]) 39 from (V5.out.set 16 (.bool false)))
            have C6 := Lib.hid (C5.out.set_other (p := ⟨(w.heap.size + 1), 16, none⟩) (by simp) (.bool false))
            have B6 := Lib.hid (B5.out.setCell (p := ⟨(w.heap.size + 1), 16, none⟩) (by simp) (.bool false))
            have K6 := Lib.hid (K5.out.set_other (p := ⟨(w.heap.size + 1), 16, none⟩) (by simp) (.bool false))
            have T6 := Lib.hid (show Typed (upd Z3 [(16, .bool false)]) from upd_typed _ TZ3.out (by
              simp only [List.mem_cons, List.not_mem_nil, or_false]
              rintro p rfl
              exact isB rfl _))
            have R6 := Lib.hid (show Rg (upd Z3 [(16, .bool false)]) from RZ3.out.upd TZ3.out.1 rfl)
            rw [← hI] at V6 T6
            clear hI
            go_upto_region 29 with fail
            clear fz s16 V5 C5 B5 K5 T6 R6
            generalize (w5.setCell ⟨(w.heap.size + 1), 16, none⟩ (.bool false)) = w6 at *
            go_wp2_with (with_reducible refine stopL 39 _ rfl ?_)
            refine Lib.hid ?_
            refine wpList_load_whole uP rfl sP rfl _ rfl rfl (range_whole V6.out) TN.out.1 ?_
            go_wp2_with fail
            refine (kT.out _).mono ?_
            rintro e w7 ⟨rfl, hb⟩
            have V7 := Lib.hid (V6.out.below hb V6.out.lt)
            have C7 := Lib.hid (C6.out.below hb C6.out.lt)
            have B7 := Lib.hid (B6.out.trans (hb.mono B6.out.size))
            have K7 := Lib.hid (K6.out.below hb K6.out.lt)
            clear hb V6 C6 B6 K6
            go_wp2_with (with_reducible refine stopS 39 _ _ rfl ?_)
            refine Lib.hid ?_
            refine wpList_store_only sP rfl _ _ rfl rfl rfl V7.out (Typed.one (TT.out)) (TT.out).1 (by rw [TN.out.1]; omega) ?_
            intro w8 hv ho
            simp only [Act.put]
            rw [putL_all _ _ (by rw [TN.out.1, (TT.out).1])] at hv
            have V8 := Lib.hid hv
            have C8 := Lib.hid (ho.var C7.out (by omega))
            have B8 := Lib.hid (B7.out.trans (ho.below (by omega) B7.out.size))
            have T8 := Lib.hid (TT.out)
            have K8 := Lib.hid (ho.var K7.out (by omega))
            clear hv ho V7 C7 B7 K7
            have s31 : w8.cell? ⟨(w.heap.size + 1), 31, none⟩ = some (.bool (boolI YT 31)) := by rw [V8.out.cell]; exact T8.out.bool 31 rfl
            have fz := V8.out.frozen
            have V9 := Lib.hid (show VarAt _ (w.heap.size + 1) (upd YT [(31, .bool false)]) 39 from (V8.out.set 31 (.bool false)))
            have C9 := Lib.hid (C8.out.set_other (p := ⟨(w.heap.size + 1), 31, none⟩) (by simp) (.bool false))
            have B9 := Lib.hid (B8.out.setCell (p := ⟨(w.heap.size + 1), 31, none⟩) (by simp) (.bool false))
            have K9 := Lib.hid (K8.out.set_other (p := ⟨(w.heap.size + 1), 31, none⟩) (by simp) (.bool false))
            have T9 := Lib.hid (show Typed (upd YT [(31, .bool false)]) from upd_typed _ T8.out (by
              simp only [List.mem_cons, List.not_mem_nil, or_false]
              rintro p rfl
              exact isB rfl _))
            rw [← hU2.out] at V9 T9
            clear hU2
            go_wp2_with (with_reducible refine stopL 39 _ rfl ?_)
            refine Lib.hid ?_
            refine wpList_load_whole uP rfl sP rfl _ rfl rfl (range_whole V9.out) T9.out.1 ?_
            refine wpList_store_only sP rfl _ _ rfl rfl rfl C9.out T9.out.one T9.out.1 (by rw [zs.out]; omega) ?_
            intro w99 hv ho
            rw [putL_all _ _ (by rw [zs.out, T9.out.1])] at hv
            have V99 := Lib.hid hv
            have B99 := Lib.hid (B9.out.trans (ho.below (by omega) B9.out.size))
            clear hv ho
            go_wp2_with (with_reducible refine stopE ?_)
            refine Lib.hid ?_
            exact bodyPost_ret (v := .agg U) (results_cell_row (p := 4) (ty := 39) rfl _ _ (w.heap.size + 2) 39 _ (0, 0) _ rfl V99.out uP rfl (by rw [sP]; simp [T9.out.1])) rfl ⟨rfl, B99.out⟩
          · cases x5
            · have hI := HI.out
              simp at hI
              clear HI
              have s16 : w5.cell? ⟨(w.heap.size + 1), 16, none⟩ = some (.bool (boolI Z3 16)) := by rw [V5.out.cell]; exact TZ3.out.bool 16 rfl
              have fz := V5.out.frozen
              have V6 := Lib.hid (show VarAt _ (w.heap.size + 1) (upd Z3 [(16, .bool false)]) 39 from (V5.out.set 16 (.bool false)))
              have C6 := Lib.hid (C5.out.set_other (p := ⟨(w.heap.size + 1), 16, none⟩) (by simp) (.bool false))
              have B6 := Lib.hid (B5.out.setCell (p := ⟨(w.heap.size + 1), 16, none⟩) (by simp) (.bool false))
              have K6 := Lib.hid (K5.out.set_other (p := ⟨(w.heap.size + 1), 16, none⟩) (by simp) (.bool false))
              have T6 := Lib.hid (show Typed (upd Z3 [(16, .bool false)]) from upd_typed _ TZ3.out (by
                simp only [List.mem_cons, List.not_mem_nil, or_false]
                rintro p rfl
                exact isB rfl _))
              have R6 := Lib.hid (show Rg (upd Z3 [(16, .bool false)]) from RZ3.out.upd TZ3.out.1 rfl)
              rw [← hI] at V6 T6
              clear hI
              go_upto_region 29 with fail
              clear fz s16 V5 C5 B5 K5 T6 R6
              generalize (w5.setCell ⟨(w.heap.size + 1), 16, none⟩ (.bool false)) = w6 at *
              go_wp2_with (with_reducible refine stopL 39 _ rfl ?_)
              refine Lib.hid ?_
              refine wpList_load_whole uP rfl sP rfl _ rfl rfl (range_whole V6.out) TN.out.1 ?_
              go_wp2_with fail
              refine (kT.out _).mono ?_
              rintro e w7 ⟨rfl, hb⟩
              have V7 := Lib.hid (V6.out.below hb V6.out.lt)
              have C7 := Lib.hid (C6.out.below hb C6.out.lt)
              have B7 := Lib.hid (B6.out.trans (hb.mono B6.out.size))
              have K7 := Lib.hid (K6.out.below hb K6.out.lt)
              clear hb V6 C6 B6 K6
              go_wp2_with (with_reducible refine stopS 39 _ _ rfl ?_)
              refine Lib.hid ?_
              refine wpList_store_only sP rfl _ _ rfl rfl rfl V7.out (Typed.one (TT.out)) (TT.out).1 (by rw [TN.out.1]; omega) ?_
              intro w8 hv ho
              simp only [Act.put]
              rw [putL_all _ _ (by rw [TN.out.1, (TT.out).1])] at hv
              have V8 := Lib.hid hv
              have C8 := Lib.hid (ho.var C7.out (by omega))
              have B8 := Lib.hid (B7.out.trans (ho.below (by omega) B7.out.size))
              have T8 := Lib.hid (TT.out)
              have K8 := Lib.hid (ho.var K7.out (by omega))
              clear hv ho V7 C7 B7 K7
              have s31 : w8.cell? ⟨(w.heap.size + 1), 31, none⟩ = some (.bool (boolI YT 31)) := by rw [V8.out.cell]; exact T8.out.bool 31 rfl
              have fz := V8.out.frozen
              have V9 := Lib.hid (show VarAt _ (w.heap.size + 1) (upd YT [(31, .bool false)]) 39 from (V8.out.set 31 (.bool false)))
              have C9 := Lib.hid (C8.out.set_other (p := ⟨(w.heap.size + 1), 31, none⟩) (by simp) (.bool false))
              have B9 := Lib.hid (B8.out.setCell (p := ⟨(w.heap.size + 1), 31, none⟩) (by simp) (.bool false))
              have K9 := Lib.hid (K8.out.set_other (p := ⟨(w.heap.size + 1), 31, none⟩) (by simp) (.bool false))
              have T9 := Lib.hid (show Typed (upd YT [(31, .bool false)]) from upd_typed _ T8.out (by
                simp only [List.mem_cons, List.not_mem_nil, or_false]
                rintro p rfl
                exact isB rfl _))
              rw [← hU2.out] at V9 T9
              clear hU2
              go_wp2_with (with_reducible refine stopL 39 _ rfl ?_)
              refine Lib.hid ?_
              refine wpList_load_whole uP rfl sP rfl _ rfl rfl (range_whole V9.out) T9.out.1 ?_
              refine wpList_store_only sP rfl _ _ rfl rfl rfl C9.out T9.out.one T9.out.1 (by rw [zs.out]; omega) ?_
              intro w99 hv ho
              rw [putL_all _ _ (by rw [zs.out, T9.out.1])] at hv
              have V99 := Lib.hid hv
              have B99 := Lib.hid (B9.out.trans (ho.below (by omega) B9.out.size))
              clear hv ho
              go_wp2_with (with_reducible refine stopE ?_)
              refine Lib.hid ?_
              exact bodyPost_ret (v := .agg U) (results_cell_row (p := 4) (ty := 39) rfl _ _ (w.heap.size + 2) 39 _ (0, 0) _ rfl V99.out uP rfl (by rw [sP]; simp [T9.out.1])) rfl ⟨rfl, B99.out⟩
            · by_cases q : k3 = 3
              · subst q
                go_wp2_with (with_reducible refine stopL 36 _ rfl ?_)
                refine Lib.hid ?_
                refine guarded_loadT uM rfl sM (by rfl) _ rfl rfl (V5.out.msg TZ3.out) (msgC_size _) ?_
                go_wp2_with fail
                refine (kb.out _).mono ?_
                rintro e w6 ⟨rfl, hb⟩
                have V6 := Lib.hid (V5.out.below hb V5.out.lt)
                have C6 := Lib.hid (C5.out.below hb C5.out.lt)
                have B6 := Lib.hid (B5.out.trans (hb.mono B5.out.size))
                have K6 := Lib.hid (K5.out.below hb K5.out.lt)
                clear hb V5 C5 B5 K5
                clear c72 c5 c6b c45
                cases b
                · have hI := HI.out
                  simp at hI
                  clear HI
                  have s16 : w6.cell? ⟨(w.heap.size + 1), 16, none⟩ = some (.bool (boolI Z3 16)) := by rw [V6.out.cell]; exact TZ3.out.bool 16 rfl
                  have fz := V6.out.frozen
                  have V7 := Lib.hid (show VarAt _ (w.heap.size + 1) (upd Z3 [(16, .bool false)]) 39 from (V6.out.set 16 (.bool false)))
                  have C7 := Lib.hid (C6.out.set_other (p := ⟨(w.heap.size + 1), 16, none⟩) (by simp) (.bool false))
                  have B7 := Lib.hid (B6.out.setCell (p := ⟨(w.heap.size + 1), 16, none⟩) (by simp) (.bool false))
                  have K7 := Lib.hid (K6.out.set_other (p := ⟨(w.heap.size + 1), 16, none⟩) (by simp) (.bool false))
                  have T7 := Lib.hid (show Typed (upd Z3 [(16, .bool false)]) from upd_typed _ TZ3.out (by
                    simp only [List.mem_cons, List.not_mem_nil, or_false]
                    rintro p rfl
                    exact isB rfl _))
                  have R7 := Lib.hid (show Rg (upd Z3 [(16, .bool false)]) from RZ3.out.upd TZ3.out.1 rfl)
                  rw [← hI] at V7 T7
                  clear hI
                  go_upto_region 29 with fail
                  clear fz s16 V6 C6 B6 K6 T7 R7
                  generalize (w6.setCell ⟨(w.heap.size + 1), 16, none⟩ (.bool false)) = w7 at *
                  go_wp2_with (with_reducible refine stopL 39 _ rfl ?_)
                  refine Lib.hid ?_
                  refine wpList_load_whole uP rfl sP rfl _ rfl rfl (range_whole V7.out) TN.out.1 ?_
                  go_wp2_with fail
                  refine (kT.out _).mono ?_
                  rintro e w8 ⟨rfl, hb⟩
                  have V8 := Lib.hid (V7.out.below hb V7.out.lt)
                  have C8 := Lib.hid (C7.out.below hb C7.out.lt)
                  have B8 := Lib.hid (B7.out.trans (hb.mono B7.out.size))
                  have K8 := Lib.hid (K7.out.below hb K7.out.lt)
                  clear hb V7 C7 B7 K7
                  go_wp2_with (with_reducible refine stopS 39 _ _ rfl ?_)
                  refine Lib.hid ?_
                  refine wpList_store_only sP rfl _ _ rfl rfl rfl V8.out (Typed.one (TT.out)) (TT.out).1 (by rw [TN.out.1]; omega) ?_
                  intro w9 hv ho
                  simp only [Act.put]
                  rw [putL_all _ _ (by rw [TN.out.1, (TT.out).1])] at hv
                  have V9 := Lib.hid hv
                  have C9 := Lib.hid (ho.var C8.out (by omega))
                  have B9 := Lib.hid (B8.out.trans (ho.below (by omega) B8.out.size))
                  have T9 := Lib.hid (TT.out)
                  have K9 := Lib.hid (ho.var K8.out (by omega))
                  clear hv ho V8 C8 B8 K8
                  have s31 : w9.cell? ⟨(w.heap.size + 1), 31, none⟩ = some (.bool (boolI YT 31)) := by rw [V9.out.cell]; exact T9.out.bool 31 rfl
                  have fz := V9.out.frozen
                  have V10 := Lib.hid (show VarAt _ (w.heap.size + 1) (upd YT [(31, .bool false)]) 39 from (V9.out.set 31 (.bool false)))
                  have C10 := Lib.hid (C9.out.set_other (p := ⟨(w.heap.size + 1), 31, none⟩) (by simp) (.bool false))
                  have B10 := Lib.hid (B9.out.setCell (p := ⟨(w.heap.size + 1), 31, none⟩) (by simp) (.bool false))
                  have K10 := Lib.hid (K9.out.set_other (p := ⟨(w.heap.size + 1), 31, none⟩) (by simp) (.bool false))
                  have T10 := Lib.hid (show Typed (upd YT [(31, .bool false)]) from upd_typed _ T9.out (by
                    simp only [List.mem_cons, List.not_mem_nil, or_false]
                    rintro p rfl
                    exact isB rfl _))
                  rw [← hU2.out] at V10 T10
                  clear hU2
                  go_wp2_with (with_reducible refine stopL 39 _ rfl ?_)
                  refine Lib.hid ?_
                  refine wpList_load_whole uP rfl sP rfl _ rfl rfl (range_whole V10.out) T10.out.1 ?_
                  refine wpList_store_only sP rfl _ _ rfl rfl rfl C10.out T10.out.one T10.out.1 (by rw [zs.out]; omega) ?_
                  intro w99 hv ho
                  rw [putL_all _ _ (by rw [zs.out, T10.out.1])] at hv
                  have V99 := Lib.hid hv
                  have B99 := Lib.hid (B10.out.trans (ho.below (by omega) B10.out.size))
                  clear hv ho
                  go_wp2_with (with_reducible refine stopE ?_)
                  refine Lib.hid ?_
                  exact bodyPost_ret (v := .agg U) (results_cell_row (p := 4) (ty := 39) rfl _ _ (w.heap.size + 2) 39 _ (0, 0) _ rfl V99.out uP rfl (by rw [sP]; simp [T10.out.1])) rfl ⟨rfl, B99.out⟩
                · have hI := HI.out
                  simp at hI
                  clear HI
                  have s16 : w6.cell? ⟨(w.heap.size + 1), 16, none⟩ = some (.bool (boolI Z3 16)) := by rw [V6.out.cell]; exact TZ3.out.bool 16 rfl
                  have s27 : w6.cell? ⟨(w.heap.size + 1), 27, none⟩ = some (.bool (boolI Z3 27)) := by rw [V6.out.cell]; exact TZ3.out.bool 27 rfl
                  have fz := V6.out.frozen
                  have V7 := Lib.hid (show VarAt _ (w.heap.size + 1) (upd Z3 [(16, .bool true), (27, .bool false)]) 39 from ((V6.out.set 16 (.bool true)).set 27 (.bool false)))
                  have C7 := Lib.hid ((C6.out.set_other (p := ⟨(w.heap.size + 1), 16, none⟩) (by simp) (.bool true)).set_other (p := ⟨(w.heap.size + 1), 27, none⟩) (by simp) (.bool false))
                  have B7 := Lib.hid ((B6.out.setCell (p := ⟨(w.heap.size + 1), 16, none⟩) (by simp) (.bool true)).setCell (p := ⟨(w.heap.size + 1), 27, none⟩) (by simp) (.bool false))
                  have K7 := Lib.hid ((K6.out.set_other (p := ⟨(w.heap.size + 1), 16, none⟩) (by simp) (.bool true)).set_other (p := ⟨(w.heap.size + 1), 27, none⟩) (by simp) (.bool false))
                  have T7 := Lib.hid (show Typed (upd Z3 [(16, .bool true), (27, .bool false)]) from upd_typed _ TZ3.out (by
                    simp only [List.mem_cons, List.not_mem_nil, or_false]
                    rintro p (rfl | rfl)
                    · exact isB rfl _
                    · exact isB rfl _))
                  have R7 := Lib.hid (show Rg (upd Z3 [(16, .bool true), (27, .bool false)]) from RZ3.out.upd TZ3.out.1 rfl)
                  rw [← hI] at V7 T7
                  clear hI
                  go_upto_region 29 with fail
                  clear fz s16 s27 V6 C6 B6 K6 T7 R7
                  generalize ((w6.setCell ⟨(w.heap.size + 1), 16, none⟩ (.bool true)).setCell ⟨(w.heap.size + 1), 27, none⟩ (.bool false)) = w7 at *
                  go_wp2_with (with_reducible refine stopL 39 _ rfl ?_)
                  refine Lib.hid ?_
                  refine wpList_load_whole uP rfl sP rfl _ rfl rfl (range_whole V7.out) TN.out.1 ?_
                  go_wp2_with fail
                  refine (kT.out _).mono ?_
                  rintro e w8 ⟨rfl, hb⟩
                  have V8 := Lib.hid (V7.out.below hb V7.out.lt)
                  have C8 := Lib.hid (C7.out.below hb C7.out.lt)
                  have B8 := Lib.hid (B7.out.trans (hb.mono B7.out.size))
                  have K8 := Lib.hid (K7.out.below hb K7.out.lt)
                  clear hb V7 C7 B7 K7
                  go_wp2_with (with_reducible refine stopS 39 _ _ rfl ?_)
                  refine Lib.hid ?_
                  refine wpList_store_only sP rfl _ _ rfl rfl rfl V8.out (Typed.one (TT.out)) (TT.out).1 (by rw [TN.out.1]; omega) ?_
                  intro w9 hv ho
                  simp only [Act.put]
                  rw [putL_all _ _ (by rw [TN.out.1, (TT.out).1])] at hv
                  have V9 := Lib.hid hv
                  have C9 := Lib.hid (ho.var C8.out (by omega))
                  have B9 := Lib.hid (B8.out.trans (ho.below (by omega) B8.out.size))
                  have T9 := Lib.hid (TT.out)
                  have K9 := Lib.hid (ho.var K8.out (by omega))
                  clear hv ho V8 C8 B8 K8
                  have s31 : w9.cell? ⟨(w.heap.size + 1), 31, none⟩ = some (.bool (boolI YT 31)) := by rw [V9.out.cell]; exact T9.out.bool 31 rfl
                  have fz := V9.out.frozen
                  have V10 := Lib.hid (show VarAt _ (w.heap.size + 1) (upd YT [(31, .bool false)]) 39 from (V9.out.set 31 (.bool false)))
                  have C10 := Lib.hid (C9.out.set_other (p := ⟨(w.heap.size + 1), 31, none⟩) (by simp) (.bool false))
                  have B10 := Lib.hid (B9.out.setCell (p := ⟨(w.heap.size + 1), 31, none⟩) (by simp) (.bool false))
                  have K10 := Lib.hid (K9.out.set_other (p := ⟨(w.heap.size + 1), 31, none⟩) (by simp) (.bool false))
                  have T10 := Lib.hid (show Typed (upd YT [(31, .bool false)]) from upd_typed _ T9.out (by
                    simp only [List.mem_cons, List.not_mem_nil, or_false]
                    rintro p rfl
                    exact isB rfl _))
                  rw [← hU2.out] at V10 T10
                  clear hU2
                  go_wp2_with (with_reducible refine stopL 39 _ rfl ?_)
                  refine Lib.hid ?_
                  refine wpList_load_whole uP rfl sP rfl _ rfl rfl (range_whole V10.out) T10.out.1 ?_
                  refine wpList_store_only sP rfl _ _ rfl rfl rfl C10.out T10.out.one T10.out.1 (by rw [zs.out]; omega) ?_
                  intro w99 hv ho
                  rw [putL_all _ _ (by rw [zs.out, T10.out.1])] at hv
                  have V99 := Lib.hid hv
                  have B99 := Lib.hid (B10.out.trans (ho.below (by omega) B10.out.size))
                  clear hv ho
                  go_wp2_with (with_reducible refine stopE ?_)
                  refine Lib.hid ?_
                  exact bodyPost_ret (v := .agg U) (results_cell_row (p := 4) (ty := 39) rfl _ _ (w.heap.size + 2) 39 _ (0, 0) _ rfl V99.out uP rfl (by rw [sP]; simp [T10.out.1])) rfl ⟨rfl, B99.out⟩
              · have e3 : (k3 == 3) = false := by simpa using q
                clear q
                have hI := HI.out
                simp [e3] at hI
                clear HI
                have s16 : w5.cell? ⟨(w.heap.size + 1), 16, none⟩ = some (.bool (boolI Z3 16)) := by rw [V5.out.cell]; exact TZ3.out.bool 16 rfl
                have fz := V5.out.frozen
                have V6 := Lib.hid (show VarAt _ (w.heap.size + 1) (upd Z3 [(16, .bool false)]) 39 from (V5.out.set 16 (.bool false)))
                have C6 := Lib.hid (C5.out.set_other (p := ⟨(w.heap.size + 1), 16, none⟩) (by simp) (.bool false))
                have B6 := Lib.hid (B5.out.setCell (p := ⟨(w.heap.size + 1), 16, none⟩) (by simp) (.bool false))
                have K6 := Lib.hid (K5.out.set_other (p := ⟨(w.heap.size + 1), 16, none⟩) (by simp) (.bool false))
                have T6 := Lib.hid (show Typed (upd Z3 [(16, .bool false)]) from upd_typed _ TZ3.out (by
                  simp only [List.mem_cons, List.not_mem_nil, or_false]
                  rintro p rfl
                  exact isB rfl _))
                have R6 := Lib.hid (show Rg (upd Z3 [(16, .bool false)]) from RZ3.out.upd TZ3.out.1 rfl)
                rw [← hI] at V6 T6
                clear hI
                go_upto_region 29 with fail
                clear fz s16 V5 C5 B5 K5 T6 R6
                generalize (w5.setCell ⟨(w.heap.size + 1), 16, none⟩ (.bool false)) = w6 at *
                go_wp2_with (with_reducible refine stopL 39 _ rfl ?_)
                refine Lib.hid ?_
                refine wpList_load_whole uP rfl sP rfl _ rfl rfl (range_whole V6.out) TN.out.1 ?_
                go_wp2_with fail
                refine (kT.out _).mono ?_
                rintro e w7 ⟨rfl, hb⟩
                have V7 := Lib.hid (V6.out.below hb V6.out.lt)
                have C7 := Lib.hid (C6.out.below hb C6.out.lt)
                have B7 := Lib.hid (B6.out.trans (hb.mono B6.out.size))
                have K7 := Lib.hid (K6.out.below hb K6.out.lt)
                clear hb V6 C6 B6 K6
                go_wp2_with (with_reducible refine stopS 39 _ _ rfl ?_)
                refine Lib.hid ?_
                refine wpList_store_only sP rfl _ _ rfl rfl rfl V7.out (Typed.one (TT.out)) (TT.out).1 (by rw [TN.out.1]; omega) ?_
                intro w8 hv ho
                simp only [Act.put]
                rw [putL_all _ _ (by rw [TN.out.1, (TT.out).1])] at hv
                have V8 := Lib.hid hv
                have C8 := Lib.hid (ho.var C7.out (by omega))
                have B8 := Lib.hid (B7.out.trans (ho.below (by omega) B7.out.size))
                have T8 := Lib.hid (TT.out)
                have K8 := Lib.hid (ho.var K7.out (by omega))
                clear hv ho V7 C7 B7 K7
                have s31 : w8.cell? ⟨(w.heap.size + 1), 31, none⟩ = some (.bool (boolI YT 31)) := by rw [V8.out.cell]; exact T8.out.bool 31 rfl
                have fz := V8.out.frozen
                have V9 := Lib.hid (show VarAt _ (w.heap.size + 1) (upd YT [(31, .bool false)]) 39 from (V8.out.set 31 (.bool false)))
                have C9 := Lib.hid (C8.out.set_other (p := ⟨(w.heap.size + 1), 31, none⟩) (by simp) (.bool false))
                have B9 := Lib.hid (B8.out.setCell (p := ⟨(w.heap.size + 1), 31, none⟩) (by simp) (.bool false))
                have K9 := Lib.hid (K8.out.set_other (p := ⟨(w.heap.size + 1), 31, none⟩) (by simp) (.bool false))
                have T9 := Lib.hid (show Typed (upd YT [(31, .bool false)]) from upd_typed _ T8.out (by
                  simp only [List.mem_cons, List.not_mem_nil, or_false]
                  rintro p rfl
                  exact isB rfl _))
                rw [← hU2.out] at V9 T9
                clear hU2
                go_wp2_with (with_reducible refine stopL 39 _ rfl ?_)
                refine Lib.hid ?_
                refine wpList_load_whole uP rfl sP rfl _ rfl rfl (range_whole V9.out) T9.out.1 ?_
                refine wpList_store_only sP rfl _ _ rfl rfl rfl C9.out T9.out.one T9.out.1 (by rw [zs.out]; omega) ?_
                intro w99 hv ho
                rw [putL_all _ _ (by rw [zs.out, T9.out.1])] at hv
                have V99 := Lib.hid hv
                have B99 := Lib.hid (B9.out.trans (ho.below (by omega) B9.out.size))
                clear hv ho
                go_wp2_with (with_reducible refine stopE ?_)
                refine Lib.hid ?_
                exact bodyPost_ret (v := .agg U) (results_cell_row (p := 4) (ty := 39) rfl _ _ (w.heap.size + 2) 39 _ (0, 0) _ rfl V99.out uP rfl (by rw [sP]; simp [T9.out.1])) rfl ⟨rfl, B99.out⟩
        · have e4_ : (n == 4) = false := by simpa using q4
          have hD := HD4.out
          simp [e1_, e2_, e3_, e4_] at hD
          have hU := HX.out
          rw [hD] at hU
          have hU2 := Lib.hid hU
          clear hD HD4 HX hU q1 q2 q3 q4
          have s31 : w5.cell? ⟨(w.heap.size + 1), 31, none⟩ = some (.bool (boolI Z3 31)) := by rw [V5.out.cell]; exact TZ3.out.bool 31 rfl
          have fz := V5.out.frozen
          have V6 := Lib.hid (show VarAt _ (w.heap.size + 1) (upd Z3 [(31, .bool false)]) 39 from (V5.out.set 31 (.bool false)))
          have C6 := Lib.hid (C5.out.set_other (p := ⟨(w.heap.size + 1), 31, none⟩) (by simp) (.bool false))
          have B6 := Lib.hid (B5.out.setCell (p := ⟨(w.heap.size + 1), 31, none⟩) (by simp) (.bool false))
          have K6 := Lib.hid (K5.out.set_other (p := ⟨(w.heap.size + 1), 31, none⟩) (by simp) (.bool false))
          have T6 := Lib.hid (show Typed (upd Z3 [(31, .bool false)]) from upd_typed _ TZ3.out (by
            simp only [List.mem_cons, List.not_mem_nil, or_false]
            rintro p rfl
            exact isB rfl _))
          have R6 := Lib.hid (show Rg (upd Z3 [(31, .bool false)]) from RZ3.out.upd TZ3.out.1 rfl)
          rw [← hU2.out] at V6 T6
          clear hU2
          go_wp2_with (with_reducible refine stopL 39 _ rfl ?_)
          refine Lib.hid ?_
          refine wpList_load_whole uP rfl sP rfl _ rfl rfl (range_whole V6.out) T6.out.1 ?_
          refine wpList_store_only sP rfl _ _ rfl rfl rfl C6.out T6.out.one T6.out.1 (by rw [zs.out]; omega) ?_
          intro w99 hv ho
          rw [putL_all _ _ (by rw [zs.out, T6.out.1])] at hv
          have V99 := Lib.hid hv
          have B99 := Lib.hid (B6.out.trans (ho.below (by omega) B6.out.size))
          clear hv ho
          go_wp2_with (with_reducible refine stopE ?_)
          refine Lib.hid ?_
          exact bodyPost_ret (v := .agg U) (results_cell_row (p := 4) (ty := 39) rfl _ _ (w.heap.size + 2) 39 _ (0, 0) _ rfl V99.out uP rfl (by rw [sP]; simp [T6.out.1])) rfl ⟨rfl, B99.out⟩
end Go.Proofs.YtjfdochceejegaaDoor
