/- InfoHears' call. -/
import Derived.Test.YtjfdochceejegaaDoorVg
import Derived.Test.YtjfdochceejegaaDoorDo
import Derived.Test.YtjfdochceejegaaDoorLa
import Derived.Test.YtjfdochceejegaaDoorVt
namespace Go.Proofs.YtjfdochceejegaaDoor
open Go.RowKit Go.Sort

set_option maxRecDepth 20000 in
set_option maxHeartbeats 8000000 in
theorem hears_any (B : Bd) (s : Value) (n : Nat) (i : Int) (XS : Nat → Array Value) (k : Int) (f r c b p a m h d : Nat) (w : World) (hs : PIn w s n XS) (ht : ∀ i, i < n → Typed (XS i)) (hr : ∀ i, i < n → Rg (XS i)) (lf : f < 256) (lb : b < 18446744073709551616) (lp : p < 65536) (la : a < 65536) (lm : m < 65536) (lh : h < 65536) (ld : d < 65536) (he : Env w) :
    Calls Tryd.prog 5 #[.agg (B.cells s), .int .i64 i, .agg #[.int .i64 k, .int .u8 f, .int .u64 r, .int .u32 c, .int .u64 b, .int .u16 p, .int .u16 a, .int .u16 m, .int .u16 h, .int .u16 d]] w fun e w' => e = .returned (.bool true) ∧ Below w.heap.size w w' := by
  have hx : ∀ i, i < n → (XS i).size = 90 := fun i hi => (ht i hi).1
  obtain ⟨sa, sc, rfl⟩ : ∃ a c, s = .slice a n c := by obtain ⟨a, c, rfl, _⟩ := hs; exact ⟨a, c, rfl⟩
  obtain ⟨MM, hMM⟩ : ∃ MM : Array Value, MM = #[.int .i64 k, .int .u8 f, .int .u64 r, .int .u32 c, .int .u64 b, .int .u16 p, .int .u16 a, .int .u16 m, .int .u16 h, .int .u16 d] := ⟨_, rfl⟩
  rw [← hMM]
  have HMM := Lib.hid hMM
  have HM10 := Lib.hid (show MM.size = 10 by rw [hMM]; rfl)
  have HM1 := Lib.hid (show MM.all (·.oneCell') = true by rw [hMM]; simp [Value.oneCell'])
  have hv0 := Lib.hid ((var_new w (B.cells (.slice sa n sc)) 47).alloc (.cells MM 36))
  have hm0 := Lib.hid (show VarAt ((w.alloc (.cells (B.cells (.slice sa n sc)) 47)).alloc (.cells MM 36)) (w.heap.size + 1) MM 36 by
    have := var_new (w.alloc (.cells (B.cells (.slice sa n sc)) 47)) MM 36
    rwa [alloc_size] at this)
  have hB0 := Lib.hid ((box_below w (.cells (B.cells (.slice sa n sc)) 47)).alloc (by rw [alloc_size]; omega) (.cells MM 36))
  have HX := Lib.hid hx
  have HT := Lib.hid ht
  have HRR := Lib.hid hr
  have HSW := Lib.hid hs
  have HENV := Lib.hid he
  have HC18 := Lib.hid (show (B.cells (.slice sa n sc)).size = 18 by simp)
  have HC17 := Lib.hid (show (B.cells (.slice sa n sc))[17]? = some (.slice sa n sc) by simp)
  obtain ⟨D, hD⟩ : ∃ D : Nat → Nat → Array Value, ∀ p c, D p c = B.cells (.slice (some ⟨p, 0, none⟩) n c) := ⟨_, fun _ _ => rfl⟩
  have HD := Lib.hid hD
  have HDz := Lib.hid (fun p c => show (D p c).size = 18 by rw [hD]; simp)
  have HDs := Lib.hid (fun p c => show (D p c)[17]? = some (.slice (some ⟨p, 0, none⟩) n c) by rw [hD]; simp)
  have HDo := Lib.hid (fun p c => show (D p c).all (·.oneCell') = true by rw [hD]; exact B.one rfl)
  have kF := Lib.hid (fun w => fits_any B (.slice sa n sc) n XS w)
  have kCp := Lib.hid (fun (hn : n ≤ 20) w (h : PIn w (.slice sa n sc) n XS) => show Calls Tryd.prog 15 #[.agg (B.cells (.slice sa n sc))] w fun e w' => ∃ pb cap, e = .returned (.agg (D pb cap)) ∧ Kept3 w w' pb n XS ∧ Below w.heap.size w w' by
    simp only [hD]; exact copy_any B (.slice sa n sc) n XS w h hn ht)
  have kCp2 := Lib.hid (fun (hn : n ≤ 20) pb cap (YS : Nat → Array Value) (hy : ∀ i, i < n → Typed (YS i)) w (h : PIn w (.slice (some ⟨pb, 0, none⟩) n cap) n YS) => show Calls Tryd.prog 15 #[.agg (D pb cap)] w fun e w' => ∃ pb cap, e = .returned (.agg (D pb cap)) ∧ Kept3 w w' pb n YS ∧ Below w.heap.size w w' by
    simp only [hD]; exact copy_any B (.slice (some ⟨pb, 0, none⟩) n cap) n YS w h hn hy)
  have kG := Lib.hid (fun (hn : n ≤ 20) k pb cap (YS : Nat → Array Value) (hk : k < n) (hy : ∀ i, i < n → Typed (YS i)) (hr : Rg (YS k)) w (h : PIn w (.slice (some ⟨pb, 0, none⟩) n cap) n YS) => show Calls Tryd.prog 14 #[.agg (D pb cap), .int .i64 k] w fun e w' => Ret B n (at1 YS k (stepX B.rs (YS k)).2) (stepX B.rs (YS k)).1 w e w' by
    simp only [hD]; exact refstep_some B (.slice (some ⟨pb, 0, none⟩) n cap) n k YS w h hk hn hy hr)
  have kSm := Lib.hid (fun (hn : n ≤ 20) (YS : Nat → Array Value) (hy : ∀ i, i < n → Typed (YS i)) p1 c1 s2 w h1 h2 => show Calls Tryd.prog 16 #[.agg (D p1 c1), .agg (B.cells s2)] w fun e w' => e = .returned (.bool true) ∧ Below w.heap.size w w' by
    simp only [hD]; exact same_pin B (.slice (some ⟨p1, 0, none⟩) n c1) s2 n YS w h1 h2 hy hn)
  have HE18 := Lib.hid (fun s => (show (B.cells s).size = 18 by simp))
  have HE1 := Lib.hid (fun s (h : s.oneCell' = true) => B.one (s := s) h)
  have kZ := Lib.hid zero34
  have zs := Lib.hid z34_size
  clear hs ht hx hD he hr hMM
  generalize z34 = Z at *
  generalize hCC : B.cells (.slice sa n sc) = C at *
  clear hCC
  go_enter Tryd.func5, Tryd.ntmps5
  go_wp2_with fail
  generalize (w.alloc (.cells C 47)).alloc (.cells MM 36) = w0 at *
  refine (livesL_any _ (HENV.out.below hB0.out)).mono ?_
  rintro e w1 ⟨rfl, hb⟩
  have V1 := Lib.hid (hv0.out.below hb hv0.out.lt)
  have M1 := Lib.hid (hm0.out.below hb hm0.out.lt)
  have B1 := Lib.hid (hB0.out.trans (hb.mono hB0.out.size))
  clear hb hv0 hB0 hm0
  go_wp2_with (with_reducible refine stopL 47 _ rfl ?_)
  refine Lib.hid ?_
  refine guarded_load (by rfl) _ rfl rfl V1.out HC18.out ?_
  go_wp2_with fail
  refine (kF.out _ (HSW.out.below HX.out B1.out) HT.out).mono ?_
  rintro e w2 ⟨⟨q, rfl, hqn⟩, hb⟩
  have V2 := Lib.hid (V1.out.below hb V1.out.lt)
  have M2 := Lib.hid (M1.out.below hb M1.out.lt)
  have B2 := Lib.hid (B1.out.trans (hb.mono B1.out.size))
  have c17 : w2.cell? ⟨w.heap.size, 17, none⟩ = some (.slice sa n sc) := by rw [V2.out.cell]; exact HC17.out
  clear hb V1 B1 M1 kF
  cases q
  · go_wp2_with fail
    refine (livesL_any _ (HENV.out.below B2.out)).mono ?_
    rintro e w3 ⟨rfl, hb⟩
    have B3 := Lib.hid (B2.out.trans (hb.mono B2.out.size))
    clear hb
    go_wp2_with fail
    go_ret
    exact ⟨rfl, B3.out⟩
  · have hn := hqn rfl
    clear hqn
    by_cases h0 : i < 0
    · go_wp2_with fail
      refine (livesL_any _ (HENV.out.below B2.out)).mono ?_
      rintro e w3 ⟨rfl, hb⟩
      have B3 := Lib.hid (B2.out.trans (hb.mono B2.out.size))
      clear hb
      go_wp2_with fail
      go_ret
      exact ⟨rfl, B3.out⟩
    · by_cases h1 : (n : Int) ≤ i
      · go_wp2_with fail
        refine (livesL_any _ (HENV.out.below B2.out)).mono ?_
        rintro e w3 ⟨rfl, hb⟩
        have B3 := Lib.hid (B2.out.trans (hb.mono B2.out.size))
        clear hb
        go_wp2_with fail
        go_ret
        exact ⟨rfl, B3.out⟩
      · obtain ⟨j, rfl⟩ : ∃ j : Nat, i = j := ⟨i.toNat, by omega⟩
        have hj : j < n := by omega
        have P2 := Lib.hid (HSW.out.below HX.out B2.out)
        go_wp2_with (with_reducible refine stopL 47 _ rfl ?_)
        refine Lib.hid ?_
        refine wpList_load_whole uB rfl sB rfl _ rfl rfl (range_whole V2.out) HC18.out ?_
        go_wp2_with fail
        refine (kCp.out hn _ P2.out).mono ?_
        rintro e w3 ⟨p1, c1, rfl, hk3, hb⟩
        have Q3 := Lib.hid (show ∃ A, VarAt w3 p1 A 39 ∧ n * 90 ≤ A.size ∧ ∀ i, i < n → Sub A (i * 90) (XS i) from ⟨_, hk3.choose_spec.1, hk3.choose_spec.2.1, hk3.choose_spec.2.2.1⟩)
        have hlp : w.heap.size + 1 < p1 := by have h1 := hk3.choose_spec.2.2.2; have h2 := M2.out.lt; omega
        have M3 := Lib.hid (M2.out.below hb M2.out.lt)
        have B3 := Lib.hid (B2.out.trans (hb.mono B2.out.size))
        clear hb hk3 V2 M2 B2 P2 c17 kCp HC18 HC17 HSW
        have zz := kZ.out
        go_wp2_with (with_reducible refine stopS 47 _ _ rfl ?_)
        refine Lib.hid ?_
        clear zz
        refine wpList_store_only sB rfl _ _ rfl rfl rfl (var_new w3 Z 47) (HDo.out _ _) (HDz.out _ _) (by rw [zs.out]; omega) ?_
        intro w4 hv ho
        simp only [Act.put]
        rw [putL_all _ _ (by rw [zs.out, HDz.out])] at hv
        have hb4 : Below w3.heap.size w3 w4 := (box_below w3 _).trans (ho.below (Nat.le_refl _) (by rw [alloc_size]; omega))
        have VX4 := Lib.hid hv
        have M4 := Lib.hid (M3.out.below hb4 M3.out.lt)
        have Q4 := Lib.hid (show ∃ A, VarAt w4 p1 A 39 ∧ n * 90 ≤ A.size ∧ ∀ i, i < n → Sub A (i * 90) (XS i) by obtain ⟨A, a1, a2⟩ := Q3.out; exact ⟨A, a1.below hb4 a1.lt, a2⟩)
        have hxw : w.heap.size + 1 < w3.heap.size := M3.out.lt
        have hpx : p1 < w3.heap.size := by obtain ⟨A, a1, _⟩ := Q3.out; exact a1.lt
        have B4 := Lib.hid (B3.out.trans (hb4.mono B3.out.size))
        clear hv ho hb4 M3 Q3 B3
        generalize w3.heap.size = ex at *
        have BX4 := Lib.hid (show Br w4 B ex p1 n c1 XS from ⟨by rw [← HD.out]; exact VX4.out, Q4.out⟩)
        have PT := Lib.hid (BX4.out.pt hj)
        have c17 : w4.cell? ⟨ex, 17, none⟩ = some (.slice (some ⟨p1, 0, none⟩) n c1) := by rw [VX4.out.cell]; exact HDs.out _ _
        have i4 := idx32b p1 n c1 j hj
        have TJ := Lib.hid (HT.out j hj)
        clear Q4
        go_wp2_with fail
        clear c17
        refine wp_region_held_drew (S := fun w' => VarAt w' (w.heap.size + 1) MM 36) (by kernel_rfl) M4.out.drew (fun hS => ?_)
        have MV0 := Lib.hid ((Mv.refl w4 p1 (j * 90) (XS j)).drew)
        generalize w4.drew = v0 at *
        refine wpAnyH_take (i := 0) (v := .pointer (some ⟨p1, j * 90, none⟩)) rfl (by kernel_rfl) (by kernel_rfl) (by kernel_rfl) (fun _ _ _ h => h) (Or.inl ⟨by rfl, ?_⟩) hS ?_
        · (intro w9 hS9; go_simp; try with_reducible rfl)
        simp only [Act.put, List.getElem_toArray, List.getElem_cons_zero, List.setIfInBounds_toArray, List.set_cons_zero, List.set_cons_succ]
        refine wpAnyH_take (i := 1) (v := .pointer (some ⟨p1, j * 90, none⟩)) rfl (by kernel_rfl) (by kernel_rfl) (by kernel_rfl) (fun _ _ _ h => h) (Or.inl ⟨by rfl, ?_⟩) hS ?_
        · (intro w9 hS9; go_simp; try with_reducible rfl)
        simp only [Act.put, List.getElem_toArray, List.getElem_cons_zero, List.getElem_cons_succ, List.setIfInBounds_toArray, List.set_cons_zero, List.set_cons_succ]
        refine wpAnyH_take (i := 2) (v := .pointer (some ⟨p1, j * 90, none⟩)) rfl (by kernel_rfl) (by kernel_rfl) (by kernel_rfl) (fun _ _ _ h => h) (Or.inl ⟨by rfl, ?_⟩) hS ?_
        · (intro w9 hS9; go_simp; try with_reducible rfl)
        simp only [Act.put, List.getElem_toArray, List.getElem_cons_zero, List.getElem_cons_succ, List.setIfInBounds_toArray, List.set_cons_zero, List.set_cons_succ]
        refine wpAnyH_take (i := 3) (v := .pointer (some ⟨p1, j * 90, none⟩)) rfl (by kernel_rfl) (by kernel_rfl) (by kernel_rfl) (fun _ _ _ h => h) (Or.inl ⟨by rfl, ?_⟩) hS ?_
        · (intro w9 hS9; go_simp; try with_reducible rfl)
        simp only [Act.put, List.getElem_toArray, List.getElem_cons_zero, List.getElem_cons_succ, List.setIfInBounds_toArray, List.set_cons_zero, List.set_cons_succ]
        refine wpAnyH_take (i := 4) (v := .pointer (some ⟨p1, j * 90, none⟩)) rfl (by kernel_rfl) (by kernel_rfl) (by kernel_rfl) (fun _ _ _ h => h) (Or.inl ⟨by rfl, ?_⟩) hS ?_
        · (intro w9 hS9; go_simp; try with_reducible rfl)
        simp only [Act.put, List.getElem_toArray, List.getElem_cons_zero, List.getElem_cons_succ, List.setIfInBounds_toArray, List.set_cons_zero, List.set_cons_succ]
        refine wpAnyH_take (i := 5) (v := .agg MM) rfl (by kernel_rfl) (by kernel_rfl) (by kernel_rfl) (fun _ _ _ h => h) (yields_T uM rfl sM (by rfl) _ rfl rfl (fun w9 h9 => range_whole h9) HM10.out) hS ?_
        simp only [Act.put, List.getElem_toArray, List.getElem_cons_zero, List.getElem_cons_succ, List.setIfInBounds_toArray, List.set_cons_zero, List.set_cons_succ]
        have PT0 := Lib.hid (PT.out.mv MV0.out)
        have TT0 := Lib.hid TJ.out
        refine wpAnyH_take (i := 6) (v := .pointer (some ⟨p1, j * 90, none⟩)) rfl (by kernel_rfl) (by kernel_rfl) (by kernel_rfl) (fun _ _ _ h => h) (Or.inl ⟨by rfl, ?_⟩) hS ?_
        · (intro w9 hS9; go_simp; try with_reducible rfl)
        simp only [Act.put, List.getElem_toArray, List.getElem_cons_zero, List.getElem_cons_succ, List.setIfInBounds_toArray, List.set_cons_zero, List.set_cons_succ]
        refine wpAnyH_take (i := 7) (v := .pointer (some ⟨p1, j * 90 + 2, none⟩)) rfl (by kernel_rfl) (by kernel_rfl) (by kernel_rfl) (fun _ _ _ h => h) (Or.inl ⟨by rfl, ?_⟩) hS ?_
        · (intro w9 hS9; go_simp; try with_reducible rfl)
        simp only [Act.put, List.getElem_toArray, List.getElem_cons_zero, List.getElem_cons_succ, List.setIfInBounds_toArray, List.set_cons_zero, List.set_cons_succ]
        refine wpAnyH_ready (rs := [8]) (by kernel_rfl) (by simp) (AllReadyH.cons rfl (fun K hK => ?_) AllReadyH.nil)
        have s0 := PT0.out.bool TT0.out 2 rfl
        have fz := PT0.out.frozen
        have MV1 := Lib.hid (show Mv w4 _ p1 (j * 90) (XS j) (upd (XS j) [(2, .bool true)]) from MV0.out.set 2 (by omega) (.bool true))
        have PT1 := Lib.hid (PT.out.mv MV1.out)
        have TT1 := Lib.hid (show Typed (upd (XS j) [(2, .bool true)]) from upd_typed _ TJ.out (by
          simp only [List.mem_cons, List.not_mem_nil, or_false]
          rintro p rfl
          exact isB rfl _))
        have M5_ := Lib.hid (show VarAt _ (w.heap.size + 1) MM 36 from (hS.set_other (p := ⟨p1, j * 90 + 2, none⟩) (by simp; omega) (.bool true)))
        go_simp
        refine hK _ _ M5_.out (fun hS => ?_)
        clear hK K s0 fz M5_ MV0 TT0 PT0
        generalize v0.setCell ⟨p1, j * 90 + 2, none⟩ (.bool true) = v1 at *
        refine wpAnyH_take (i := 9) (v := .pointer (some ⟨p1, j * 90, none⟩)) rfl (by kernel_rfl) (by kernel_rfl) (by kernel_rfl) (fun _ _ _ h => h) (Or.inl ⟨by rfl, ?_⟩) hS ?_
        · (intro w9 hS9; go_simp; try with_reducible rfl)
        simp only [Act.put, List.getElem_toArray, List.getElem_cons_zero, List.getElem_cons_succ, List.setIfInBounds_toArray, List.set_cons_zero, List.set_cons_succ]
        refine wpAnyH_take (i := 10) (v := .pointer (some ⟨p1, j * 90 + 86, none⟩)) rfl (by kernel_rfl) (by kernel_rfl) (by kernel_rfl) (fun _ _ _ h => h) (Or.inl ⟨by rfl, ?_⟩) hS ?_
        · (intro w9 hS9; go_simp; try with_reducible rfl)
        simp only [Act.put, List.getElem_toArray, List.getElem_cons_zero, List.getElem_cons_succ, List.setIfInBounds_toArray, List.set_cons_zero, List.set_cons_succ]
        refine wpAnyH_ready (rs := [11]) (by kernel_rfl) (by simp) (AllReadyH.cons rfl (fun K hK => ?_) AllReadyH.nil)
        have s0 := PT1.out.numk TT1.out 86 .i64 rfl
        have fz := PT1.out.frozen
        have MV2 := Lib.hid (show Mv w4 _ p1 (j * 90) (XS j) (upd (XS j) [(2, .bool true), (86, .int .i64 2)]) from MV1.out.set 86 (by omega) (.int .i64 2))
        have PT2 := Lib.hid (PT.out.mv MV2.out)
        have TT2 := Lib.hid (show Typed (upd (XS j) [(2, .bool true), (86, .int .i64 2)]) from upd_typed _ TJ.out (by
          simp only [List.mem_cons, List.not_mem_nil, or_false]
          rintro p (rfl | rfl)
          · exact isB rfl _
          · exact isK rfl _))
        have M5_ := Lib.hid (show VarAt _ (w.heap.size + 1) MM 36 from (hS.set_other (p := ⟨p1, j * 90 + 86, none⟩) (by simp; omega) (.int .i64 2)))
        go_simp
        refine hK _ _ M5_.out (fun hS => ?_)
        clear hK K s0 fz M5_ MV1 TT1 PT1
        generalize v1.setCell ⟨p1, j * 90 + 86, none⟩ (.int .i64 2) = v2 at *
        refine wpAnyH_take (i := 12) (v := .pointer (some ⟨p1, j * 90, none⟩)) rfl (by kernel_rfl) (by kernel_rfl) (by kernel_rfl) (fun _ _ _ h => h) (Or.inl ⟨by rfl, ?_⟩) hS ?_
        · (intro w9 hS9; go_simp; try with_reducible rfl)
        simp only [Act.put, List.getElem_toArray, List.getElem_cons_zero, List.getElem_cons_succ, List.setIfInBounds_toArray, List.set_cons_zero, List.set_cons_succ]
        refine wpAnyH_take (i := 13) (v := .pointer (some ⟨p1, j * 90 + 43, none⟩)) rfl (by kernel_rfl) (by kernel_rfl) (by kernel_rfl) (fun _ _ _ h => h) (Or.inl ⟨by rfl, ?_⟩) hS ?_
        · (intro w9 hS9; go_simp; try with_reducible rfl)
        simp only [Act.put, List.getElem_toArray, List.getElem_cons_zero, List.getElem_cons_succ, List.setIfInBounds_toArray, List.set_cons_zero, List.set_cons_succ]
        refine wpAnyH_ready (rs := [14]) (by kernel_rfl) (by simp) (AllReadyH.cons rfl (fun K hK => ?_) AllReadyH.nil)
        have s0 := PT2.out.bool TT2.out 43 rfl
        have fz := PT2.out.frozen
        have MV3 := Lib.hid (show Mv w4 _ p1 (j * 90) (XS j) (upd (XS j) [(2, .bool true), (86, .int .i64 2), (43, .bool false)]) from MV2.out.set 43 (by omega) (.bool false))
        have PT3 := Lib.hid (PT.out.mv MV3.out)
        have TT3 := Lib.hid (show Typed (upd (XS j) [(2, .bool true), (86, .int .i64 2), (43, .bool false)]) from upd_typed _ TJ.out (by
          simp only [List.mem_cons, List.not_mem_nil, or_false]
          rintro p (rfl | rfl | rfl)
          · exact isB rfl _
          · exact isK rfl _
          · exact isB rfl _))
        have M5_ := Lib.hid (show VarAt _ (w.heap.size + 1) MM 36 from (hS.set_other (p := ⟨p1, j * 90 + 43, none⟩) (by simp; omega) (.bool false)))
        go_simp
        refine hK _ _ M5_.out (fun hS => ?_)
        clear hK K s0 fz M5_ MV2 TT2 PT2
        generalize v2.setCell ⟨p1, j * 90 + 43, none⟩ (.bool false) = v3 at *
        refine wpAnyH_take (i := 15) (v := .pointer (some ⟨p1, j * 90, none⟩)) rfl (by kernel_rfl) (by kernel_rfl) (by kernel_rfl) (fun _ _ _ h => h) (Or.inl ⟨by rfl, ?_⟩) hS ?_
        · (intro w9 hS9; go_simp; try with_reducible rfl)
        simp only [Act.put, List.getElem_toArray, List.getElem_cons_zero, List.getElem_cons_succ, List.setIfInBounds_toArray, List.set_cons_zero, List.set_cons_succ]
        refine wpAnyH_take (i := 16) (v := .pointer (some ⟨p1, j * 90 + 31, none⟩)) rfl (by kernel_rfl) (by kernel_rfl) (by kernel_rfl) (fun _ _ _ h => h) (Or.inl ⟨by rfl, ?_⟩) hS ?_
        · (intro w9 hS9; go_simp; try with_reducible rfl)
        simp only [Act.put, List.getElem_toArray, List.getElem_cons_zero, List.getElem_cons_succ, List.setIfInBounds_toArray, List.set_cons_zero, List.set_cons_succ]
        refine wpAnyH_ready (rs := [17]) (by kernel_rfl) (by simp) (AllReadyH.cons rfl (fun K hK => ?_) AllReadyH.nil)
        have s0 := PT3.out.bool TT3.out 31 rfl
        have fz := PT3.out.frozen
        have MV4 := Lib.hid (show Mv w4 _ p1 (j * 90) (XS j) (upd (XS j) [(2, .bool true), (86, .int .i64 2), (43, .bool false), (31, .bool true)]) from MV3.out.set 31 (by omega) (.bool true))
        have PT4 := Lib.hid (PT.out.mv MV4.out)
        have TT4 := Lib.hid (show Typed (upd (XS j) [(2, .bool true), (86, .int .i64 2), (43, .bool false), (31, .bool true)]) from upd_typed _ TJ.out (by
          simp only [List.mem_cons, List.not_mem_nil, or_false]
          rintro p (rfl | rfl | rfl | rfl)
          · exact isB rfl _
          · exact isK rfl _
          · exact isB rfl _
          · exact isB rfl _))
        have M5_ := Lib.hid (show VarAt _ (w.heap.size + 1) MM 36 from (hS.set_other (p := ⟨p1, j * 90 + 31, none⟩) (by simp; omega) (.bool true)))
        go_simp
        refine hK _ _ M5_.out (fun hS => ?_)
        clear hK K s0 fz M5_ MV3 TT3 PT3
        generalize v3.setCell ⟨p1, j * 90 + 31, none⟩ (.bool true) = v4 at *
        refine wpAnyH_take (i := 18) (v := .pointer (some ⟨p1, j * 90, none⟩)) rfl (by kernel_rfl) (by kernel_rfl) (by kernel_rfl) (fun _ _ _ h => h) (Or.inl ⟨by rfl, ?_⟩) hS ?_
        · (intro w9 hS9; go_simp; try with_reducible rfl)
        simp only [Act.put, List.getElem_toArray, List.getElem_cons_zero, List.getElem_cons_succ, List.setIfInBounds_toArray, List.set_cons_zero, List.set_cons_succ]
        refine wpAnyH_take (i := 19) (v := .pointer (some ⟨p1, j * 90 + 72, none⟩)) rfl (by kernel_rfl) (by kernel_rfl) (by kernel_rfl) (fun _ _ _ h => h) (Or.inl ⟨by rfl, ?_⟩) hS ?_
        · (intro w9 hS9; go_simp; try with_reducible rfl)
        simp only [Act.put, List.getElem_toArray, List.getElem_cons_zero, List.getElem_cons_succ, List.setIfInBounds_toArray, List.set_cons_zero, List.set_cons_succ]
        refine wpAnyH_ready (rs := [20]) (by kernel_rfl) (by simp) (AllReadyH.cons rfl (fun K hK => ?_) AllReadyH.nil)
        rw [if_pos (by rfl)]
        refine wp_store_mv sM _ _ rfl 72 rfl rfl PT4.out HM1.out HM10.out (by omega) ?_
        intro w5 hm
        simp only [Act.put]
        have MV5 := Lib.hid (show Mv w4 w5 p1 (j * 90) (XS j) (hrX k f r c b p a m h d (XS j)) from (by rw [HMM.out] at hm; exact MV4.out.trans hm))
        have M5 := Lib.hid (hm.only.var hS (by omega))
        refine hK _ _ M5.out (fun hS => ?_)
        clear hK K hm MV4 PT4 TT4 PT hS
        refine wpAnyH_done (by kernel_rfl) ?_ _
        clear M4 M5
        have BX5 := Lib.hid (BX4.out.mv hj MV5.out)
        have VX5 := Lib.hid (MV5.out.only.var VX4.out (by omega))
        have B5 := Lib.hid (B4.out.trans (MV5.out.only.below (by omega) B4.out.size))
        have TH := Lib.hid (hrX_typed k f r c b p a m h d TJ.out)
        have RH := Lib.hid (hrX_rg k f r c b p a m h d (HRR.out j hj) TJ.out.1 lf lb lp la lm lh ld)
        have SH := Lib.hid (step_hears B.rs k f r c b p a m h d TJ.out.1)
        clear MV5 VX4 BX4 B4 HMM HM10 HM1 HRR
        generalize hrX k f r c b p a m h d (XS j) = ys at *
        have H45 := Lib.hid (hearX_45 B.rs TH.out)
        have H31 := Lib.hid (hearX_31 B.rs TH.out)
        have THH := Lib.hid (hearX_typed B.rs TH.out)
        have HY := Lib.hid (at1_typed (k := j) HT.out TH.out)
        have HYH := Lib.hid (at1_typed (k := j) HY.out THH.out)
        have EJ := Lib.hid (at1_at XS j ys)
        generalize at1 XS j ys = YS at *
        have kN := Lib.hid (fun w => refnews_any ys w TH.out RH.out)
        have kG2 := Lib.hid (fun pb cap w h => kG.out hn j pb cap YS hj HY.out (by rw [EJ.out]; exact RH.out) w h)
        have kSt := Lib.hid (fun bb pb cap w hB hE => step_some B bb pb n cap j YS w hB hj (by rw [EJ.out]; exact TH.out) (by rw [EJ.out]; exact RH.out) hE)
        rw [EJ.out, SH.out] at kG2 kSt
        have kSm2 := Lib.hid (fun p1 c1 s2 w h1 h2 => kSm.out hn _ HYH.out p1 c1 s2 w h1 h2)
        clear kG kSm SH
        dsimp only at kG2 kSt
        generalize hearX B.rs ys = zs5 at *
        generalize hYZ : at1 YS j zs5 = ZS at *
        generalize newsX ys = nn at *
        have PX5 := Lib.hid BX5.out.pin
        go_wp2_with (with_reducible refine stopL 47 _ rfl ?_)
        refine Lib.hid ?_
        refine wpList_load_whole uB rfl sB rfl _ rfl rfl (range_whole VX5.out) (HDz.out _ _) ?_
        go_wp2_with fail
        refine (kCp2.out hn p1 c1 YS HY.out _ PX5.out).mono ?_
        rintro e w6 ⟨p2, c2, rfl, hk6, hb⟩
        have Q6 := Lib.hid (show ∃ A, VarAt w6 p2 A 39 ∧ n * 90 ≤ A.size ∧ ∀ i, i < n → Sub A (i * 90) (YS i) from ⟨_, hk6.choose_spec.1, hk6.choose_spec.2.1, hk6.choose_spec.2.2.1⟩)
        have hp2 : ex < p2 := by have h1 := hk6.choose_spec.2.2.2; have h2 := VX5.out.lt; omega
        have BX6 := Lib.hid (BX5.out.below hb)
        have B6 := Lib.hid (B5.out.trans (hb.mono B5.out.size))
        clear hb hk6 VX5 BX5 B5 PX5 kCp2
        have zz := kZ.out
        go_wp2_with (with_reducible refine stopS 47 _ _ rfl ?_)
        refine Lib.hid ?_
        clear zz
        refine wpList_store_only sB rfl _ _ rfl rfl rfl (var_new w6 Z 47) (HDo.out _ _) (HDz.out _ _) (by rw [zs.out]; omega) ?_
        intro w7 hv ho
        simp only [Act.put]
        rw [putL_all _ _ (by rw [zs.out, HDz.out])] at hv
        have hb7 : Below w6.heap.size w6 w7 := (box_below w6 _).trans (ho.below (Nat.le_refl _) (by rw [alloc_size]; omega))
        have VY7 := Lib.hid hv
        have BX7 := Lib.hid (BX6.out.below hb7)
        have Q7 := Lib.hid (show ∃ A, VarAt w7 p2 A 39 ∧ n * 90 ≤ A.size ∧ ∀ i, i < n → Sub A (i * 90) (YS i) by obtain ⟨A, a1, a2⟩ := Q6.out; exact ⟨A, a1.below hb7 a1.lt, a2⟩)
        have hyw : ex < w6.heap.size := BX6.out.hb.lt
        have hpy : p2 < w6.heap.size := by obtain ⟨A, a1, _⟩ := Q6.out; exact a1.lt
        have B7 := Lib.hid (B6.out.trans (hb7.mono B6.out.size))
        clear hv ho hb7 BX6 Q6 B6
        generalize w6.heap.size = ey at *
        go_wp2_with fail
        refine (kSt.out ex p1 c1 _ BX7.out (HENV.out.below B7.out)).mono ?_
        rintro e w8 ⟨rfl, hm⟩
        rw [← EJ.out] at hm
        have BX8 := Lib.hid (BX7.out.mv hj hm)
        rw [hYZ] at BX8
        have VY8 := Lib.hid (hm.only.var VY7.out (by omega))
        have Q8 := Lib.hid (show ∃ A, VarAt w8 p2 A 39 ∧ n * 90 ≤ A.size ∧ ∀ i, i < n → Sub A (i * 90) (YS i) by obtain ⟨A, a1, a2⟩ := Q7.out; exact ⟨A, hm.only.var a1 (by omega), a2⟩)
        have B8 := Lib.hid (B7.out.trans (hm.only.below (by omega) B7.out.size))
        have PY8 := Lib.hid (pin_of (cap := c2) Q8.out)
        clear hm BX7 VY7 Q7 B7 kSt
        go_wp2_with (with_reducible refine stopL 47 _ rfl ?_)
        refine Lib.hid ?_
        refine wpList_load_whole uB rfl sB rfl _ rfl rfl (range_whole VY8.out) (HDz.out _ _) ?_
        go_wp2_with fail
        refine (kG2.out p2 c2 _ PY8.out).mono ?_
        rintro e w9 ⟨s5, rfl, hp5, hb⟩
        have PZ9 := Lib.hid hp5
        have hs5 : s5.oneCell' = true := by obtain ⟨a5, c5, rfl, _⟩ := hp5; rfl
        have B9 := Lib.hid (B8.out.trans (hb.mono B8.out.size))
        have BX9 := Lib.hid (BX8.out.below hb)
        have VY9 := Lib.hid (VY8.out.below hb VY8.out.lt)
        have Q9 := Lib.hid (show ∃ A, VarAt w9 p2 A 39 ∧ n * 90 ≤ A.size ∧ ∀ i, i < n → Sub A (i * 90) (YS i) by obtain ⟨A, a1, a2⟩ := Q8.out; exact ⟨A, a1.below hb a1.lt, a2⟩)
        have hO5 := Lib.hid (HE1.out s5 hs5)
        have hC5 := Lib.hid (HE18.out s5)
        have cS0 := Lib.hid (fun w h1 h2 => kSm2.out p1 c1 s5 w h1 h2)
        clear hb hp5 hs5 BX8 VY8 Q8 B8 PY8 kG2 kSm2 HE1 HE18
        generalize B.cells s5 = E5 at *
        have zz := kZ.out
        go_wp2_with (with_reducible refine stopS 47 _ _ rfl ?_)
        refine Lib.hid ?_
        clear zz
        refine wpList_store_only sB rfl _ _ rfl rfl rfl (var_new w9 Z 47) hO5.out hC5.out (by rw [zs.out]; omega) ?_
        intro w10 hv ho
        simp only [Act.put]
        rw [putL_all _ _ (by rw [zs.out, hC5.out])] at hv
        have hbA : Below w9.heap.size w9 w10 := (box_below w9 _).trans (ho.below (Nat.le_refl _) (by rw [alloc_size]; omega))
        have VZ := Lib.hid hv
        have PZ := Lib.hid (PZ9.out.below (fun i hi => (HYH.out i hi).1) hbA)
        have BXA := Lib.hid (BX9.out.below hbA)
        have VYA := Lib.hid (VY9.out.below hbA VY9.out.lt)
        have QA := Lib.hid (show ∃ A, VarAt w10 p2 A 39 ∧ n * 90 ≤ A.size ∧ ∀ i, i < n → Sub A (i * 90) (YS i) by obtain ⟨A, a1, a2⟩ := Q9.out; exact ⟨A, a1.below hbA a1.lt, a2⟩)
        have BA := Lib.hid (B9.out.trans (hbA.mono B9.out.size))
        clear hv ho hbA PZ9 BX9 VY9 Q9 B9
        generalize w9.heap.size = ez at *
        have VXA := Lib.hid (show VarAt w10 ex (D p1 c1) 47 by rw [HD.out]; exact BXA.out.hb)
        have hZJ : ZS j = zs5 := by rw [← hYZ, at1_at]
        have PXA := Lib.hid (BXA.out.pt hj)
        rw [hZJ] at PXA
        have HYR := Lib.hid (show ∀ w', Below w10.heap.size w10 w' → w'.rangeAt p2 (j * 90) ys.toList by
          intro w' hb j2 v hj2
          obtain ⟨A, a1, _, a3⟩ := QA.out
          have hj' : j2 < 90 := by rw [← TH.out.1]; simpa using (List.getElem?_eq_some_iff.1 hj2).1
          rw [(a1.below hb a1.lt).cell, a3 j hj j2 hj', EJ.out]; simpa using hj2)
        have q1 := fun d os => (VXA.out.grown d os).cell 17
        have q4 := fun d os => (VYA.out.grown d os).cell 17
        simp only [HDs.out] at q1 q4
        have q2 := fun d os => (PXA.out.grown d os).bool THH.out 31 rfl
        have q3 := fun d os => (PXA.out.grown d os).numk THH.out 45 .i64 rfl
        simp only [H31.out, H45.out] at q2 q3
        have i6 := idx32b p2 n c2 j hj
        have cS := fun d os => Calls.regrown_of (w := w10) (d := d) (os := os) (cS0.out _ (BXA.out.pin.below (fun i hi => (HYH.out i hi).1) (below_regrown w10 d os)) (PZ.out.below (fun i hi => (HYH.out i hi).1) (below_regrown w10 d os)))
        have cN := fun d os => Calls.regrown_of (w := w10) (d := d) (os := os) (kN.out _)
        clear h0 h1 hlp hxw hpx
        go_wp2_with fail
        refine wp_region_quiet_below (by kernel_rfl) (by kernel_rfl) ?_
        iterate 5 (go_big_quiet_step (fail))
        refine quiet_loadT uB rfl sB (by rfl) _ rfl rfl (fun w9 ⟨p9, e9⟩ => by rw [e9]; exact range_whole (VXA.out.grown _ _)) (HDz.out _ _) ?_
        simp only [Act.put, List.setIfInBounds_toArray, List.set_cons_zero, List.set_cons_succ]
        refine quiet_loadT uB rfl sB (by rfl) _ rfl rfl (fun w9 ⟨p9, e9⟩ => by rw [e9]; exact range_whole (VZ.out.grown _ _)) hC5.out ?_
        simp only [Act.put, List.setIfInBounds_toArray, List.set_cons_zero, List.set_cons_succ]
        iterate 22 (go_big_quiet_step (first | with_reducible exact cS _ _))
        refine quiet_loadT uP rfl sP (by rfl) _ rfl rfl (fun w9 ⟨p9, e9⟩ => by rw [e9]; exact HYR.out _ (below_regrown w10 _ _)) TH.out.1 ?_
        simp only [Act.put, List.setIfInBounds_toArray, List.set_cons_zero, List.set_cons_succ]
        repeat (go_big_quiet_step (first | with_reducible exact cN _ _))
        refine wpQuiet_nil ?_
        intro _ hw'
        obtain ⟨⟨dq, osq⟩, hw''⟩ := hw'
        subst hw''
        have BZ := Lib.hid (BA.out.trans ((below_regrown w10 dq osq).mono BA.out.size))
        clear q1 q2 q3 q4 cS cN i4 i6
        generalize grow (redrawn w10 dq) osq = w11 at *
        go_wp2_with fail
        go_ret
        exact ⟨rfl, BZ.out⟩
end Go.Proofs.YtjfdochceejegaaDoor
