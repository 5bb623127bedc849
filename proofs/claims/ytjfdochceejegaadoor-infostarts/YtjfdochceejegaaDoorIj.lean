/- Contracts of the program's hearSuperior, hearNotDesignated. -/
import Derived.Test.YtjfdochceejegaaDoorIi
namespace Go.Proofs.YtjfdochceejegaaDoor
open Go.RowKit Go.Sort

/-- HEAR where the news is NotDesignated. -/
def ndA (r : Bool) (xs : Array Value) : Array Value := if r && (boolI xs 5 && rstF xs 64) then upd xs [(16, .bool true), (27, .bool false)] else upd xs [(16, .bool false)]
theorem ndA_typed (r : Bool) {xs : Array Value} (h : Typed xs) : Typed (ndA r xs) := by
  unfold ndA
  split
  · refine upd_typed _ h ?_
    simp only [List.mem_cons, List.not_mem_nil, or_false]
    rintro p (rfl | rfl)
    · exact isB rfl _
    · exact isB rfl _
  · refine upd_typed _ h ?_
    simp only [List.mem_cons, List.not_mem_nil, or_false]
    rintro p rfl
    exact isB rfl _
theorem ndA_rg (r : Bool) {xs : Array Value} (h : Rg xs) (ht : Typed xs) : Rg (ndA r xs) := by
  unfold ndA
  split
  · exact h.upd ht.1 rfl
  · exact h.upd ht.1 rfl
theorem propX_rg {xs : Array Value} (h : Rg xs) (ht : Typed xs) : Rg (propX xs) := h.upd ht.1 rfl
theorem flagX_rg {xs : Array Value} (h : Rg xs) (ht : Typed xs) : Rg (flagX xs) := h.upd ht.1 rfl
def ndX (r : Bool) (xs : Array Value) : Array Value := flagX (ndA r xs)
theorem ndX_typed (r : Bool) {xs : Array Value} (h : Typed xs) : Typed (ndX r xs) := flagX_typed (ndA_typed r h)
set_option maxHeartbeats 2000000 in
theorem hearNd_any (r : Bool) (pb o : Nat) (xs : Array Value) (w : World) (hp : Pt w pb o xs) (ht : Typed xs) (hr : Rg xs) : Calls Tryd.prog 48 #[.pointer (some ⟨pb, o, none⟩), .bool r] w fun e w' => e = .returned (.tuple #[]) ∧ Mv w w' pb o xs (ndX r xs) := by
  have kI := Lib.hid (fun w => rst_64 xs hr w)
  have kF := Lib.hid (fun X w (hp : Pt w pb o X) ht hr => takeFlags_any pb o X w hp ht hr)
  have HM := Lib.hid (fun w' (h : Pt w' pb o xs) => h.msg ht)
  have HZ := Lib.hid (msgC_size xs)
  have HP := Lib.hid hp
  have HT := Lib.hid ht
  have HR := Lib.hid hr
  have HD := Lib.hid (show ndA r xs = if r && (boolI xs 5 && rstF xs 64) then upd xs [(16, .bool true), (27, .bool false)] else upd xs [(16, .bool false)] from rfl)
  have TD := Lib.hid (ndA_typed r ht)
  have RD := Lib.hid (ndA_rg r hr ht)
  have M0 := Lib.hid (Mv.refl w pb o xs)
  have c5 := hp.bool ht 5 rfl
  unfold ndX
  clear hp ht hr
  generalize ndA r xs = Z at *
  generalize rstF xs 64 = q at *
  generalize boolI xs 5 = x5 at *
  generalize msgC xs = C at *
  cases r
  · have hD := HD.out
    simp at hD
    have s16 := HP.out.bool HT.out 16 rfl
    have fz := HP.out.frozen
    have MA := Lib.hid (show Mv w _ pb o xs (upd xs [(16, .bool false)]) from (M0.out.set 16 (by omega) (.bool false)))
    rw [← hD] at MA
    have PA := Lib.hid (show Pt _ pb o Z from (by rw [hD]; exact HP.out.mv ((Mv.refl w pb o xs).set 16 (by omega) (.bool false))))
    clear hD
    go_enter Tryd.func48, Tryd.ntmps48
    go_wp2_with fail
    refine (kF.out Z _ PA.out TD.out RD.out).mono ?_
    rintro e w9 ⟨rfl, hm⟩
    have M9 := Lib.hid (MA.out.trans hm)
    clear hm
    go_wp2_with fail
    go_end0
    exact ⟨rfl, M9.out⟩
  · cases x5
    · have hD := HD.out
      simp at hD
      have s16 := HP.out.bool HT.out 16 rfl
      have fz := HP.out.frozen
      have MA := Lib.hid (show Mv w _ pb o xs (upd xs [(16, .bool false)]) from (M0.out.set 16 (by omega) (.bool false)))
      rw [← hD] at MA
      have PA := Lib.hid (show Pt _ pb o Z from (by rw [hD]; exact HP.out.mv ((Mv.refl w pb o xs).set 16 (by omega) (.bool false))))
      clear hD
      go_enter Tryd.func48, Tryd.ntmps48
      go_wp2_with fail
      refine (kF.out Z _ PA.out TD.out RD.out).mono ?_
      rintro e w9 ⟨rfl, hm⟩
      have M9 := Lib.hid (MA.out.trans hm)
      clear hm
      go_wp2_with fail
      go_end0
      exact ⟨rfl, M9.out⟩
    · cases q
      · have hD := HD.out
        simp at hD
        go_enter Tryd.func48, Tryd.ntmps48
        go_wp2_with (with_reducible refine stopL 36 _ rfl ?_)
        refine Lib.hid ?_
        refine guarded_loadT uM rfl sM (by rfl) _ rfl rfl (HM.out _ HP.out) HZ.out ?_
        go_wp2_with fail
        refine (kI.out _).mono ?_
        rintro e w1 ⟨rfl, hb⟩
        have M1 := Lib.hid (Mv.of_below pb o xs hb)
        have P1 := Lib.hid (HP.out.below hb)
        clear hb c5
        have s16 := P1.out.bool HT.out 16 rfl
        have fz := P1.out.frozen
        have MA := Lib.hid (show Mv w _ pb o xs (upd xs [(16, .bool false)]) from (M1.out.set 16 (by omega) (.bool false)))
        rw [← hD] at MA
        have PA := Lib.hid (show Pt _ pb o Z from (by rw [hD]; exact P1.out.mv ((Mv.refl w1 pb o xs).set 16 (by omega) (.bool false))))
        clear hD
        go_wp2_with fail
        refine (kF.out Z _ PA.out TD.out RD.out).mono ?_
        rintro e w9 ⟨rfl, hm⟩
        have M9 := Lib.hid (MA.out.trans hm)
        clear hm
        go_wp2_with fail
        go_end0
        exact ⟨rfl, M9.out⟩
      · have hD := HD.out
        simp at hD
        go_enter Tryd.func48, Tryd.ntmps48
        go_wp2_with (with_reducible refine stopL 36 _ rfl ?_)
        refine Lib.hid ?_
        refine guarded_loadT uM rfl sM (by rfl) _ rfl rfl (HM.out _ HP.out) HZ.out ?_
        go_wp2_with fail
        refine (kI.out _).mono ?_
        rintro e w1 ⟨rfl, hb⟩
        have M1 := Lib.hid (Mv.of_below pb o xs hb)
        have P1 := Lib.hid (HP.out.below hb)
        clear hb c5
        have s16 := P1.out.bool HT.out 16 rfl
        have s27 := P1.out.bool HT.out 27 rfl
        have fz := P1.out.frozen
        have MA := Lib.hid (show Mv w _ pb o xs (upd xs [(16, .bool true), (27, .bool false)]) from ((M1.out.set 16 (by omega) (.bool true)).set 27 (by omega) (.bool false)))
        rw [← hD] at MA
        have PA := Lib.hid (show Pt _ pb o Z from (by rw [hD]; exact P1.out.mv (((Mv.refl w1 pb o xs).set 16 (by omega) (.bool true)).set 27 (by omega) (.bool false))))
        clear hD
        go_wp2_with fail
        refine (kF.out Z _ PA.out TD.out RD.out).mono ?_
        rintro e w9 ⟨rfl, hm⟩
        have M9 := Lib.hid (MA.out.trans hm)
        clear hm
        go_wp2_with fail
        go_end0
        exact ⟨rfl, M9.out⟩
/-- HEAR where the news is Superior. -/
def hsA (xs : Array Value) : Array Value := flagX (propX (upd xs [(16, .bool false), (27, .bool false)]))
theorem hsA_typed {xs : Array Value} (h : Typed xs) : Typed (hsA xs) := flagX_typed (propX_typed (upd_typed _ h (by
  simp only [List.mem_cons, List.not_mem_nil, or_false]
  rintro p (rfl | rfl)
  · exact isB rfl _
  · exact isB rfl _)))
theorem hsA_rg {xs : Array Value} (h : Rg xs) (ht : Typed xs) : Rg (hsA xs) := by
  have t1 : Typed (upd xs [(16, .bool false), (27, .bool false)]) := upd_typed _ ht (by
    simp only [List.mem_cons, List.not_mem_nil, or_false]
    rintro p (rfl | rfl)
    · exact isB rfl _
    · exact isB rfl _)
  exact flagX_rg (propX_rg (h.upd ht.1 rfl) t1) (propX_typed t1)
def hsB (X : Array Value) : Array Value := upd X [(15, .bool (boolI X 15 && bosX3 X))]
theorem hsB_typed {X : Array Value} (h : Typed X) : Typed (hsB X) := upd_typed _ h (by
  simp only [List.mem_cons, List.not_mem_nil, or_false]
  rintro p rfl
  exact isB rfl _)
def hsX (xs : Array Value) : Array Value := resX (upd (lvX (mvS (hsB (hsA xs)))) [(44, .int .i64 3)])
theorem hsX_typed {xs : Array Value} (h : Typed xs) : Typed (hsX xs) := resX_typed (upd_typed _ (lvX_typed (mvS_typed (hsB_typed (hsA_typed h)))) (by
  simp only [List.mem_cons, List.not_mem_nil, or_false]
  rintro p rfl
  exact isK rfl _))
set_option maxHeartbeats 2000000 in
theorem hearSup_any (pb o : Nat) (xs : Array Value) (w : World) (hp : Pt w pb o xs) (ht : Typed xs) (hr : Rg xs) : Calls Tryd.prog 43 #[.pointer (some ⟨pb, o, none⟩)] w fun e w' => e = .returned (.tuple #[]) ∧ Mv w w' pb o xs (hsX xs) := by
  have HA := Lib.hid (show hsA xs = flagX (propX (upd xs [(16, .bool false), (27, .bool false)])) from rfl)
  have TA := Lib.hid (hsA_typed ht)
  have RA := Lib.hid (hsA_rg hr ht)
  unfold hsX
  generalize hsA xs = A at *
  have kP := Lib.hid (fun X w (hp : Pt w pb o X) ht hr => propose_any pb o X w hp ht hr)
  have kF := Lib.hid (fun X w (hp : Pt w pb o X) ht hr => takeFlags_any pb o X w hp ht hr)
  have HB := Lib.hid (show hsB A = upd A [(15, .bool (boolI A 15 && bosX3 A))] from rfl)
  have TB := Lib.hid (hsB_typed TA.out)
  have kB := Lib.hid (fun w hp => bos3_any pb o A w hp TA.out)
  generalize hsB A = B at *
  have P0 := Lib.hid hp
  have T0 := Lib.hid ht
  have M0 := Lib.hid (Mv.refl w pb o xs)
  have R0 := Lib.hid hr
  clear hp ht hr
  have s16 := P0.out.bool T0.out 16 rfl
  have s27 := P0.out.bool T0.out 27 rfl
  have fz := P0.out.frozen
  have M1 := Lib.hid (show Mv w _ pb o xs (upd xs [(16, .bool false), (27, .bool false)]) from ((M0.out.set 16 (by omega) (.bool false)).set 27 (by omega) (.bool false)))
  have T1 := Lib.hid (show Typed (upd xs [(16, .bool false), (27, .bool false)]) from upd_typed _ T0.out (by
    simp only [List.mem_cons, List.not_mem_nil, or_false]
    rintro p (rfl | rfl)
    · exact isB rfl _
    · exact isB rfl _))
  have P1 := Lib.hid (show Pt _ pb o (upd xs [(16, .bool false), (27, .bool false)]) from P0.out.mv (((Mv.refl w pb o (xs)).set 16 (by omega) (.bool false)).set 27 (by omega) (.bool false)))
  have R1 := Lib.hid (show Rg (upd xs [(16, .bool false), (27, .bool false)]) from R0.out.upd T0.out.1 rfl)
  go_enter Tryd.func43, Tryd.ntmps43
  go_wp2_with fail
  clear fz s16 s27 M0 T0 P0 R0
  generalize ((w.setCell ⟨pb, o + 16, none⟩ (.bool false)).setCell ⟨pb, o + 27, none⟩ (.bool false)) = w1 at *
  refine (kP.out _ _ P1.out T1.out R1.out).mono ?_
  rintro e w2 ⟨rfl, hm⟩
  have M2 := Lib.hid (M1.out.trans hm)
  have P2 := Lib.hid (P1.out.mv hm)
  have T2 := Lib.hid (show Typed (propX (upd xs [(16, .bool false), (27, .bool false)])) from propX_typed T1.out)
  have R2 := Lib.hid (show Rg (propX (upd xs [(16, .bool false), (27, .bool false)])) from propX_rg R1.out T1.out)
  clear hm M1 T1 P1 R1
  go_wp2_with fail
  refine (kF.out _ _ P2.out T2.out R2.out).mono ?_
  rintro e w3 ⟨rfl, hm⟩
  have M3 := Lib.hid (M2.out.trans hm)
  have P3 := Lib.hid (P2.out.mv hm)
  have T3 := Lib.hid (show Typed (flagX (propX (upd xs [(16, .bool false), (27, .bool false)]))) from flagX_typed T2.out)
  have R3 := Lib.hid (show Rg (flagX (propX (upd xs [(16, .bool false), (27, .bool false)]))) from flagX_rg R2.out T2.out)
  clear hm M2 T2 P2 R2
  rw [← HA.out] at M3 P3
  clear T3 R3 HA kP kF RA
  have f15 := P3.out.bool TA.out 15 rfl
  generalize hb15 : boolI A 15 = x15 at *
  have HB15 := Lib.hid hb15
  clear hb15
  generalize bosX3 A = g at *
  cases x15
  · clear f15
    have s15 := P3.out.bool TA.out 15 rfl
    have fz := P3.out.frozen
    have M4 := Lib.hid (show Mv w _ pb o xs (upd (A) [(15, .bool false)]) from (M3.out.set 15 (by omega) (.bool false)))
    have T4 := Lib.hid (show Typed (upd (A) [(15, .bool false)]) from upd_typed _ TA.out (by
      simp only [List.mem_cons, List.not_mem_nil, or_false]
      rintro p rfl
      exact isB rfl _))
    have P4 := Lib.hid (show Pt _ pb o (upd (A) [(15, .bool false)]) from P3.out.mv ((Mv.refl w3 pb o (A)).set 15 (by omega) (.bool false)))
    rw [HB15.out] at s15
    go_wp2_with fail
    clear fz s15 T4
    generalize (w3.setCell ⟨pb, o + 15, none⟩ (.bool false)) = w4 at *
    have MB := Lib.hid (show Mv w w4 pb o xs B from (by rw [HB.out]; exact M4.out))
    have PB := Lib.hid (show Pt w4 pb o B from (by rw [HB.out]; exact P4.out))
    clear M4 P4
    refine wp_region_held_drew (S := fun w' => Cl w' pb o B 52 56 ∧ Cl w' pb o B 64 68) (by kernel_rfl) ⟨PB.out.drew.cl (by omega) (fun _ _ _ => rfl), PB.out.drew.cl (by omega) (fun _ _ _ => rfl)⟩ (fun hS => ?_)
    refine wpAnyH_take (i := 0) (v := .pointer (some ⟨pb, o, none⟩)) rfl (by kernel_rfl) (by kernel_rfl) (by kernel_rfl) (fun _ _ _ h => h) (Or.inl ⟨by rfl, ?_⟩) hS ?_
    · (intro w9 hS9; go_simp; try with_reducible rfl)
    simp only [Act.put, List.getElem_toArray, List.getElem_cons_zero, List.setIfInBounds_toArray, List.set_cons_zero, List.set_cons_succ]
    refine wpAnyH_take (i := 1) (v := .pointer (some ⟨pb, o, none⟩)) rfl (by kernel_rfl) (by kernel_rfl) (by kernel_rfl) (fun _ _ _ h => h) (Or.inl ⟨by rfl, ?_⟩) hS ?_
    · (intro w9 hS9; go_simp; try with_reducible rfl)
    simp only [Act.put, List.getElem_toArray, List.getElem_cons_zero, List.getElem_cons_succ, List.setIfInBounds_toArray, List.set_cons_zero, List.set_cons_succ]
    refine wpAnyH_take (i := 2) (v := .pointer (some ⟨pb, o, none⟩)) rfl (by kernel_rfl) (by kernel_rfl) (by kernel_rfl) (fun _ _ _ h => h) (Or.inl ⟨by rfl, ?_⟩) hS ?_
    · (intro w9 hS9; go_simp; try with_reducible rfl)
    simp only [Act.put, List.getElem_toArray, List.getElem_cons_zero, List.getElem_cons_succ, List.setIfInBounds_toArray, List.set_cons_zero, List.set_cons_succ]
    refine wpAnyH_take (i := 3) (v := .pointer (some ⟨pb, o, none⟩)) rfl (by kernel_rfl) (by kernel_rfl) (by kernel_rfl) (fun _ _ _ h => h) (Or.inl ⟨by rfl, ?_⟩) hS ?_
    · (intro w9 hS9; go_simp; try with_reducible rfl)
    simp only [Act.put, List.getElem_toArray, List.getElem_cons_zero, List.getElem_cons_succ, List.setIfInBounds_toArray, List.set_cons_zero, List.set_cons_succ]
    refine wpAnyH_take (i := 4) (v := .pointer (some ⟨pb, o + 52, none⟩)) rfl (by kernel_rfl) (by kernel_rfl) (by kernel_rfl) (fun _ _ _ h => h) (Or.inl ⟨by rfl, ?_⟩) hS ?_
    · (intro w9 hS9; go_simp; try with_reducible rfl)
    simp only [Act.put, List.getElem_toArray, List.getElem_cons_zero, List.getElem_cons_succ, List.setIfInBounds_toArray, List.set_cons_zero, List.set_cons_succ]
    refine wpAnyH_take (i := 5) (v := vV (numI B 52) (numI B 53) (numI B 54) (numI B 55)) rfl (by kernel_rfl) (by kernel_rfl) (by kernel_rfl) (fun _ _ _ h => h) (yields_T uV rfl s30 (by rfl) _ rfl rfl (fun w9 h9 => h9.1.vec TB.out 52 (by omega) (by omega) rfl rfl rfl rfl) rfl) hS ?_
    simp only [Act.put, List.getElem_toArray, List.getElem_cons_zero, List.getElem_cons_succ, List.setIfInBounds_toArray, List.set_cons_zero, List.set_cons_succ]
    refine wpAnyH_take (i := 6) (v := .pointer (some ⟨pb, o, none⟩)) rfl (by kernel_rfl) (by kernel_rfl) (by kernel_rfl) (fun _ _ _ h => h) (Or.inl ⟨by rfl, ?_⟩) hS ?_
    · (intro w9 hS9; go_simp; try with_reducible rfl)
    simp only [Act.put, List.getElem_toArray, List.getElem_cons_zero, List.getElem_cons_succ, List.setIfInBounds_toArray, List.set_cons_zero, List.set_cons_succ]
    refine wpAnyH_take (i := 7) (v := .pointer (some ⟨pb, o, none⟩)) rfl (by kernel_rfl) (by kernel_rfl) (by kernel_rfl) (fun _ _ _ h => h) (Or.inl ⟨by rfl, ?_⟩) hS ?_
    · (intro w9 hS9; go_simp; try with_reducible rfl)
    simp only [Act.put, List.getElem_toArray, List.getElem_cons_zero, List.getElem_cons_succ, List.setIfInBounds_toArray, List.set_cons_zero, List.set_cons_succ]
    refine wpAnyH_take (i := 8) (v := .pointer (some ⟨pb, o + 64, none⟩)) rfl (by kernel_rfl) (by kernel_rfl) (by kernel_rfl) (fun _ _ _ h => h) (Or.inl ⟨by rfl, ?_⟩) hS ?_
    · (intro w9 hS9; go_simp; try with_reducible rfl)
    simp only [Act.put, List.getElem_toArray, List.getElem_cons_zero, List.getElem_cons_succ, List.setIfInBounds_toArray, List.set_cons_zero, List.set_cons_succ]
    refine wpAnyH_take (i := 9) (v := tmV (numI B 64) (numI B 65) (numI B 66) (numI B 67)) rfl (by kernel_rfl) (by kernel_rfl) (by kernel_rfl) (fun _ _ _ h => h) (yields_T uT rfl s25 (by rfl) _ rfl rfl (fun w9 h9 => h9.2.times TB.out 64 (by omega) (by omega) rfl rfl rfl rfl) rfl) hS ?_
    simp only [Act.put, List.getElem_toArray, List.getElem_cons_zero, List.getElem_cons_succ, List.setIfInBounds_toArray, List.set_cons_zero, List.set_cons_succ]
    refine wpAnyH_take (i := 10) (v := .pointer (some ⟨pb, o, none⟩)) rfl (by kernel_rfl) (by kernel_rfl) (by kernel_rfl) (fun _ _ _ h => h) (Or.inl ⟨by rfl, ?_⟩) hS ?_
    · (intro w9 hS9; go_simp; try with_reducible rfl)
    simp only [Act.put, List.getElem_toArray, List.getElem_cons_zero, List.getElem_cons_succ, List.setIfInBounds_toArray, List.set_cons_zero, List.set_cons_succ]
    refine wpAnyH_take (i := 11) (v := .pointer (some ⟨pb, o + 56, none⟩)) rfl (by kernel_rfl) (by kernel_rfl) (by kernel_rfl) (fun _ _ _ h => h) (Or.inl ⟨by rfl, ?_⟩) hS ?_
    · (intro w9 hS9; go_simp; try with_reducible rfl)
    simp only [Act.put, List.getElem_toArray, List.getElem_cons_zero, List.getElem_cons_succ, List.setIfInBounds_toArray, List.set_cons_zero, List.set_cons_succ]
    refine wpAnyH_ready (rs := [12]) (by kernel_rfl) (by simp) (AllReadyH.cons rfl (fun K hK => ?_) AllReadyH.nil)
    rw [if_pos (by rfl)]
    refine wp_store_mv sV _ _ rfl 56 rfl rfl PB.out.drew (by simp [Value.oneCell']) rfl (by omega) ?_
    intro w4 hm
    simp only [Act.put]
    have M4 := Lib.hid (show Mv w w4 pb o xs (upd B [(56, .int .u64 (numI B 52)), (57, .int .u32 (numI B 53)), (58, .int .u64 (numI B 54)), (59, .int .u16 (numI B 55))]) from MB.out.drew.trans hm)
    have P4 := Lib.hid (show Pt w4 pb o (upd B [(56, .int .u64 (numI B 52)), (57, .int .u32 (numI B 53)), (58, .int .u64 (numI B 54)), (59, .int .u16 (numI B 55))]) from PB.out.drew.mv hm)
    clear hm
    refine hK _ _ ⟨P4.out.cl (by omega) (upd_rng TB.out.1 (by omega) rfl), P4.out.cl (by omega) (upd_rng TB.out.1 (by omega) rfl)⟩ (fun hS => ?_)
    clear hK K
    refine wpAnyH_take (i := 13) (v := .pointer (some ⟨pb, o, none⟩)) rfl (by kernel_rfl) (by kernel_rfl) (by kernel_rfl) (fun _ _ _ h => h) (Or.inl ⟨by rfl, ?_⟩) hS ?_
    · (intro w9 hS9; go_simp; try with_reducible rfl)
    simp only [Act.put, List.getElem_toArray, List.getElem_cons_zero, List.getElem_cons_succ, List.setIfInBounds_toArray, List.set_cons_zero, List.set_cons_succ]
    refine wpAnyH_take (i := 14) (v := .pointer (some ⟨pb, o + 68, none⟩)) rfl (by kernel_rfl) (by kernel_rfl) (by kernel_rfl) (fun _ _ _ h => h) (Or.inl ⟨by rfl, ?_⟩) hS ?_
    · (intro w9 hS9; go_simp; try with_reducible rfl)
    simp only [Act.put, List.getElem_toArray, List.getElem_cons_zero, List.getElem_cons_succ, List.setIfInBounds_toArray, List.set_cons_zero, List.set_cons_succ]
    refine wpAnyH_ready (rs := [15]) (by kernel_rfl) (by simp) (AllReadyH.cons rfl (fun K hK => ?_) AllReadyH.nil)
    rw [if_pos (by rfl)]
    refine wp_store_mv s25 _ _ rfl 68 rfl rfl P4.out (by simp [Value.oneCell']) rfl (by omega) ?_
    intro w5 hm
    simp only [Act.put]
    have M5 := Lib.hid (show Mv w w5 pb o xs (mvS B) from M4.out.trans hm)
    have P5 := Lib.hid (show Pt w5 pb o (mvS B) from P4.out.mv hm)
    have T5 := Lib.hid (show Typed (mvS B) from mvS_typed TB.out)
    have C5 := Lib.hid (And.intro (P5.out.cl (xs := B) (lo := 52) (hi := 56) (by omega) (upd_rng TB.out.1 (by omega) rfl)) (P5.out.cl (xs := B) (lo := 64) (hi := 68) (by omega) (upd_rng TB.out.1 (by omega) rfl)))
    clear hm
    refine hK _ _ C5.out (fun hS => ?_)
    clear hK K hS C5 M4 P4
    refine wpAnyH_done (by kernel_rfl) ?_ _
    go_wp2_with fail
    refine (lives_any _ _ _ _ P5.out T5.out).mono ?_
    rintro e w21 ⟨rfl, hm⟩
    have M21 := Lib.hid (M5.out.trans hm)
    have P21 := Lib.hid (P5.out.mv hm)
    have T21 := Lib.hid (show Typed (lvX (mvS B)) from lvX_typed T5.out)
    clear hm M5 T5 P5
    have s44 := P21.out.numk T21.out 44 .i64 rfl
    have fz := P21.out.frozen
    have M22 := Lib.hid (show Mv w _ pb o xs (upd (lvX (mvS B)) [(44, .int .i64 3)]) from (M21.out.set 44 (by omega) (.int .i64 3)))
    have T22 := Lib.hid (show Typed (upd (lvX (mvS B)) [(44, .int .i64 3)]) from upd_typed _ T21.out (by
      simp only [List.mem_cons, List.not_mem_nil, or_false]
      rintro p rfl
      exact isK rfl _))
    have P22 := Lib.hid (show Pt _ pb o (upd (lvX (mvS B)) [(44, .int .i64 3)]) from P21.out.mv ((Mv.refl w21 pb o (lvX (mvS B))).set 44 (by omega) (.int .i64 3)))
    go_wp2_with fail
    clear fz s44 M21 T21 P21
    generalize (w21.setCell ⟨pb, o + 44, none⟩ (.int .i64 3)) = w22 at *
    refine (reselect_any _ _ _ _ P22.out T22.out).mono ?_
    rintro e w23 ⟨rfl, hm⟩
    have M23 := Lib.hid (M22.out.trans hm)
    have P23 := Lib.hid (P22.out.mv hm)
    have T23 := Lib.hid (show Typed (resX (upd (lvX (mvS B)) [(44, .int .i64 3)])) from resX_typed T22.out)
    clear hm M22 T22 P22
    go_wp2_with fail
    go_end0
    exact ⟨rfl, M23.out⟩
  · go_wp2_with fail
    refine (kB.out _ P3.out).mono ?_
    rintro e w7 ⟨rfl, hb⟩
    have M7 := Lib.hid (M3.out.trans (Mv.of_below pb o _ hb))
    have P7 := Lib.hid (P3.out.below hb)
    clear hb f15
    have s15 := P7.out.bool TA.out 15 rfl
    have fz := P7.out.frozen
    have M8 := Lib.hid (show Mv w _ pb o xs (upd (A) [(15, .bool g)]) from (M7.out.set 15 (by omega) (.bool g)))
    have T8 := Lib.hid (show Typed (upd (A) [(15, .bool g)]) from upd_typed _ TA.out (by
      simp only [List.mem_cons, List.not_mem_nil, or_false]
      rintro p rfl
      exact isB rfl _))
    have P8 := Lib.hid (show Pt _ pb o (upd (A) [(15, .bool g)]) from P7.out.mv ((Mv.refl w7 pb o (A)).set 15 (by omega) (.bool g)))
    rw [HB15.out] at s15
    go_wp2_with fail
    clear fz s15 T8
    generalize (w7.setCell ⟨pb, o + 15, none⟩ (.bool g)) = w8 at *
    have MB := Lib.hid (show Mv w w8 pb o xs B from (by rw [HB.out]; exact M8.out))
    have PB := Lib.hid (show Pt w8 pb o B from (by rw [HB.out]; exact P8.out))
    clear M8 P8
    refine wp_region_held_drew (S := fun w' => Cl w' pb o B 52 56 ∧ Cl w' pb o B 64 68) (by kernel_rfl) ⟨PB.out.drew.cl (by omega) (fun _ _ _ => rfl), PB.out.drew.cl (by omega) (fun _ _ _ => rfl)⟩ (fun hS => ?_)
    refine wpAnyH_take (i := 0) (v := .pointer (some ⟨pb, o, none⟩)) rfl (by kernel_rfl) (by kernel_rfl) (by kernel_rfl) (fun _ _ _ h => h) (Or.inl ⟨by rfl, ?_⟩) hS ?_
    · (intro w9 hS9; go_simp; try with_reducible rfl)
    simp only [Act.put, List.getElem_toArray, List.getElem_cons_zero, List.setIfInBounds_toArray, List.set_cons_zero, List.set_cons_succ]
    refine wpAnyH_take (i := 1) (v := .pointer (some ⟨pb, o, none⟩)) rfl (by kernel_rfl) (by kernel_rfl) (by kernel_rfl) (fun _ _ _ h => h) (Or.inl ⟨by rfl, ?_⟩) hS ?_
    · (intro w9 hS9; go_simp; try with_reducible rfl)
    simp only [Act.put, List.getElem_toArray, List.getElem_cons_zero, List.getElem_cons_succ, List.setIfInBounds_toArray, List.set_cons_zero, List.set_cons_succ]
    refine wpAnyH_take (i := 2) (v := .pointer (some ⟨pb, o, none⟩)) rfl (by kernel_rfl) (by kernel_rfl) (by kernel_rfl) (fun _ _ _ h => h) (Or.inl ⟨by rfl, ?_⟩) hS ?_
    · (intro w9 hS9; go_simp; try with_reducible rfl)
    simp only [Act.put, List.getElem_toArray, List.getElem_cons_zero, List.getElem_cons_succ, List.setIfInBounds_toArray, List.set_cons_zero, List.set_cons_succ]
    refine wpAnyH_take (i := 3) (v := .pointer (some ⟨pb, o, none⟩)) rfl (by kernel_rfl) (by kernel_rfl) (by kernel_rfl) (fun _ _ _ h => h) (Or.inl ⟨by rfl, ?_⟩) hS ?_
    · (intro w9 hS9; go_simp; try with_reducible rfl)
    simp only [Act.put, List.getElem_toArray, List.getElem_cons_zero, List.getElem_cons_succ, List.setIfInBounds_toArray, List.set_cons_zero, List.set_cons_succ]
    refine wpAnyH_take (i := 4) (v := .pointer (some ⟨pb, o + 52, none⟩)) rfl (by kernel_rfl) (by kernel_rfl) (by kernel_rfl) (fun _ _ _ h => h) (Or.inl ⟨by rfl, ?_⟩) hS ?_
    · (intro w9 hS9; go_simp; try with_reducible rfl)
    simp only [Act.put, List.getElem_toArray, List.getElem_cons_zero, List.getElem_cons_succ, List.setIfInBounds_toArray, List.set_cons_zero, List.set_cons_succ]
    refine wpAnyH_take (i := 5) (v := vV (numI B 52) (numI B 53) (numI B 54) (numI B 55)) rfl (by kernel_rfl) (by kernel_rfl) (by kernel_rfl) (fun _ _ _ h => h) (yields_T uV rfl s30 (by rfl) _ rfl rfl (fun w9 h9 => h9.1.vec TB.out 52 (by omega) (by omega) rfl rfl rfl rfl) rfl) hS ?_
    simp only [Act.put, List.getElem_toArray, List.getElem_cons_zero, List.getElem_cons_succ, List.setIfInBounds_toArray, List.set_cons_zero, List.set_cons_succ]
    refine wpAnyH_take (i := 6) (v := .pointer (some ⟨pb, o, none⟩)) rfl (by kernel_rfl) (by kernel_rfl) (by kernel_rfl) (fun _ _ _ h => h) (Or.inl ⟨by rfl, ?_⟩) hS ?_
    · (intro w9 hS9; go_simp; try with_reducible rfl)
    simp only [Act.put, List.getElem_toArray, List.getElem_cons_zero, List.getElem_cons_succ, List.setIfInBounds_toArray, List.set_cons_zero, List.set_cons_succ]
    refine wpAnyH_take (i := 7) (v := .pointer (some ⟨pb, o, none⟩)) rfl (by kernel_rfl) (by kernel_rfl) (by kernel_rfl) (fun _ _ _ h => h) (Or.inl ⟨by rfl, ?_⟩) hS ?_
    · (intro w9 hS9; go_simp; try with_reducible rfl)
    simp only [Act.put, List.getElem_toArray, List.getElem_cons_zero, List.getElem_cons_succ, List.setIfInBounds_toArray, List.set_cons_zero, List.set_cons_succ]
    refine wpAnyH_take (i := 8) (v := .pointer (some ⟨pb, o + 64, none⟩)) rfl (by kernel_rfl) (by kernel_rfl) (by kernel_rfl) (fun _ _ _ h => h) (Or.inl ⟨by rfl, ?_⟩) hS ?_
    · (intro w9 hS9; go_simp; try with_reducible rfl)
    simp only [Act.put, List.getElem_toArray, List.getElem_cons_zero, List.getElem_cons_succ, List.setIfInBounds_toArray, List.set_cons_zero, List.set_cons_succ]
    refine wpAnyH_take (i := 9) (v := tmV (numI B 64) (numI B 65) (numI B 66) (numI B 67)) rfl (by kernel_rfl) (by kernel_rfl) (by kernel_rfl) (fun _ _ _ h => h) (yields_T uT rfl s25 (by rfl) _ rfl rfl (fun w9 h9 => h9.2.times TB.out 64 (by omega) (by omega) rfl rfl rfl rfl) rfl) hS ?_
    simp only [Act.put, List.getElem_toArray, List.getElem_cons_zero, List.getElem_cons_succ, List.setIfInBounds_toArray, List.set_cons_zero, List.set_cons_succ]
    refine wpAnyH_take (i := 10) (v := .pointer (some ⟨pb, o, none⟩)) rfl (by kernel_rfl) (by kernel_rfl) (by kernel_rfl) (fun _ _ _ h => h) (Or.inl ⟨by rfl, ?_⟩) hS ?_
    · (intro w9 hS9; go_simp; try with_reducible rfl)
    simp only [Act.put, List.getElem_toArray, List.getElem_cons_zero, List.getElem_cons_succ, List.setIfInBounds_toArray, List.set_cons_zero, List.set_cons_succ]
    refine wpAnyH_take (i := 11) (v := .pointer (some ⟨pb, o + 56, none⟩)) rfl (by kernel_rfl) (by kernel_rfl) (by kernel_rfl) (fun _ _ _ h => h) (Or.inl ⟨by rfl, ?_⟩) hS ?_
    · (intro w9 hS9; go_simp; try with_reducible rfl)
    simp only [Act.put, List.getElem_toArray, List.getElem_cons_zero, List.getElem_cons_succ, List.setIfInBounds_toArray, List.set_cons_zero, List.set_cons_succ]
    refine wpAnyH_ready (rs := [12]) (by kernel_rfl) (by simp) (AllReadyH.cons rfl (fun K hK => ?_) AllReadyH.nil)
    rw [if_pos (by rfl)]
    refine wp_store_mv sV _ _ rfl 56 rfl rfl PB.out.drew (by simp [Value.oneCell']) rfl (by omega) ?_
    intro w4 hm
    simp only [Act.put]
    have M4 := Lib.hid (show Mv w w4 pb o xs (upd B [(56, .int .u64 (numI B 52)), (57, .int .u32 (numI B 53)), (58, .int .u64 (numI B 54)), (59, .int .u16 (numI B 55))]) from MB.out.drew.trans hm)
    have P4 := Lib.hid (show Pt w4 pb o (upd B [(56, .int .u64 (numI B 52)), (57, .int .u32 (numI B 53)), (58, .int .u64 (numI B 54)), (59, .int .u16 (numI B 55))]) from PB.out.drew.mv hm)
    clear hm
    refine hK _ _ ⟨P4.out.cl (by omega) (upd_rng TB.out.1 (by omega) rfl), P4.out.cl (by omega) (upd_rng TB.out.1 (by omega) rfl)⟩ (fun hS => ?_)
    clear hK K
    refine wpAnyH_take (i := 13) (v := .pointer (some ⟨pb, o, none⟩)) rfl (by kernel_rfl) (by kernel_rfl) (by kernel_rfl) (fun _ _ _ h => h) (Or.inl ⟨by rfl, ?_⟩) hS ?_
    · (intro w9 hS9; go_simp; try with_reducible rfl)
    simp only [Act.put, List.getElem_toArray, List.getElem_cons_zero, List.getElem_cons_succ, List.setIfInBounds_toArray, List.set_cons_zero, List.set_cons_succ]
    refine wpAnyH_take (i := 14) (v := .pointer (some ⟨pb, o + 68, none⟩)) rfl (by kernel_rfl) (by kernel_rfl) (by kernel_rfl) (fun _ _ _ h => h) (Or.inl ⟨by rfl, ?_⟩) hS ?_
    · (intro w9 hS9; go_simp; try with_reducible rfl)
    simp only [Act.put, List.getElem_toArray, List.getElem_cons_zero, List.getElem_cons_succ, List.setIfInBounds_toArray, List.set_cons_zero, List.set_cons_succ]
    refine wpAnyH_ready (rs := [15]) (by kernel_rfl) (by simp) (AllReadyH.cons rfl (fun K hK => ?_) AllReadyH.nil)
    rw [if_pos (by rfl)]
    refine wp_store_mv s25 _ _ rfl 68 rfl rfl P4.out (by simp [Value.oneCell']) rfl (by omega) ?_
    intro w5 hm
    simp only [Act.put]
    have M5 := Lib.hid (show Mv w w5 pb o xs (mvS B) from M4.out.trans hm)
    have P5 := Lib.hid (show Pt w5 pb o (mvS B) from P4.out.mv hm)
    have T5 := Lib.hid (show Typed (mvS B) from mvS_typed TB.out)
    have C5 := Lib.hid (And.intro (P5.out.cl (xs := B) (lo := 52) (hi := 56) (by omega) (upd_rng TB.out.1 (by omega) rfl)) (P5.out.cl (xs := B) (lo := 64) (hi := 68) (by omega) (upd_rng TB.out.1 (by omega) rfl)))
    clear hm
    refine hK _ _ C5.out (fun hS => ?_)
    clear hK K hS C5 M4 P4
    refine wpAnyH_done (by kernel_rfl) ?_ _
    go_wp2_with fail
    refine (lives_any _ _ _ _ P5.out T5.out).mono ?_
    rintro e w21 ⟨rfl, hm⟩
    have M21 := Lib.hid (M5.out.trans hm)
    have P21 := Lib.hid (P5.out.mv hm)
    have T21 := Lib.hid (show Typed (lvX (mvS B)) from lvX_typed T5.out)
    clear hm M5 T5 P5
    have s44 := P21.out.numk T21.out 44 .i64 rfl
    have fz := P21.out.frozen
    have M22 := Lib.hid (show Mv w _ pb o xs (upd (lvX (mvS B)) [(44, .int .i64 3)]) from (M21.out.set 44 (by omega) (.int .i64 3)))
    have T22 := Lib.hid (show Typed (upd (lvX (mvS B)) [(44, .int .i64 3)]) from upd_typed _ T21.out (by
      simp only [List.mem_cons, List.not_mem_nil, or_false]
      rintro p rfl
      exact isK rfl _))
    have P22 := Lib.hid (show Pt _ pb o (upd (lvX (mvS B)) [(44, .int .i64 3)]) from P21.out.mv ((Mv.refl w21 pb o (lvX (mvS B))).set 44 (by omega) (.int .i64 3)))
    go_wp2_with fail
    clear fz s44 M21 T21 P21
    generalize (w21.setCell ⟨pb, o + 44, none⟩ (.int .i64 3)) = w22 at *
    refine (reselect_any _ _ _ _ P22.out T22.out).mono ?_
    rintro e w23 ⟨rfl, hm⟩
    have M23 := Lib.hid (M22.out.trans hm)
    have P23 := Lib.hid (P22.out.mv hm)
    have T23 := Lib.hid (show Typed (resX (upd (lvX (mvS B)) [(44, .int .i64 3)])) from resX_typed T22.out)
    clear hm M22 T22 P22
    go_wp2_with fail
    go_end0
    exact ⟨rfl, M23.out⟩
end Go.Proofs.YtjfdochceejegaaDoor
