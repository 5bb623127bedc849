/- Contract of the program's hear. -/
import Derived.Test.YtjfdochceejegaaDoorIj
namespace Go.Proofs.YtjfdochceejegaaDoor
open Go.RowKit Go.Sort

def h1X (xs : Array Value) : Array Value := upd xs [(45, .int .i64 (newsX xs))]
theorem h1X_typed {xs : Array Value} (h : Typed xs) : Typed (h1X xs) := upd_typed _ h (by
  simp only [List.mem_cons, List.not_mem_nil, or_false]
  rintro p rfl
  exact isK rfl _)
theorem h1X_rg {xs : Array Value} (h : Rg xs) (ht : Typed xs) : Rg (h1X xs) := h.upd ht.1 rfl
def h2X (X : Array Value) : Array Value := upd X [(52, .int .u64 (numI X 74)), (53, .int .u32 (numI X 75)), (54, .int .u64 (numI X 76)), (55, .int .u16 (numI X 77)), (64, .int .i64 (secA X)), (65, .int .i64 (secM X)), (66, .int .i64 (secH X)), (67, .int .i64 (secD X))]
theorem h2X_typed {xs : Array Value} (h : Typed xs) : Typed (h2X xs) := upd_typed _ h (by
  simp only [List.mem_cons, List.not_mem_nil, or_false]
  rintro p (rfl | rfl | rfl | rfl | rfl | rfl | rfl | rfl)
  · exact isK rfl _
  · exact isK rfl _
  · exact isK rfl _
  · exact isK rfl _
  · exact isK rfl _
  · exact isK rfl _
  · exact isK rfl _
  · exact isK rfl _)
theorem h2X_rg {xs : Array Value} (h : Rg xs) (ht : Typed xs) : Rg (h2X xs) := h.upd ht.1 rfl
def h3X (X : Array Value) : Array Value := if numI X 72 == 2 then upd X [(36, .bool true)] else X
theorem h3X_typed {xs : Array Value} (h : Typed xs) : Typed (h3X xs) := by
  unfold h3X
  split
  · refine upd_typed _ h ?_
    simp only [List.mem_cons, List.not_mem_nil, or_false]
    rintro p rfl
    exact isB rfl _
  · exact h
theorem h3X_rg {xs : Array Value} (h : Rg xs) (ht : Typed xs) : Rg (h3X xs) := by
  unfold h3X
  split
  · exact h.upd ht.1 rfl
  · exact h
theorem h3X_news {xs : Array Value} (ht : Typed xs) : numI (h3X (h2X (h1X xs))) 45 = newsX xs := by
  have e1 : numI (h1X xs) 45 = newsX xs := by
    unfold h1X
    rw [upd_num _ 45 (by rw [ht.1]; omega)]
    rfl
  have e2 : numI (h2X (h1X xs)) 45 = numI (h1X xs) 45 := num_out (h1X_typed ht).1 (by omega) rfl
  have e3 : numI (h3X (h2X (h1X xs))) 45 = numI (h2X (h1X xs)) 45 := by
    unfold h3X
    split
    · exact num_out (h2X_typed (h1X_typed ht)).1 (by omega) rfl
    · rfl
  rw [e3, e2, e1]
def h4X (r : Bool) (n : Int) (X : Array Value) : Array Value := if n == 1 then hsX X else if n == 2 then lvX (flagX (propX X)) else if n == 3 then infX X else if n == 4 then ndX r X else X
theorem h4X_typed (r : Bool) (n : Int) {xs : Array Value} (h : Typed xs) : Typed (h4X r n xs) := by
  unfold h4X
  split
  · exact hsX_typed h
  · split
    · exact lvX_typed (flagX_typed (propX_typed h))
    · split
      · exact infX_typed h
      · split
        · exact ndX_typed r h
        · exact h
/-- HEAR. -/
def hearX (r : Bool) (xs : Array Value) : Array Value := upd (h4X r (newsX xs) (h3X (h2X (h1X xs)))) [(31, .bool false)]
theorem hearX_typed (r : Bool) {xs : Array Value} (h : Typed xs) : Typed (hearX r xs) := upd_typed _ (h4X_typed r _ (h3X_typed (h2X_typed (h1X_typed h)))) (by
  simp only [List.mem_cons, List.not_mem_nil, or_false]
  rintro p rfl
  exact isB rfl _)
set_option maxHeartbeats 4000000 in
theorem hear_any (r : Bool) (pb o : Nat) (xs : Array Value) (w : World) (hp : Pt w pb o xs) (ht : Typed xs) (hr : Rg xs) (he : Env w) : Calls Tryd.prog 34 #[.pointer (some ⟨pb, o, none⟩), .bool r] w fun e w' => e = .returned (.tuple #[]) ∧ Mv w w' pb o xs (hearX r xs) := by
  have kN := Lib.hid (news_any pb o xs w hp ht hr he)
  have HD1 := Lib.hid (show h1X xs = upd xs [(45, .int .i64 (newsX xs))] from rfl)
  have T1 := Lib.hid (h1X_typed ht)
  have R1 := Lib.hid (h1X_rg hr ht)
  have HD2 := Lib.hid (show h2X (h1X xs) = upd (h1X xs) [(52, .int .u64 (numI (h1X xs) 74)), (53, .int .u32 (numI (h1X xs) 75)), (54, .int .u64 (numI (h1X xs) 76)), (55, .int .u16 (numI (h1X xs) 77)), (64, .int .i64 (secA (h1X xs))), (65, .int .i64 (secM (h1X xs))), (66, .int .i64 (secH (h1X xs))), (67, .int .i64 (secD (h1X xs)))] from rfl)
  have T2 := Lib.hid (h2X_typed T1.out)
  have R2 := Lib.hid (h2X_rg R1.out T1.out)
  have HD3 := Lib.hid (show h3X (h2X (h1X xs)) = if numI (h2X (h1X xs)) 72 == 2 then upd (h2X (h1X xs)) [(36, .bool true)] else h2X (h1X xs) from rfl)
  have T3 := Lib.hid (h3X_typed T2.out)
  have R3 := Lib.hid (h3X_rg R2.out T2.out)
  have N3 := Lib.hid (h3X_news ht)
  have HD4 := Lib.hid (show h4X r (newsX xs) (h3X (h2X (h1X xs))) = if newsX xs == 1 then hsX (h3X (h2X (h1X xs))) else if newsX xs == 2 then lvX (flagX (propX (h3X (h2X (h1X xs))))) else if newsX xs == 3 then infX (h3X (h2X (h1X xs))) else if newsX xs == 4 then ndX r (h3X (h2X (h1X xs))) else h3X (h2X (h1X xs)) from rfl)
  have T4 := Lib.hid (h4X_typed r (newsX xs) T3.out)
  have kO := Lib.hid (fun w => of_msg (h1X xs) R1.out w)
  have kS := Lib.hid (fun w hp => hearSup_any pb o (h3X (h2X (h1X xs))) w hp T3.out R3.out)
  have kP := Lib.hid (fun w hp => propose_any pb o (h3X (h2X (h1X xs))) w hp T3.out R3.out)
  have kF := Lib.hid (fun w hp => takeFlags_any pb o (propX (h3X (h2X (h1X xs)))) w hp (propX_typed T3.out) (propX_rg R3.out T3.out))
  have kL := Lib.hid (fun w hp => lives_any pb o (flagX (propX (h3X (h2X (h1X xs))))) w hp (flagX_typed (propX_typed T3.out)))
  have kI := Lib.hid (fun w hp => hearInf_any pb o (h3X (h2X (h1X xs))) w hp T3.out R3.out)
  have kD := Lib.hid (fun w hp => hearNd_any r pb o (h3X (h2X (h1X xs))) w hp T3.out R3.out)
  have P0 := Lib.hid hp
  have T0 := Lib.hid ht
  unfold hearX
  clear hp ht hr he
  generalize h4X r (newsX xs) (h3X (h2X (h1X xs))) = Z4 at *
  generalize h3X (h2X (h1X xs)) = Z3 at *
  generalize h2X (h1X xs) = Z2 at *
  generalize h1X xs = Z1 at *
  generalize newsX xs = n at *
  go_enter Tryd.func34, Tryd.ntmps34
  go_wp2_with fail
  refine kN.out.mono ?_
  rintro e w1 ⟨rfl, hb⟩
  have P1 := Lib.hid (P0.out.below hb)
  have s45 := P1.out.numk T0.out 45 .i64 rfl
  have fz := P1.out.frozen
  have M2 := Lib.hid (show Mv w _ pb o xs Z1 from (by rw [HD1.out]; exact (Mv.of_below pb o xs hb).set 45 (by omega) (.int .i64 n)))
  have P2 := Lib.hid (show Pt _ pb o Z1 from (by rw [HD1.out]; exact P1.out.mv ((Mv.refl w1 pb o xs).set 45 (by omega) (.int .i64 n))))
  clear hb
  go_wp2_with fail
  clear s45 fz P1 P0 kN HD1
  generalize w1.setCell ⟨pb, o + 45, none⟩ (.int .i64 n) = w2 at *
  refine wp_region_held_drew (S := fun w' => Cl w' pb o Z1 72 82) (by kernel_rfl) (P2.out.drew.cl (by omega) (fun _ _ _ => rfl)) (fun hS => ?_)
  refine wpAnyH_take (i := 0) (v := .pointer (some ⟨pb, o, none⟩)) rfl (by kernel_rfl) (by kernel_rfl) (by kernel_rfl) (fun _ _ _ h => h) (Or.inl ⟨by rfl, ?_⟩) hS ?_
  · (intro w9 hS9; go_simp; try with_reducible rfl)
  simp only [Act.put, List.getElem_toArray, List.getElem_cons_zero, List.setIfInBounds_toArray, List.set_cons_zero, List.set_cons_succ]
  refine wpAnyH_take (i := 1) (v := .pointer (some ⟨pb, o, none⟩)) rfl (by kernel_rfl) (by kernel_rfl) (by kernel_rfl) (fun _ _ _ h => h) (Or.inl ⟨by rfl, ?_⟩) hS ?_
  · (intro w9 hS9; go_simp; try with_reducible rfl)
  simp only [Act.put, List.getElem_toArray, List.getElem_cons_zero, List.getElem_cons_succ, List.setIfInBounds_toArray, List.set_cons_zero, List.set_cons_succ]
  refine wpAnyH_take (i := 2) (v := .pointer (some ⟨pb, o, none⟩)) rfl (by kernel_rfl) (by kernel_rfl) (by kernel_rfl) (fun _ _ _ h => h) (Or.inl ⟨by rfl, ?_⟩) hS ?_
  · (intro w9 hS9; go_simp; try with_reducible rfl)
  simp only [Act.put, List.getElem_toArray, List.getElem_cons_zero, List.getElem_cons_succ, List.setIfInBounds_toArray, List.set_cons_zero, List.set_cons_succ]
  refine wpAnyH_take (i := 3) (v := .pointer (some ⟨pb, o, none⟩)) rfl (by kernel_rfl) (by kernel_rfl) (by kernel_rfl) (fun _ _ _ h => h) (Or.inl ⟨by rfl, ?_⟩) hS ?_
  · (intro w9 hS9; go_simp; try with_reducible rfl)
  simp only [Act.put, List.getElem_toArray, List.getElem_cons_zero, List.getElem_cons_succ, List.setIfInBounds_toArray, List.set_cons_zero, List.set_cons_succ]
  refine wpAnyH_take (i := 4) (v := .pointer (some ⟨pb, o + 72, none⟩)) rfl (by kernel_rfl) (by kernel_rfl) (by kernel_rfl) (fun _ _ _ h => h) (Or.inl ⟨by rfl, ?_⟩) hS ?_
  · (intro w9 hS9; go_simp; try with_reducible rfl)
  simp only [Act.put, List.getElem_toArray, List.getElem_cons_zero, List.getElem_cons_succ, List.setIfInBounds_toArray, List.set_cons_zero, List.set_cons_succ]
  refine wpAnyH_take (i := 5) (v := .pointer (some ⟨pb, o + 74, none⟩)) rfl (by kernel_rfl) (by kernel_rfl) (by kernel_rfl) (fun _ _ _ h => h) (Or.inl ⟨by rfl, ?_⟩) hS ?_
  · (intro w9 hS9; go_simp; try with_reducible rfl)
  simp only [Act.put, List.getElem_toArray, List.getElem_cons_zero, List.getElem_cons_succ, List.setIfInBounds_toArray, List.set_cons_zero, List.set_cons_succ]
  refine wpAnyH_take (i := 6) (v := vV (numI Z1 74) (numI Z1 75) (numI Z1 76) (numI Z1 77)) rfl (by kernel_rfl) (by kernel_rfl) (by kernel_rfl) (fun _ _ _ h => h) (yields_T uV rfl s30 (by rfl) _ rfl rfl (fun w9 h9 => h9.vec T1.out 74 (by omega) (by omega) rfl rfl rfl rfl) rfl) hS ?_
  simp only [Act.put, List.getElem_toArray, List.getElem_cons_zero, List.getElem_cons_succ, List.setIfInBounds_toArray, List.set_cons_zero, List.set_cons_succ]
  refine wpAnyH_take (i := 7) (v := .pointer (some ⟨pb, o, none⟩)) rfl (by kernel_rfl) (by kernel_rfl) (by kernel_rfl) (fun _ _ _ h => h) (Or.inl ⟨by rfl, ?_⟩) hS ?_
  · (intro w9 hS9; go_simp; try with_reducible rfl)
  simp only [Act.put, List.getElem_toArray, List.getElem_cons_zero, List.getElem_cons_succ, List.setIfInBounds_toArray, List.set_cons_zero, List.set_cons_succ]
  refine wpAnyH_take (i := 8) (v := .pointer (some ⟨pb, o, none⟩)) rfl (by kernel_rfl) (by kernel_rfl) (by kernel_rfl) (fun _ _ _ h => h) (Or.inl ⟨by rfl, ?_⟩) hS ?_
  · (intro w9 hS9; go_simp; try with_reducible rfl)
  simp only [Act.put, List.getElem_toArray, List.getElem_cons_zero, List.getElem_cons_succ, List.setIfInBounds_toArray, List.set_cons_zero, List.set_cons_succ]
  refine wpAnyH_take (i := 9) (v := .pointer (some ⟨pb, o + 72, none⟩)) rfl (by kernel_rfl) (by kernel_rfl) (by kernel_rfl) (fun _ _ _ h => h) (Or.inl ⟨by rfl, ?_⟩) hS ?_
  · (intro w9 hS9; go_simp; try with_reducible rfl)
  simp only [Act.put, List.getElem_toArray, List.getElem_cons_zero, List.getElem_cons_succ, List.setIfInBounds_toArray, List.set_cons_zero, List.set_cons_succ]
  refine wpAnyH_take (i := 10) (v := .agg (msgC Z1)) rfl (by kernel_rfl) (by kernel_rfl) (by kernel_rfl) (fun _ _ _ h => h) (yields_T uM rfl sM (by rfl) _ rfl rfl (fun w9 h9 => h9.msg T1.out (by omega) (by omega)) (msgC_size Z1)) hS ?_
  simp only [Act.put, List.getElem_toArray, List.getElem_cons_zero, List.getElem_cons_succ, List.setIfInBounds_toArray, List.set_cons_zero, List.set_cons_succ]
  refine wpAnyH_ready (rs := [11]) (by kernel_rfl) (by simp) (AllReadyH.cons rfl (fun K hK => ?_) AllReadyH.nil)
  go_simp
  refine (kO.out _).mono ?_
  rintro e w3 ⟨rfl, hb⟩
  have M3 := Lib.hid (M2.out.drew.trans (Mv.of_below pb o Z1 hb))
  have P3 := Lib.hid (P2.out.drew.below hb)
  refine hK _ _ (P3.out.cl (by omega) (fun _ _ _ => rfl)) (fun hS => ?_)
  clear hK K hb M2 P2 kO
  refine wpAnyH_take (i := 12) (v := .pointer (some ⟨pb, o, none⟩)) rfl (by kernel_rfl) (by kernel_rfl) (by kernel_rfl) (fun _ _ _ h => h) (Or.inl ⟨by rfl, ?_⟩) hS ?_
  · (intro w9 hS9; go_simp; try with_reducible rfl)
  simp only [Act.put, List.getElem_toArray, List.getElem_cons_zero, List.getElem_cons_succ, List.setIfInBounds_toArray, List.set_cons_zero, List.set_cons_succ]
  refine wpAnyH_take (i := 13) (v := .pointer (some ⟨pb, o + 52, none⟩)) rfl (by kernel_rfl) (by kernel_rfl) (by kernel_rfl) (fun _ _ _ h => h) (Or.inl ⟨by rfl, ?_⟩) hS ?_
  · (intro w9 hS9; go_simp; try with_reducible rfl)
  simp only [Act.put, List.getElem_toArray, List.getElem_cons_zero, List.getElem_cons_succ, List.setIfInBounds_toArray, List.set_cons_zero, List.set_cons_succ]
  refine wpAnyH_ready (rs := [14]) (by kernel_rfl) (by simp) (AllReadyH.cons rfl (fun K hK => ?_) AllReadyH.nil)
  rw [if_pos (by rfl)]
  refine wp_store_mv sV _ _ rfl 52 rfl rfl P3.out (by simp [Value.oneCell']) rfl (by omega) ?_
  intro w4 hm
  simp only [Act.put]
  have M4 := Lib.hid (show Mv w w4 pb o xs (upd Z1 [(52, .int .u64 (numI Z1 74)), (53, .int .u32 (numI Z1 75)), (54, .int .u64 (numI Z1 76)), (55, .int .u16 (numI Z1 77))]) from M3.out.trans hm)
  have P4 := Lib.hid (show Pt w4 pb o (upd Z1 [(52, .int .u64 (numI Z1 74)), (53, .int .u32 (numI Z1 75)), (54, .int .u64 (numI Z1 76)), (55, .int .u16 (numI Z1 77))]) from P3.out.mv hm)
  clear hm
  refine hK _ _ (P4.out.cl (by omega) (upd_rng T1.out.1 (by omega) rfl)) (fun hS => ?_)
  clear hK K M3 P3
  refine wpAnyH_take (i := 15) (v := .pointer (some ⟨pb, o, none⟩)) rfl (by kernel_rfl) (by kernel_rfl) (by kernel_rfl) (fun _ _ _ h => h) (Or.inl ⟨by rfl, ?_⟩) hS ?_
  · (intro w9 hS9; go_simp; try with_reducible rfl)
  simp only [Act.put, List.getElem_toArray, List.getElem_cons_zero, List.getElem_cons_succ, List.setIfInBounds_toArray, List.set_cons_zero, List.set_cons_succ]
  refine wpAnyH_take (i := 16) (v := .pointer (some ⟨pb, o + 64, none⟩)) rfl (by kernel_rfl) (by kernel_rfl) (by kernel_rfl) (fun _ _ _ h => h) (Or.inl ⟨by rfl, ?_⟩) hS ?_
  · (intro w9 hS9; go_simp; try with_reducible rfl)
  simp only [Act.put, List.getElem_toArray, List.getElem_cons_zero, List.getElem_cons_succ, List.setIfInBounds_toArray, List.set_cons_zero, List.set_cons_succ]
  refine wpAnyH_ready (rs := [17]) (by kernel_rfl) (by simp) (AllReadyH.cons rfl (fun K hK => ?_) AllReadyH.nil)
  rw [if_pos (by rfl)]
  refine wp_store_mv s25 _ _ rfl 64 rfl rfl P4.out (by simp [Value.oneCell']) rfl (by omega) ?_
  intro w5 hm
  simp only [Act.put]
  have M5 := Lib.hid (show Mv w w5 pb o xs Z2 from (by rw [HD2.out]; exact M4.out.trans hm))
  have P5 := Lib.hid (show Pt w5 pb o Z2 from (by rw [HD2.out]; exact P4.out.mv hm))
  have C5 := Lib.hid (show Cl w5 pb o Z1 72 82 from P5.out.cl (by omega) (by rw [HD2.out]; exact upd_rng T1.out.1 (by omega) rfl))
  clear hm
  refine hK _ _ C5.out (fun hS => ?_)
  clear hK K hS C5 M4 P4 HD2 T1 R1
  refine wpAnyH_done (by kernel_rfl) ?_ _
  have c72 := P5.out.numk T2.out 72 .i64 rfl
  have s36 := P5.out.bool T2.out 36 rfl
  generalize numI Z2 72 = k at *
  have fz := P5.out.frozen
  by_cases q : k = 2
  · subst q
    have hD := HD3.out
    simp at hD
    have M6 := Lib.hid (show Mv w _ pb o xs Z3 from (by rw [hD]; exact M5.out.set 36 (by omega) (.bool true)))
    have P6 := Lib.hid (show Pt _ pb o Z3 from (by rw [hD]; exact P5.out.mv ((Mv.refl w5 pb o Z2).set 36 (by omega) (.bool true))))
    clear hD
    have c45 := P6.out.numk T3.out 45 .i64 rfl
    rw [N3.out] at c45
    go_upto_region 4 with fail
    clear fz s36 M5 P5 HD3 c72
    generalize w5.setCell ⟨pb, o + 36, none⟩ (.bool true) = w6 at *
    by_cases q1 : n = 1
    · subst q1
      have hD := HD4.out
      simp at hD
      have HC := Lib.hid hD
      clear hD
      go_wp2_with fail
      refine (kS.out _ P6.out).mono ?_
      rintro e w7 ⟨rfl, hm⟩
      have M7 := Lib.hid (M6.out.trans hm)
      have P7 := Lib.hid (P6.out.mv hm)
      clear hm c45
      rw [← HC.out] at M7 P7
      have s31 := P7.out.bool T4.out 31 rfl
      have fz := P7.out.frozen
      have ME := Lib.hid (show Mv w _ pb o xs (upd Z4 [(31, .bool false)]) from M7.out.set 31 (by omega) (.bool false))
      go_wp2_with fail
      go_end0
      exact ⟨rfl, ME.out⟩
    · have e1_ : (n == 1) = false := by simpa using q1
      by_cases q2 : n = 2
      · subst q2
        have hD := HD4.out
        simp at hD
        have HC := Lib.hid hD
        clear hD
        go_wp2_with fail
        refine (kP.out _ P6.out).mono ?_
        rintro e w7 ⟨rfl, hm⟩
        have M7 := Lib.hid (M6.out.trans hm)
        have P7 := Lib.hid (P6.out.mv hm)
        clear hm c45
        go_wp2_with fail
        refine (kF.out _ P7.out).mono ?_
        rintro e w8 ⟨rfl, hm⟩
        have M8 := Lib.hid (M7.out.trans hm)
        have P8 := Lib.hid (P7.out.mv hm)
        clear hm
        go_wp2_with fail
        refine (kL.out _ P8.out).mono ?_
        rintro e w9 ⟨rfl, hm⟩
        have M9 := Lib.hid (M8.out.trans hm)
        have P9 := Lib.hid (P8.out.mv hm)
        clear hm
        rw [← HC.out] at M9 P9
        have s31 := P9.out.bool T4.out 31 rfl
        have fz := P9.out.frozen
        have ME := Lib.hid (show Mv w _ pb o xs (upd Z4 [(31, .bool false)]) from M9.out.set 31 (by omega) (.bool false))
        go_wp2_with fail
        go_end0
        exact ⟨rfl, ME.out⟩
      · have e2_ : (n == 2) = false := by simpa using q2
        by_cases q3 : n = 3
        · subst q3
          have hD := HD4.out
          simp at hD
          have HC := Lib.hid hD
          clear hD
          go_wp2_with fail
          refine (kI.out _ P6.out).mono ?_
          rintro e w7 ⟨rfl, hm⟩
          have M7 := Lib.hid (M6.out.trans hm)
          have P7 := Lib.hid (P6.out.mv hm)
          clear hm c45
          rw [← HC.out] at M7 P7
          have s31 := P7.out.bool T4.out 31 rfl
          have fz := P7.out.frozen
          have ME := Lib.hid (show Mv w _ pb o xs (upd Z4 [(31, .bool false)]) from M7.out.set 31 (by omega) (.bool false))
          go_wp2_with fail
          go_end0
          exact ⟨rfl, ME.out⟩
        · have e3_ : (n == 3) = false := by simpa using q3
          by_cases q4 : n = 4
          · subst q4
            have hD := HD4.out
            simp at hD
            have HC := Lib.hid hD
            clear hD
            go_wp2_with fail
            refine (kD.out _ P6.out).mono ?_
            rintro e w7 ⟨rfl, hm⟩
            have M7 := Lib.hid (M6.out.trans hm)
            have P7 := Lib.hid (P6.out.mv hm)
            clear hm c45
            rw [← HC.out] at M7 P7
            have s31 := P7.out.bool T4.out 31 rfl
            have fz := P7.out.frozen
            have ME := Lib.hid (show Mv w _ pb o xs (upd Z4 [(31, .bool false)]) from M7.out.set 31 (by omega) (.bool false))
            go_wp2_with fail
            go_end0
            exact ⟨rfl, ME.out⟩
          · have e4_ : (n == 4) = false := by simpa using q4
            have hD := HD4.out
            simp [e1_, e2_, e3_, e4_] at hD
            rw [← hD] at M6 P6
            clear hD q1 q2 q3 q4
            have s31 := P6.out.bool T4.out 31 rfl
            have fz := P6.out.frozen
            have ME := Lib.hid (show Mv w _ pb o xs (upd Z4 [(31, .bool false)]) from M6.out.set 31 (by omega) (.bool false))
            go_wp2_with fail
            go_end0
            exact ⟨rfl, ME.out⟩
  · have e : (k == 2) = false := by simpa using q
    have hD := HD3.out
    simp [e] at hD
    have M6 := Lib.hid (show Mv w w5 pb o xs Z3 from (by rw [hD]; exact M5.out))
    have P6 := Lib.hid (show Pt w5 pb o Z3 from (by rw [hD]; exact P5.out))
    clear hD q
    have c45 := P6.out.numk T3.out 45 .i64 rfl
    rw [N3.out] at c45
    go_upto_region 4 with fail
    clear fz s36 M5 P5 HD3 c72
    by_cases q1 : n = 1
    · subst q1
      have hD := HD4.out
      simp at hD
      have HC := Lib.hid hD
      clear hD
      go_wp2_with fail
      refine (kS.out _ P6.out).mono ?_
      rintro e w7 ⟨rfl, hm⟩
      have M7 := Lib.hid (M6.out.trans hm)
      have P7 := Lib.hid (P6.out.mv hm)
      clear hm c45
      rw [← HC.out] at M7 P7
      have s31 := P7.out.bool T4.out 31 rfl
      have fz := P7.out.frozen
      have ME := Lib.hid (show Mv w _ pb o xs (upd Z4 [(31, .bool false)]) from M7.out.set 31 (by omega) (.bool false))
      go_wp2_with fail
      go_end0
      exact ⟨rfl, ME.out⟩
    · have e1_ : (n == 1) = false := by simpa using q1
      by_cases q2 : n = 2
      · subst q2
        have hD := HD4.out
        simp at hD
        have HC := Lib.hid hD
        clear hD
        go_wp2_with fail
        refine (kP.out _ P6.out).mono ?_
        rintro e w7 ⟨rfl, hm⟩
        have M7 := Lib.hid (M6.out.trans hm)
        have P7 := Lib.hid (P6.out.mv hm)
        clear hm c45
        go_wp2_with fail
        refine (kF.out _ P7.out).mono ?_
        rintro e w8 ⟨rfl, hm⟩
        have M8 := Lib.hid (M7.out.trans hm)
        have P8 := Lib.hid (P7.out.mv hm)
        clear hm
        go_wp2_with fail
        refine (kL.out _ P8.out).mono ?_
        rintro e w9 ⟨rfl, hm⟩
        have M9 := Lib.hid (M8.out.trans hm)
        have P9 := Lib.hid (P8.out.mv hm)
        clear hm
        rw [← HC.out] at M9 P9
        have s31 := P9.out.bool T4.out 31 rfl
        have fz := P9.out.frozen
        have ME := Lib.hid (show Mv w _ pb o xs (upd Z4 [(31, .bool false)]) from M9.out.set 31 (by omega) (.bool false))
        go_wp2_with fail
        go_end0
        exact ⟨rfl, ME.out⟩
      · have e2_ : (n == 2) = false := by simpa using q2
        by_cases q3 : n = 3
        · subst q3
          have hD := HD4.out
          simp at hD
          have HC := Lib.hid hD
          clear hD
          go_wp2_with fail
          refine (kI.out _ P6.out).mono ?_
          rintro e w7 ⟨rfl, hm⟩
          have M7 := Lib.hid (M6.out.trans hm)
          have P7 := Lib.hid (P6.out.mv hm)
          clear hm c45
          rw [← HC.out] at M7 P7
          have s31 := P7.out.bool T4.out 31 rfl
          have fz := P7.out.frozen
          have ME := Lib.hid (show Mv w _ pb o xs (upd Z4 [(31, .bool false)]) from M7.out.set 31 (by omega) (.bool false))
          go_wp2_with fail
          go_end0
          exact ⟨rfl, ME.out⟩
        · have e3_ : (n == 3) = false := by simpa using q3
          by_cases q4 : n = 4
          · subst q4
            have hD := HD4.out
            simp at hD
            have HC := Lib.hid hD
            clear hD
            go_wp2_with fail
            refine (kD.out _ P6.out).mono ?_
            rintro e w7 ⟨rfl, hm⟩
            have M7 := Lib.hid (M6.out.trans hm)
            have P7 := Lib.hid (P6.out.mv hm)
            clear hm c45
            rw [← HC.out] at M7 P7
            have s31 := P7.out.bool T4.out 31 rfl
            have fz := P7.out.frozen
            have ME := Lib.hid (show Mv w _ pb o xs (upd Z4 [(31, .bool false)]) from M7.out.set 31 (by omega) (.bool false))
            go_wp2_with fail
            go_end0
            exact ⟨rfl, ME.out⟩
          · have e4_ : (n == 4) = false := by simpa using q4
            have hD := HD4.out
            simp [e1_, e2_, e3_, e4_] at hD
            rw [← hD] at M6 P6
            clear hD q1 q2 q3 q4
            have s31 := P6.out.bool T4.out 31 rfl
            have fz := P6.out.frozen
            have ME := Lib.hid (show Mv w _ pb o xs (upd Z4 [(31, .bool false)]) from M6.out.set 31 (by omega) (.bool false))
            go_wp2_with fail
            go_end0
            exact ⟨rfl, ME.out⟩
end Go.Proofs.YtjfdochceejegaaDoor
