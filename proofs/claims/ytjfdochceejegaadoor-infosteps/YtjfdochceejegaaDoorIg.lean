/- Contracts of the program's reselect, disable, age; of mustDisable and mustUpdate; of propose, takeFlags, hearInferior. -/
import Derived.Test.YtjfdochceejegaaDoorIf
namespace Go.Proofs.YtjfdochceejegaaDoor
open Go.RowKit Go.Sort

theorem upd_last {xs : Array Value} {l : List (Nat × Value)} {k : Nat} {v : Value} (h : xs[k]? = some v) (hl : look l k = none) : upd xs (l ++ [(k, v)]) = upd xs l := by
  rw [upd_append]
  refine set_self ?_
  rw [upd_at l xs k (Array.getElem?_eq_some_iff.1 h).1, hl, h]
  rfl
def resX (xs : Array Value) : Array Value := upd xs [(29, .bool true), (39, .bool false)]
theorem resX_typed {xs : Array Value} (h : Typed xs) : Typed (resX xs) := upd_typed _ h (by
  simp only [List.mem_cons, List.not_mem_nil, or_false]
  rintro p (rfl | rfl)
  · exact isB rfl _
  · exact isB rfl _)
theorem reselect_any (pb o : Nat) (xs : Array Value) (w : World) (hp : Pt w pb o xs) (ht : Typed xs) : Calls Tryd.prog 41 #[.pointer (some ⟨pb, o, none⟩)] w fun e w' => e = .returned (.tuple #[]) ∧ Mv w w' pb o xs (resX xs) := by
  have P0 := Lib.hid hp
  have T0 := Lib.hid ht
  have M0 := Lib.hid (Mv.refl w pb o xs)
  clear hp ht
  have s29 := P0.out.bool T0.out 29 rfl
  have s39 := P0.out.bool T0.out 39 rfl
  have fz := P0.out.frozen
  have M1 := Lib.hid (show Mv w _ pb o xs (upd xs [(29, .bool true), (39, .bool false)]) from ((M0.out.set 29 (by omega) (.bool true)).set 39 (by omega) (.bool false)))
  have T1 := Lib.hid (show Typed (upd xs [(29, .bool true), (39, .bool false)]) from upd_typed _ T0.out (by
    simp only [List.mem_cons, List.not_mem_nil, or_false]
    rintro p (rfl | rfl)
    · exact isB rfl _
    · exact isB rfl _))
  have P1 := Lib.hid (P0.out.mv (((Mv.refl w pb o (xs)).set 29 (by omega) (.bool true)).set 39 (by omega) (.bool false)))
  unfold resX
  go_enter Tryd.func41, Tryd.ntmps41
  go_wp2_with fail
  go_end0
  exact ⟨rfl, M1.out⟩
def disX (xs : Array Value) : Array Value := upd xs [(31, .bool false), (27, .bool false), (26, .bool false), (15, .bool false), (16, .bool false), (11, .int .i64 0), (44, .int .i64 0), (29, .bool true), (39, .bool false), (86, .int .i64 0)]
theorem disX_typed {xs : Array Value} (h : Typed xs) : Typed (disX xs) := upd_typed _ h (by
  simp only [List.mem_cons, List.not_mem_nil, or_false]
  rintro p (rfl | rfl | rfl | rfl | rfl | rfl | rfl | rfl | rfl | rfl)
  · exact isB rfl _
  · exact isB rfl _
  · exact isB rfl _
  · exact isB rfl _
  · exact isB rfl _
  · exact isK rfl _
  · exact isK rfl _
  · exact isB rfl _
  · exact isB rfl _
  · exact isK rfl _)
theorem disable_any (pb o : Nat) (xs : Array Value) (w : World) (hp : Pt w pb o xs) (ht : Typed xs) : Calls Tryd.prog 30 #[.pointer (some ⟨pb, o, none⟩)] w fun e w' => e = .returned (.tuple #[]) ∧ Mv w w' pb o xs (disX xs) := by
  rw [show disX xs = upd (resX (upd xs [(31, .bool false), (27, .bool false), (26, .bool false), (15, .bool false), (16, .bool false), (11, .int .i64 0), (44, .int .i64 0)])) [(86, .int .i64 0)] from (by unfold disX resX; rw [← upd_append, ← upd_append]; rfl)]
  have P0 := Lib.hid hp
  have T0 := Lib.hid ht
  have M0 := Lib.hid (Mv.refl w pb o xs)
  clear hp ht
  have s11 := P0.out.numk T0.out 11 .i64 rfl
  have s15 := P0.out.bool T0.out 15 rfl
  have s16 := P0.out.bool T0.out 16 rfl
  have s26 := P0.out.bool T0.out 26 rfl
  have s27 := P0.out.bool T0.out 27 rfl
  have s31 := P0.out.bool T0.out 31 rfl
  have s44 := P0.out.numk T0.out 44 .i64 rfl
  have fz := P0.out.frozen
  have M1 := Lib.hid (show Mv w _ pb o xs (upd xs [(31, .bool false), (27, .bool false), (26, .bool false), (15, .bool false), (16, .bool false), (11, .int .i64 0), (44, .int .i64 0)]) from (((((((M0.out.set 31 (by omega) (.bool false)).set 27 (by omega) (.bool false)).set 26 (by omega) (.bool false)).set 15 (by omega) (.bool false)).set 16 (by omega) (.bool false)).set 11 (by omega) (.int .i64 0)).set 44 (by omega) (.int .i64 0)))
  have T1 := Lib.hid (show Typed (upd xs [(31, .bool false), (27, .bool false), (26, .bool false), (15, .bool false), (16, .bool false), (11, .int .i64 0), (44, .int .i64 0)]) from upd_typed _ T0.out (by
    simp only [List.mem_cons, List.not_mem_nil, or_false]
    rintro p (rfl | rfl | rfl | rfl | rfl | rfl | rfl)
    · exact isB rfl _
    · exact isB rfl _
    · exact isB rfl _
    · exact isB rfl _
    · exact isB rfl _
    · exact isK rfl _
    · exact isK rfl _))
  have P1 := Lib.hid (P0.out.mv ((((((((Mv.refl w pb o (xs)).set 31 (by omega) (.bool false)).set 27 (by omega) (.bool false)).set 26 (by omega) (.bool false)).set 15 (by omega) (.bool false)).set 16 (by omega) (.bool false)).set 11 (by omega) (.int .i64 0)).set 44 (by omega) (.int .i64 0)))
  go_enter Tryd.func30, Tryd.ntmps30
  go_wp2_with fail
  clear fz s11 s15 s16 s26 s27 s31 s44 M0 T0 P0
  generalize (((((((w.setCell ⟨pb, o + 31, none⟩ (.bool false)).setCell ⟨pb, o + 27, none⟩ (.bool false)).setCell ⟨pb, o + 26, none⟩ (.bool false)).setCell ⟨pb, o + 15, none⟩ (.bool false)).setCell ⟨pb, o + 16, none⟩ (.bool false)).setCell ⟨pb, o + 11, none⟩ (.int .i64 0)).setCell ⟨pb, o + 44, none⟩ (.int .i64 0)) = w1 at *
  refine (reselect_any _ _ _ _ P1.out T1.out).mono ?_
  rintro e w2 ⟨rfl, hm⟩
  have M2 := Lib.hid (M1.out.trans hm)
  have P2 := Lib.hid (P1.out.mv hm)
  have T2 := Lib.hid (show Typed (resX (upd xs [(31, .bool false), (27, .bool false), (26, .bool false), (15, .bool false), (16, .bool false), (11, .int .i64 0), (44, .int .i64 0)])) from resX_typed T1.out)
  clear hm M1 T1 P1
  have s86 := P2.out.numk T2.out 86 .i64 rfl
  have fz := P2.out.frozen
  have M3 := Lib.hid (show Mv w _ pb o xs (upd (resX (upd xs [(31, .bool false), (27, .bool false), (26, .bool false), (15, .bool false), (16, .bool false), (11, .int .i64 0), (44, .int .i64 0)])) [(86, .int .i64 0)]) from (M2.out.set 86 (by omega) (.int .i64 0)))
  have T3 := Lib.hid (show Typed (upd (resX (upd xs [(31, .bool false), (27, .bool false), (26, .bool false), (15, .bool false), (16, .bool false), (11, .int .i64 0), (44, .int .i64 0)])) [(86, .int .i64 0)]) from upd_typed _ T2.out (by
    simp only [List.mem_cons, List.not_mem_nil, or_false]
    rintro p rfl
    exact isK rfl _))
  have P3 := Lib.hid (P2.out.mv ((Mv.refl w2 pb o (resX (upd xs [(31, .bool false), (27, .bool false), (26, .bool false), (15, .bool false), (16, .bool false), (11, .int .i64 0), (44, .int .i64 0)]))).set 86 (by omega) (.int .i64 0)))
  go_wp2_with fail
  go_end0
  exact ⟨rfl, M3.out⟩
def ageX (xs : Array Value) : Array Value := upd xs [(44, .int .i64 1), (29, .bool true), (39, .bool false), (86, .int .i64 1)]
theorem ageX_typed {xs : Array Value} (h : Typed xs) : Typed (ageX xs) := upd_typed _ h (by
  simp only [List.mem_cons, List.not_mem_nil, or_false]
  rintro p (rfl | rfl | rfl | rfl)
  · exact isK rfl _
  · exact isB rfl _
  · exact isB rfl _
  · exact isK rfl _)
theorem age_any (pb o : Nat) (xs : Array Value) (w : World) (hp : Pt w pb o xs) (ht : Typed xs) : Calls Tryd.prog 31 #[.pointer (some ⟨pb, o, none⟩)] w fun e w' => e = .returned (.tuple #[]) ∧ Mv w w' pb o xs (ageX xs) := by
  rw [show ageX xs = upd (resX (upd xs [(44, .int .i64 1)])) [(86, .int .i64 1)] from (by unfold ageX resX; rw [← upd_append, ← upd_append]; rfl)]
  have P0 := Lib.hid hp
  have T0 := Lib.hid ht
  have M0 := Lib.hid (Mv.refl w pb o xs)
  clear hp ht
  have s44 := P0.out.numk T0.out 44 .i64 rfl
  have fz := P0.out.frozen
  have M1 := Lib.hid (show Mv w _ pb o xs (upd xs [(44, .int .i64 1)]) from (M0.out.set 44 (by omega) (.int .i64 1)))
  have T1 := Lib.hid (show Typed (upd xs [(44, .int .i64 1)]) from upd_typed _ T0.out (by
    simp only [List.mem_cons, List.not_mem_nil, or_false]
    rintro p rfl
    exact isK rfl _))
  have P1 := Lib.hid (P0.out.mv ((Mv.refl w pb o (xs)).set 44 (by omega) (.int .i64 1)))
  go_enter Tryd.func31, Tryd.ntmps31
  go_wp2_with fail
  clear fz s44 M0 T0 P0
  generalize (w.setCell ⟨pb, o + 44, none⟩ (.int .i64 1)) = w1 at *
  refine (reselect_any _ _ _ _ P1.out T1.out).mono ?_
  rintro e w2 ⟨rfl, hm⟩
  have M2 := Lib.hid (M1.out.trans hm)
  have P2 := Lib.hid (P1.out.mv hm)
  have T2 := Lib.hid (show Typed (resX (upd xs [(44, .int .i64 1)])) from resX_typed T1.out)
  clear hm M1 T1 P1
  have s86 := P2.out.numk T2.out 86 .i64 rfl
  have fz := P2.out.frozen
  have M3 := Lib.hid (show Mv w _ pb o xs (upd (resX (upd xs [(44, .int .i64 1)])) [(86, .int .i64 1)]) from (M2.out.set 86 (by omega) (.int .i64 1)))
  have T3 := Lib.hid (show Typed (upd (resX (upd xs [(44, .int .i64 1)])) [(86, .int .i64 1)]) from upd_typed _ T2.out (by
    simp only [List.mem_cons, List.not_mem_nil, or_false]
    rintro p rfl
    exact isK rfl _))
  have P3 := Lib.hid (P2.out.mv ((Mv.refl w2 pb o (resX (upd xs [(44, .int .i64 1)]))).set 86 (by omega) (.int .i64 1)))
  go_wp2_with fail
  go_end0
  exact ⟨rfl, M3.out⟩
def mustDisX (xs : Array Value) : Bool := ((!boolI xs 2 && (numI xs 44 != 0)) || ((numI xs 86 == 0) && boolI xs 31))
set_option maxHeartbeats 1000000 in
theorem mustDis_any (pb o : Nat) (xs : Array Value) (w : World) (hp : Pt w pb o xs) (ht : Typed xs) : Calls Tryd.prog 29 #[.pointer (some ⟨pb, o, none⟩)] w fun e w' => e = .returned (.bool (mustDisX xs)) ∧ w = w' := by
  have c2 := hp.bool ht 2 rfl
  have c44 := hp.num ht 44 rfl
  have c86 := hp.num ht 86 rfl
  have c31 := hp.bool ht 31 rfl
  unfold mustDisX
  clear hp ht
  generalize boolI xs 2 = x2 at *
  generalize numI xs 44 = x44 at *
  generalize numI xs 86 = x86 at *
  generalize boolI xs 31 = x31 at *
  cases x2
  · by_cases q1 : x44 = 0
    · subst q1
      by_cases q2 : x86 = 0
      · subst q2
        cases x31
        · go_enter Tryd.func29, Tryd.ntmps29
          go_wp2_with fail
          go_ret
          exact ⟨by first | rfl | simp_all, rfl⟩
        · go_enter Tryd.func29, Tryd.ntmps29
          go_wp2_with fail
          go_ret
          exact ⟨by first | rfl | simp_all, rfl⟩
      · have e2_ : (x86 == 0) = false := by simpa using q2
        have n2_ : (x86 != 0) = true := by simpa using q2
        clear q2
        go_enter Tryd.func29, Tryd.ntmps29
        go_wp2_with fail
        go_ret
        exact ⟨by first | rfl | simp_all, rfl⟩
    · have e1_ : (x44 == 0) = false := by simpa using q1
      have n1_ : (x44 != 0) = true := by simpa using q1
      clear q1
      go_enter Tryd.func29, Tryd.ntmps29
      go_wp2_with fail
      go_ret
      exact ⟨by first | rfl | simp_all, rfl⟩
  · by_cases q1 : x86 = 0
    · subst q1
      cases x31
      · go_enter Tryd.func29, Tryd.ntmps29
        go_wp2_with fail
        go_ret
        exact ⟨by first | rfl | simp_all, rfl⟩
      · go_enter Tryd.func29, Tryd.ntmps29
        go_wp2_with fail
        go_ret
        exact ⟨by first | rfl | simp_all, rfl⟩
    · have e1_ : (x86 == 0) = false := by simpa using q1
      have n1_ : (x86 != 0) = true := by simpa using q1
      clear q1
      go_enter Tryd.func29, Tryd.ntmps29
      go_wp2_with fail
      go_ret
      exact ⟨by first | rfl | simp_all, rfl⟩
def mustUpdX (xs : Array Value) : Bool := (((numI xs 86 == 1) || (numI xs 86 == 2)) && boolI xs 39 && boolI xs 43)
set_option maxHeartbeats 1000000 in
theorem mustUpd_any (pb o : Nat) (xs : Array Value) (w : World) (hp : Pt w pb o xs) (ht : Typed xs) : Calls Tryd.prog 32 #[.pointer (some ⟨pb, o, none⟩)] w fun e w' => e = .returned (.bool (mustUpdX xs)) ∧ w = w' := by
  have c86 := hp.num ht 86 rfl
  have c39 := hp.bool ht 39 rfl
  have c43 := hp.bool ht 43 rfl
  unfold mustUpdX
  clear hp ht
  generalize numI xs 86 = x86 at *
  generalize boolI xs 39 = x39 at *
  generalize boolI xs 43 = x43 at *
  by_cases q0 : x86 = 1
  · subst q0
    cases x39
    · go_enter Tryd.func32, Tryd.ntmps32
      go_wp2_with fail
      go_ret
      exact ⟨by first | rfl | simp_all, rfl⟩
    · cases x43
      · go_enter Tryd.func32, Tryd.ntmps32
        go_wp2_with fail
        go_ret
        exact ⟨by first | rfl | simp_all, rfl⟩
      · go_enter Tryd.func32, Tryd.ntmps32
        go_wp2_with fail
        go_ret
        exact ⟨by first | rfl | simp_all, rfl⟩
  · have e0_ : (x86 == 1) = false := by simpa using q0
    have n0_ : (x86 != 1) = true := by simpa using q0
    clear q0
    by_cases q1 : x86 = 2
    · subst q1
      cases x39
      · go_enter Tryd.func32, Tryd.ntmps32
        go_wp2_with fail
        go_ret
        exact ⟨by first | rfl | simp_all, rfl⟩
      · cases x43
        · go_enter Tryd.func32, Tryd.ntmps32
          go_wp2_with fail
          go_ret
          exact ⟨by first | rfl | simp_all, rfl⟩
        · go_enter Tryd.func32, Tryd.ntmps32
          go_wp2_with fail
          go_ret
          exact ⟨by first | rfl | simp_all, rfl⟩
    · have e1_ : (x86 == 2) = false := by simpa using q1
      have n1_ : (x86 != 2) = true := by simpa using q1
      clear q1
      go_enter Tryd.func32, Tryd.ntmps32
      go_wp2_with fail
      go_ret
      exact ⟨by first | rfl | simp_all, rfl⟩
/-- PROPOSE, FLAGS. -/
def propX (xs : Array Value) : Array Value := upd xs [(26, .bool (rstF xs 2 || boolI xs 26))]
theorem propX_typed {xs : Array Value} (h : Typed xs) : Typed (propX xs) := upd_typed _ h (by
  simp only [List.mem_cons, List.not_mem_nil, or_false]
  rintro p rfl
  exact isB rfl _)
def flagX (xs : Array Value) : Array Value := upd xs [(34, .bool (bitF xs 1 || boolI xs 34)), (35, .bool (bitF xs 128 || boolI xs 35))]
theorem flagX_typed {xs : Array Value} (h : Typed xs) : Typed (flagX xs) := upd_typed _ h (by
  simp only [List.mem_cons, List.not_mem_nil, or_false]
  rintro p (rfl | rfl)
  · exact isB rfl _
  · exact isB rfl _)
theorem propose_any (pb o : Nat) (xs : Array Value) (w : World) (hp : Pt w pb o xs) (ht : Typed xs) (hr : Rg xs) : Calls Tryd.prog 44 #[.pointer (some ⟨pb, o, none⟩)] w fun e w' => e = .returned (.tuple #[]) ∧ Mv w w' pb o xs (propX xs) := by
  have kI := Lib.hid (fun w => rst_2 xs hr w)
  have HM := Lib.hid (hp.msg ht)
  have HZ := Lib.hid (msgC_size xs)
  have H26 := Lib.hid (ht.bool 26 rfl)
  unfold propX
  generalize msgC xs = C at *
  generalize rstF xs 2 = q at *
  cases q
  · rw [show upd xs [(26, .bool (false || boolI xs 26))] = xs from set_self H26.out]
    go_enter Tryd.func44, Tryd.ntmps44
    go_wp2_with (with_reducible refine stopL 36 _ rfl ?_)
    refine Lib.hid ?_
    refine wpList_load_whole uM rfl sM rfl _ rfl rfl HM.out HZ.out ?_
    go_wp2_with fail
    refine (kI.out _).mono ?_
    rintro e w1 ⟨rfl, hb⟩
    have MB := Lib.hid (Mv.of_below pb o xs hb)
    have PB := Lib.hid (hp.below hb)
    clear hb HM kI
    go_wp2_with fail
    go_end0
    exact ⟨rfl, MB.out⟩
  · go_enter Tryd.func44, Tryd.ntmps44
    go_wp2_with (with_reducible refine stopL 36 _ rfl ?_)
    refine Lib.hid ?_
    refine wpList_load_whole uM rfl sM rfl _ rfl rfl HM.out HZ.out ?_
    go_wp2_with fail
    refine (kI.out _).mono ?_
    rintro e w1 ⟨rfl, hb⟩
    have MB := Lib.hid (Mv.of_below pb o xs hb)
    have PB := Lib.hid (hp.below hb)
    clear hb HM kI
    have s26 := PB.out.bool ht 26 rfl
    have fz := PB.out.frozen
    have M1 := Lib.hid (show Mv w _ pb o xs (upd xs [(26, .bool (true || boolI xs 26))]) from MB.out.set 26 (by omega) (.bool true))
    generalize boolI xs 26 = x26 at *
    go_wp2_with fail
    go_end0
    exact ⟨rfl, M1.out⟩
set_option maxHeartbeats 1000000 in
theorem takeFlags_any (pb o : Nat) (xs : Array Value) (w : World) (hp : Pt w pb o xs) (ht : Typed xs) (hr : Rg xs) : Calls Tryd.prog 45 #[.pointer (some ⟨pb, o, none⟩)] w fun e w' => e = .returned (.tuple #[]) ∧ Mv w w' pb o xs (flagX xs) := by
  obtain ⟨f, ef, lf⟩ := hr.f
  have a1 := and_1 f lf
  have a128 := and_128 f lf
  have b1 : bitF xs 1 = (f / 1 % 2 == 1) := by unfold bitF; rw [ef]; rfl
  have b128 : bitF xs 128 = (f / 128 % 2 == 1) := by unfold bitF; rw [ef]; rfl
  rw [← b1] at a1
  rw [← b128] at a128
  have c73 := hp.numk ht 73 .u8 rfl
  rw [ef] at c73
  have s34 := hp.bool ht 34 rfl
  have s35 := hp.bool ht 35 rfl
  have fz := hp.frozen
  have H34 := Lib.hid (ht.bool 34 rfl)
  have H35 := Lib.hid (ht.bool 35 rfl)
  have M0 := Lib.hid (Mv.refl w pb o xs)
  unfold flagX
  clear b1 b128 ef lf hp ht hr
  generalize bitF xs 1 = q1 at *
  generalize bitF xs 128 = q2 at *
  cases q1
  · cases q2
    · rw [show upd xs [(34, .bool (false || boolI xs 34)), (35, .bool (false || boolI xs 35))] = xs from (by
        rw [show upd xs [(34, .bool (false || boolI xs 34)), (35, .bool (false || boolI xs 35))] = upd xs ([(34, .bool (boolI xs 34))] ++ [(35, .bool (boolI xs 35))]) from rfl, upd_last H35.out rfl]
        exact set_self H34.out)]
      go_enter Tryd.func45, Tryd.ntmps45
      go_wp2_with fail
      go_end0
      exact ⟨rfl, M0.out⟩
    · have M1 := Lib.hid (M0.out.set 35 (by omega) (.bool true))
      rw [show upd xs [(34, .bool (false || boolI xs 34)), (35, .bool (true || boolI xs 35))] = xs.setIfInBounds 35 (.bool true) from (by
        rw [show upd xs [(34, .bool (false || boolI xs 34)), (35, .bool (true || boolI xs 35))] = (xs.setIfInBounds 34 (.bool (boolI xs 34))).setIfInBounds 35 (.bool true) from rfl, set_self H34.out])]
      go_enter Tryd.func45, Tryd.ntmps45
      go_wp2_with fail
      go_end0
      exact ⟨rfl, M1.out⟩
  · cases q2
    · have M1 := Lib.hid (M0.out.set 34 (by omega) (.bool true))
      rw [show upd xs [(34, .bool (true || boolI xs 34)), (35, .bool (false || boolI xs 35))] = xs.setIfInBounds 34 (.bool true) from (by
        rw [show upd xs [(34, .bool (true || boolI xs 34)), (35, .bool (false || boolI xs 35))] = upd xs ([(34, .bool true)] ++ [(35, .bool (boolI xs 35))]) from rfl, upd_last H35.out rfl]
        rfl)]
      go_enter Tryd.func45, Tryd.ntmps45
      go_wp2_with fail
      go_end0
      exact ⟨rfl, M1.out⟩
    · have M1 := Lib.hid (show Mv w _ pb o xs (upd xs [(34, .bool (true || boolI xs 34)), (35, .bool (true || boolI xs 35))]) from (M0.out.set 34 (by omega) (.bool true)).set 35 (by omega) (.bool true))
      go_enter Tryd.func45, Tryd.ntmps45
      go_wp2_with fail
      go_end0
      exact ⟨rfl, M1.out⟩
def infX (xs : Array Value) : Array Value := if rstF xs 16 then upd xs [(17, .bool true), (16, .bool false)] else xs
theorem infX_typed {xs : Array Value} (h : Typed xs) : Typed (infX xs) := by
  unfold infX
  split
  · refine upd_typed _ h ?_
    simp only [List.mem_cons, List.not_mem_nil, or_false]
    rintro p (rfl | rfl)
    · exact isB rfl _
    · exact isB rfl _
  · exact h
theorem hearInf_any (pb o : Nat) (xs : Array Value) (w : World) (hp : Pt w pb o xs) (ht : Typed xs) (hr : Rg xs) : Calls Tryd.prog 47 #[.pointer (some ⟨pb, o, none⟩)] w fun e w' => e = .returned (.tuple #[]) ∧ Mv w w' pb o xs (infX xs) := by
  have kI := Lib.hid (fun w => rst_16 xs hr w)
  have HM := Lib.hid (hp.msg ht)
  have HZ := Lib.hid (msgC_size xs)
  unfold infX
  generalize msgC xs = C at *
  generalize rstF xs 16 = q at *
  cases q
  · rw [if_neg (by simp)]
    go_enter Tryd.func47, Tryd.ntmps47
    go_wp2_with (with_reducible refine stopL 36 _ rfl ?_)
    refine Lib.hid ?_
    refine wpList_load_whole uM rfl sM rfl _ rfl rfl HM.out HZ.out ?_
    go_wp2_with fail
    refine (kI.out _).mono ?_
    rintro e w1 ⟨rfl, hb⟩
    have MB := Lib.hid (Mv.of_below pb o xs hb)
    have PB := Lib.hid (hp.below hb)
    clear hb HM kI
    go_wp2_with fail
    go_end0
    exact ⟨rfl, MB.out⟩
  · rw [if_pos rfl]
    go_enter Tryd.func47, Tryd.ntmps47
    go_wp2_with (with_reducible refine stopL 36 _ rfl ?_)
    refine Lib.hid ?_
    refine wpList_load_whole uM rfl sM rfl _ rfl rfl HM.out HZ.out ?_
    go_wp2_with fail
    refine (kI.out _).mono ?_
    rintro e w1 ⟨rfl, hb⟩
    have MB := Lib.hid (Mv.of_below pb o xs hb)
    have PB := Lib.hid (hp.below hb)
    clear hb HM kI
    have s17 := PB.out.bool ht 17 rfl
    have s16 := PB.out.bool ht 16 rfl
    have fz := PB.out.frozen
    have M1 := Lib.hid (show Mv w _ pb o xs (upd xs [(17, .bool true), (16, .bool false)]) from (MB.out.set 17 (by omega) (.bool true)).set 16 (by omega) (.bool false))
    generalize boolI xs 17 = x17 at *
    generalize boolI xs 16 = x16 at *
    go_wp2_with fail
    go_end0
    exact ⟨rfl, M1.out⟩
end Go.Proofs.YtjfdochceejegaaDoor
