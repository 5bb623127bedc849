/- Contracts of the program's machines. -/
import Derived.Test.YthkmhnajhhomoaaJ
import Derived.Test.YthkmhnajhhomoaaM1
namespace Go.Proofs.Ythkmhnajhhomoaa
open Go.RowKit Go.Sort

def edgeX (e : Bool) (xs : Array Value) : Array Value := upd xs [(25, .bool e), (84, .int .i64 (if e then 1 else 0))]
theorem edgeX_typed (e : Bool) {xs : Array Value} (h : Typed xs) : Typed (edgeX e xs) := upd_typed _ h (by
  simp only [List.mem_cons, List.not_mem_nil, or_false]
  rintro p (rfl | rfl)
  · exact isB rfl _
  · exact isI rfl _)
theorem edgeX_true (xs : Array Value) : upd xs [(25, .bool true), (84, .int .i64 0), (84, .int .i64 1)] = edgeX true xs := upd_congr fun j => by
  simp only [look, if_true]
  by_cases h : 84 = j
  · simp [h]
  · simp [h]
theorem become_any (e0 : Bool) (pb o : Nat) (xs : Array Value) (w : World) (hp : Pt w pb o xs) (ht : Typed xs) : Calls Try.prog 30 #[.pointer (some ⟨pb, o, none⟩), .bool e0] w fun e w' => e = .returned (.tuple #[]) ∧ Mv w w' pb o xs (edgeX e0 xs) := by
  have c25 := hp.bool ht 25 rfl
  have c84 := hp.num ht 84 rfl
  have fz := hp.frozen
  clear hp ht
  generalize boolI xs 25 = x25 at c25
  generalize numI xs 84 = x84 at c84
  cases e0
  · have HM := Lib.hid (show Mv w _ pb o xs (edgeX false xs) from (((Mv.refl w pb o xs).set 25 (by omega) (.bool false)).set 84 (by omega) (.int .i64 0)))
    go_enter Try.func30, Try.ntmps30
    go_wp2_with fail
    go_end0
    exact ⟨rfl, HM.out⟩
  · have HM := Lib.hid (show Mv w _ pb o xs (upd xs [(25, .bool true), (84, .int .i64 0), (84, .int .i64 1)]) from ((((Mv.refl w pb o xs).set 25 (by omega) (.bool true)).set 84 (by omega) (.int .i64 0)).set 84 (by omega) (.int .i64 1)))
    rw [edgeX_true] at HM
    go_enter Try.func30, Try.ntmps30
    go_wp2_with fail
    go_end0
    exact ⟨rfl, HM.out⟩
def takeX (xs : Array Value) : Array Value := if numI xs 72 == 3 then upd xs [(32, .bool true), (25, .bool false), (30, .bool false), (31, .bool true), (6, .int .i64 3), (82, .int .i64 1)] else upd xs [(33, .bool true), (25, .bool false), (30, .bool false), (31, .bool true), (6, .int .i64 3), (82, .int .i64 1)]
theorem takeX_typed {xs : Array Value} (h : Typed xs) : Typed (takeX xs) := by
  unfold takeX
  split
  all_goals
    refine upd_typed _ h ?_
    simp only [List.mem_cons, List.not_mem_nil, or_false]
    rintro p (rfl | rfl | rfl | rfl | rfl | rfl)
    · exact isB rfl _
    · exact isB rfl _
    · exact isB rfl _
    · exact isB rfl _
    · exact isI rfl _
    · exact isI rfl _
theorem take_any (pb o : Nat) (xs : Array Value) (w : World) (hp : Pt w pb o xs) (ht : Typed xs) : Calls Try.prog 37 #[.pointer (some ⟨pb, o, none⟩)] w fun e w' => e = .returned (.tuple #[]) ∧ Mv w w' pb o xs (takeX xs) := by
  have c72 := hp.num ht 72 rfl
  have c32 := hp.bool ht 32 rfl
  have c33 := hp.bool ht 33 rfl
  have c25 := hp.bool ht 25 rfl
  have c30 := hp.bool ht 30 rfl
  have c31 := hp.bool ht 31 rfl
  have c6 := hp.num ht 6 rfl
  have c82 := hp.num ht 82 rfl
  have fz := hp.frozen
  have HR := Lib.hid (show takeX xs = if numI xs 72 == 3 then upd xs [(32, .bool true), (25, .bool false), (30, .bool false), (31, .bool true), (6, .int .i64 3), (82, .int .i64 1)] else upd xs [(33, .bool true), (25, .bool false), (30, .bool false), (31, .bool true), (6, .int .i64 3), (82, .int .i64 1)] from rfl)
  have HA := Lib.hid (show Mv w _ pb o xs (upd xs [(32, .bool true), (25, .bool false), (30, .bool false), (31, .bool true), (6, .int .i64 3), (82, .int .i64 1)]) from (((((((Mv.refl w pb o xs).set 32 (by omega) (.bool true)).set 25 (by omega) (.bool false)).set 30 (by omega) (.bool false)).set 31 (by omega) (.bool true)).set 6 (by omega) (.int .i64 3)).set 82 (by omega) (.int .i64 1)))
  have HB := Lib.hid (show Mv w _ pb o xs (upd xs [(33, .bool true), (25, .bool false), (30, .bool false), (31, .bool true), (6, .int .i64 3), (82, .int .i64 1)]) from (((((((Mv.refl w pb o xs).set 33 (by omega) (.bool true)).set 25 (by omega) (.bool false)).set 30 (by omega) (.bool false)).set 31 (by omega) (.bool true)).set 6 (by omega) (.int .i64 3)).set 82 (by omega) (.int .i64 1)))
  clear hp ht
  generalize takeX xs = R at *
  generalize numI xs 72 = x72 at *
  generalize boolI xs 32 = x32 at *
  generalize boolI xs 33 = x33 at *
  generalize boolI xs 25 = x25 at *
  generalize boolI xs 30 = x30 at *
  generalize boolI xs 31 = x31 at *
  generalize numI xs 6 = x6 at *
  generalize numI xs 82 = x82 at *
  by_cases q : x72 = 3
  · subst q
    have hR := HR.out
    simp at hR
    have HC := Lib.hid hR
    clear hR HR HB
    go_enter Try.func37, Try.ntmps37
    go_wp2_with fail
    go_end0
    exact ⟨rfl, by rw [HC.out]; exact HA.out⟩
  · have hR := HR.out
    simp [q] at hR
    have e1 : (x72 == 3) = false := by simpa using q
    have HC := Lib.hid hR
    clear hR HR HA q
    go_enter Try.func37, Try.ntmps37
    go_wp2_with fail
    go_end0
    exact ⟨rfl, by rw [HC.out]; exact HB.out⟩
def leaveCX (r : Bool) (xs : Array Value) : Bool × Array Value := if (numI xs 9 == 0) then (true, senseX xs) else if ((numI xs 9 != 3) && !boolI xs 2) then (true, checkX r xs) else (false, xs)
theorem leaveCX_typed (r : Bool) {xs : Array Value} (h : Typed xs) : Typed (leaveCX r xs).2 := by
  unfold leaveCX
  repeat' split
  all_goals (dsimp only; first | with_reducible exact h | with_reducible exact senseX_typed h | with_reducible exact checkX_typed r h)
set_option maxHeartbeats 1000000 in
theorem leaveC_any (r : Bool) (pb o : Nat) (xs : Array Value) (w : World) (hp : Pt w pb o xs) (ht : Typed xs) : Calls Try.prog 22 #[.pointer (some ⟨pb, o, none⟩), .bool r] w fun e w' => e = .returned (.bool (leaveCX r xs).1) ∧ Mv w w' pb o xs (leaveCX r xs).2 := by
  have c9 := hp.num ht 9 rfl
  have c2 := hp.bool ht 2 rfl
  have HR := Lib.hid (show leaveCX r xs = if (numI xs 9 == 0) then (true, senseX xs) else if ((numI xs 9 != 3) && !boolI xs 2) then (true, checkX r xs) else (false, xs) from rfl)
  have ksense := Lib.hid (sense_any  pb o xs w hp ht)
  have kcheck := Lib.hid (check_any r pb o xs w hp ht)
  have M0 := Lib.hid (Mv.refl w pb o xs)
  clear hp ht
  generalize leaveCX r xs = R at *
  generalize numI xs 9 = x9 at *
  generalize boolI xs 2 = x2 at *
  by_cases q0 : x9 = 0
  · subst q0
    have hR := HR.out
    simp [] at hR
    subst hR
    go_enter Try.func22, Try.ntmps22
    go_wp2_with fail
    refine ksense.out.mono ?_
    rintro e w1 ⟨rfl, hm⟩
    have HM := Lib.hid hm
    clear hm
    go_wp2_with fail
    go_ret
    exact ⟨rfl, HM.out⟩
  · have e0_ : (x9 == 0) = false := by simpa using q0
    have n0_ : (x9 != 0) = true := by simpa using q0
    clear q0
    by_cases q1 : x9 = 3
    · subst q1
      have hR := HR.out
      simp [e0_, n0_] at hR
      subst hR
      go_enter Try.func22, Try.ntmps22
      go_wp2_with fail
      go_ret
      exact ⟨rfl, M0.out⟩
    · have e1_ : (x9 == 3) = false := by simpa using q1
      have n1_ : (x9 != 3) = true := by simpa using q1
      clear q1
      cases x2
      · have hR := HR.out
        simp [e0_, n0_, e1_, n1_] at hR
        subst hR
        go_enter Try.func22, Try.ntmps22
        go_wp2_with fail
        refine kcheck.out.mono ?_
        rintro e w1 ⟨rfl, hm⟩
        have HM := Lib.hid hm
        clear hm
        go_wp2_with fail
        go_ret
        exact ⟨rfl, HM.out⟩
      · have hR := HR.out
        simp [e0_, n0_, e1_, n1_] at hR
        subst hR
        go_enter Try.func22, Try.ntmps22
        go_wp2_with fail
        go_ret
        exact ⟨rfl, M0.out⟩
def leaveLX  (xs : Array Value) : Bool × Array Value := if !((numI xs 9 != 0) && boolI xs 2 && !boolI xs 23) then (true, senseX xs) else (false, xs)
theorem leaveLX_typed  {xs : Array Value} (h : Typed xs) : Typed (leaveLX  xs).2 := by
  unfold leaveLX
  repeat' split
  all_goals (dsimp only; first | with_reducible exact h | with_reducible exact senseX_typed h)
set_option maxHeartbeats 1000000 in
theorem leaveL_any  (pb o : Nat) (xs : Array Value) (w : World) (hp : Pt w pb o xs) (ht : Typed xs) : Calls Try.prog 23 #[.pointer (some ⟨pb, o, none⟩)] w fun e w' => e = .returned (.bool (leaveLX  xs).1) ∧ Mv w w' pb o xs (leaveLX  xs).2 := by
  have c9 := hp.num ht 9 rfl
  have c2 := hp.bool ht 2 rfl
  have c23 := hp.bool ht 23 rfl
  have HR := Lib.hid (show leaveLX  xs = if !((numI xs 9 != 0) && boolI xs 2 && !boolI xs 23) then (true, senseX xs) else (false, xs) from rfl)
  have ksense := Lib.hid (sense_any  pb o xs w hp ht)
  have M0 := Lib.hid (Mv.refl w pb o xs)
  clear hp ht
  generalize leaveLX  xs = R at *
  generalize numI xs 9 = x9 at *
  generalize boolI xs 2 = x2 at *
  generalize boolI xs 23 = x23 at *
  by_cases q0 : x9 = 0
  · subst q0
    have hR := HR.out
    simp [] at hR
    subst hR
    go_enter Try.func23, Try.ntmps23
    go_wp2_with fail
    refine ksense.out.mono ?_
    rintro e w1 ⟨rfl, hm⟩
    have HM := Lib.hid hm
    clear hm
    go_wp2_with fail
    go_ret
    exact ⟨rfl, HM.out⟩
  · have e0_ : (x9 == 0) = false := by simpa using q0
    have n0_ : (x9 != 0) = true := by simpa using q0
    clear q0
    cases x2
    · have hR := HR.out
      simp [e0_, n0_] at hR
      subst hR
      go_enter Try.func23, Try.ntmps23
      go_wp2_with fail
      refine ksense.out.mono ?_
      rintro e w1 ⟨rfl, hm⟩
      have HM := Lib.hid hm
      clear hm
      go_wp2_with fail
      go_ret
      exact ⟨rfl, HM.out⟩
    · cases x23
      · have hR := HR.out
        simp [e0_, n0_] at hR
        subst hR
        go_enter Try.func23, Try.ntmps23
        go_wp2_with fail
        go_ret
        exact ⟨rfl, M0.out⟩
      · have hR := HR.out
        simp [e0_, n0_] at hR
        subst hR
        go_enter Try.func23, Try.ntmps23
        go_wp2_with fail
        refine ksense.out.mono ?_
        rintro e w1 ⟨rfl, hm⟩
        have HM := Lib.hid hm
        clear hm
        go_wp2_with fail
        go_ret
        exact ⟨rfl, HM.out⟩
def leaveSX (r : Bool) (xs : Array Value) : Bool × Array Value := if (!boolI xs 2 || boolI xs 23 || (r && !boolI xs 40 && boolI xs 32)) then (true, checkX r xs) else if (boolI xs 40 && boolI xs 33) then (true, selX xs) else (false, xs)
theorem leaveSX_typed (r : Bool) {xs : Array Value} (h : Typed xs) : Typed (leaveSX r xs).2 := by
  unfold leaveSX
  repeat' split
  all_goals (dsimp only; first | with_reducible exact h | with_reducible exact checkX_typed r h | with_reducible exact selX_typed h)
set_option maxHeartbeats 1000000 in
theorem leaveS_any (r : Bool) (pb o : Nat) (xs : Array Value) (w : World) (hp : Pt w pb o xs) (ht : Typed xs) : Calls Try.prog 24 #[.pointer (some ⟨pb, o, none⟩), .bool r] w fun e w' => e = .returned (.bool (leaveSX r xs).1) ∧ Mv w w' pb o xs (leaveSX r xs).2 := by
  have c2 := hp.bool ht 2 rfl
  have c23 := hp.bool ht 23 rfl
  have c40 := hp.bool ht 40 rfl
  have c32 := hp.bool ht 32 rfl
  have c33 := hp.bool ht 33 rfl
  have HR := Lib.hid (show leaveSX r xs = if (!boolI xs 2 || boolI xs 23 || (r && !boolI xs 40 && boolI xs 32)) then (true, checkX r xs) else if (boolI xs 40 && boolI xs 33) then (true, selX xs) else (false, xs) from rfl)
  have kcheck := Lib.hid (check_any r pb o xs w hp ht)
  have kselect := Lib.hid (select_any  pb o xs w hp ht)
  have M0 := Lib.hid (Mv.refl w pb o xs)
  clear hp ht
  generalize leaveSX r xs = R at *
  generalize boolI xs 2 = x2 at *
  generalize boolI xs 23 = x23 at *
  generalize boolI xs 40 = x40 at *
  generalize boolI xs 32 = x32 at *
  generalize boolI xs 33 = x33 at *
  cases x2
  · have hR := HR.out
    simp [] at hR
    subst hR
    go_enter Try.func24, Try.ntmps24
    go_wp2_with fail
    refine kcheck.out.mono ?_
    rintro e w1 ⟨rfl, hm⟩
    have HM := Lib.hid hm
    clear hm
    go_wp2_with fail
    go_ret
    exact ⟨rfl, HM.out⟩
  · cases x23
    · cases r
      · cases x40
        · have hR := HR.out
          simp [] at hR
          subst hR
          go_enter Try.func24, Try.ntmps24
          go_wp2_with fail
          go_ret
          exact ⟨rfl, M0.out⟩
        · cases x33
          · have hR := HR.out
            simp [] at hR
            subst hR
            go_enter Try.func24, Try.ntmps24
            go_wp2_with fail
            go_ret
            exact ⟨rfl, M0.out⟩
          · have hR := HR.out
            simp [] at hR
            subst hR
            go_enter Try.func24, Try.ntmps24
            go_wp2_with fail
            refine kselect.out.mono ?_
            rintro e w1 ⟨rfl, hm⟩
            have HM := Lib.hid hm
            clear hm
            go_wp2_with fail
            go_ret
            exact ⟨rfl, HM.out⟩
      · cases x40
        · cases x32
          · have hR := HR.out
            simp [] at hR
            subst hR
            go_enter Try.func24, Try.ntmps24
            go_wp2_with fail
            go_ret
            exact ⟨rfl, M0.out⟩
          · have hR := HR.out
            simp [] at hR
            subst hR
            go_enter Try.func24, Try.ntmps24
            go_wp2_with fail
            refine kcheck.out.mono ?_
            rintro e w1 ⟨rfl, hm⟩
            have HM := Lib.hid hm
            clear hm
            go_wp2_with fail
            go_ret
            exact ⟨rfl, HM.out⟩
        · cases x33
          · have hR := HR.out
            simp [] at hR
            subst hR
            go_enter Try.func24, Try.ntmps24
            go_wp2_with fail
            go_ret
            exact ⟨rfl, M0.out⟩
          · have hR := HR.out
            simp [] at hR
            subst hR
            go_enter Try.func24, Try.ntmps24
            go_wp2_with fail
            refine kselect.out.mono ?_
            rintro e w1 ⟨rfl, hm⟩
            have HM := Lib.hid hm
            clear hm
            go_wp2_with fail
            go_ret
            exact ⟨rfl, HM.out⟩
    · have hR := HR.out
      simp [] at hR
      subst hR
      go_enter Try.func24, Try.ntmps24
      go_wp2_with fail
      refine kcheck.out.mono ?_
      rintro e w1 ⟨rfl, hm⟩
      have HM := Lib.hid hm
      clear hm
      go_wp2_with fail
      go_ret
      exact ⟨rfl, HM.out⟩
end Go.Proofs.Ythkmhnajhhomoaa
