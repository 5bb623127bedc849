/- Contracts of the program's functions that set, or ask, a port. -/
import Derived.Test.YthkmhnajhhomoaaH
namespace Go.Proofs.Ythkmhnajhhomoaa
open Go.RowKit Go.Sort

def discX  (xs : Array Value) : Array Value := upd xs [(30, .bool false), (32, .bool false), (33, .bool false), (31, .bool false), (6, .int .i64 3), (82, .int .i64 0)]
theorem discX_typed {xs : Array Value} (h : Typed xs) : Typed (discX  xs) := upd_typed _ h (by
  simp only [List.mem_cons, List.not_mem_nil, or_false]
  rintro p (rfl | rfl | rfl | rfl | rfl | rfl)
  · exact isB rfl _
  · exact isB rfl _
  · exact isB rfl _
  · exact isB rfl _
  · exact isI rfl _
  · exact isI rfl _)
theorem discard_any  (pb o : Nat) (xs : Array Value) (w : World) (hp : Pt w pb o xs) (ht : Typed xs) : Calls Try.prog 32 #[.pointer (some ⟨pb, o, none⟩)] w fun e w' => e = .returned (.tuple #[]) ∧ Mv w w' pb o xs (discX  xs) := by
  have HM := Lib.hid (show Mv w _ pb o xs (discX  xs) from (((((((Mv.refl w pb o xs).set 30 (by omega) (.bool false)).set 32 (by omega) (.bool false)).set 33 (by omega) (.bool false)).set 31 (by omega) (.bool false)).set 6 (by omega) (.int .i64 3)).set 82 (by omega) (.int .i64 0)))
  have c6 := hp.num ht 6 rfl
  have c30 := hp.bool ht 30 rfl
  have c31 := hp.bool ht 31 rfl
  have c32 := hp.bool ht 32 rfl
  have c33 := hp.bool ht 33 rfl
  have c82 := hp.num ht 82 rfl
  have fz := hp.frozen
  clear hp ht
  generalize numI xs 6 = x6 at c6
  generalize boolI xs 30 = x30 at c30
  generalize boolI xs 31 = x31 at c31
  generalize boolI xs 32 = x32 at c32
  generalize boolI xs 33 = x33 at c33
  generalize numI xs 82 = x82 at c82
  go_enter Try.func32, Try.ntmps32
  go_wp2_with fail
  go_end0
  exact ⟨rfl, HM.out⟩
def checkX (r : Bool) (xs : Array Value) : Array Value := upd xs [(23, .bool false), (40, .bool r), (9, .int .i64 3), (83, .int .i64 0)]
theorem checkX_typed (r : Bool) {xs : Array Value} (h : Typed xs) : Typed (checkX r xs) := upd_typed _ h (by
  simp only [List.mem_cons, List.not_mem_nil, or_false]
  rintro p (rfl | rfl | rfl | rfl)
  · exact isB rfl _
  · exact isB rfl _
  · exact isI rfl _
  · exact isI rfl _)
theorem check_any (r : Bool) (pb o : Nat) (xs : Array Value) (w : World) (hp : Pt w pb o xs) (ht : Typed xs) : Calls Try.prog 33 #[.pointer (some ⟨pb, o, none⟩), .bool r] w fun e w' => e = .returned (.tuple #[]) ∧ Mv w w' pb o xs (checkX r xs) := by
  have HM := Lib.hid (show Mv w _ pb o xs (checkX r xs) from (((((Mv.refl w pb o xs).set 23 (by omega) (.bool false)).set 40 (by omega) (.bool r)).set 9 (by omega) (.int .i64 3)).set 83 (by omega) (.int .i64 0)))
  have c9 := hp.num ht 9 rfl
  have c23 := hp.bool ht 23 rfl
  have c40 := hp.bool ht 40 rfl
  have c83 := hp.num ht 83 rfl
  have fz := hp.frozen
  clear hp ht
  generalize numI xs 9 = x9 at c9
  generalize boolI xs 23 = x23 at c23
  generalize boolI xs 40 = x40 at c40
  generalize numI xs 83 = x83 at c83
  go_enter Try.func33, Try.ntmps33
  go_wp2_with fail
  go_end0
  exact ⟨rfl, HM.out⟩
def senseX  (xs : Array Value) : Array Value := upd xs [(32, .bool false), (33, .bool false), (83, .int .i64 2)]
theorem senseX_typed {xs : Array Value} (h : Typed xs) : Typed (senseX  xs) := upd_typed _ h (by
  simp only [List.mem_cons, List.not_mem_nil, or_false]
  rintro p (rfl | rfl | rfl)
  · exact isB rfl _
  · exact isB rfl _
  · exact isI rfl _)
theorem sense_any  (pb o : Nat) (xs : Array Value) (w : World) (hp : Pt w pb o xs) (ht : Typed xs) : Calls Try.prog 38 #[.pointer (some ⟨pb, o, none⟩)] w fun e w' => e = .returned (.tuple #[]) ∧ Mv w w' pb o xs (senseX  xs) := by
  have HM := Lib.hid (show Mv w _ pb o xs (senseX  xs) from ((((Mv.refl w pb o xs).set 32 (by omega) (.bool false)).set 33 (by omega) (.bool false)).set 83 (by omega) (.int .i64 2)))
  have c32 := hp.bool ht 32 rfl
  have c33 := hp.bool ht 33 rfl
  have c83 := hp.num ht 83 rfl
  have fz := hp.frozen
  clear hp ht
  generalize boolI xs 32 = x32 at c32
  generalize boolI xs 33 = x33 at c33
  generalize numI xs 83 = x83 at c83
  go_enter Try.func38, Try.ntmps38
  go_wp2_with fail
  go_end0
  exact ⟨rfl, HM.out⟩
def selX  (xs : Array Value) : Array Value := upd xs [(40, .bool false), (9, .int .i64 3), (83, .int .i64 1)]
theorem selX_typed {xs : Array Value} (h : Typed xs) : Typed (selX  xs) := upd_typed _ h (by
  simp only [List.mem_cons, List.not_mem_nil, or_false]
  rintro p (rfl | rfl | rfl)
  · exact isB rfl _
  · exact isI rfl _
  · exact isI rfl _)
theorem select_any  (pb o : Nat) (xs : Array Value) (w : World) (hp : Pt w pb o xs) (ht : Typed xs) : Calls Try.prog 39 #[.pointer (some ⟨pb, o, none⟩)] w fun e w' => e = .returned (.tuple #[]) ∧ Mv w w' pb o xs (selX  xs) := by
  have HM := Lib.hid (show Mv w _ pb o xs (selX  xs) from ((((Mv.refl w pb o xs).set 40 (by omega) (.bool false)).set 9 (by omega) (.int .i64 3)).set 83 (by omega) (.int .i64 1)))
  have c9 := hp.num ht 9 rfl
  have c40 := hp.bool ht 40 rfl
  have c83 := hp.num ht 83 rfl
  have fz := hp.frozen
  clear hp ht
  generalize numI xs 9 = x9 at c9
  generalize boolI xs 40 = x40 at c40
  generalize numI xs 83 = x83 at c83
  go_enter Try.func39, Try.ntmps39
  go_wp2_with fail
  go_end0
  exact ⟨rfl, HM.out⟩
def mustX (xs : Array Value) : Bool := (!boolI xs 2 && (boolI xs 30 || (numI xs 6 != 3)))
set_option maxHeartbeats 1000000 in
theorem must_any (pb o : Nat) (xs : Array Value) (w : World) (hp : Pt w pb o xs) (ht : Typed xs) : Calls Try.prog 35 #[.pointer (some ⟨pb, o, none⟩)] w fun e w' => e = .returned (.bool (mustX xs)) ∧ w = w' := by
  have c2 := hp.bool ht 2 rfl
  have c30 := hp.bool ht 30 rfl
  have c6 := hp.num ht 6 rfl
  unfold mustX
  clear hp ht
  generalize boolI xs 2 = x2 at *
  generalize boolI xs 30 = x30 at *
  generalize numI xs 6 = x6 at *
  cases x2
  · cases x30
    · cases q2 : (x6 != 3)
      · go_enter Try.func35, Try.ntmps35
        go_wp2_with fail
        go_ret
        exact ⟨by first | rfl | simp [q2], rfl⟩
      · go_enter Try.func35, Try.ntmps35
        go_wp2_with fail
        go_ret
        exact ⟨by first | rfl | simp [q2], rfl⟩
    · go_enter Try.func35, Try.ntmps35
      go_wp2_with fail
      go_ret
      exact ⟨by first | rfl | simp [], rfl⟩
  · go_enter Try.func35, Try.ntmps35
    go_wp2_with fail
    go_ret
    exact ⟨by first | rfl | simp [], rfl⟩
def mayX (xs : Array Value) : Bool := (boolI xs 2 && boolI xs 30 && ((numI xs 82 == 0) || ((numI xs 82 == 1) && !boolI xs 31)))
set_option maxHeartbeats 1000000 in
theorem may_any (pb o : Nat) (xs : Array Value) (w : World) (hp : Pt w pb o xs) (ht : Typed xs) : Calls Try.prog 36 #[.pointer (some ⟨pb, o, none⟩)] w fun e w' => e = .returned (.bool (mayX xs)) ∧ w = w' := by
  have c2 := hp.bool ht 2 rfl
  have c30 := hp.bool ht 30 rfl
  have c82 := hp.num ht 82 rfl
  have c31 := hp.bool ht 31 rfl
  unfold mayX
  clear hp ht
  generalize boolI xs 2 = x2 at *
  generalize boolI xs 30 = x30 at *
  generalize numI xs 82 = x82 at *
  generalize boolI xs 31 = x31 at *
  cases x2
  · go_enter Try.func36, Try.ntmps36
    go_wp2_with fail
    go_ret
    exact ⟨by first | rfl | simp [], rfl⟩
  · cases x30
    · go_enter Try.func36, Try.ntmps36
      go_wp2_with fail
      go_ret
      exact ⟨by first | rfl | simp [], rfl⟩
    · cases q2 : (x82 == 0)
      · cases q3 : (x82 == 1)
        · go_enter Try.func36, Try.ntmps36
          go_wp2_with fail
          go_ret
          exact ⟨by first | rfl | simp [q2, q3], rfl⟩
        · cases x31
          · go_enter Try.func36, Try.ntmps36
            go_wp2_with fail
            go_ret
            exact ⟨by first | rfl | simp [q2, q3], rfl⟩
          · go_enter Try.func36, Try.ntmps36
            go_wp2_with fail
            go_ret
            exact ⟨by first | rfl | simp [q2, q3], rfl⟩
      · go_enter Try.func36, Try.ntmps36
        go_wp2_with fail
        go_ret
        exact ⟨by first | rfl | simp [q2], rfl⟩
def noEdgeX (xs : Array Value) : Bool := ((!boolI xs 2 && !boolI xs 3) || !boolI xs 25)
set_option maxHeartbeats 1000000 in
theorem noEdge_any (pb o : Nat) (xs : Array Value) (w : World) (hp : Pt w pb o xs) (ht : Typed xs) : Calls Try.prog 29 #[.pointer (some ⟨pb, o, none⟩)] w fun e w' => e = .returned (.bool (noEdgeX xs)) ∧ w = w' := by
  have c2 := hp.bool ht 2 rfl
  have c3 := hp.bool ht 3 rfl
  have c25 := hp.bool ht 25 rfl
  unfold noEdgeX
  clear hp ht
  generalize boolI xs 2 = x2 at *
  generalize boolI xs 3 = x3 at *
  generalize boolI xs 25 = x25 at *
  cases x2
  · cases x3
    · go_enter Try.func29, Try.ntmps29
      go_wp2_with fail
      go_ret
      exact ⟨by first | rfl | simp [], rfl⟩
    · cases x25
      · go_enter Try.func29, Try.ntmps29
        go_wp2_with fail
        go_ret
        exact ⟨by first | rfl | simp [], rfl⟩
      · go_enter Try.func29, Try.ntmps29
        go_wp2_with fail
        go_ret
        exact ⟨by first | rfl | simp [], rfl⟩
  · cases x25
    · go_enter Try.func29, Try.ntmps29
      go_wp2_with fail
      go_ret
      exact ⟨by first | rfl | simp [], rfl⟩
    · go_enter Try.func29, Try.ntmps29
      go_wp2_with fail
      go_ret
      exact ⟨by first | rfl | simp [], rfl⟩
def isEdgeX (xs : Array Value) : Bool := ((!boolI xs 2 && boolI xs 3) || ((numI xs 6 == 0) && boolI xs 4 && boolI xs 40 && boolI xs 27))
set_option maxHeartbeats 1000000 in
theorem isEdge_any (pb o : Nat) (xs : Array Value) (w : World) (hp : Pt w pb o xs) (ht : Typed xs) : Calls Try.prog 31 #[.pointer (some ⟨pb, o, none⟩)] w fun e w' => e = .returned (.bool (isEdgeX xs)) ∧ w = w' := by
  have c2 := hp.bool ht 2 rfl
  have c3 := hp.bool ht 3 rfl
  have c6 := hp.num ht 6 rfl
  have c4 := hp.bool ht 4 rfl
  have c40 := hp.bool ht 40 rfl
  have c27 := hp.bool ht 27 rfl
  unfold isEdgeX
  clear hp ht
  generalize boolI xs 2 = x2 at *
  generalize boolI xs 3 = x3 at *
  generalize numI xs 6 = x6 at *
  generalize boolI xs 4 = x4 at *
  generalize boolI xs 40 = x40 at *
  generalize boolI xs 27 = x27 at *
  cases x2
  · cases x3
    · cases q2 : (x6 == 0)
      · go_enter Try.func31, Try.ntmps31
        go_wp2_with fail
        go_ret
        exact ⟨by first | rfl | simp [q2], rfl⟩
      · cases x4
        · go_enter Try.func31, Try.ntmps31
          go_wp2_with fail
          go_ret
          exact ⟨by first | rfl | simp [q2], rfl⟩
        · cases x40
          · go_enter Try.func31, Try.ntmps31
            go_wp2_with fail
            go_ret
            exact ⟨by first | rfl | simp [q2], rfl⟩
          · cases x27
            · go_enter Try.func31, Try.ntmps31
              go_wp2_with fail
              go_ret
              exact ⟨by first | rfl | simp [q2], rfl⟩
            · go_enter Try.func31, Try.ntmps31
              go_wp2_with fail
              go_ret
              exact ⟨by first | rfl | simp [q2], rfl⟩
    · go_enter Try.func31, Try.ntmps31
      go_wp2_with fail
      go_ret
      exact ⟨by first | rfl | simp [], rfl⟩
  · cases q1 : (x6 == 0)
    · go_enter Try.func31, Try.ntmps31
      go_wp2_with fail
      go_ret
      exact ⟨by first | rfl | simp [q1], rfl⟩
    · cases x4
      · go_enter Try.func31, Try.ntmps31
        go_wp2_with fail
        go_ret
        exact ⟨by first | rfl | simp [q1], rfl⟩
      · cases x40
        · go_enter Try.func31, Try.ntmps31
          go_wp2_with fail
          go_ret
          exact ⟨by first | rfl | simp [q1], rfl⟩
        · cases x27
          · go_enter Try.func31, Try.ntmps31
            go_wp2_with fail
            go_ret
            exact ⟨by first | rfl | simp [q1], rfl⟩
          · go_enter Try.func31, Try.ntmps31
            go_wp2_with fail
            go_ret
            exact ⟨by first | rfl | simp [q1], rfl⟩
end Go.Proofs.Ythkmhnajhhomoaa
