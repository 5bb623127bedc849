/- Contracts of the program's Receive, Migrate, Detect, Start. -/
import Derived.Test.YthkmhnajhhomoaaP
namespace Go.Proofs.Ythkmhnajhhomoaa
open Go.RowKit Go.Sort

theorem eqNone (w : World) : (binOp .eql 59 (.pointer none) (.pointer none)).run Try.prog w = .ok (.bool true) w := by kernel_rfl
theorem eqSome (b o : Nat) (w : World) : (binOp .eql 59 (.pointer (some ⟨b, o, none⟩)) (.pointer none)).run Try.prog w = .ok (.bool false) w := by kernel_rfl
theorem receive_nil (i : Int) (w : World) : Calls Try.prog 17 #[.pointer none, .int .i64 i] w fun e w' => e = .returned (.bool false) ∧ w = w' := by
  have j1 := eqNone
  go_enter Try.func17, Try.ntmps17
  go_wp2_with fail
  refine (ofNil _ _).mono ?_
  rintro e w1 ⟨rfl, rfl⟩
  go_wp2_with fail
  go_ret
  exact ⟨rfl, rfl⟩
theorem receive_none (B : Bd) (bb pb n cap : Nat) (i : Int) (XS : Nat → Array Value) (w : World) (hB : Br w B bb pb n cap XS) (hi : i < 0 ∨ (n : Int) ≤ i) : Calls Try.prog 17 #[.pointer (some ⟨bb, 0, none⟩), .int .i64 i] w fun e w' => e = .returned (.bool false) ∧ w = w' := by
  have j1 := eqNone
  have kO := Lib.hid (of_none B bb pb n cap i XS w hB hi)
  clear hB hi
  go_enter Try.func17, Try.ntmps17
  go_wp2_with fail
  refine kO.out.mono ?_
  rintro e w1 ⟨rfl, rfl⟩
  go_wp2_with fail
  go_ret
  exact ⟨rfl, rfl⟩
theorem migrate_nil (i : Int) (w : World) : Calls Try.prog 9 #[.pointer none, .int .i64 i] w fun e w' => e = .returned (.bool false) ∧ w = w' := by
  have j1 := eqNone
  go_enter Try.func9, Try.ntmps9
  go_wp2_with fail
  refine (ofNil _ _).mono ?_
  rintro e w1 ⟨rfl, rfl⟩
  go_wp2_with fail
  go_ret
  exact ⟨rfl, rfl⟩
theorem migrate_none (B : Bd) (bb pb n cap : Nat) (i : Int) (XS : Nat → Array Value) (w : World) (hB : Br w B bb pb n cap XS) (hi : i < 0 ∨ (n : Int) ≤ i) : Calls Try.prog 9 #[.pointer (some ⟨bb, 0, none⟩), .int .i64 i] w fun e w' => e = .returned (.bool false) ∧ w = w' := by
  have j1 := eqNone
  have kO := Lib.hid (of_none B bb pb n cap i XS w hB hi)
  clear hB hi
  go_enter Try.func9, Try.ntmps9
  go_wp2_with fail
  refine kO.out.mono ?_
  rintro e w1 ⟨rfl, rfl⟩
  go_wp2_with fail
  go_ret
  exact ⟨rfl, rfl⟩
theorem detect_nil (i : Int) (w : World) : Calls Try.prog 11 #[.pointer none, .int .i64 i] w fun e w' => e = .returned (.bool false) ∧ w = w' := by
  have j1 := eqNone
  go_enter Try.func11, Try.ntmps11
  go_wp2_with fail
  refine (ofNil _ _).mono ?_
  rintro e w1 ⟨rfl, rfl⟩
  go_wp2_with fail
  go_ret
  exact ⟨rfl, rfl⟩
theorem detect_none (B : Bd) (bb pb n cap : Nat) (i : Int) (XS : Nat → Array Value) (w : World) (hB : Br w B bb pb n cap XS) (hi : i < 0 ∨ (n : Int) ≤ i) : Calls Try.prog 11 #[.pointer (some ⟨bb, 0, none⟩), .int .i64 i] w fun e w' => e = .returned (.bool false) ∧ w = w' := by
  have j1 := eqNone
  have kO := Lib.hid (of_none B bb pb n cap i XS w hB hi)
  clear hB hi
  go_enter Try.func11, Try.ntmps11
  go_wp2_with fail
  refine kO.out.mono ?_
  rintro e w1 ⟨rfl, rfl⟩
  go_wp2_with fail
  go_ret
  exact ⟨rfl, rfl⟩
theorem start_nil (i : Int) (w : World) : Calls Try.prog 14 #[.pointer none, .int .i64 i] w fun e w' => e = .returned (.tuple #[]) ∧ w = w' := by
  have j1 := eqNone
  go_enter Try.func14, Try.ntmps14
  go_wp2_with fail
  refine (ofNil _ _).mono ?_
  rintro e w1 ⟨rfl, rfl⟩
  go_wp2_with fail
  exact bodyPost_ret (v := .tuple #[]) (by simp [results, Try.results14, go_sem]) rfl ⟨rfl, rfl⟩
theorem start_none (B : Bd) (bb pb n cap : Nat) (i : Int) (XS : Nat → Array Value) (w : World) (hB : Br w B bb pb n cap XS) (hi : i < 0 ∨ (n : Int) ≤ i) : Calls Try.prog 14 #[.pointer (some ⟨bb, 0, none⟩), .int .i64 i] w fun e w' => e = .returned (.tuple #[]) ∧ w = w' := by
  have j1 := eqNone
  have kO := Lib.hid (of_none B bb pb n cap i XS w hB hi)
  clear hB hi
  go_enter Try.func14, Try.ntmps14
  go_wp2_with fail
  refine kO.out.mono ?_
  rintro e w1 ⟨rfl, rfl⟩
  go_wp2_with fail
  exact bodyPost_ret (v := .tuple #[]) (by simp [results, Try.results14, go_sem]) rfl ⟨rfl, rfl⟩
def recvX (xs : Array Value) : Bool × Array Value := if mustX xs then (true, discX xs) else if mayX xs then (true, takeX xs) else (false, xs)
theorem recvX_eq (xs : Array Value) : recvX xs = if mustX xs then (true, discX xs) else if mayX xs then (true, takeX xs) else (false, xs) := rfl
theorem recvX_typed {xs : Array Value} (h : Typed xs) : Typed (recvX xs).2 := by
  unfold recvX
  repeat' split
  all_goals (try dsimp only)
  all_goals (first | with_reducible exact h | with_reducible exact discX_typed h | with_reducible exact takeX_typed h)
set_option maxHeartbeats 1000000 in
theorem receive_some (B : Bd) (bb pb n cap k : Nat) (XS : Nat → Array Value) (w : World) (hB : Br w B bb pb n cap XS) (hk : k < n) (ht : Typed (XS k)) : Calls Try.prog 17 #[.pointer (some ⟨bb, 0, none⟩), .int .i64 k] w fun e w' => e = .returned (.bool (recvX (XS k)).1) ∧ Mv w w' pb (k * 90) (XS k) (recvX (XS k)).2 := by
  have hp := hB.pt hk
  have j1 := eqSome pb (k * 90)
  have kO := Lib.hid (of_some B bb pb n cap k XS w hB hk)
  clear hB
  generalize XS k = xs at *
  have kM := Lib.hid (must_any pb (k * 90) xs w hp ht)
  have kY := Lib.hid (may_any pb (k * 90) xs w hp ht)
  have kD := Lib.hid (discard_any pb (k * 90) xs w hp ht)
  have kT := Lib.hid (take_any pb (k * 90) xs w hp ht)
  have HR := Lib.hid (recvX_eq xs)
  have M0 := Lib.hid (Mv.refl w pb (k * 90) xs)
  clear hp ht
  generalize recvX xs = R at *
  generalize mustX xs = vm at *
  generalize mayX xs = vy at *
  cases vm
  · cases vy
    · have hR := HR.out
      simp [] at hR
      have HC := Lib.hid hR
      clear hR HR
      go_enter Try.func17, Try.ntmps17
      go_wp2_with fail
      refine kO.out.mono ?_
      rintro e w1 ⟨rfl, rfl⟩
      go_wp2_with fail
      refine kM.out.mono ?_
      rintro e w1 ⟨rfl, rfl⟩
      go_wp2_with fail
      refine kY.out.mono ?_
      rintro e w1 ⟨rfl, rfl⟩
      go_wp2_with fail
      go_ret
      exact ⟨by rw [HC.out] <;> rfl, by rw [HC.out]; (try dsimp only); exact M0.out⟩
    · have hR := HR.out
      simp [] at hR
      have HC := Lib.hid hR
      clear hR HR
      go_enter Try.func17, Try.ntmps17
      go_wp2_with fail
      refine kO.out.mono ?_
      rintro e w1 ⟨rfl, rfl⟩
      go_wp2_with fail
      refine kM.out.mono ?_
      rintro e w1 ⟨rfl, rfl⟩
      go_wp2_with fail
      refine kY.out.mono ?_
      rintro e w1 ⟨rfl, rfl⟩
      go_wp2_with fail
      refine kT.out.mono ?_
      rintro e w1 ⟨rfl, hm⟩
      have HM := Lib.hid hm
      clear hm
      go_wp2_with fail
      go_ret
      exact ⟨by rw [HC.out] <;> rfl, by rw [HC.out]; (try dsimp only); exact HM.out⟩
  · have hR := HR.out
    simp [] at hR
    have HC := Lib.hid hR
    clear hR HR
    go_enter Try.func17, Try.ntmps17
    go_wp2_with fail
    refine kO.out.mono ?_
    rintro e w1 ⟨rfl, rfl⟩
    go_wp2_with fail
    refine kM.out.mono ?_
    rintro e w1 ⟨rfl, rfl⟩
    go_wp2_with fail
    refine kD.out.mono ?_
    rintro e w1 ⟨rfl, hm⟩
    have HM := Lib.hid hm
    clear hm
    go_wp2_with fail
    go_ret
    exact ⟨by rw [HC.out] <;> rfl, by rw [HC.out]; (try dsimp only); exact HM.out⟩
def detX (xs : Array Value) : Bool × Array Value := if (numI xs 84 == 1) && noEdgeX xs then (true, edgeX false xs) else if (numI xs 84 == 0) && isEdgeX xs then (true, edgeX true xs) else (false, xs)
theorem detX_eq (xs : Array Value) : detX xs = if (numI xs 84 == 1) && noEdgeX xs then (true, edgeX false xs) else if (numI xs 84 == 0) && isEdgeX xs then (true, edgeX true xs) else (false, xs) := rfl
theorem detX_typed {xs : Array Value} (h : Typed xs) : Typed (detX xs).2 := by
  unfold detX
  repeat' split
  all_goals (try dsimp only)
  all_goals (first | with_reducible exact h | with_reducible exact edgeX_typed _ h)
set_option maxHeartbeats 1000000 in
theorem detect_some (B : Bd) (bb pb n cap k : Nat) (XS : Nat → Array Value) (w : World) (hB : Br w B bb pb n cap XS) (hk : k < n) (ht : Typed (XS k)) : Calls Try.prog 11 #[.pointer (some ⟨bb, 0, none⟩), .int .i64 k] w fun e w' => e = .returned (.bool (detX (XS k)).1) ∧ Mv w w' pb (k * 90) (XS k) (detX (XS k)).2 := by
  have hp := hB.pt hk
  have j1 := eqSome pb (k * 90)
  have kO := Lib.hid (of_some B bb pb n cap k XS w hB hk)
  clear hB
  generalize XS k = xs at *
  have c84 := hp.num ht 84 rfl
  have kN := Lib.hid (noEdge_any pb (k * 90) xs w hp ht)
  have kI := Lib.hid (isEdge_any pb (k * 90) xs w hp ht)
  have kF := Lib.hid (become_any false pb (k * 90) xs w hp ht)
  have kT := Lib.hid (become_any true pb (k * 90) xs w hp ht)
  have HR := Lib.hid (detX_eq xs)
  have M0 := Lib.hid (Mv.refl w pb (k * 90) xs)
  clear hp ht
  generalize detX xs = R at *
  generalize numI xs 84 = x84 at *
  generalize noEdgeX xs = vn at *
  generalize isEdgeX xs = vi at *
  by_cases q0 : x84 = 1
  · subst q0
    cases vn
    · have hR := HR.out
      simp [] at hR
      have HC := Lib.hid hR
      clear hR HR
      go_enter Try.func11, Try.ntmps11
      go_wp2_with fail
      refine kO.out.mono ?_
      rintro e w1 ⟨rfl, rfl⟩
      go_wp2_with fail
      refine kN.out.mono ?_
      rintro e w1 ⟨rfl, rfl⟩
      go_wp2_with fail
      go_ret
      exact ⟨by rw [HC.out] <;> rfl, by rw [HC.out]; (try dsimp only); exact M0.out⟩
    · have hR := HR.out
      simp [] at hR
      have HC := Lib.hid hR
      clear hR HR
      go_enter Try.func11, Try.ntmps11
      go_wp2_with fail
      refine kO.out.mono ?_
      rintro e w1 ⟨rfl, rfl⟩
      go_wp2_with fail
      refine kN.out.mono ?_
      rintro e w1 ⟨rfl, rfl⟩
      go_wp2_with fail
      refine kF.out.mono ?_
      rintro e w1 ⟨rfl, hm⟩
      have HM := Lib.hid hm
      clear hm
      go_wp2_with fail
      go_ret
      exact ⟨by rw [HC.out] <;> rfl, by rw [HC.out]; (try dsimp only); exact HM.out⟩
  · have e0_ : (x84 == 1) = false := by simpa using q0
    have n0_ : (x84 != 1) = true := by simpa using q0
    clear q0
    by_cases q1 : x84 = 0
    · subst q1
      cases vi
      · have hR := HR.out
        simp [e0_] at hR
        have HC := Lib.hid hR
        clear hR HR
        go_enter Try.func11, Try.ntmps11
        go_wp2_with fail
        refine kO.out.mono ?_
        rintro e w1 ⟨rfl, rfl⟩
        go_wp2_with fail
        refine kI.out.mono ?_
        rintro e w1 ⟨rfl, rfl⟩
        go_wp2_with fail
        go_ret
        exact ⟨by rw [HC.out] <;> rfl, by rw [HC.out]; (try dsimp only); exact M0.out⟩
      · have hR := HR.out
        simp [e0_] at hR
        have HC := Lib.hid hR
        clear hR HR
        go_enter Try.func11, Try.ntmps11
        go_wp2_with fail
        refine kO.out.mono ?_
        rintro e w1 ⟨rfl, rfl⟩
        go_wp2_with fail
        refine kI.out.mono ?_
        rintro e w1 ⟨rfl, rfl⟩
        go_wp2_with fail
        refine kT.out.mono ?_
        rintro e w1 ⟨rfl, hm⟩
        have HM := Lib.hid hm
        clear hm
        go_wp2_with fail
        go_ret
        exact ⟨by rw [HC.out] <;> rfl, by rw [HC.out]; (try dsimp only); exact HM.out⟩
    · have e1_ : (x84 == 0) = false := by simpa using q1
      have n1_ : (x84 != 0) = true := by simpa using q1
      clear q1
      have hR := HR.out
      simp [e0_, e1_] at hR
      have HC := Lib.hid hR
      clear hR HR
      go_enter Try.func11, Try.ntmps11
      go_wp2_with fail
      refine kO.out.mono ?_
      rintro e w1 ⟨rfl, rfl⟩
      go_wp2_with fail
      go_ret
      exact ⟨by rw [HC.out] <;> rfl, by rw [HC.out]; (try dsimp only); exact M0.out⟩
def migX (r : Bool) (xs : Array Value) : Bool × Array Value := if numI xs 83 == 0 then leaveCX r xs else if numI xs 83 == 1 then leaveLX xs else if numI xs 83 == 2 then leaveSX r xs else (false, xs)
theorem migX_eq (r : Bool) (xs : Array Value) : migX r xs = if numI xs 83 == 0 then leaveCX r xs else if numI xs 83 == 1 then leaveLX xs else if numI xs 83 == 2 then leaveSX r xs else (false, xs) := rfl
theorem migX_typed (r : Bool) {xs : Array Value} (h : Typed xs) : Typed (migX r xs).2 := by
  unfold migX
  repeat' split
  all_goals (try dsimp only)
  all_goals (first | with_reducible exact h | with_reducible exact leaveCX_typed _ h | with_reducible exact leaveLX_typed h | with_reducible exact leaveSX_typed _ h)
set_option maxHeartbeats 1000000 in
theorem migrate_some (B : Bd) (bb pb n cap k : Nat) (XS : Nat → Array Value) (w : World) (hB : Br w B bb pb n cap XS) (hk : k < n) (ht : Typed (XS k)) : Calls Try.prog 9 #[.pointer (some ⟨bb, 0, none⟩), .int .i64 k] w fun e w' => e = .returned (.bool (migX B.rs (XS k)).1) ∧ Mv w w' pb (k * 90) (XS k) (migX B.rs (XS k)).2 := by
  have hp := hB.pt hk
  have j1 := eqSome pb (k * 90)
  have kO := Lib.hid (of_some B bb pb n cap k XS w hB hk)
  have c6 : w.cell? ⟨bb, 6, none⟩ = some (.bool B.rs) := hB.hb.cell 6
  clear hB
  generalize XS k = xs at *
  have c83 := hp.num ht 83 rfl
  have kC := Lib.hid (leaveC_any B.rs pb (k * 90) xs w hp ht)
  have kL := Lib.hid (leaveL_any pb (k * 90) xs w hp ht)
  have kS := Lib.hid (leaveS_any B.rs pb (k * 90) xs w hp ht)
  have HR := Lib.hid (migX_eq B.rs xs)
  have M0 := Lib.hid (Mv.refl w pb (k * 90) xs)
  clear hp ht
  generalize migX B.rs xs = R at *
  generalize numI xs 83 = x83 at *
  by_cases q0 : x83 = 0
  · subst q0
    have hR := HR.out
    simp [] at hR
    have HC := Lib.hid hR
    clear hR HR
    go_enter Try.func9, Try.ntmps9
    go_wp2_with fail
    refine kO.out.mono ?_
    rintro e w1 ⟨rfl, rfl⟩
    go_wp2_with fail
    refine kC.out.mono ?_
    rintro e w1 ⟨rfl, hm⟩
    have HM := Lib.hid hm
    clear hm
    go_wp2_with fail
    go_ret
    exact ⟨by rw [HC.out] <;> rfl, by rw [HC.out]; (try dsimp only); exact HM.out⟩
  · have e0_ : (x83 == 0) = false := by simpa using q0
    have n0_ : (x83 != 0) = true := by simpa using q0
    clear q0
    by_cases q1 : x83 = 1
    · subst q1
      have hR := HR.out
      simp [e0_] at hR
      have HC := Lib.hid hR
      clear hR HR
      go_enter Try.func9, Try.ntmps9
      go_wp2_with fail
      refine kO.out.mono ?_
      rintro e w1 ⟨rfl, rfl⟩
      go_wp2_with fail
      refine kL.out.mono ?_
      rintro e w1 ⟨rfl, hm⟩
      have HM := Lib.hid hm
      clear hm
      go_wp2_with fail
      go_ret
      exact ⟨by rw [HC.out] <;> rfl, by rw [HC.out]; (try dsimp only); exact HM.out⟩
    · have e1_ : (x83 == 1) = false := by simpa using q1
      have n1_ : (x83 != 1) = true := by simpa using q1
      clear q1
      by_cases q2 : x83 = 2
      · subst q2
        have hR := HR.out
        simp [e0_, e1_] at hR
        have HC := Lib.hid hR
        clear hR HR
        go_enter Try.func9, Try.ntmps9
        go_wp2_with fail
        refine kO.out.mono ?_
        rintro e w1 ⟨rfl, rfl⟩
        go_wp2_with fail
        refine kS.out.mono ?_
        rintro e w1 ⟨rfl, hm⟩
        have HM := Lib.hid hm
        clear hm
        go_wp2_with fail
        go_ret
        exact ⟨by rw [HC.out] <;> rfl, by rw [HC.out]; (try dsimp only); exact HM.out⟩
      · have e2_ : (x83 == 2) = false := by simpa using q2
        have n2_ : (x83 != 2) = true := by simpa using q2
        clear q2
        have hR := HR.out
        simp [e0_, e1_, e2_] at hR
        have HC := Lib.hid hR
        clear hR HR
        go_enter Try.func9, Try.ntmps9
        go_wp2_with fail
        refine kO.out.mono ?_
        rintro e w1 ⟨rfl, rfl⟩
        go_wp2_with fail
        go_ret
        exact ⟨by rw [HC.out] <;> rfl, by rw [HC.out]; (try dsimp only); exact M0.out⟩
def startX (r : Bool) (xs : Array Value) : Array Value := edgeX (boolI (checkX r (discX xs)) 3) (checkX r (discX xs))
theorem startX_typed (r : Bool) {xs : Array Value} (h : Typed xs) : Typed (startX r xs) := edgeX_typed _ (checkX_typed r (discX_typed h))
set_option maxHeartbeats 1000000 in
theorem start_some (B : Bd) (bb pb n cap k : Nat) (XS : Nat → Array Value) (w : World) (hB : Br w B bb pb n cap XS) (hk : k < n) (ht : Typed (XS k)) : Calls Try.prog 14 #[.pointer (some ⟨bb, 0, none⟩), .int .i64 k] w fun e w' => e = .returned (.tuple #[]) ∧ Mv w w' pb (k * 90) (XS k) (startX B.rs (XS k)) := by
  have hp := hB.pt hk
  have j1 := eqSome pb (k * 90)
  have kO := Lib.hid (of_some B bb pb n cap k XS w hB hk)
  have HBM := Lib.hid (fun w1 ys (m : Mv w w1 pb (k * 90) (XS k) ys) => (show w1.cell? ⟨bb, 6, none⟩ = some (.bool B.rs) from (hB.mv hk m).hb.cell 6))
  clear hB
  have HX := Lib.hid (show startX B.rs (XS k) = edgeX (boolI (checkX B.rs (discX (XS k))) 3) (checkX B.rs (discX (XS k))) from rfl)
  generalize XS k = xs at *
  have k1 := Lib.hid (discard_any pb (k * 90) xs w hp ht)
  have HP := Lib.hid hp
  have T1 := Lib.hid (discX_typed ht)
  have T2 := Lib.hid (checkX_typed B.rs T1.out)
  clear hp ht
  generalize startX B.rs xs = R at *
  go_enter Try.func14, Try.ntmps14
  go_wp2_with fail
  refine kO.out.mono ?_
  rintro e w1 ⟨rfl, rfl⟩
  go_wp2_with fail
  refine k1.out.mono ?_
  rintro e w1 ⟨rfl, m1⟩
  have M1 := Lib.hid m1
  have c6 := HBM.out w1 _ m1
  have P1 := Lib.hid (HP.out.mv m1)
  clear m1 k1 kO
  go_wp2_with fail
  refine (check_any B.rs pb (k * 90) _ w1 P1.out T1.out).mono ?_
  rintro e w2 ⟨rfl, m2⟩
  have M2 := Lib.hid (M1.out.trans m2)
  have P2 := Lib.hid (P1.out.mv m2)
  have c3 := (P1.out.mv m2).bool T2.out 3 rfl
  clear m2 M1 P1 c6
  generalize checkX B.rs (discX xs) = ys at *
  have hb := Lib.hid (become_any (boolI ys 3) pb (k * 90) ys w2 P2.out T2.out)
  generalize boolI ys 3 = x3 at *
  go_wp2_with fail
  refine hb.out.mono ?_
  rintro e w3 ⟨rfl, m3⟩
  have M3 := Lib.hid (M2.out.trans m3)
  clear m3 hb
  go_wp2_with fail
  go_end0
  exact ⟨rfl, by rw [HX.out]; exact M3.out⟩
end Go.Proofs.Ythkmhnajhhomoaa
