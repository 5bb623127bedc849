/- Contracts of the program's Step and Start. -/
import Derived.Test.YtjfdochceejegaaDoorIk
namespace Go.Proofs.YtjfdochceejegaaDoor
open Go.RowKit Go.Sort

theorem step_nil (i : Int) (w : World) : Calls Tryd.prog 13 #[.pointer none, .int .i64 i] w fun e w' => e = .returned (.bool false) ∧ w = w' := by
  have j1 := eqNone
  go_enter Tryd.func13, Tryd.ntmps13
  go_wp2_with fail
  refine (ofNil _ _).mono ?_
  rintro e w1 ⟨rfl, rfl⟩
  go_wp2_with fail
  go_ret
  exact ⟨rfl, rfl⟩
theorem step_none (B : Bd) (bb pb n cap : Nat) (i : Int) (XS : Nat → Array Value) (w : World) (hB : Br w B bb pb n cap XS) (hi : i < 0 ∨ (n : Int) ≤ i) : Calls Tryd.prog 13 #[.pointer (some ⟨bb, 0, none⟩), .int .i64 i] w fun e w' => e = .returned (.bool false) ∧ w = w' := by
  have j1 := eqNone
  have kO := Lib.hid (of_none B bb pb n cap i XS w hB hi)
  clear hB hi
  go_enter Tryd.func13, Tryd.ntmps13
  go_wp2_with fail
  refine kO.out.mono ?_
  rintro e w1 ⟨rfl, rfl⟩
  go_wp2_with fail
  go_ret
  exact ⟨rfl, rfl⟩
theorem neNone (w : World) : (binOp .neq 43 (.pointer none) (.pointer none)).run Tryd.prog w = .ok (.bool false) w := by kernel_rfl
theorem neSome (b o : Nat) (w : World) : (binOp .neq 43 (.pointer (some ⟨b, o, none⟩)) (.pointer none)).run Tryd.prog w = .ok (.bool true) w := by kernel_rfl
theorem start_nil (i : Int) (w : World) : Calls Tryd.prog 17 #[.pointer none, .int .i64 i] w fun e w' => e = .returned (.tuple #[]) ∧ w = w' := by
  have j1 := neNone
  go_enter Tryd.func17, Tryd.ntmps17
  go_wp2_with fail
  refine (ofNil _ _).mono ?_
  rintro e w1 ⟨rfl, rfl⟩
  go_wp2_with fail
  go_end0
  exact ⟨rfl, rfl⟩
theorem start_none (B : Bd) (bb pb n cap : Nat) (i : Int) (XS : Nat → Array Value) (w : World) (hB : Br w B bb pb n cap XS) (hi : i < 0 ∨ (n : Int) ≤ i) : Calls Tryd.prog 17 #[.pointer (some ⟨bb, 0, none⟩), .int .i64 i] w fun e w' => e = .returned (.tuple #[]) ∧ w = w' := by
  have j1 := neNone
  have kO := Lib.hid (of_none B bb pb n cap i XS w hB hi)
  clear hB hi
  go_enter Tryd.func17, Tryd.ntmps17
  go_wp2_with fail
  refine kO.out.mono ?_
  rintro e w1 ⟨rfl, rfl⟩
  go_wp2_with fail
  go_end0
  exact ⟨rfl, rfl⟩
theorem start_some (B : Bd) (bb pb n cap k : Nat) (XS : Nat → Array Value) (w : World) (hB : Br w B bb pb n cap XS) (hk : k < n) (ht : Typed (XS k)) : Calls Tryd.prog 17 #[.pointer (some ⟨bb, 0, none⟩), .int .i64 k] w fun e w' => e = .returned (.tuple #[]) ∧ Mv w w' pb (k * 90) (XS k) (disX (XS k)) := by
  have hp := hB.pt hk
  have j1 := neSome pb (k * 90)
  have kO := Lib.hid (of_some B bb pb n cap k XS w hB hk)
  have kD := Lib.hid (disable_any pb (k * 90) (XS k) w hp ht)
  clear hB hp ht
  generalize disX (XS k) = Z at *
  go_enter Tryd.func17, Tryd.ntmps17
  go_wp2_with fail
  refine kO.out.mono ?_
  rintro e w1 ⟨rfl, rfl⟩
  go_wp2_with fail
  refine kD.out.mono ?_
  rintro e w1 ⟨rfl, hm⟩
  have HM := Lib.hid hm
  clear hm
  go_wp2_with fail
  go_end0
  exact ⟨rfl, HM.out⟩
/-- What Pim does next with a port. -/
def stepX (r : Bool) (xs : Array Value) : Bool × Array Value := if mustDisX xs then (true, disX xs) else if ((numI xs 86 == 0) && boolI xs 2) then (true, ageX xs) else if mustUpdX xs then (true, updX xs) else if ((numI xs 86 != 2) || boolI xs 43) then (false, xs) else if boolI xs 31 then (true, hearX r xs) else if ((numI xs 44 == 3) && (numI xs 11 == 0)) then (true, ageX xs) else (false, xs)
theorem stepX_eq (r : Bool) (xs : Array Value) : stepX r xs = if mustDisX xs then (true, disX xs) else if ((numI xs 86 == 0) && boolI xs 2) then (true, ageX xs) else if mustUpdX xs then (true, updX xs) else if ((numI xs 86 != 2) || boolI xs 43) then (false, xs) else if boolI xs 31 then (true, hearX r xs) else if ((numI xs 44 == 3) && (numI xs 11 == 0)) then (true, ageX xs) else (false, xs) := rfl
theorem stepX_typed (r : Bool) {xs : Array Value} (h : Typed xs) : Typed (stepX r xs).2 := by
  rw [stepX_eq]
  repeat' split
  all_goals (dsimp only; first | with_reducible exact h | with_reducible exact disX_typed h | with_reducible exact ageX_typed h | with_reducible exact updX_typed h | with_reducible exact hearX_typed r h)
set_option maxHeartbeats 4000000 in
theorem step_some (B : Bd) (bb pb n cap k : Nat) (XS : Nat → Array Value) (w : World) (hB : Br w B bb pb n cap XS) (hk : k < n) (ht : Typed (XS k)) (hr : Rg (XS k)) (he : Env w) : Calls Tryd.prog 13 #[.pointer (some ⟨bb, 0, none⟩), .int .i64 k] w fun e w' => e = .returned (.bool (stepX B.rs (XS k)).1) ∧ Mv w w' pb (k * 90) (XS k) (stepX B.rs (XS k)).2 := by
  have hp := hB.pt hk
  have j1 := eqSome pb (k * 90)
  have kO := Lib.hid (of_some B bb pb n cap k XS w hB hk)
  have cR : w.cell? ⟨bb, 6, none⟩ = some (.bool B.rs) := hB.hb.cell 6
  clear hB
  generalize XS k = xs at *
  generalize B.rs = r at *
  have kM := Lib.hid (mustDis_any pb (k * 90) xs w hp ht)
  have kU := Lib.hid (mustUpd_any pb (k * 90) xs w hp ht)
  have kD := Lib.hid (disable_any pb (k * 90) xs w hp ht)
  have kA := Lib.hid (age_any pb (k * 90) xs w hp ht)
  have kP := Lib.hid (update_any pb (k * 90) xs w hp ht)
  have kH := Lib.hid (hear_any r pb (k * 90) xs w hp ht hr he)
  have c86 := hp.numk ht 86 .i64 rfl
  have c2 := hp.bool ht 2 rfl
  have c43 := hp.bool ht 43 rfl
  have c31 := hp.bool ht 31 rfl
  have c44 := hp.numk ht 44 .i64 rfl
  have c11 := hp.numk ht 11 .i64 rfl
  have HR := Lib.hid (stepX_eq r xs)
  have M0 := Lib.hid (Mv.refl w pb (k * 90) xs)
  clear hp ht hr he
  generalize stepX r xs = R at *
  generalize mustDisX xs = vm at *
  generalize mustUpdX xs = vu at *
  generalize disX xs = Xd at *
  generalize ageX xs = Xa at *
  generalize updX xs = Xu at *
  generalize hearX r xs = Xh at *
  generalize numI xs 86 = x86 at *
  generalize boolI xs 2 = x2 at *
  generalize boolI xs 43 = x43 at *
  generalize boolI xs 31 = x31 at *
  generalize numI xs 44 = x44 at *
  generalize numI xs 11 = x11 at *
  cases vm
  · by_cases q1 : x86 = 0
    · subst q1
      cases x2
      · cases vu
        · have hR := HR.out
          simp [] at hR
          have HC := Lib.hid hR
          clear hR HR
          go_enter Tryd.func13, Tryd.ntmps13
          go_wp2_with fail
          refine kO.out.mono ?_
          rintro e w1 ⟨rfl, rfl⟩
          go_wp2_with fail
          refine kM.out.mono ?_
          rintro e w1 ⟨rfl, rfl⟩
          go_wp2_with fail
          refine kU.out.mono ?_
          rintro e w1 ⟨rfl, rfl⟩
          go_wp2_with fail
          go_ret
          exact ⟨by rw [HC.out] <;> rfl, by rw [HC.out]; (try dsimp only); exact M0.out⟩
        · have hR := HR.out
          simp [] at hR
          have HC := Lib.hid hR
          clear hR HR
          go_enter Tryd.func13, Tryd.ntmps13
          go_wp2_with fail
          refine kO.out.mono ?_
          rintro e w1 ⟨rfl, rfl⟩
          go_wp2_with fail
          refine kM.out.mono ?_
          rintro e w1 ⟨rfl, rfl⟩
          go_wp2_with fail
          refine kU.out.mono ?_
          rintro e w1 ⟨rfl, rfl⟩
          go_wp2_with fail
          refine kP.out.mono ?_
          rintro e w1 ⟨rfl, hm⟩
          have HM := Lib.hid hm
          clear hm
          go_wp2_with fail
          go_ret
          exact ⟨by rw [HC.out] <;> rfl, by rw [HC.out]; (try dsimp only); exact HM.out⟩
      · have hR := HR.out
        simp [] at hR
        have HC := Lib.hid hR
        clear hR HR
        go_enter Tryd.func13, Tryd.ntmps13
        go_wp2_with fail
        refine kO.out.mono ?_
        rintro e w1 ⟨rfl, rfl⟩
        go_wp2_with fail
        refine kM.out.mono ?_
        rintro e w1 ⟨rfl, rfl⟩
        go_wp2_with fail
        refine kA.out.mono ?_
        rintro e w1 ⟨rfl, hm⟩
        have HM := Lib.hid hm
        clear hm
        go_wp2_with fail
        go_ret
        exact ⟨by rw [HC.out] <;> rfl, by rw [HC.out]; (try dsimp only); exact HM.out⟩
    · have e1_ : (x86 == 0) = false := by simpa using q1
      have n1_ : (x86 != 0) = true := by simpa using q1
      clear q1
      cases vu
      · by_cases q3 : x86 = 2
        · subst q3
          cases x43
          · cases x31
            · by_cases q6 : x44 = 3
              · subst q6
                by_cases q7 : x11 = 0
                · subst q7
                  have hR := HR.out
                  simp [e1_] at hR
                  have HC := Lib.hid hR
                  clear hR HR
                  go_enter Tryd.func13, Tryd.ntmps13
                  go_wp2_with fail
                  refine kO.out.mono ?_
                  rintro e w1 ⟨rfl, rfl⟩
                  go_wp2_with fail
                  refine kM.out.mono ?_
                  rintro e w1 ⟨rfl, rfl⟩
                  go_wp2_with fail
                  refine kU.out.mono ?_
                  rintro e w1 ⟨rfl, rfl⟩
                  go_wp2_with fail
                  refine kA.out.mono ?_
                  rintro e w1 ⟨rfl, hm⟩
                  have HM := Lib.hid hm
                  clear hm
                  go_wp2_with fail
                  go_ret
                  exact ⟨by rw [HC.out] <;> rfl, by rw [HC.out]; (try dsimp only); exact HM.out⟩
                · have e7_ : (x11 == 0) = false := by simpa using q7
                  have n7_ : (x11 != 0) = true := by simpa using q7
                  clear q7
                  have hR := HR.out
                  simp [e1_, e7_] at hR
                  have HC := Lib.hid hR
                  clear hR HR
                  go_enter Tryd.func13, Tryd.ntmps13
                  go_wp2_with fail
                  refine kO.out.mono ?_
                  rintro e w1 ⟨rfl, rfl⟩
                  go_wp2_with fail
                  refine kM.out.mono ?_
                  rintro e w1 ⟨rfl, rfl⟩
                  go_wp2_with fail
                  refine kU.out.mono ?_
                  rintro e w1 ⟨rfl, rfl⟩
                  go_wp2_with fail
                  go_ret
                  exact ⟨by rw [HC.out] <;> rfl, by rw [HC.out]; (try dsimp only); exact M0.out⟩
              · have e6_ : (x44 == 3) = false := by simpa using q6
                have n6_ : (x44 != 3) = true := by simpa using q6
                clear q6
                have hR := HR.out
                simp [e1_, e6_] at hR
                have HC := Lib.hid hR
                clear hR HR
                go_enter Tryd.func13, Tryd.ntmps13
                go_wp2_with fail
                refine kO.out.mono ?_
                rintro e w1 ⟨rfl, rfl⟩
                go_wp2_with fail
                refine kM.out.mono ?_
                rintro e w1 ⟨rfl, rfl⟩
                go_wp2_with fail
                refine kU.out.mono ?_
                rintro e w1 ⟨rfl, rfl⟩
                go_wp2_with fail
                go_ret
                exact ⟨by rw [HC.out] <;> rfl, by rw [HC.out]; (try dsimp only); exact M0.out⟩
            · have hR := HR.out
              simp [e1_] at hR
              have HC := Lib.hid hR
              clear hR HR
              go_enter Tryd.func13, Tryd.ntmps13
              go_wp2_with fail
              refine kO.out.mono ?_
              rintro e w1 ⟨rfl, rfl⟩
              go_wp2_with fail
              refine kM.out.mono ?_
              rintro e w1 ⟨rfl, rfl⟩
              go_wp2_with fail
              refine kU.out.mono ?_
              rintro e w1 ⟨rfl, rfl⟩
              go_wp2_with fail
              refine kH.out.mono ?_
              rintro e w1 ⟨rfl, hm⟩
              have HM := Lib.hid hm
              clear hm
              go_wp2_with fail
              go_ret
              exact ⟨by rw [HC.out] <;> rfl, by rw [HC.out]; (try dsimp only); exact HM.out⟩
          · have hR := HR.out
            simp [e1_] at hR
            have HC := Lib.hid hR
            clear hR HR
            go_enter Tryd.func13, Tryd.ntmps13
            go_wp2_with fail
            refine kO.out.mono ?_
            rintro e w1 ⟨rfl, rfl⟩
            go_wp2_with fail
            refine kM.out.mono ?_
            rintro e w1 ⟨rfl, rfl⟩
            go_wp2_with fail
            refine kU.out.mono ?_
            rintro e w1 ⟨rfl, rfl⟩
            go_wp2_with fail
            go_ret
            exact ⟨by rw [HC.out] <;> rfl, by rw [HC.out]; (try dsimp only); exact M0.out⟩
        · have e3_ : (x86 == 2) = false := by simpa using q3
          have n3_ : (x86 != 2) = true := by simpa using q3
          clear q3
          have hR := HR.out
          simp [e1_, n3_] at hR
          have HC := Lib.hid hR
          clear hR HR
          go_enter Tryd.func13, Tryd.ntmps13
          go_wp2_with fail
          refine kO.out.mono ?_
          rintro e w1 ⟨rfl, rfl⟩
          go_wp2_with fail
          refine kM.out.mono ?_
          rintro e w1 ⟨rfl, rfl⟩
          go_wp2_with fail
          refine kU.out.mono ?_
          rintro e w1 ⟨rfl, rfl⟩
          go_wp2_with fail
          go_ret
          exact ⟨by rw [HC.out] <;> rfl, by rw [HC.out]; (try dsimp only); exact M0.out⟩
      · have hR := HR.out
        simp [e1_] at hR
        have HC := Lib.hid hR
        clear hR HR
        go_enter Tryd.func13, Tryd.ntmps13
        go_wp2_with fail
        refine kO.out.mono ?_
        rintro e w1 ⟨rfl, rfl⟩
        go_wp2_with fail
        refine kM.out.mono ?_
        rintro e w1 ⟨rfl, rfl⟩
        go_wp2_with fail
        refine kU.out.mono ?_
        rintro e w1 ⟨rfl, rfl⟩
        go_wp2_with fail
        refine kP.out.mono ?_
        rintro e w1 ⟨rfl, hm⟩
        have HM := Lib.hid hm
        clear hm
        go_wp2_with fail
        go_ret
        exact ⟨by rw [HC.out] <;> rfl, by rw [HC.out]; (try dsimp only); exact HM.out⟩
  · have hR := HR.out
    simp [] at hR
    have HC := Lib.hid hR
    clear hR HR
    go_enter Tryd.func13, Tryd.ntmps13
    go_wp2_with fail
    refine kO.out.mono ?_
    rintro e w1 ⟨rfl, rfl⟩
    go_wp2_with fail
    refine kM.out.mono ?_
    rintro e w1 ⟨rfl, rfl⟩
    go_wp2_with fail
    refine kD.out.mono ?_
    rintro e w1 ⟨rfl, hm⟩
    have HM := Lib.hid hm
    clear hm
    go_wp2_with fail
    go_ret
    exact ⟨by rw [HC.out] <;> rfl, by rw [HC.out]; (try dsimp only); exact HM.out⟩
end Go.Proofs.YtjfdochceejegaaDoor
