/- Contracts of the program's newsOfDesignated, News. -/
import Derived.Test.YtjfdochceejegaaDoorId
namespace Go.Proofs.YtjfdochceejegaaDoor
open Go.RowKit Go.Sort

theorem Pt.grown {w : World} {pb o : Nat} {xs : Array Value} (h : Pt w pb o xs) (d : Nat) (os : Array Obj) : Pt (grow (redrawn w d) os) pb o xs := by
  obtain ⟨A, hv, hA, hs⟩ := h.ex
  exact ⟨A, hv.grown d os, hA, hs⟩
theorem Pt.drewN {w : World} {pb o : Nat} {xs : Array Value} (h : Pt w pb o xs) (n : Nat) : Pt (w.drewN n) pb o xs := by
  obtain ⟨A, hv, hA, hs⟩ := h.ex
  exact ⟨A, hv, hA, hs⟩
set_option maxHeartbeats 2000000 in
theorem ndes_any (pb o : Nat) (xs : Array Value) (w : World) (hp : Pt w pb o xs) (ht : Typed xs) (hr : Rg xs) : Calls Tryd.prog 22 #[.pointer (some ⟨pb, o, none⟩)] w fun e w' => e = .returned (.int .i64 (ndesX xs)) ∧ Below w.heap.size w w' := by
  have kS := Lib.hid (fun w => sup_port xs hr w)
  have kO := Lib.hid (fun w => of_msg xs hr w)
  have q1 := v_eql (numI xs 74) (numI xs 75) (numI xs 76) (numI xs 77) (numI xs 56) (numI xs 57) (numI xs 58) (numI xs 59)
  have qt : ∀ w, (binOp .neq 33 (tmV (secA xs) (secM xs) (secH xs) (secD xs)) (tmV (numI xs 68) (numI xs 69) (numI xs 70) (numI xs 71))).run Tryd.prog w = .ok (.bool (!tmsX xs)) w := by
    intro w; rw [run_neq_struct, t_equal]; rfl
  rw [show eqV (numI xs 74) (numI xs 75) (numI xs 76) (numI xs 77) (numI xs 56) (numI xs 57) (numI xs 58) (numI xs 59) = samX xs from rfl] at q1
  have HT := Lib.hid ht
  have HP := Lib.hid hp
  have HR := Lib.hid (show ndesX xs = if supX xs || (samX xs && !tmsX xs) then 1 else if !samX xs then 3 else if numI xs 44 == 3 then 2 else 0 from rfl)
  clear hp ht hr
  generalize hS : supX xs = S at *
  generalize hC : samX xs = C at *
  generalize hM : tmsX xs = T at *
  generalize ndesX xs = R at *
  clear hS hC hM
  have HN := Lib.hid (fun n => HP.out.drewN n)
  have d74 := fun n => (HN.out n).numk HT.out 74 .u64 rfl
  have d75 := fun n => (HN.out n).numk HT.out 75 .u32 rfl
  have d76 := fun n => (HN.out n).numk HT.out 76 .u64 rfl
  have d77 := fun n => (HN.out n).numk HT.out 77 .u16 rfl
  have d56 := fun n => (HN.out n).numk HT.out 56 .u64 rfl
  have d57 := fun n => (HN.out n).numk HT.out 57 .u32 rfl
  have d58 := fun n => (HN.out n).numk HT.out 58 .u64 rfl
  have d59 := fun n => (HN.out n).numk HT.out 59 .u16 rfl
  go_enter Tryd.func22, Tryd.ntmps22
  go_wp2_with (go_quiet (fail))
  have HB0 := Lib.hid (below_dn w.heap.size w nq)
  have P0 := Lib.hid (HN.out nq)
  clear d74 d75 d76 d77 d56 d57 d58 d59 HN HP q1
  generalize w.drewN nq = W at *
  have PG := Lib.hid (fun d os => P0.out.grown d os)
  have g74 := fun d os => (PG.out d os).numk HT.out 74 .u64 rfl
  have g75 := fun d os => (PG.out d os).numk HT.out 75 .u32 rfl
  have g76 := fun d os => (PG.out d os).numk HT.out 76 .u64 rfl
  have g77 := fun d os => (PG.out d os).numk HT.out 77 .u16 rfl
  have g56 := fun d os => (PG.out d os).numk HT.out 56 .u64 rfl
  have g57 := fun d os => (PG.out d os).numk HT.out 57 .u32 rfl
  have g58 := fun d os => (PG.out d os).numk HT.out 58 .u64 rfl
  have g59 := fun d os => (PG.out d os).numk HT.out 59 .u16 rfl
  have cS := fun d os => Calls.regrown_of (w := W) (d := d) (os := os) (kS.out _)
  refine wp_region_quiet_below (by kernel_rfl) (by kernel_rfl) ?_
  repeat (go_big_quiet_step (first | with_reducible exact cS _ _))
  refine wpQuiet_nil ?_
  intro _ hw'
  obtain ⟨⟨dq, osq⟩, hw''⟩ := hw'
  subst hw''
  have HB1 := Lib.hid (HB0.out.trans ((below_regrown W dq osq).mono HB0.out.size))
  have P1 := Lib.hid (P0.out.grown dq osq)
  clear g74 g75 g76 g77 g56 g57 g58 g59 PG cS
  generalize grow (redrawn W dq) osq = W1 at *
  have PG := Lib.hid (fun d os => P1.out.grown d os)
  have PM := Lib.hid (fun d os => (PG.out d os).msg HT.out)
  have cO := fun d os => Calls.regrown_of (w := W1) (d := d) (os := os) (kO.out _)
  cases S
  · cases C
    · have hR := HR.out
      simp at hR
      subst hR
      go_wp2_with fail
      refine wp_region_quiet_below (by kernel_rfl) (by kernel_rfl) ?_
      repeat (go_big_quiet_step (fail))
      refine wpQuiet_nil ?_
      intro _ hw'
      obtain ⟨⟨dq, osq⟩, hw''⟩ := hw'
      subst hw''
      have HB2 := Lib.hid (HB1.out.trans ((below_regrown W1 dq osq).mono HB1.out.size))
      generalize grow (redrawn W1 dq) osq = W2 at *
      go_wp2
      go_ret
      exact ⟨rfl, HB2.out⟩
    · have hz := msgC_size xs
      have g68 := fun d os => (PG.out d os).numk HT.out 68 .i64 rfl
      have g69 := fun d os => (PG.out d os).numk HT.out 69 .i64 rfl
      have g70 := fun d os => (PG.out d os).numk HT.out 70 .i64 rfl
      have g71 := fun d os => (PG.out d os).numk HT.out 71 .i64 rfl
      go_wp2_with fail
      refine wp_region_quiet_below (by kernel_rfl) (by kernel_rfl) ?_
      iterate 5 (go_big_quiet_step (fail))
      refine quiet_loadT uM rfl sM (by rfl) _ rfl rfl (fun w9 ⟨p9, e9⟩ => by rw [e9]; exact PM.out _ _) (msgC_size xs) ?_
      simp only [Act.put, List.setIfInBounds_toArray, List.set_cons_zero, List.set_cons_succ]
      repeat (go_big_quiet_step (first | with_reducible exact cO _ _))
      refine wpQuiet_nil ?_
      intro _ hw'
      obtain ⟨⟨dq, osq⟩, hw''⟩ := hw'
      subst hw''
      have HB2 := Lib.hid (HB1.out.trans ((below_regrown W1 dq osq).mono HB1.out.size))
      have P2 := Lib.hid (P1.out.grown dq osq)
      clear g68 g69 g70 g71 PG PM cO qt
      generalize grow (redrawn W1 dq) osq = W2 at *
      cases T
      · have hR := HR.out
        simp at hR
        subst hR
        go_wp2
        go_ret
        exact ⟨rfl, HB2.out⟩
      · have c44 := P2.out.numk HT.out 44 .i64 rfl
        have HC := HR.out
        simp at HC
        generalize numI xs 44 = x44 at *
        by_cases q : x44 = 3
        · subst q
          simp at HC
          subst HC
          go_wp2
          go_ret
          exact ⟨rfl, HB2.out⟩
        · rw [if_neg q] at HC
          subst HC
          have e3 : (x44 == 3) = false := by simpa using q
          clear HR q
          go_wp2
          go_ret
          exact ⟨rfl, HB2.out⟩
  · have hR := HR.out
    simp at hR
    subst hR
    go_wp2
    go_ret
    exact ⟨rfl, HB1.out⟩
theorem eqNone (w : World) : (binOp .eql 43 (.pointer none) (.pointer none)).run Tryd.prog w = .ok (.bool true) w := by kernel_rfl
theorem eqSome (b o : Nat) (w : World) : (binOp .eql 43 (.pointer (some ⟨b, o, none⟩)) (.pointer none)).run Tryd.prog w = .ok (.bool false) w := by kernel_rfl
set_option maxHeartbeats 2000000 in
theorem news_any (pb o : Nat) (xs : Array Value) (w : World) (hp : Pt w pb o xs) (ht : Typed xs) (hr : Rg xs) (he : Env w) : Calls Tryd.prog 9 #[.pointer (some ⟨pb, o, none⟩)] w fun e w' => e = .returned (.int .i64 (newsX xs)) ∧ Below w.heap.size w w' := by
  have kR := Lib.hid (fun w he => roleOf_any xs hr w he)
  have kD := Lib.hid (fun w hp => ndes_any pb o xs w hp ht hr)
  have kB := Lib.hid (fun w => better_any (numI xs 74) (numI xs 75) (numI xs 76) (numI xs 77) (numI xs 56) (numI xs 57) (numI xs 58) (numI xs 59) w)
  rw [show ltV (numI xs 74) (numI xs 75) (numI xs 76) (numI xs 77) (numI xs 56) (numI xs 57) (numI xs 58) (numI xs 59) = betX xs from rfl] at kB
  have HT := Lib.hid ht
  have HP := Lib.hid hp
  have HM := Lib.hid (hp.msg ht)
  have HE := Lib.hid he
  have j1 := eqSome pb o
  have HR := Lib.hid (show newsX xs = if roleX xs == 2 then ndesX xs else if (roleX xs == 1 || roleX xs == 3) && !betX xs then 4 else 0 from rfl)
  clear hp ht hr he
  generalize roleX xs = r at *
  generalize betX xs = B at *
  generalize newsX xs = R at *
  generalize ndesX xs = D at *
  go_enter Tryd.func9, Tryd.ntmps9
  go_wp2_with (with_reducible refine stopL 36 _ rfl ?_)
  refine Lib.hid ?_
  refine wpList_load_whole uM rfl sM rfl _ rfl rfl HM.out (msgC_size xs) ?_
  go_wp2_with fail
  refine (kR.out _ HE.out).mono ?_
  rintro e w1 ⟨rfl, hb⟩
  have HB1 := Lib.hid hb
  have P1 := Lib.hid (HP.out.below hb)
  clear hb HM HP HE kR
  by_cases q2 : r = 2
  · subst q2
    have hR := HR.out
    simp at hR
    subst hR
    go_wp2_with fail
    refine (kD.out _ P1.out).mono ?_
    rintro e w2 ⟨rfl, hb⟩
    have HB2 := Lib.hid (below_next HB1.out hb)
    clear hb
    go_wp2
    go_ret
    exact ⟨rfl, HB2.out⟩
  · have e2 : (r == 2) = false := by simpa using q2
    have PG := Lib.hid (fun d os => P1.out.grown d os)
    have cB := fun d os => Calls.regrown_of (w := w1) (d := d) (os := os) (kB.out _)
    have g74 := fun d os => (PG.out d os).numk HT.out 74 .u64 rfl
    have g75 := fun d os => (PG.out d os).numk HT.out 75 .u32 rfl
    have g76 := fun d os => (PG.out d os).numk HT.out 76 .u64 rfl
    have g77 := fun d os => (PG.out d os).numk HT.out 77 .u16 rfl
    have g56 := fun d os => (PG.out d os).numk HT.out 56 .u64 rfl
    have g57 := fun d os => (PG.out d os).numk HT.out 57 .u32 rfl
    have g58 := fun d os => (PG.out d os).numk HT.out 58 .u64 rfl
    have g59 := fun d os => (PG.out d os).numk HT.out 59 .u16 rfl
    by_cases q1 : r = 1
    · subst q1
      go_wp2_with fail
      refine wp_region_quiet_below (by kernel_rfl) (by kernel_rfl) ?_
      repeat (go_big_quiet_step (first | with_reducible exact cB _ _))
      refine wpQuiet_nil ?_
      intro _ hw'
      obtain ⟨⟨dq, osq⟩, hw''⟩ := hw'
      subst hw''
      have HB2 := Lib.hid (HB1.out.trans ((below_regrown w1 dq osq).mono HB1.out.size))
      clear g74 g75 g76 g77 g56 g57 g58 g59 PG cB
      generalize grow (redrawn w1 dq) osq = W2 at *
      cases B
      · have hR := HR.out
        simp at hR
        subst hR
        go_wp2
        go_ret
        exact ⟨rfl, HB2.out⟩
      · have hR := HR.out
        simp at hR
        subst hR
        go_wp2
        go_ret
        exact ⟨rfl, HB2.out⟩
    · have e1 : (r == 1) = false := by simpa using q1
      by_cases q3 : r = 3
      · subst q3
        go_wp2_with fail
        refine wp_region_quiet_below (by kernel_rfl) (by kernel_rfl) ?_
        repeat (go_big_quiet_step (first | with_reducible exact cB _ _))
        refine wpQuiet_nil ?_
        intro _ hw'
        obtain ⟨⟨dq, osq⟩, hw''⟩ := hw'
        subst hw''
        have HB2 := Lib.hid (HB1.out.trans ((below_regrown w1 dq osq).mono HB1.out.size))
        clear g74 g75 g76 g77 g56 g57 g58 g59 PG cB
        generalize grow (redrawn w1 dq) osq = W2 at *
        cases B
        · have hR := HR.out
          simp at hR
          subst hR
          go_wp2
          go_ret
          exact ⟨rfl, HB2.out⟩
        · have hR := HR.out
          simp at hR
          subst hR
          go_wp2
          go_ret
          exact ⟨rfl, HB2.out⟩
      · have e3 : (r == 3) = false := by simpa using q3
        have hR := HR.out
        simp [e1, e2, e3] at hR
        subst hR
        clear q1 q2 q3 HR
        go_wp2
        go_ret
        exact ⟨rfl, HB1.out⟩
theorem news_nil (w : World) : Calls Tryd.prog 9 #[.pointer none] w fun e w' => e = .returned (.int .i64 0) ∧ w = w' := by
  have j1 := eqNone
  go_enter Tryd.func9, Tryd.ntmps9
  go_wp2
  go_ret
  exact ⟨rfl, rfl⟩
end Go.Proofs.YtjfdochceejegaaDoor
