/- InfoNews' call. -/
import Derived.Test.YtjfdochceejegaaDoorLa
import Derived.Test.YtjfdochceejegaaDoorMg
namespace Go.Proofs.YtjfdochceejegaaDoor
open Go.RowKit Go.Sort

theorem port_eql {xs : Array Value} (h : Typed xs) (w : World) : (binOp .eql 39 (.agg xs) (.agg xs)).run Tryd.prog w = .ok (.bool true) w := by
  rw [run_eql_struct, port_self h]; rfl
theorem VarAt.pt {w : World} {b : Nat} {xs : Array Value} (h : VarAt w b xs 39) (hx : xs.size = 90) : Pt w b 0 xs := ⟨xs, h, by omega, fun k _ => by rw [Nat.zero_add]⟩
set_option maxHeartbeats 2000000 in
theorem news_law (xs : Array Value) (w : World) (ht : Typed xs) (hr : Rg xs) (he : Env w) : Calls Tryd.prog 3 #[.agg xs] w fun e w' => e = .returned (.bool true) ∧ Below w.heap.size w w' := by
  have V0 := Lib.hid (var_new w xs 39)
  have B0 := Lib.hid (box_below w (.cells xs 39))
  have kF := Lib.hid (fun w => fitsPort_any xs ht w)
  have kN := Lib.hid (fun b w hp he => news_any b 0 xs w hp ht hr he)
  have kR := Lib.hid (fun w => refnews_any xs w ht hr)
  have HT := Lib.hid ht
  have HENV := Lib.hid he
  have qE := Lib.hid (port_eql ht)
  have zp := Lib.hid zero48
  have zps := Lib.hid z48_size
  clear ht hr he
  generalize z48 = ZP at *
  generalize newsX xs = nn at *
  go_enter Tryd.func3, Tryd.ntmps3
  go_wp2_with fail
  generalize w.alloc (.cells xs 39) = w0 at *
  refine (livesL_any _ (HENV.out.below B0.out)).mono ?_
  rintro e w1 ⟨rfl, hb⟩
  have V1 := Lib.hid (V0.out.below hb V0.out.lt)
  have B1 := Lib.hid (B0.out.trans (hb.mono B0.out.size))
  clear hb V0 B0
  go_wp2_with (with_reducible refine stopL 39 _ rfl ?_)
  refine Lib.hid ?_
  refine guarded_loadT uP rfl sP (by rfl) _ rfl rfl (range_whole V1.out) HT.out.1 ?_
  go_wp2_with fail
  refine (kF.out _).mono ?_
  rintro e w2 ⟨⟨q, rfl⟩, hb⟩
  have V2 := Lib.hid (V1.out.below hb V1.out.lt)
  have B2 := Lib.hid (B1.out.trans (hb.mono B1.out.size))
  clear hb V1 B1 kF
  cases q
  · go_wp2_with fail
    refine (livesL_any _ (HENV.out.below B2.out)).mono ?_
    rintro e w3 ⟨rfl, hb⟩
    have B3 := Lib.hid (B2.out.trans (hb.mono B2.out.size))
    clear hb
    go_wp2_with fail
    go_ret
    exact ⟨rfl, B3.out⟩
  · go_wp2_with (with_reducible refine stopL 39 _ rfl ?_)
    refine Lib.hid ?_
    refine wpList_load_whole uP rfl sP rfl _ rfl rfl (range_whole V2.out) HT.out.1 ?_
    have zz := zp.out
    go_wp2_with (with_reducible refine stopS 39 _ _ rfl ?_)
    refine Lib.hid ?_
    clear zz
    refine wpList_store_only sP rfl _ _ rfl rfl rfl (var_new w2 ZP 39) HT.out.one HT.out.1 (by rw [zps.out]; omega) ?_
    intro w3 hv ho
    simp only [Act.put]
    rw [putL_all _ _ (by rw [zps.out, HT.out.1])] at hv
    have hb3 : Below w2.heap.size w2 w3 := (box_below w2 _).trans (ho.below (Nat.le_refl _) (by rw [alloc_size]; omega))
    have VX := Lib.hid hv
    have VP := Lib.hid (V2.out.below hb3 V2.out.lt)
    have B3 := Lib.hid (B2.out.trans (hb3.mono B2.out.size))
    clear hv ho hb3 V2 B2
    generalize w2.heap.size = xb at *
    have E3 := Lib.hid (HENV.out.below B3.out)
    have c1 := fun d os => Calls.regrown_of (w := w3) (d := d) (os := os) (kN.out xb _ ((VX.out.grown d os).pt HT.out.1) (E3.out.below (below_regrown w3 d os)))
    have c2 := fun d os => Calls.regrown_of (w := w3) (d := d) (os := os) (kR.out _)
    have q1 := qE.out
    have g := gP
    go_wp2_with fail
    refine wp_region_quiet_below (by kernel_rfl) (by kernel_rfl) ?_
    go_big_quiet_step (first | with_reducible exact c1 _ _)
    refine quiet_loadT uP rfl sP (by rfl) _ rfl rfl (fun w9 ⟨p9, e9⟩ => by rw [e9]; exact range_whole (VP.out.grown _ _)) HT.out.1 ?_
    simp only [Act.put, List.setIfInBounds_toArray, List.set_cons_zero, List.set_cons_succ]
    iterate 3 (go_big_quiet_step (first | with_reducible exact c2 _ _))
    refine quiet_loadT uP rfl sP (by rfl) _ rfl rfl (fun w9 ⟨p9, e9⟩ => by rw [e9]; exact range_whole (VX.out.grown _ _)) HT.out.1 ?_
    simp only [Act.put, List.setIfInBounds_toArray, List.set_cons_zero, List.set_cons_succ]
    refine quiet_loadT uP rfl sP (by rfl) _ rfl rfl (fun w9 ⟨p9, e9⟩ => by rw [e9]; exact range_whole (VP.out.grown _ _)) HT.out.1 ?_
    simp only [Act.put, List.setIfInBounds_toArray, List.set_cons_zero, List.set_cons_succ]
    repeat (go_big_quiet_step (fail))
    refine wpQuiet_nil ?_
    intro _ hw'
    obtain ⟨⟨dq, osq⟩, hw''⟩ := hw'
    subst hw''
    have B4 := Lib.hid (B3.out.trans ((below_regrown w3 dq osq).mono B3.out.size))
    clear c1 c2 q1 g
    generalize grow (redrawn w3 dq) osq = w4 at *
    go_wp2_with fail
    go_ret
    exact ⟨rfl, B4.out⟩
end Go.Proofs.YtjfdochceejegaaDoor
