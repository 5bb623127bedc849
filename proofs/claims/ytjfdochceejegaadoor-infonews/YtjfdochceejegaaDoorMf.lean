/- Contract of the reference's next. -/
import Derived.Test.YtjfdochceejegaaDoorMd
import Derived.Test.YtjfdochceejegaaDoorMe
namespace Go.Proofs.YtjfdochceejegaaDoor
open Go.RowKit Go.Sort

theorem refhear_any (B : Bd) (s : Value) (xs : Array Value) (w : World) (ht : Typed xs) (hr : Rg xs) : Calls Tryd.prog 51 #[.agg (B.cells s), .agg xs] w fun e w' => e = .returned (.agg (hearX B.rs xs)) ∧ Below w.heap.size w w' := by
  by_cases q : numI xs 72 = 2
  · exact refhear_tcn B s xs w ht hr q
  · exact refhear_not B s xs w ht hr (by simpa using q)
theorem results_pair39 {fn : Func} {p u : Tmp} (h : fn.results = #[.cell p 39, .tmp u]) (tmps : Array Value) (w : World) (g : Nat) (t : TypeId) (cs : Array Value) (fr : Nat × Nat)
    (hp : tmps.getD p undef = .pointer (some ⟨g, 0, none⟩)) (hg : w.heap[g]? = some (.cells cs t fr)) (hz : cs.size = 90) :
    (results fn tmps).run Tryd.prog w = .ok (.tuple #[.agg cs, tmps.getD u undef]) w := by
  rw [results_cell_tmp h, hp]
  simp [asAddr, run_loadVar_row w g t 39 cs fr _ hg uP rfl (by rw [sP, hz])]
theorem stepX_at (r : Bool) (xs : Array Value) : stepX r xs = if ((!boolI xs 2 && (numI xs 44 != 0)) || ((numI xs 86 == 0) && boolI xs 31)) then (true, disX xs) else if ((numI xs 86 == 0) && boolI xs 2) then (true, ageX xs) else if (((numI xs 86 == 1) || (numI xs 86 == 2)) && boolI xs 39 && boolI xs 43) then (true, updX xs) else if ((numI xs 86 != 2) || boolI xs 43) then (false, xs) else if boolI xs 31 then (true, hearX r xs) else if ((numI xs 44 == 3) && (numI xs 11 == 0)) then (true, ageX xs) else (false, xs) := rfl
set_option maxHeartbeats 8000000 in
theorem refnext_any (B : Bd) (s : Value) (xs : Array Value) (w : World) (ht : Typed xs) (hr : Rg xs) : Calls Tryd.prog 35 #[.agg (B.cells s), .agg xs] w fun e w' => e = .returned (.tuple #[.agg (stepX B.rs xs).2, .bool (stepX B.rs xs).1]) ∧ Below w.heap.size w w' := by
  have kdis := Lib.hid (fun w => refdisable_any xs w ht)
  have kage := Lib.hid (fun w => refage_any xs w ht)
  have kupd := Lib.hid (fun w => refupdate_any xs w ht)
  have khear := Lib.hid (fun w => refhear_any B s xs w ht hr)
  have Tdis := Lib.hid (disX_typed ht)
  have Tage := Lib.hid (ageX_typed ht)
  have Tupd := Lib.hid (updX_typed ht)
  have Thear := Lib.hid (hearX_typed B.rs ht)
  have HR := Lib.hid (stepX_at B.rs xs)
  have h2 := Lib.hid (ht.bool 2 rfl)
  have h44 := Lib.hid (ht.numk 44 .i64 rfl)
  have h86 := Lib.hid (ht.numk 86 .i64 rfl)
  have h31 := Lib.hid (ht.bool 31 rfl)
  have h39 := Lib.hid (ht.bool 39 rfl)
  have h43 := Lib.hid (ht.bool 43 rfl)
  have h11 := Lib.hid (ht.numk 11 .i64 rfl)
  have V0 := Lib.hid (show VarAt (((w.alloc (.cells (B.cells s) 47)).alloc (.cells xs 39)).alloc (.cells z48 39)) (w.heap.size + 1) xs 39 by
    have := (var_new (w.alloc (.cells (B.cells s) 47)) xs 39).alloc (.cells z48 39)
    rwa [alloc_size] at this)
  have C0 := Lib.hid (show VarAt (((w.alloc (.cells (B.cells s) 47)).alloc (.cells xs 39)).alloc (.cells z48 39)) (w.heap.size + 2) z48 39 by
    have := var_new ((w.alloc (.cells (B.cells s) 47)).alloc (.cells xs 39)) z48 39
    rwa [alloc_size, alloc_size] at this)
  have K0 := Lib.hid (show VarAt (((w.alloc (.cells (B.cells s) 47)).alloc (.cells xs 39)).alloc (.cells z48 39)) w.heap.size (B.cells s) 47 from ((var_new w (B.cells s) 47).alloc (.cells xs 39)).alloc (.cells z48 39))
  have B0 := Lib.hid (show Below w.heap.size w (((w.alloc (.cells (B.cells s) 47)).alloc (.cells xs 39)).alloc (.cells z48 39)) from (((Below.refl w.heap.size w).alloc (Nat.le_refl _) _).alloc (by rw [alloc_size]; omega) _).alloc (by rw [alloc_size, alloc_size]; omega) _)
  have H6 := Lib.hid (show (B.cells s)[6]? = some (.bool B.rs) by simp)
  have C18 := Lib.hid (show (B.cells s).size = 18 by simp)
  have zz := zero48
  have zs := Lib.hid z48_size
  have T0 := Lib.hid ht
  clear ht hr
  generalize z48 = Z at *
  generalize B.cells s = C at *
  generalize B.rs = rs at *
  generalize stepX rs xs = RR at *
  generalize disX xs = Xdis at *
  generalize ageX xs = Xage at *
  generalize updX xs = Xupd at *
  generalize hearX rs xs = Xhear at *
  generalize boolI xs 2 = x2 at *
  generalize numI xs 44 = x44 at *
  generalize numI xs 86 = x86 at *
  generalize boolI xs 31 = x31 at *
  generalize boolI xs 39 = x39 at *
  generalize boolI xs 43 = x43 at *
  generalize numI xs 11 = x11 at *
  cases x2
  · by_cases q1 : x44 = 0
    · subst q1
      by_cases q2 : x86 = 0
      · subst q2
        cases x31
        · have hR := HR.out
          simp at hR
          have HC := Lib.hid hR
          clear hR HR
          go_enter Tryd.func35, Tryd.ntmps35
          go_upto_region 1 with fail
          clear zz
          generalize ((w.alloc (.cells (C) 47)).alloc (.cells xs 39)).alloc (.cells Z 39) = w0 at *
          have c2 := (V0.out.cell 2).trans h2.out
          have c44 := (V0.out.cell 44).trans h44.out
          have c86 := (V0.out.cell 86).trans h86.out
          have c31 := (V0.out.cell 31).trans h31.out
          have c39 := (V0.out.cell 39).trans h39.out
          have c43 := (V0.out.cell 43).trans h43.out
          have c11 := (V0.out.cell 11).trans h11.out
          go_wp2_with (with_reducible refine stopL 39 _ rfl ?_)
          refine Lib.hid ?_
          refine wpList_load_whole uP rfl sP rfl _ rfl rfl (range_whole V0.out) T0.out.1 ?_
          refine wpList_store_only sP rfl _ _ rfl rfl rfl C0.out T0.out.one T0.out.1 (by rw [zs.out]; omega) ?_
          intro w99 hv ho
          rw [putL_all _ _ (by rw [zs.out, T0.out.1])] at hv
          have V99 := Lib.hid hv
          have B99 := Lib.hid (B0.out.trans (ho.below (by omega) B0.out.size))
          clear hv ho
          go_wp2_with (with_reducible refine stopE ?_)
          refine Lib.hid ?_
          exact bodyPost_ret (v := .tuple #[.agg xs, .bool false]) (results_pair39 (p := 4) (u := 5) rfl _ _ (w.heap.size + 2) 39 _ (0, 0) rfl V99.out T0.out.1) rfl ⟨by rw [HC.out], B99.out⟩
        · have hR := HR.out
          simp at hR
          have HC := Lib.hid hR
          clear hR HR
          go_enter Tryd.func35, Tryd.ntmps35
          go_upto_region 1 with fail
          clear zz
          generalize ((w.alloc (.cells (C) 47)).alloc (.cells xs 39)).alloc (.cells Z 39) = w0 at *
          have c2 := (V0.out.cell 2).trans h2.out
          have c44 := (V0.out.cell 44).trans h44.out
          have c86 := (V0.out.cell 86).trans h86.out
          have c31 := (V0.out.cell 31).trans h31.out
          have c39 := (V0.out.cell 39).trans h39.out
          have c43 := (V0.out.cell 43).trans h43.out
          have c11 := (V0.out.cell 11).trans h11.out
          go_wp2_with (with_reducible refine stopL 39 _ rfl ?_)
          refine Lib.hid ?_
          refine wpList_load_whole uP rfl sP rfl _ rfl rfl (range_whole V0.out) T0.out.1 ?_
          go_wp2_with fail
          refine (kdis.out _).mono ?_
          rintro e w1 ⟨rfl, hb⟩
          have V1 := Lib.hid (V0.out.below hb V0.out.lt)
          have C1 := Lib.hid (C0.out.below hb C0.out.lt)
          have B1 := Lib.hid (B0.out.trans (hb.mono B0.out.size))
          have K1 := Lib.hid (K0.out.below hb K0.out.lt)
          clear hb V0 C0 B0 K0
          go_wp2_with (with_reducible refine stopS 39 _ _ rfl ?_)
          refine Lib.hid ?_
          refine wpList_store_only sP rfl _ _ rfl rfl rfl C1.out Tdis.out.one Tdis.out.1 (by rw [zs.out]; omega) ?_
          intro w99 hv ho
          rw [putL_all _ _ (by rw [zs.out, Tdis.out.1])] at hv
          have V99 := Lib.hid hv
          have B99 := Lib.hid (B1.out.trans (ho.below (by omega) B1.out.size))
          clear hv ho
          go_wp2_with (with_reducible refine stopE ?_)
          refine Lib.hid ?_
          exact bodyPost_ret (v := .tuple #[.agg Xdis, .bool true]) (results_pair39 (p := 4) (u := 5) rfl _ _ (w.heap.size + 2) 39 _ (0, 0) rfl V99.out Tdis.out.1) rfl ⟨by rw [HC.out], B99.out⟩
      · have e2_ : (x86 == 0) = false := by simpa using q2
        have n2_ : (x86 != 0) = true := by simpa using q2
        clear q2
        by_cases q3 : x86 = 1
        · subst q3
          cases x39
          · have hR := HR.out
            simp [e2_] at hR
            have HC := Lib.hid hR
            clear hR HR
            go_enter Tryd.func35, Tryd.ntmps35
            go_upto_region 1 with fail
            clear zz
            generalize ((w.alloc (.cells (C) 47)).alloc (.cells xs 39)).alloc (.cells Z 39) = w0 at *
            have c2 := (V0.out.cell 2).trans h2.out
            have c44 := (V0.out.cell 44).trans h44.out
            have c86 := (V0.out.cell 86).trans h86.out
            have c31 := (V0.out.cell 31).trans h31.out
            have c39 := (V0.out.cell 39).trans h39.out
            have c43 := (V0.out.cell 43).trans h43.out
            have c11 := (V0.out.cell 11).trans h11.out
            go_wp2_with (with_reducible refine stopL 39 _ rfl ?_)
            refine Lib.hid ?_
            refine wpList_load_whole uP rfl sP rfl _ rfl rfl (range_whole V0.out) T0.out.1 ?_
            refine wpList_store_only sP rfl _ _ rfl rfl rfl C0.out T0.out.one T0.out.1 (by rw [zs.out]; omega) ?_
            intro w99 hv ho
            rw [putL_all _ _ (by rw [zs.out, T0.out.1])] at hv
            have V99 := Lib.hid hv
            have B99 := Lib.hid (B0.out.trans (ho.below (by omega) B0.out.size))
            clear hv ho
            go_wp2_with (with_reducible refine stopE ?_)
            refine Lib.hid ?_
            exact bodyPost_ret (v := .tuple #[.agg xs, .bool false]) (results_pair39 (p := 4) (u := 5) rfl _ _ (w.heap.size + 2) 39 _ (0, 0) rfl V99.out T0.out.1) rfl ⟨by rw [HC.out], B99.out⟩
          · cases x43
            · have hR := HR.out
              simp [e2_] at hR
              have HC := Lib.hid hR
              clear hR HR
              go_enter Tryd.func35, Tryd.ntmps35
              go_upto_region 1 with fail
              clear zz
              generalize ((w.alloc (.cells (C) 47)).alloc (.cells xs 39)).alloc (.cells Z 39) = w0 at *
              have c2 := (V0.out.cell 2).trans h2.out
              have c44 := (V0.out.cell 44).trans h44.out
              have c86 := (V0.out.cell 86).trans h86.out
              have c31 := (V0.out.cell 31).trans h31.out
              have c39 := (V0.out.cell 39).trans h39.out
              have c43 := (V0.out.cell 43).trans h43.out
              have c11 := (V0.out.cell 11).trans h11.out
              go_wp2_with (with_reducible refine stopL 39 _ rfl ?_)
              refine Lib.hid ?_
              refine wpList_load_whole uP rfl sP rfl _ rfl rfl (range_whole V0.out) T0.out.1 ?_
              refine wpList_store_only sP rfl _ _ rfl rfl rfl C0.out T0.out.one T0.out.1 (by rw [zs.out]; omega) ?_
              intro w99 hv ho
              rw [putL_all _ _ (by rw [zs.out, T0.out.1])] at hv
              have V99 := Lib.hid hv
              have B99 := Lib.hid (B0.out.trans (ho.below (by omega) B0.out.size))
              clear hv ho
              go_wp2_with (with_reducible refine stopE ?_)
              refine Lib.hid ?_
              exact bodyPost_ret (v := .tuple #[.agg xs, .bool false]) (results_pair39 (p := 4) (u := 5) rfl _ _ (w.heap.size + 2) 39 _ (0, 0) rfl V99.out T0.out.1) rfl ⟨by rw [HC.out], B99.out⟩
            · have hR := HR.out
              simp [e2_] at hR
              have HC := Lib.hid hR
              clear hR HR
              go_enter Tryd.func35, Tryd.ntmps35
              go_upto_region 1 with fail
              clear zz
              generalize ((w.alloc (.cells (C) 47)).alloc (.cells xs 39)).alloc (.cells Z 39) = w0 at *
              have c2 := (V0.out.cell 2).trans h2.out
              have c44 := (V0.out.cell 44).trans h44.out
              have c86 := (V0.out.cell 86).trans h86.out
              have c31 := (V0.out.cell 31).trans h31.out
              have c39 := (V0.out.cell 39).trans h39.out
              have c43 := (V0.out.cell 43).trans h43.out
              have c11 := (V0.out.cell 11).trans h11.out
              go_wp2_with (with_reducible refine stopL 39 _ rfl ?_)
              refine Lib.hid ?_
              refine wpList_load_whole uP rfl sP rfl _ rfl rfl (range_whole V0.out) T0.out.1 ?_
              go_wp2_with fail
              refine (kupd.out _).mono ?_
              rintro e w1 ⟨rfl, hb⟩
              have V1 := Lib.hid (V0.out.below hb V0.out.lt)
              have C1 := Lib.hid (C0.out.below hb C0.out.lt)
              have B1 := Lib.hid (B0.out.trans (hb.mono B0.out.size))
              have K1 := Lib.hid (K0.out.below hb K0.out.lt)
              clear hb V0 C0 B0 K0
              go_wp2_with (with_reducible refine stopS 39 _ _ rfl ?_)
              refine Lib.hid ?_
              refine wpList_store_only sP rfl _ _ rfl rfl rfl C1.out Tupd.out.one Tupd.out.1 (by rw [zs.out]; omega) ?_
              intro w99 hv ho
              rw [putL_all _ _ (by rw [zs.out, Tupd.out.1])] at hv
              have V99 := Lib.hid hv
              have B99 := Lib.hid (B1.out.trans (ho.below (by omega) B1.out.size))
              clear hv ho
              go_wp2_with (with_reducible refine stopE ?_)
              refine Lib.hid ?_
              exact bodyPost_ret (v := .tuple #[.agg Xupd, .bool true]) (results_pair39 (p := 4) (u := 5) rfl _ _ (w.heap.size + 2) 39 _ (0, 0) rfl V99.out Tupd.out.1) rfl ⟨by rw [HC.out], B99.out⟩
        · have e3_ : (x86 == 1) = false := by simpa using q3
          have n3_ : (x86 != 1) = true := by simpa using q3
          clear q3
          by_cases q4 : x86 = 2
          · subst q4
            cases x39
            · cases x43
              · cases x31
                · have hR := HR.out
                  simp [e2_, e3_] at hR
                  have HC := Lib.hid hR
                  clear hR HR
                  go_enter Tryd.func35, Tryd.ntmps35
                  go_upto_region 1 with fail
                  clear zz
                  generalize ((w.alloc (.cells (C) 47)).alloc (.cells xs 39)).alloc (.cells Z 39) = w0 at *
                  have c2 := (V0.out.cell 2).trans h2.out
                  have c44 := (V0.out.cell 44).trans h44.out
                  have c86 := (V0.out.cell 86).trans h86.out
                  have c31 := (V0.out.cell 31).trans h31.out
                  have c39 := (V0.out.cell 39).trans h39.out
                  have c43 := (V0.out.cell 43).trans h43.out
                  have c11 := (V0.out.cell 11).trans h11.out
                  go_wp2_with (with_reducible refine stopL 39 _ rfl ?_)
                  refine Lib.hid ?_
                  refine wpList_load_whole uP rfl sP rfl _ rfl rfl (range_whole V0.out) T0.out.1 ?_
                  refine wpList_store_only sP rfl _ _ rfl rfl rfl C0.out T0.out.one T0.out.1 (by rw [zs.out]; omega) ?_
                  intro w99 hv ho
                  rw [putL_all _ _ (by rw [zs.out, T0.out.1])] at hv
                  have V99 := Lib.hid hv
                  have B99 := Lib.hid (B0.out.trans (ho.below (by omega) B0.out.size))
                  clear hv ho
                  go_wp2_with (with_reducible refine stopE ?_)
                  refine Lib.hid ?_
                  exact bodyPost_ret (v := .tuple #[.agg xs, .bool false]) (results_pair39 (p := 4) (u := 5) rfl _ _ (w.heap.size + 2) 39 _ (0, 0) rfl V99.out T0.out.1) rfl ⟨by rw [HC.out], B99.out⟩
                · have hR := HR.out
                  simp [e2_, e3_] at hR
                  have HC := Lib.hid hR
                  clear hR HR
                  go_enter Tryd.func35, Tryd.ntmps35
                  go_upto_region 1 with fail
                  clear zz
                  generalize ((w.alloc (.cells (C) 47)).alloc (.cells xs 39)).alloc (.cells Z 39) = w0 at *
                  have c2 := (V0.out.cell 2).trans h2.out
                  have c44 := (V0.out.cell 44).trans h44.out
                  have c86 := (V0.out.cell 86).trans h86.out
                  have c31 := (V0.out.cell 31).trans h31.out
                  have c39 := (V0.out.cell 39).trans h39.out
                  have c43 := (V0.out.cell 43).trans h43.out
                  have c11 := (V0.out.cell 11).trans h11.out
                  go_wp2_with (with_reducible refine stopL 47 _ rfl ?_)
                  refine Lib.hid ?_
                  refine wpList_load_whole uB rfl sB rfl _ rfl rfl (range_whole K0.out) C18.out ?_
                  refine wpList_load_whole uP rfl sP rfl _ rfl rfl (range_whole V0.out) T0.out.1 ?_
                  go_wp2_with fail
                  refine (khear.out _).mono ?_
                  rintro e w1 ⟨rfl, hb⟩
                  have V1 := Lib.hid (V0.out.below hb V0.out.lt)
                  have C1 := Lib.hid (C0.out.below hb C0.out.lt)
                  have B1 := Lib.hid (B0.out.trans (hb.mono B0.out.size))
                  have K1 := Lib.hid (K0.out.below hb K0.out.lt)
                  clear hb V0 C0 B0 K0
                  go_wp2_with (with_reducible refine stopS 39 _ _ rfl ?_)
                  refine Lib.hid ?_
                  refine wpList_store_only sP rfl _ _ rfl rfl rfl C1.out Thear.out.one Thear.out.1 (by rw [zs.out]; omega) ?_
                  intro w99 hv ho
                  rw [putL_all _ _ (by rw [zs.out, Thear.out.1])] at hv
                  have V99 := Lib.hid hv
                  have B99 := Lib.hid (B1.out.trans (ho.below (by omega) B1.out.size))
                  clear hv ho
                  go_wp2_with (with_reducible refine stopE ?_)
                  refine Lib.hid ?_
                  exact bodyPost_ret (v := .tuple #[.agg Xhear, .bool true]) (results_pair39 (p := 4) (u := 5) rfl _ _ (w.heap.size + 2) 39 _ (0, 0) rfl V99.out Thear.out.1) rfl ⟨by rw [HC.out], B99.out⟩
              · have hR := HR.out
                simp [e2_, e3_] at hR
                have HC := Lib.hid hR
                clear hR HR
                go_enter Tryd.func35, Tryd.ntmps35
                go_upto_region 1 with fail
                clear zz
                generalize ((w.alloc (.cells (C) 47)).alloc (.cells xs 39)).alloc (.cells Z 39) = w0 at *
                have c2 := (V0.out.cell 2).trans h2.out
                have c44 := (V0.out.cell 44).trans h44.out
                have c86 := (V0.out.cell 86).trans h86.out
                have c31 := (V0.out.cell 31).trans h31.out
                have c39 := (V0.out.cell 39).trans h39.out
                have c43 := (V0.out.cell 43).trans h43.out
                have c11 := (V0.out.cell 11).trans h11.out
                go_wp2_with (with_reducible refine stopL 39 _ rfl ?_)
                refine Lib.hid ?_
                refine wpList_load_whole uP rfl sP rfl _ rfl rfl (range_whole V0.out) T0.out.1 ?_
                refine wpList_store_only sP rfl _ _ rfl rfl rfl C0.out T0.out.one T0.out.1 (by rw [zs.out]; omega) ?_
                intro w99 hv ho
                rw [putL_all _ _ (by rw [zs.out, T0.out.1])] at hv
                have V99 := Lib.hid hv
                have B99 := Lib.hid (B0.out.trans (ho.below (by omega) B0.out.size))
                clear hv ho
                go_wp2_with (with_reducible refine stopE ?_)
                refine Lib.hid ?_
                exact bodyPost_ret (v := .tuple #[.agg xs, .bool false]) (results_pair39 (p := 4) (u := 5) rfl _ _ (w.heap.size + 2) 39 _ (0, 0) rfl V99.out T0.out.1) rfl ⟨by rw [HC.out], B99.out⟩
            · cases x43
              · cases x31
                · have hR := HR.out
                  simp [e2_, e3_] at hR
                  have HC := Lib.hid hR
                  clear hR HR
                  go_enter Tryd.func35, Tryd.ntmps35
                  go_upto_region 1 with fail
                  clear zz
                  generalize ((w.alloc (.cells (C) 47)).alloc (.cells xs 39)).alloc (.cells Z 39) = w0 at *
                  have c2 := (V0.out.cell 2).trans h2.out
                  have c44 := (V0.out.cell 44).trans h44.out
                  have c86 := (V0.out.cell 86).trans h86.out
                  have c31 := (V0.out.cell 31).trans h31.out
                  have c39 := (V0.out.cell 39).trans h39.out
                  have c43 := (V0.out.cell 43).trans h43.out
                  have c11 := (V0.out.cell 11).trans h11.out
                  go_wp2_with (with_reducible refine stopL 39 _ rfl ?_)
                  refine Lib.hid ?_
                  refine wpList_load_whole uP rfl sP rfl _ rfl rfl (range_whole V0.out) T0.out.1 ?_
                  refine wpList_store_only sP rfl _ _ rfl rfl rfl C0.out T0.out.one T0.out.1 (by rw [zs.out]; omega) ?_
                  intro w99 hv ho
                  rw [putL_all _ _ (by rw [zs.out, T0.out.1])] at hv
                  have V99 := Lib.hid hv
                  have B99 := Lib.hid (B0.out.trans (ho.below (by omega) B0.out.size))
                  clear hv ho
                  go_wp2_with (with_reducible refine stopE ?_)
                  refine Lib.hid ?_
                  exact bodyPost_ret (v := .tuple #[.agg xs, .bool false]) (results_pair39 (p := 4) (u := 5) rfl _ _ (w.heap.size + 2) 39 _ (0, 0) rfl V99.out T0.out.1) rfl ⟨by rw [HC.out], B99.out⟩
                · have hR := HR.out
                  simp [e2_, e3_] at hR
                  have HC := Lib.hid hR
                  clear hR HR
                  go_enter Tryd.func35, Tryd.ntmps35
                  go_upto_region 1 with fail
                  clear zz
                  generalize ((w.alloc (.cells (C) 47)).alloc (.cells xs 39)).alloc (.cells Z 39) = w0 at *
                  have c2 := (V0.out.cell 2).trans h2.out
                  have c44 := (V0.out.cell 44).trans h44.out
                  have c86 := (V0.out.cell 86).trans h86.out
                  have c31 := (V0.out.cell 31).trans h31.out
                  have c39 := (V0.out.cell 39).trans h39.out
                  have c43 := (V0.out.cell 43).trans h43.out
                  have c11 := (V0.out.cell 11).trans h11.out
                  go_wp2_with (with_reducible refine stopL 47 _ rfl ?_)
                  refine Lib.hid ?_
                  refine wpList_load_whole uB rfl sB rfl _ rfl rfl (range_whole K0.out) C18.out ?_
                  refine wpList_load_whole uP rfl sP rfl _ rfl rfl (range_whole V0.out) T0.out.1 ?_
                  go_wp2_with fail
                  refine (khear.out _).mono ?_
                  rintro e w1 ⟨rfl, hb⟩
                  have V1 := Lib.hid (V0.out.below hb V0.out.lt)
                  have C1 := Lib.hid (C0.out.below hb C0.out.lt)
                  have B1 := Lib.hid (B0.out.trans (hb.mono B0.out.size))
                  have K1 := Lib.hid (K0.out.below hb K0.out.lt)
                  clear hb V0 C0 B0 K0
                  go_wp2_with (with_reducible refine stopS 39 _ _ rfl ?_)
                  refine Lib.hid ?_
                  refine wpList_store_only sP rfl _ _ rfl rfl rfl C1.out Thear.out.one Thear.out.1 (by rw [zs.out]; omega) ?_
                  intro w99 hv ho
                  rw [putL_all _ _ (by rw [zs.out, Thear.out.1])] at hv
                  have V99 := Lib.hid hv
                  have B99 := Lib.hid (B1.out.trans (ho.below (by omega) B1.out.size))
                  clear hv ho
                  go_wp2_with (with_reducible refine stopE ?_)
                  refine Lib.hid ?_
                  exact bodyPost_ret (v := .tuple #[.agg Xhear, .bool true]) (results_pair39 (p := 4) (u := 5) rfl _ _ (w.heap.size + 2) 39 _ (0, 0) rfl V99.out Thear.out.1) rfl ⟨by rw [HC.out], B99.out⟩
              · have hR := HR.out
                simp [e2_, e3_] at hR
                have HC := Lib.hid hR
                clear hR HR
                go_enter Tryd.func35, Tryd.ntmps35
                go_upto_region 1 with fail
                clear zz
                generalize ((w.alloc (.cells (C) 47)).alloc (.cells xs 39)).alloc (.cells Z 39) = w0 at *
                have c2 := (V0.out.cell 2).trans h2.out
                have c44 := (V0.out.cell 44).trans h44.out
                have c86 := (V0.out.cell 86).trans h86.out
                have c31 := (V0.out.cell 31).trans h31.out
                have c39 := (V0.out.cell 39).trans h39.out
                have c43 := (V0.out.cell 43).trans h43.out
                have c11 := (V0.out.cell 11).trans h11.out
                go_wp2_with (with_reducible refine stopL 39 _ rfl ?_)
                refine Lib.hid ?_
                refine wpList_load_whole uP rfl sP rfl _ rfl rfl (range_whole V0.out) T0.out.1 ?_
                go_wp2_with fail
                refine (kupd.out _).mono ?_
                rintro e w1 ⟨rfl, hb⟩
                have V1 := Lib.hid (V0.out.below hb V0.out.lt)
                have C1 := Lib.hid (C0.out.below hb C0.out.lt)
                have B1 := Lib.hid (B0.out.trans (hb.mono B0.out.size))
                have K1 := Lib.hid (K0.out.below hb K0.out.lt)
                clear hb V0 C0 B0 K0
                go_wp2_with (with_reducible refine stopS 39 _ _ rfl ?_)
                refine Lib.hid ?_
                refine wpList_store_only sP rfl _ _ rfl rfl rfl C1.out Tupd.out.one Tupd.out.1 (by rw [zs.out]; omega) ?_
                intro w99 hv ho
                rw [putL_all _ _ (by rw [zs.out, Tupd.out.1])] at hv
                have V99 := Lib.hid hv
                have B99 := Lib.hid (B1.out.trans (ho.below (by omega) B1.out.size))
                clear hv ho
                go_wp2_with (with_reducible refine stopE ?_)
                refine Lib.hid ?_
                exact bodyPost_ret (v := .tuple #[.agg Xupd, .bool true]) (results_pair39 (p := 4) (u := 5) rfl _ _ (w.heap.size + 2) 39 _ (0, 0) rfl V99.out Tupd.out.1) rfl ⟨by rw [HC.out], B99.out⟩
          · have e4_ : (x86 == 2) = false := by simpa using q4
            have n4_ : (x86 != 2) = true := by simpa using q4
            clear q4
            have hR := HR.out
            simp [e2_, e3_, e4_, n4_] at hR
            have HC := Lib.hid hR
            clear hR HR
            go_enter Tryd.func35, Tryd.ntmps35
            go_upto_region 1 with fail
            clear zz
            generalize ((w.alloc (.cells (C) 47)).alloc (.cells xs 39)).alloc (.cells Z 39) = w0 at *
            have c2 := (V0.out.cell 2).trans h2.out
            have c44 := (V0.out.cell 44).trans h44.out
            have c86 := (V0.out.cell 86).trans h86.out
            have c31 := (V0.out.cell 31).trans h31.out
            have c39 := (V0.out.cell 39).trans h39.out
            have c43 := (V0.out.cell 43).trans h43.out
            have c11 := (V0.out.cell 11).trans h11.out
            go_wp2_with (with_reducible refine stopL 39 _ rfl ?_)
            refine Lib.hid ?_
            refine wpList_load_whole uP rfl sP rfl _ rfl rfl (range_whole V0.out) T0.out.1 ?_
            refine wpList_store_only sP rfl _ _ rfl rfl rfl C0.out T0.out.one T0.out.1 (by rw [zs.out]; omega) ?_
            intro w99 hv ho
            rw [putL_all _ _ (by rw [zs.out, T0.out.1])] at hv
            have V99 := Lib.hid hv
            have B99 := Lib.hid (B0.out.trans (ho.below (by omega) B0.out.size))
            clear hv ho
            go_wp2_with (with_reducible refine stopE ?_)
            refine Lib.hid ?_
            exact bodyPost_ret (v := .tuple #[.agg xs, .bool false]) (results_pair39 (p := 4) (u := 5) rfl _ _ (w.heap.size + 2) 39 _ (0, 0) rfl V99.out T0.out.1) rfl ⟨by rw [HC.out], B99.out⟩
    · have e1_ : (x44 == 0) = false := by simpa using q1
      have n1_ : (x44 != 0) = true := by simpa using q1
      clear q1
      have hR := HR.out
      simp [n1_] at hR
      have HC := Lib.hid hR
      clear hR HR
      go_enter Tryd.func35, Tryd.ntmps35
      go_upto_region 1 with fail
      clear zz
      generalize ((w.alloc (.cells (C) 47)).alloc (.cells xs 39)).alloc (.cells Z 39) = w0 at *
      have c2 := (V0.out.cell 2).trans h2.out
      have c44 := (V0.out.cell 44).trans h44.out
      have c86 := (V0.out.cell 86).trans h86.out
      have c31 := (V0.out.cell 31).trans h31.out
      have c39 := (V0.out.cell 39).trans h39.out
      have c43 := (V0.out.cell 43).trans h43.out
      have c11 := (V0.out.cell 11).trans h11.out
      go_wp2_with (with_reducible refine stopL 39 _ rfl ?_)
      refine Lib.hid ?_
      refine wpList_load_whole uP rfl sP rfl _ rfl rfl (range_whole V0.out) T0.out.1 ?_
      go_wp2_with fail
      refine (kdis.out _).mono ?_
      rintro e w1 ⟨rfl, hb⟩
      have V1 := Lib.hid (V0.out.below hb V0.out.lt)
      have C1 := Lib.hid (C0.out.below hb C0.out.lt)
      have B1 := Lib.hid (B0.out.trans (hb.mono B0.out.size))
      have K1 := Lib.hid (K0.out.below hb K0.out.lt)
      clear hb V0 C0 B0 K0
      go_wp2_with (with_reducible refine stopS 39 _ _ rfl ?_)
      refine Lib.hid ?_
      refine wpList_store_only sP rfl _ _ rfl rfl rfl C1.out Tdis.out.one Tdis.out.1 (by rw [zs.out]; omega) ?_
      intro w99 hv ho
      rw [putL_all _ _ (by rw [zs.out, Tdis.out.1])] at hv
      have V99 := Lib.hid hv
      have B99 := Lib.hid (B1.out.trans (ho.below (by omega) B1.out.size))
      clear hv ho
      go_wp2_with (with_reducible refine stopE ?_)
      refine Lib.hid ?_
      exact bodyPost_ret (v := .tuple #[.agg Xdis, .bool true]) (results_pair39 (p := 4) (u := 5) rfl _ _ (w.heap.size + 2) 39 _ (0, 0) rfl V99.out Tdis.out.1) rfl ⟨by rw [HC.out], B99.out⟩
  · by_cases q1 : x86 = 0
    · subst q1
      cases x31
      · have hR := HR.out
        simp at hR
        have HC := Lib.hid hR
        clear hR HR
        go_enter Tryd.func35, Tryd.ntmps35
        go_upto_region 1 with fail
        clear zz
        generalize ((w.alloc (.cells (C) 47)).alloc (.cells xs 39)).alloc (.cells Z 39) = w0 at *
        have c2 := (V0.out.cell 2).trans h2.out
        have c44 := (V0.out.cell 44).trans h44.out
        have c86 := (V0.out.cell 86).trans h86.out
        have c31 := (V0.out.cell 31).trans h31.out
        have c39 := (V0.out.cell 39).trans h39.out
        have c43 := (V0.out.cell 43).trans h43.out
        have c11 := (V0.out.cell 11).trans h11.out
        go_wp2_with (with_reducible refine stopL 39 _ rfl ?_)
        refine Lib.hid ?_
        refine wpList_load_whole uP rfl sP rfl _ rfl rfl (range_whole V0.out) T0.out.1 ?_
        go_wp2_with fail
        refine (kage.out _).mono ?_
        rintro e w1 ⟨rfl, hb⟩
        have V1 := Lib.hid (V0.out.below hb V0.out.lt)
        have C1 := Lib.hid (C0.out.below hb C0.out.lt)
        have B1 := Lib.hid (B0.out.trans (hb.mono B0.out.size))
        have K1 := Lib.hid (K0.out.below hb K0.out.lt)
        clear hb V0 C0 B0 K0
        go_wp2_with (with_reducible refine stopS 39 _ _ rfl ?_)
        refine Lib.hid ?_
        refine wpList_store_only sP rfl _ _ rfl rfl rfl C1.out Tage.out.one Tage.out.1 (by rw [zs.out]; omega) ?_
        intro w99 hv ho
        rw [putL_all _ _ (by rw [zs.out, Tage.out.1])] at hv
        have V99 := Lib.hid hv
        have B99 := Lib.hid (B1.out.trans (ho.below (by omega) B1.out.size))
        clear hv ho
        go_wp2_with (with_reducible refine stopE ?_)
        refine Lib.hid ?_
        exact bodyPost_ret (v := .tuple #[.agg Xage, .bool true]) (results_pair39 (p := 4) (u := 5) rfl _ _ (w.heap.size + 2) 39 _ (0, 0) rfl V99.out Tage.out.1) rfl ⟨by rw [HC.out], B99.out⟩
      · have hR := HR.out
        simp at hR
        have HC := Lib.hid hR
        clear hR HR
        go_enter Tryd.func35, Tryd.ntmps35
        go_upto_region 1 with fail
        clear zz
        generalize ((w.alloc (.cells (C) 47)).alloc (.cells xs 39)).alloc (.cells Z 39) = w0 at *
        have c2 := (V0.out.cell 2).trans h2.out
        have c44 := (V0.out.cell 44).trans h44.out
        have c86 := (V0.out.cell 86).trans h86.out
        have c31 := (V0.out.cell 31).trans h31.out
        have c39 := (V0.out.cell 39).trans h39.out
        have c43 := (V0.out.cell 43).trans h43.out
        have c11 := (V0.out.cell 11).trans h11.out
        go_wp2_with (with_reducible refine stopL 39 _ rfl ?_)
        refine Lib.hid ?_
        refine wpList_load_whole uP rfl sP rfl _ rfl rfl (range_whole V0.out) T0.out.1 ?_
        go_wp2_with fail
        refine (kdis.out _).mono ?_
        rintro e w1 ⟨rfl, hb⟩
        have V1 := Lib.hid (V0.out.below hb V0.out.lt)
        have C1 := Lib.hid (C0.out.below hb C0.out.lt)
        have B1 := Lib.hid (B0.out.trans (hb.mono B0.out.size))
        have K1 := Lib.hid (K0.out.below hb K0.out.lt)
        clear hb V0 C0 B0 K0
        go_wp2_with (with_reducible refine stopS 39 _ _ rfl ?_)
        refine Lib.hid ?_
        refine wpList_store_only sP rfl _ _ rfl rfl rfl C1.out Tdis.out.one Tdis.out.1 (by rw [zs.out]; omega) ?_
        intro w99 hv ho
        rw [putL_all _ _ (by rw [zs.out, Tdis.out.1])] at hv
        have V99 := Lib.hid hv
        have B99 := Lib.hid (B1.out.trans (ho.below (by omega) B1.out.size))
        clear hv ho
        go_wp2_with (with_reducible refine stopE ?_)
        refine Lib.hid ?_
        exact bodyPost_ret (v := .tuple #[.agg Xdis, .bool true]) (results_pair39 (p := 4) (u := 5) rfl _ _ (w.heap.size + 2) 39 _ (0, 0) rfl V99.out Tdis.out.1) rfl ⟨by rw [HC.out], B99.out⟩
    · have e1_ : (x86 == 0) = false := by simpa using q1
      have n1_ : (x86 != 0) = true := by simpa using q1
      clear q1
      by_cases q2 : x86 = 1
      · subst q2
        cases x39
        · have hR := HR.out
          simp [e1_] at hR
          have HC := Lib.hid hR
          clear hR HR
          go_enter Tryd.func35, Tryd.ntmps35
          go_upto_region 1 with fail
          clear zz
          generalize ((w.alloc (.cells (C) 47)).alloc (.cells xs 39)).alloc (.cells Z 39) = w0 at *
          have c2 := (V0.out.cell 2).trans h2.out
          have c44 := (V0.out.cell 44).trans h44.out
          have c86 := (V0.out.cell 86).trans h86.out
          have c31 := (V0.out.cell 31).trans h31.out
          have c39 := (V0.out.cell 39).trans h39.out
          have c43 := (V0.out.cell 43).trans h43.out
          have c11 := (V0.out.cell 11).trans h11.out
          go_wp2_with (with_reducible refine stopL 39 _ rfl ?_)
          refine Lib.hid ?_
          refine wpList_load_whole uP rfl sP rfl _ rfl rfl (range_whole V0.out) T0.out.1 ?_
          refine wpList_store_only sP rfl _ _ rfl rfl rfl C0.out T0.out.one T0.out.1 (by rw [zs.out]; omega) ?_
          intro w99 hv ho
          rw [putL_all _ _ (by rw [zs.out, T0.out.1])] at hv
          have V99 := Lib.hid hv
          have B99 := Lib.hid (B0.out.trans (ho.below (by omega) B0.out.size))
          clear hv ho
          go_wp2_with (with_reducible refine stopE ?_)
          refine Lib.hid ?_
          exact bodyPost_ret (v := .tuple #[.agg xs, .bool false]) (results_pair39 (p := 4) (u := 5) rfl _ _ (w.heap.size + 2) 39 _ (0, 0) rfl V99.out T0.out.1) rfl ⟨by rw [HC.out], B99.out⟩
        · cases x43
          · have hR := HR.out
            simp [e1_] at hR
            have HC := Lib.hid hR
            clear hR HR
            go_enter Tryd.func35, Tryd.ntmps35
            go_upto_region 1 with fail
            clear zz
            generalize ((w.alloc (.cells (C) 47)).alloc (.cells xs 39)).alloc (.cells Z 39) = w0 at *
            have c2 := (V0.out.cell 2).trans h2.out
            have c44 := (V0.out.cell 44).trans h44.out
            have c86 := (V0.out.cell 86).trans h86.out
            have c31 := (V0.out.cell 31).trans h31.out
            have c39 := (V0.out.cell 39).trans h39.out
            have c43 := (V0.out.cell 43).trans h43.out
            have c11 := (V0.out.cell 11).trans h11.out
            go_wp2_with (with_reducible refine stopL 39 _ rfl ?_)
            refine Lib.hid ?_
            refine wpList_load_whole uP rfl sP rfl _ rfl rfl (range_whole V0.out) T0.out.1 ?_
            refine wpList_store_only sP rfl _ _ rfl rfl rfl C0.out T0.out.one T0.out.1 (by rw [zs.out]; omega) ?_
            intro w99 hv ho
            rw [putL_all _ _ (by rw [zs.out, T0.out.1])] at hv
            have V99 := Lib.hid hv
            have B99 := Lib.hid (B0.out.trans (ho.below (by omega) B0.out.size))
            clear hv ho
            go_wp2_with (with_reducible refine stopE ?_)
            refine Lib.hid ?_
            exact bodyPost_ret (v := .tuple #[.agg xs, .bool false]) (results_pair39 (p := 4) (u := 5) rfl _ _ (w.heap.size + 2) 39 _ (0, 0) rfl V99.out T0.out.1) rfl ⟨by rw [HC.out], B99.out⟩
          · have hR := HR.out
            simp [e1_] at hR
            have HC := Lib.hid hR
            clear hR HR
            go_enter Tryd.func35, Tryd.ntmps35
            go_upto_region 1 with fail
            clear zz
            generalize ((w.alloc (.cells (C) 47)).alloc (.cells xs 39)).alloc (.cells Z 39) = w0 at *
            have c2 := (V0.out.cell 2).trans h2.out
            have c44 := (V0.out.cell 44).trans h44.out
            have c86 := (V0.out.cell 86).trans h86.out
            have c31 := (V0.out.cell 31).trans h31.out
            have c39 := (V0.out.cell 39).trans h39.out
            have c43 := (V0.out.cell 43).trans h43.out
            have c11 := (V0.out.cell 11).trans h11.out
            go_wp2_with (with_reducible refine stopL 39 _ rfl ?_)
            refine Lib.hid ?_
            refine wpList_load_whole uP rfl sP rfl _ rfl rfl (range_whole V0.out) T0.out.1 ?_
            go_wp2_with fail
            refine (kupd.out _).mono ?_
            rintro e w1 ⟨rfl, hb⟩
            have V1 := Lib.hid (V0.out.below hb V0.out.lt)
            have C1 := Lib.hid (C0.out.below hb C0.out.lt)
            have B1 := Lib.hid (B0.out.trans (hb.mono B0.out.size))
            have K1 := Lib.hid (K0.out.below hb K0.out.lt)
            clear hb V0 C0 B0 K0
            go_wp2_with (with_reducible refine stopS 39 _ _ rfl ?_)
            refine Lib.hid ?_
            refine wpList_store_only sP rfl _ _ rfl rfl rfl C1.out Tupd.out.one Tupd.out.1 (by rw [zs.out]; omega) ?_
            intro w99 hv ho
            rw [putL_all _ _ (by rw [zs.out, Tupd.out.1])] at hv
            have V99 := Lib.hid hv
            have B99 := Lib.hid (B1.out.trans (ho.below (by omega) B1.out.size))
            clear hv ho
            go_wp2_with (with_reducible refine stopE ?_)
            refine Lib.hid ?_
            exact bodyPost_ret (v := .tuple #[.agg Xupd, .bool true]) (results_pair39 (p := 4) (u := 5) rfl _ _ (w.heap.size + 2) 39 _ (0, 0) rfl V99.out Tupd.out.1) rfl ⟨by rw [HC.out], B99.out⟩
      · have e2_ : (x86 == 1) = false := by simpa using q2
        have n2_ : (x86 != 1) = true := by simpa using q2
        clear q2
        by_cases q3 : x86 = 2
        · subst q3
          cases x39
          · cases x43
            · cases x31
              · by_cases q7 : x44 = 3
                · subst q7
                  by_cases q8 : x11 = 0
                  · subst q8
                    have hR := HR.out
                    simp [e1_, e2_] at hR
                    have HC := Lib.hid hR
                    clear hR HR
                    go_enter Tryd.func35, Tryd.ntmps35
                    go_upto_region 1 with fail
                    clear zz
                    generalize ((w.alloc (.cells (C) 47)).alloc (.cells xs 39)).alloc (.cells Z 39) = w0 at *
                    have c2 := (V0.out.cell 2).trans h2.out
                    have c44 := (V0.out.cell 44).trans h44.out
                    have c86 := (V0.out.cell 86).trans h86.out
                    have c31 := (V0.out.cell 31).trans h31.out
                    have c39 := (V0.out.cell 39).trans h39.out
                    have c43 := (V0.out.cell 43).trans h43.out
                    have c11 := (V0.out.cell 11).trans h11.out
                    go_wp2_with (with_reducible refine stopL 39 _ rfl ?_)
                    refine Lib.hid ?_
                    refine wpList_load_whole uP rfl sP rfl _ rfl rfl (range_whole V0.out) T0.out.1 ?_
                    go_wp2_with fail
                    refine (kage.out _).mono ?_
                    rintro e w1 ⟨rfl, hb⟩
                    have V1 := Lib.hid (V0.out.below hb V0.out.lt)
                    have C1 := Lib.hid (C0.out.below hb C0.out.lt)
                    have B1 := Lib.hid (B0.out.trans (hb.mono B0.out.size))
                    have K1 := Lib.hid (K0.out.below hb K0.out.lt)
                    clear hb V0 C0 B0 K0
                    go_wp2_with (with_reducible refine stopS 39 _ _ rfl ?_)
                    refine Lib.hid ?_
                    refine wpList_store_only sP rfl _ _ rfl rfl rfl C1.out Tage.out.one Tage.out.1 (by rw [zs.out]; omega) ?_
                    intro w99 hv ho
                    rw [putL_all _ _ (by rw [zs.out, Tage.out.1])] at hv
                    have V99 := Lib.hid hv
                    have B99 := Lib.hid (B1.out.trans (ho.below (by omega) B1.out.size))
                    clear hv ho
                    go_wp2_with (with_reducible refine stopE ?_)
                    refine Lib.hid ?_
                    exact bodyPost_ret (v := .tuple #[.agg Xage, .bool true]) (results_pair39 (p := 4) (u := 5) rfl _ _ (w.heap.size + 2) 39 _ (0, 0) rfl V99.out Tage.out.1) rfl ⟨by rw [HC.out], B99.out⟩
                  · have e8_ : (x11 == 0) = false := by simpa using q8
                    have n8_ : (x11 != 0) = true := by simpa using q8
                    clear q8
                    have hR := HR.out
                    simp [e1_, e2_, e8_] at hR
                    have HC := Lib.hid hR
                    clear hR HR
                    go_enter Tryd.func35, Tryd.ntmps35
                    go_upto_region 1 with fail
                    clear zz
                    generalize ((w.alloc (.cells (C) 47)).alloc (.cells xs 39)).alloc (.cells Z 39) = w0 at *
                    have c2 := (V0.out.cell 2).trans h2.out
                    have c44 := (V0.out.cell 44).trans h44.out
                    have c86 := (V0.out.cell 86).trans h86.out
                    have c31 := (V0.out.cell 31).trans h31.out
                    have c39 := (V0.out.cell 39).trans h39.out
                    have c43 := (V0.out.cell 43).trans h43.out
                    have c11 := (V0.out.cell 11).trans h11.out
                    go_wp2_with (with_reducible refine stopL 39 _ rfl ?_)
                    refine Lib.hid ?_
                    refine wpList_load_whole uP rfl sP rfl _ rfl rfl (range_whole V0.out) T0.out.1 ?_
                    refine wpList_store_only sP rfl _ _ rfl rfl rfl C0.out T0.out.one T0.out.1 (by rw [zs.out]; omega) ?_
                    intro w99 hv ho
                    rw [putL_all _ _ (by rw [zs.out, T0.out.1])] at hv
                    have V99 := Lib.hid hv
                    have B99 := Lib.hid (B0.out.trans (ho.below (by omega) B0.out.size))
                    clear hv ho
                    go_wp2_with (with_reducible refine stopE ?_)
                    refine Lib.hid ?_
                    exact bodyPost_ret (v := .tuple #[.agg xs, .bool false]) (results_pair39 (p := 4) (u := 5) rfl _ _ (w.heap.size + 2) 39 _ (0, 0) rfl V99.out T0.out.1) rfl ⟨by rw [HC.out], B99.out⟩
                · have e7_ : (x44 == 3) = false := by simpa using q7
                  have n7_ : (x44 != 3) = true := by simpa using q7
                  clear q7
                  have hR := HR.out
                  simp [e1_, e2_, e7_] at hR
                  have HC := Lib.hid hR
                  clear hR HR
                  go_enter Tryd.func35, Tryd.ntmps35
                  go_upto_region 1 with fail
                  clear zz
                  generalize ((w.alloc (.cells (C) 47)).alloc (.cells xs 39)).alloc (.cells Z 39) = w0 at *
                  have c2 := (V0.out.cell 2).trans h2.out
                  have c44 := (V0.out.cell 44).trans h44.out
                  have c86 := (V0.out.cell 86).trans h86.out
                  have c31 := (V0.out.cell 31).trans h31.out
                  have c39 := (V0.out.cell 39).trans h39.out
                  have c43 := (V0.out.cell 43).trans h43.out
                  have c11 := (V0.out.cell 11).trans h11.out
                  go_wp2_with (with_reducible refine stopL 39 _ rfl ?_)
                  refine Lib.hid ?_
                  refine wpList_load_whole uP rfl sP rfl _ rfl rfl (range_whole V0.out) T0.out.1 ?_
                  refine wpList_store_only sP rfl _ _ rfl rfl rfl C0.out T0.out.one T0.out.1 (by rw [zs.out]; omega) ?_
                  intro w99 hv ho
                  rw [putL_all _ _ (by rw [zs.out, T0.out.1])] at hv
                  have V99 := Lib.hid hv
                  have B99 := Lib.hid (B0.out.trans (ho.below (by omega) B0.out.size))
                  clear hv ho
                  go_wp2_with (with_reducible refine stopE ?_)
                  refine Lib.hid ?_
                  exact bodyPost_ret (v := .tuple #[.agg xs, .bool false]) (results_pair39 (p := 4) (u := 5) rfl _ _ (w.heap.size + 2) 39 _ (0, 0) rfl V99.out T0.out.1) rfl ⟨by rw [HC.out], B99.out⟩
              · have hR := HR.out
                simp [e1_, e2_] at hR
                have HC := Lib.hid hR
                clear hR HR
                go_enter Tryd.func35, Tryd.ntmps35
                go_upto_region 1 with fail
                clear zz
                generalize ((w.alloc (.cells (C) 47)).alloc (.cells xs 39)).alloc (.cells Z 39) = w0 at *
                have c2 := (V0.out.cell 2).trans h2.out
                have c44 := (V0.out.cell 44).trans h44.out
                have c86 := (V0.out.cell 86).trans h86.out
                have c31 := (V0.out.cell 31).trans h31.out
                have c39 := (V0.out.cell 39).trans h39.out
                have c43 := (V0.out.cell 43).trans h43.out
                have c11 := (V0.out.cell 11).trans h11.out
                go_wp2_with (with_reducible refine stopL 47 _ rfl ?_)
                refine Lib.hid ?_
                refine wpList_load_whole uB rfl sB rfl _ rfl rfl (range_whole K0.out) C18.out ?_
                refine wpList_load_whole uP rfl sP rfl _ rfl rfl (range_whole V0.out) T0.out.1 ?_
                go_wp2_with fail
                refine (khear.out _).mono ?_
                rintro e w1 ⟨rfl, hb⟩
                have V1 := Lib.hid (V0.out.below hb V0.out.lt)
                have C1 := Lib.hid (C0.out.below hb C0.out.lt)
                have B1 := Lib.hid (B0.out.trans (hb.mono B0.out.size))
                have K1 := Lib.hid (K0.out.below hb K0.out.lt)
                clear hb V0 C0 B0 K0
                go_wp2_with (with_reducible refine stopS 39 _ _ rfl ?_)
                refine Lib.hid ?_
                refine wpList_store_only sP rfl _ _ rfl rfl rfl C1.out Thear.out.one Thear.out.1 (by rw [zs.out]; omega) ?_
                intro w99 hv ho
                rw [putL_all _ _ (by rw [zs.out, Thear.out.1])] at hv
                have V99 := Lib.hid hv
                have B99 := Lib.hid (B1.out.trans (ho.below (by omega) B1.out.size))
                clear hv ho
                go_wp2_with (with_reducible refine stopE ?_)
                refine Lib.hid ?_
                exact bodyPost_ret (v := .tuple #[.agg Xhear, .bool true]) (results_pair39 (p := 4) (u := 5) rfl _ _ (w.heap.size + 2) 39 _ (0, 0) rfl V99.out Thear.out.1) rfl ⟨by rw [HC.out], B99.out⟩
            · have hR := HR.out
              simp [e1_, e2_] at hR
              have HC := Lib.hid hR
              clear hR HR
              go_enter Tryd.func35, Tryd.ntmps35
              go_upto_region 1 with fail
              clear zz
              generalize ((w.alloc (.cells (C) 47)).alloc (.cells xs 39)).alloc (.cells Z 39) = w0 at *
              have c2 := (V0.out.cell 2).trans h2.out
              have c44 := (V0.out.cell 44).trans h44.out
              have c86 := (V0.out.cell 86).trans h86.out
              have c31 := (V0.out.cell 31).trans h31.out
              have c39 := (V0.out.cell 39).trans h39.out
              have c43 := (V0.out.cell 43).trans h43.out
              have c11 := (V0.out.cell 11).trans h11.out
              go_wp2_with (with_reducible refine stopL 39 _ rfl ?_)
              refine Lib.hid ?_
              refine wpList_load_whole uP rfl sP rfl _ rfl rfl (range_whole V0.out) T0.out.1 ?_
              refine wpList_store_only sP rfl _ _ rfl rfl rfl C0.out T0.out.one T0.out.1 (by rw [zs.out]; omega) ?_
              intro w99 hv ho
              rw [putL_all _ _ (by rw [zs.out, T0.out.1])] at hv
              have V99 := Lib.hid hv
              have B99 := Lib.hid (B0.out.trans (ho.below (by omega) B0.out.size))
              clear hv ho
              go_wp2_with (with_reducible refine stopE ?_)
              refine Lib.hid ?_
              exact bodyPost_ret (v := .tuple #[.agg xs, .bool false]) (results_pair39 (p := 4) (u := 5) rfl _ _ (w.heap.size + 2) 39 _ (0, 0) rfl V99.out T0.out.1) rfl ⟨by rw [HC.out], B99.out⟩
          · cases x43
            · cases x31
              · by_cases q7 : x44 = 3
                · subst q7
                  by_cases q8 : x11 = 0
                  · subst q8
                    have hR := HR.out
                    simp [e1_, e2_] at hR
                    have HC := Lib.hid hR
                    clear hR HR
                    go_enter Tryd.func35, Tryd.ntmps35
                    go_upto_region 1 with fail
                    clear zz
                    generalize ((w.alloc (.cells (C) 47)).alloc (.cells xs 39)).alloc (.cells Z 39) = w0 at *
                    have c2 := (V0.out.cell 2).trans h2.out
                    have c44 := (V0.out.cell 44).trans h44.out
                    have c86 := (V0.out.cell 86).trans h86.out
                    have c31 := (V0.out.cell 31).trans h31.out
                    have c39 := (V0.out.cell 39).trans h39.out
                    have c43 := (V0.out.cell 43).trans h43.out
                    have c11 := (V0.out.cell 11).trans h11.out
                    go_wp2_with (with_reducible refine stopL 39 _ rfl ?_)
                    refine Lib.hid ?_
                    refine wpList_load_whole uP rfl sP rfl _ rfl rfl (range_whole V0.out) T0.out.1 ?_
                    go_wp2_with fail
                    refine (kage.out _).mono ?_
                    rintro e w1 ⟨rfl, hb⟩
                    have V1 := Lib.hid (V0.out.below hb V0.out.lt)
                    have C1 := Lib.hid (C0.out.below hb C0.out.lt)
                    have B1 := Lib.hid (B0.out.trans (hb.mono B0.out.size))
                    have K1 := Lib.hid (K0.out.below hb K0.out.lt)
                    clear hb V0 C0 B0 K0
                    go_wp2_with (with_reducible refine stopS 39 _ _ rfl ?_)
                    refine Lib.hid ?_
                    refine wpList_store_only sP rfl _ _ rfl rfl rfl C1.out Tage.out.one Tage.out.1 (by rw [zs.out]; omega) ?_
                    intro w99 hv ho
                    rw [putL_all _ _ (by rw [zs.out, Tage.out.1])] at hv
                    have V99 := Lib.hid hv
                    have B99 := Lib.hid (B1.out.trans (ho.below (by omega) B1.out.size))
                    clear hv ho
                    go_wp2_with (with_reducible refine stopE ?_)
                    refine Lib.hid ?_
                    exact bodyPost_ret (v := .tuple #[.agg Xage, .bool true]) (results_pair39 (p := 4) (u := 5) rfl _ _ (w.heap.size + 2) 39 _ (0, 0) rfl V99.out Tage.out.1) rfl ⟨by rw [HC.out], B99.out⟩
                  · have e8_ : (x11 == 0) = false := by simpa using q8
                    have n8_ : (x11 != 0) = true := by simpa using q8
                    clear q8
                    have hR := HR.out
                    simp [e1_, e2_, e8_] at hR
                    have HC := Lib.hid hR
                    clear hR HR
                    go_enter Tryd.func35, Tryd.ntmps35
                    go_upto_region 1 with fail
                    clear zz
                    generalize ((w.alloc (.cells (C) 47)).alloc (.cells xs 39)).alloc (.cells Z 39) = w0 at *
                    have c2 := (V0.out.cell 2).trans h2.out
                    have c44 := (V0.out.cell 44).trans h44.out
                    have c86 := (V0.out.cell 86).trans h86.out
                    have c31 := (V0.out.cell 31).trans h31.out
                    have c39 := (V0.out.cell 39).trans h39.out
                    have c43 := (V0.out.cell 43).trans h43.out
                    have c11 := (V0.out.cell 11).trans h11.out
                    go_wp2_with (with_reducible refine stopL 39 _ rfl ?_)
                    refine Lib.hid ?_
                    refine wpList_load_whole uP rfl sP rfl _ rfl rfl (range_whole V0.out) T0.out.1 ?_
                    refine wpList_store_only sP rfl _ _ rfl rfl rfl C0.out T0.out.one T0.out.1 (by rw [zs.out]; omega) ?_
                    intro w99 hv ho
                    rw [putL_all _ _ (by rw [zs.out, T0.out.1])] at hv
                    have V99 := Lib.hid hv
                    have B99 := Lib.hid (B0.out.trans (ho.below (by omega) B0.out.size))
                    clear hv ho
                    go_wp2_with (with_reducible refine stopE ?_)
                    refine Lib.hid ?_
                    exact bodyPost_ret (v := .tuple #[.agg xs, .bool false]) (results_pair39 (p := 4) (u := 5) rfl _ _ (w.heap.size + 2) 39 _ (0, 0) rfl V99.out T0.out.1) rfl ⟨by rw [HC.out], B99.out⟩
                · have e7_ : (x44 == 3) = false := by simpa using q7
                  have n7_ : (x44 != 3) = true := by simpa using q7
                  clear q7
                  have hR := HR.out
                  simp [e1_, e2_, e7_] at hR
                  have HC := Lib.hid hR
                  clear hR HR
                  go_enter Tryd.func35, Tryd.ntmps35
                  go_upto_region 1 with fail
                  clear zz
                  generalize ((w.alloc (.cells (C) 47)).alloc (.cells xs 39)).alloc (.cells Z 39) = w0 at *
                  have c2 := (V0.out.cell 2).trans h2.out
                  have c44 := (V0.out.cell 44).trans h44.out
                  have c86 := (V0.out.cell 86).trans h86.out
                  have c31 := (V0.out.cell 31).trans h31.out
                  have c39 := (V0.out.cell 39).trans h39.out
                  have c43 := (V0.out.cell 43).trans h43.out
                  have c11 := (V0.out.cell 11).trans h11.out
                  go_wp2_with (with_reducible refine stopL 39 _ rfl ?_)
                  refine Lib.hid ?_
                  refine wpList_load_whole uP rfl sP rfl _ rfl rfl (range_whole V0.out) T0.out.1 ?_
                  refine wpList_store_only sP rfl _ _ rfl rfl rfl C0.out T0.out.one T0.out.1 (by rw [zs.out]; omega) ?_
                  intro w99 hv ho
                  rw [putL_all _ _ (by rw [zs.out, T0.out.1])] at hv
                  have V99 := Lib.hid hv
                  have B99 := Lib.hid (B0.out.trans (ho.below (by omega) B0.out.size))
                  clear hv ho
                  go_wp2_with (with_reducible refine stopE ?_)
                  refine Lib.hid ?_
                  exact bodyPost_ret (v := .tuple #[.agg xs, .bool false]) (results_pair39 (p := 4) (u := 5) rfl _ _ (w.heap.size + 2) 39 _ (0, 0) rfl V99.out T0.out.1) rfl ⟨by rw [HC.out], B99.out⟩
              · have hR := HR.out
                simp [e1_, e2_] at hR
                have HC := Lib.hid hR
                clear hR HR
                go_enter Tryd.func35, Tryd.ntmps35
                go_upto_region 1 with fail
                clear zz
                generalize ((w.alloc (.cells (C) 47)).alloc (.cells xs 39)).alloc (.cells Z 39) = w0 at *
                have c2 := (V0.out.cell 2).trans h2.out
                have c44 := (V0.out.cell 44).trans h44.out
                have c86 := (V0.out.cell 86).trans h86.out
                have c31 := (V0.out.cell 31).trans h31.out
                have c39 := (V0.out.cell 39).trans h39.out
                have c43 := (V0.out.cell 43).trans h43.out
                have c11 := (V0.out.cell 11).trans h11.out
                go_wp2_with (with_reducible refine stopL 47 _ rfl ?_)
                refine Lib.hid ?_
                refine wpList_load_whole uB rfl sB rfl _ rfl rfl (range_whole K0.out) C18.out ?_
                refine wpList_load_whole uP rfl sP rfl _ rfl rfl (range_whole V0.out) T0.out.1 ?_
                go_wp2_with fail
                refine (khear.out _).mono ?_
                rintro e w1 ⟨rfl, hb⟩
                have V1 := Lib.hid (V0.out.below hb V0.out.lt)
                have C1 := Lib.hid (C0.out.below hb C0.out.lt)
                have B1 := Lib.hid (B0.out.trans (hb.mono B0.out.size))
                have K1 := Lib.hid (K0.out.below hb K0.out.lt)
                clear hb V0 C0 B0 K0
                go_wp2_with (with_reducible refine stopS 39 _ _ rfl ?_)
                refine Lib.hid ?_
                refine wpList_store_only sP rfl _ _ rfl rfl rfl C1.out Thear.out.one Thear.out.1 (by rw [zs.out]; omega) ?_
                intro w99 hv ho
                rw [putL_all _ _ (by rw [zs.out, Thear.out.1])] at hv
                have V99 := Lib.hid hv
                have B99 := Lib.hid (B1.out.trans (ho.below (by omega) B1.out.size))
                clear hv ho
                go_wp2_with (with_reducible refine stopE ?_)
                refine Lib.hid ?_
                exact bodyPost_ret (v := .tuple #[.agg Xhear, .bool true]) (results_pair39 (p := 4) (u := 5) rfl _ _ (w.heap.size + 2) 39 _ (0, 0) rfl V99.out Thear.out.1) rfl ⟨by rw [HC.out], B99.out⟩
            · have hR := HR.out
              simp [e1_, e2_] at hR
              have HC := Lib.hid hR
              clear hR HR
              go_enter Tryd.func35, Tryd.ntmps35
              go_upto_region 1 with fail
              clear zz
              generalize ((w.alloc (.cells (C) 47)).alloc (.cells xs 39)).alloc (.cells Z 39) = w0 at *
              have c2 := (V0.out.cell 2).trans h2.out
              have c44 := (V0.out.cell 44).trans h44.out
              have c86 := (V0.out.cell 86).trans h86.out
              have c31 := (V0.out.cell 31).trans h31.out
              have c39 := (V0.out.cell 39).trans h39.out
              have c43 := (V0.out.cell 43).trans h43.out
              have c11 := (V0.out.cell 11).trans h11.out
              go_wp2_with (with_reducible refine stopL 39 _ rfl ?_)
              refine Lib.hid ?_
              refine wpList_load_whole uP rfl sP rfl _ rfl rfl (range_whole V0.out) T0.out.1 ?_
              go_wp2_with fail
              refine (kupd.out _).mono ?_
              rintro e w1 ⟨rfl, hb⟩
              have V1 := Lib.hid (V0.out.below hb V0.out.lt)
              have C1 := Lib.hid (C0.out.below hb C0.out.lt)
              have B1 := Lib.hid (B0.out.trans (hb.mono B0.out.size))
              have K1 := Lib.hid (K0.out.below hb K0.out.lt)
              clear hb V0 C0 B0 K0
              go_wp2_with (with_reducible refine stopS 39 _ _ rfl ?_)
              refine Lib.hid ?_
              refine wpList_store_only sP rfl _ _ rfl rfl rfl C1.out Tupd.out.one Tupd.out.1 (by rw [zs.out]; omega) ?_
              intro w99 hv ho
              rw [putL_all _ _ (by rw [zs.out, Tupd.out.1])] at hv
              have V99 := Lib.hid hv
              have B99 := Lib.hid (B1.out.trans (ho.below (by omega) B1.out.size))
              clear hv ho
              go_wp2_with (with_reducible refine stopE ?_)
              refine Lib.hid ?_
              exact bodyPost_ret (v := .tuple #[.agg Xupd, .bool true]) (results_pair39 (p := 4) (u := 5) rfl _ _ (w.heap.size + 2) 39 _ (0, 0) rfl V99.out Tupd.out.1) rfl ⟨by rw [HC.out], B99.out⟩
        · have e3_ : (x86 == 2) = false := by simpa using q3
          have n3_ : (x86 != 2) = true := by simpa using q3
          clear q3
          have hR := HR.out
          simp [e1_, e2_, e3_, n3_] at hR
          have HC := Lib.hid hR
          clear hR HR
          go_enter Tryd.func35, Tryd.ntmps35
          go_upto_region 1 with fail
          clear zz
          generalize ((w.alloc (.cells (C) 47)).alloc (.cells xs 39)).alloc (.cells Z 39) = w0 at *
          have c2 := (V0.out.cell 2).trans h2.out
          have c44 := (V0.out.cell 44).trans h44.out
          have c86 := (V0.out.cell 86).trans h86.out
          have c31 := (V0.out.cell 31).trans h31.out
          have c39 := (V0.out.cell 39).trans h39.out
          have c43 := (V0.out.cell 43).trans h43.out
          have c11 := (V0.out.cell 11).trans h11.out
          go_wp2_with (with_reducible refine stopL 39 _ rfl ?_)
          refine Lib.hid ?_
          refine wpList_load_whole uP rfl sP rfl _ rfl rfl (range_whole V0.out) T0.out.1 ?_
          refine wpList_store_only sP rfl _ _ rfl rfl rfl C0.out T0.out.one T0.out.1 (by rw [zs.out]; omega) ?_
          intro w99 hv ho
          rw [putL_all _ _ (by rw [zs.out, T0.out.1])] at hv
          have V99 := Lib.hid hv
          have B99 := Lib.hid (B0.out.trans (ho.below (by omega) B0.out.size))
          clear hv ho
          go_wp2_with (with_reducible refine stopE ?_)
          refine Lib.hid ?_
          exact bodyPost_ret (v := .tuple #[.agg xs, .bool false]) (results_pair39 (p := 4) (u := 5) rfl _ _ (w.heap.size + 2) 39 _ (0, 0) rfl V99.out T0.out.1) rfl ⟨by rw [HC.out], B99.out⟩
end Go.Proofs.YtjfdochceejegaaDoor
