/- Contract of rootPort. -/
import Derived.Test.YtidgdanhnpfpmaaV
namespace Go.Proofs.Ytidgdanhnpfpmaa
open Go.RowKit Go.Sort

/-- Ports in a block, one behind the other. -/
def Ports (A : Array Value) (n : Nat) (XS : Nat → Array Value) (X : Nat → Pd) : Prop := ∀ i, i < n → Sub A (i * 90) (XS i) ∧ (X i).In (XS i) ∧ Typed (XS i)
/-- The place of the root port, or -1. -/
def rootI (X : Nat → Pd) (id n : Nat) : Int :=
  let l := cl X id n
  let j := bN (fun i => (X (l.getD i 0)).vr) (fun i => sat (X (l.getD i 0)).vc (X (l.getD i 0)).cost) (fun i => (X (l.getD i 0)).vb) (fun i => (X (l.getD i 0)).vp) (fun i => (X (l.getD i 0)).id) l.length
  let x := X (l.getD j 0)
  if l.length = 0 then -1 else if ltV x.vr (sat x.vc x.cost : Nat) x.vb x.vp id 0 id 0 = true then ((l.getD j 0 : Nat) : Int) else -1

set_option maxRecDepth 20000 in
set_option maxHeartbeats 4000000 in
theorem rootPort_any (B : Bd) (bb pb n cap : Nat) (A : Array Value) (XS : Nat → Array Value) (X : Nat → Pd) (w : World) (hbb : VarAt w bb (B.cells (.slice (some ⟨pb, 0, none⟩) n cap)) 34) (hpb : VarAt w pb A 50) (hps : Ports A n XS X) (hn : n ≤ 20) (hid : B.id < 18446744073709551616) :
    Calls Try.prog 27 #[.pointer (some ⟨bb, 0, none⟩)] w fun e w' => e = .returned (.int .i64 (rootI X B.id n)) ∧ Below w.heap.size w w' := by
  have z := zero48
  have zs := Lib.hid z48_size
  generalize z48 = Z at *
  have c17 : w.cell? ⟨bb, 17, none⟩ = some (.slice (some ⟨pb, 0, none⟩) n cap) := hbb.cell 17
  have c0 : w.cell? ⟨bb, 0, none⟩ = some (.int .u64 B.id) := hbb.cell 0
  have C0 := Lib.hid c0
  have P0 := Lib.hid hpb
  have HP := Lib.hid hps
  clear hbb hpb hps
  obtain ⟨ia, hia⟩ : ∃ i, Hid (Try.prog.info? 30 = some i ∧ i.zero = some (vV 0 0 0 0) ∧ i.size = 4 ∧ i.bytes = 32) := (info_parts info30).imp fun _ h => Lib.hid h
  obtain ⟨ib, hib⟩ : ∃ i, Hid (Try.prog.info? 28 = some i ∧ i.zero = some (.int .u16 0) ∧ i.size = 1 ∧ i.bytes = 2) := (info_parts info28).imp fun _ h => Lib.hid h
  obtain ⟨ic, hic⟩ : ∃ i, Hid (Try.prog.info? 3 = some i ∧ i.zero = some (.int .i64 0) ∧ i.size = 1 ∧ i.bytes = 8) := (info_parts info3).imp fun _ h => Lib.hid h
  have HID := Lib.hid hid
  clear hid
  go_enter Try.func27, Try.ntmps27
  go_wp2_with fail
  go_loopw [3, 4, 5, 14] (fun v1 v2 v3 i wr => ∃ k : Nat, k ≤ n ∧ i = .int .i64 k ∧ RP w.heap.size X (cl X B.id k) v1 v2 v3 wr ∧ Below w.heap.size w wr) (fun _ _ _ i _ => n - (intOf i).toNat)
  case atStart => exact ⟨0, Nat.zero_le _, rfl, ⟨World.ownsRow_nil _ _ _ _, World.ownsRow_nil _ _ _ _, World.ownsRow_nil _ _ _ _⟩, Below.refl _ _⟩
  case round =>
    obtain ⟨k, hk, rfl, hrp, hnx⟩ := hrel
    have HN := Lib.hid hnx
    have HR := Lib.hid hrp
    clear hnx hrp
    by_cases hlt : k < n
    · obtain ⟨hs, hx, ht⟩ := HP.out k hlt
      have HS := Lib.hid hs
      have HX := Lib.hid hx
      have HT := Lib.hid ht
      have xz := hx.size
      have sn := store_new ht zs.out
      have pr := Lib.hid (P0.out.below HN.out P0.out.lt)
      have hv := var_new wr (XS k) 50
      have c44 := hv.cell 44
      rw [hx.info] at c44
      clear hs hx ht
      by_cases h3 : (X k).info = 3
      · have c56 := hv.cell 56
        have c57 := hv.cell 57
        have c58 := hv.cell 58
        have c59 := hv.cell 59
        rw [HX.out.vr] at c56
        rw [HX.out.vc] at c57
        rw [HX.out.vb] at c58
        rw [HX.out.vp] at c59
        have bx := box_below wr (.cells (XS k) 50)
        have d0 : (wr.alloc (.cells (XS k) 50)).cell? ⟨bb, 0, none⟩ = some (.int .u64 B.id) := cell_below bx (cell_below HN.out C0.out)
        have kI := isOwn_any (X k).vr (X k).vc (X k).vb (X k).vp B.id bb HX.out.lvb HID.out _ d0
        have HV := Lib.hid hv
        rw [h3] at c44
        have HBX := Lib.hid bx
        clear hv bx
        cases hE : eqM (X k).vb B.id
        · have hc : cand X B.id k = true := by simp [cand, h3, hE]
          have HC := Lib.hid hc
          rw [hE] at kI
          clear hc h3 hE
          have kB := behind_any (XS k) (X k) HX.out
          go_wp2_with fail
          refine wp_load_port _ rfl rfl pr.out HS.out xz ?_
          go_wp2_with fail
          refine kI.mono ?_
          rintro e w1 ⟨rfl, hb⟩
          have hv1 := HV.out.below hb HV.out.lt
          have HR1 := Lib.hid ((HR.out.below HBX.out).below hb)
          have HN1 := Lib.hid (HN.out.trans ((below_next HBX.out hb).mono HN.out.size))
          have HV1 := Lib.hid hv1
          clear hv1 hb kI c44 c56 c57 c58 c59 d0 HV HBX HR HN sn z pr
          go_wp2_with fail
          refine wp_load_port _ rfl rfl HV1.out (fun _ _ => by rw [Nat.zero_add]) xz ?_
          go_wp2_with fail
          refine (kB _).mono ?_
          rintro e w2 ⟨rfl, hb⟩
          have HR2 := Lib.hid (HR1.out.below hb)
          have HN2 := Lib.hid (HN1.out.trans (hb.mono HN1.out.size))
          have HV2 := Lib.hid (HV1.out.below hb HV1.out.lt)
          clear hb kB HV1 HR1 HN1
          have hl := cl_len X B.id k
          generalize hcl : cl X B.id k = l at *
          have HCL := Lib.hid hcl
          clear hcl
          have hsz := HN2.out.size
          go_wp2_with (at_builtin; refine wpList_append_own _ rfl _ _ 71 rfl w.heap.size 30 ia (vV 0 0 0 0) 4 32 und63 hia.out.1 hia.out.2.1 hia.out.2.2.1 hia.out.2.2.2 rfl (by decide) _ _ _ rfl (HR2.out.o1.alloc _) ⟨w2.heap.size, 0, none⟩ 1 1 [.int .u64 (X k).vr, .int .u32 (sat (X k).vc (X k).cost : Nat), .int .u64 (X k).vb, .int .u16 (X k).vp] rfl rfl ?c1 ?c2 ?c3 ?c4 ?c5 ?_)
          case c1 => exact new4 _ _ _ _ _
          case c2 => intro u hu; simp at hu; rcases hu with rfl | rfl | rfl | rfl <;> rfl
          case c3 => unfold maxLen; omega
          case c4 => omega
          case c5 => simp; omega
          intro v1' w3 ho1 hg1 _
          have hr2 := own_kept (HR2.out.o2.alloc _) (HR2.out.o1.alloc _) (by decide) hg1
          have hr3 := own_kept (HR2.out.o3.alloc _) (HR2.out.o1.alloc _) (by decide) hg1
          have hv3 := var_kept (HV2.out.alloc _) (HR2.out.o1.alloc _) (by decide) hg1
          have HN3 := Lib.hid (below_app HN2.out hsz (HR2.out.o1.alloc _) hg1)
          have O1 := Lib.hid ho1
          have O2 := Lib.hid hr2
          have O3 := Lib.hid hr3
          have HV3 := Lib.hid hv3
          have c0' := hv3.cell 0
          rw [HX.out.id] at c0'
          have hsz3 := HN3.out.size
          clear ho1 hr2 hr3 hv3 hg1 HN2 HV2 HR2 hsz ‹¬v1' = _›
          go_wp2_with (at_builtin; refine wpList_append_own _ rfl _ _ 72 rfl w.heap.size 28 ib (.int .u16 0) 1 2 und64 hib.out.1 hib.out.2.1 hib.out.2.2.1 hib.out.2.2.2 rfl (by decide) _ _ _ rfl (O2.out.alloc _) ⟨w3.heap.size, 0, none⟩ 1 1 [.int .u16 (X k).id] rfl rfl ?c1 ?c2 ?c3 ?c4 ?c5 ?_)
          case c1 => exact cell_one_new _ _ _
          case c2 => intro u hu; simp at hu; subst hu; rfl
          case c3 => unfold maxLen; omega
          case c4 => omega
          case c5 => simp; omega
          intro v2' w4 ho2 hg2 _
          have hr1 := own_kept (O1.out.alloc _) (O2.out.alloc _) (by decide) hg2
          have hr3 := own_kept (O3.out.alloc _) (O2.out.alloc _) (by decide) hg2
          have HN4 := Lib.hid (below_app HN3.out hsz3 (O2.out.alloc _) hg2)
          clear O1 O2 O3
          have O1 := Lib.hid hr1
          have O2 := Lib.hid ho2
          have O3 := Lib.hid hr3
          have hsz4 := HN4.out.size
          clear ho2 hr1 hr3 hg2 HN3 HV3 c0' hsz3 ‹¬v2' = _›
          go_wp2_with (at_builtin; refine wpList_append_own _ rfl _ _ 57 rfl w.heap.size 3 ic (.int .i64 0) 1 8 und53 hic.out.1 hic.out.2.1 hic.out.2.2.1 hic.out.2.2.2 rfl (by decide) _ _ _ rfl (O3.out.alloc _) ⟨w4.heap.size, 0, none⟩ 1 1 [.int .i64 (k : Int)] rfl rfl ?c1 ?c2 ?c3 ?c4 ?c5 ?_)
          case c1 => exact cell_one_new _ _ _
          case c2 => intro u hu; simp at hu; subst hu; rfl
          case c3 => unfold maxLen; omega
          case c4 => omega
          case c5 => simp; omega
          intro v3' w5 ho3 hg3 _
          have hr1 := own_kept (O1.out.alloc _) (O3.out.alloc _) (by decide) hg3
          have hr2 := own_kept (O2.out.alloc _) (O3.out.alloc _) (by decide) hg3
          have HN5 := Lib.hid (below_app HN4.out hsz4 (O3.out.alloc _) hg3)
          have HRP := Lib.hid (show RP w.heap.size X (cl X B.id (k + 1)) v1' v2' v3' w5 by
            rw [cl_take _ _ HC.out, HCL.out]
            exact ⟨by rw [vcs_app, List.length_append]; exact hr1, by rw [pis_app, List.length_append]; exact hr2, by rw [ixs_app, List.length_append]; exact ho3⟩)
          clear O1 O2 O3 ho3 hr1 hr2 hg3 HN4 hsz4 ‹¬v3' = _›
          go_wp2_with fail
          exact ⟨⟨k + 1, by omega, by go_num, HRP.out, HN5.out⟩, by simp [intOf]; omega⟩
        · have hc : cand X B.id k = false := by simp [cand, hE]
          have HC := Lib.hid hc
          rw [hE] at kI
          clear hc h3 hE
          go_wp2_with fail
          refine wp_load_port _ rfl rfl pr.out HS.out xz ?_
          go_wp2_with fail
          refine kI.mono ?_
          rintro e w1 ⟨rfl, hb⟩
          go_wp2_with fail
          exact ⟨⟨k + 1, by omega, by go_num, by rw [cl_skip _ _ HC.out]; exact (HR.out.below HBX.out).below hb, HN.out.trans ((below_next HBX.out hb).mono HN.out.size)⟩, by simp [intOf]; omega⟩
      · have hc : cand X B.id k = false := by simp [cand, h3]
        have HC := Lib.hid hc
        clear hc
        go_wp2_with fail
        refine wp_load_port _ rfl rfl pr.out HS.out xz ?_
        go_wp2_with fail
        exact ⟨⟨k + 1, by omega, by go_num, by rw [cl_skip _ _ HC.out]; exact HR.out.below (box_below wr (.cells (XS k) 50)), HN.out.alloc HN.out.size _⟩, by simp [intOf]; omega⟩
    · obtain rfl : k = n := by omega
      obtain ⟨a1, q1, rfl⟩ := own_slice HR.out.o1
      obtain ⟨a2, q2, rfl⟩ := own_slice HR.out.o2
      obtain ⟨a3, q3, rfl⟩ := own_slice HR.out.o3
      have hl := cl_len X B.id k
      by_cases hm : (cl X B.id k).length = 0
      · have hroot : rootI X B.id k = -1 := by unfold rootI; simp only []; rw [if_pos hm]
        have HRT := Lib.hid hroot
        have kN := best_none a1 a2 (cl X B.id k).length (cl X B.id k).length q1 q2 (.inl hm) wr
        have HB := Lib.hid HN.out
        generalize cl X B.id k = l at *
        clear hroot HR hm
        go_wp2_with fail
        refine kN.mono ?_
        rintro e w1 ⟨rfl, hb⟩
        have HB1 := Lib.hid (HB.out.trans (hb.mono HB.out.size))
        clear kN hb c17 c0 z
        go_wp2_with fail
        refine wp_region_quiet_below (by kernel_rfl) (by kernel_rfl) ?_
        repeat (go_big_quiet_step (fail))
        refine wpQuiet_nil ?_
        intro _ hw'
        obtain ⟨⟨dq, osq⟩, hw''⟩ := hw'
        subst hw''
        have HB2 := Lib.hid (HB1.out.trans ((below_regrown w1 dq osq).mono HB1.out.size))
        go_wp2_with fail
        go_ret
        exact ⟨by rw [HRT.out]; rfl, HB2.out⟩
      · obtain ⟨g1, p1, e1, _, lg1, cs1⟩ := own_cells HR.out.o1 (by omega)
        obtain ⟨g2, p2, e2, _, lg2, cs2⟩ := own_cells HR.out.o2 (by omega)
        obtain ⟨g3, p3, e3, _, lg3, cs3⟩ := own_cells HR.out.o3 (by omega)
        cases e1
        cases e2
        cases e3
        have hvs : Vs wr g1 0 (cl X B.id k).length (fun i => (X ((cl X B.id k).getD i 0)).vr) (fun i => sat (X ((cl X B.id k).getD i 0)).vc (X ((cl X B.id k).getD i 0)).cost) (fun i => (X ((cl X B.id k).getD i 0)).vb) (fun i => (X ((cl X B.id k).getD i 0)).vp) := fun i hi => by
          obtain ⟨t0, t1, t2, t3⟩ := vcs_at X (cl X B.id k) i hi
          rw [Nat.zero_add]
          exact ⟨cs1 _ _ t0, cs1 _ _ t1, cs1 _ _ t2, cs1 _ _ t3⟩
        have hqs : Qs wr g2 0 (cl X B.id k).length (fun i => (X ((cl X B.id k).getD i 0)).id) := fun i hi => by
          rw [Nat.zero_add]; exact cs2 _ _ (pis_at X _ i hi)
        have kS := best_some g1 0 g2 0 (cl X B.id k).length (cl X B.id k).length q1 q2 (cl X B.id k).length _ _ _ _ _ wr (Nat.min_self _) (by omega) (by omega) hvs hqs
        have hj := bN_lt (R := fun i => (X ((cl X B.id k).getD i 0)).vr) (C := fun i => sat (X ((cl X B.id k).getD i 0)).vc (X ((cl X B.id k).getD i 0)).cost) (G := fun i => (X ((cl X B.id k).getD i 0)).vb) (P := fun i => (X ((cl X B.id k).getD i 0)).vp) (Q := fun i => (X ((cl X B.id k).getD i 0)).id) (k := (cl X B.id k).length) (by omega)
        have hroot := Lib.hid (show rootI X B.id k = _ by unfold rootI; simp only []; rw [if_neg hm])
        have hvj := Lib.hid (fun j hj => hvs j hj)
        have hxj := Lib.hid (fun j hj => cs3 _ _ (ixs_at (cl X B.id k) j hj))
        clear hvs hqs cs1 cs2 cs3 HR c17 c0 z hm
        generalize cl X B.id k = l at *
        generalize bN (fun i => (X (l.getD i 0)).vr) (fun i => sat (X (l.getD i 0)).vc (X (l.getD i 0)).cost) (fun i => (X (l.getD i 0)).vb) (fun i => (X (l.getD i 0)).vp) (fun i => (X (l.getD i 0)).id) l.length = j at *
        have hv4 := hvj.out j hj
        have hx1 := hxj.out j hj
        simp only [Nat.zero_add] at hv4
        generalize l.getD j 0 = J at *
        have C4 := Lib.hid hv4
        have X1 := Lib.hid hx1
        have HB := Lib.hid HN.out
        have LG1 := Lib.hid lg1
        have LG3 := Lib.hid lg3
        clear hv4 hx1 hvj hxj lg1 lg2 lg3 HN
        cases hL : ltV (X J).vr (sat (X J).vc (X J).cost : Nat) (X J).vb (X J).vp B.id 0 B.id 0
        · have HRT := Lib.hid (show rootI X B.id k = -1 by rw [hroot.out, if_neg (by rw [hL]; simp)])
          have kC := better_any (X J).vr (sat (X J).vc (X J).cost : Nat) (X J).vb (X J).vp B.id 0 B.id 0
          rw [hL] at kC
          clear hroot hL
          go_wp2_with fail
          refine kS.mono ?_
          rintro e w1 ⟨rfl, hb⟩
          have HB1 := Lib.hid (HB.out.trans (hb.mono HB.out.size))
          have x0 := fun d os => cell_below (below_regrown w1 d os) (cell_below hb C4.out.1)
          have x1 := fun d os => cell_below (below_regrown w1 d os) (cell_below hb C4.out.2.1)
          have x2 := fun d os => cell_below (below_regrown w1 d os) (cell_below hb C4.out.2.2.1)
          have x3 := fun d os => cell_below (below_regrown w1 d os) (cell_below hb C4.out.2.2.2)
          have y0 := fun d os => cell_below (below_regrown w1 d os) (cell_below hb (cell_below HB.out C0.out))
          have cx : ∀ d os, Calls Try.prog 35 #[.int .u64 B.id] (grow (redrawn w1 d) os) fun e w'' => e = .returned (vV B.id 0 B.id 0) ∧ ∃ p : Regrown, w'' = grow (redrawn w1 p.d) p.os := fun d os => Calls.regrown_of (own_any B.id _)
          have cy : ∀ d os, Calls Try.prog 34 #[vV (X J).vr (sat (X J).vc (X J).cost : Nat) (X J).vb (X J).vp, vV B.id 0 B.id 0] (grow (redrawn w1 d) os) fun e w'' => e = .returned (.bool false) ∧ ∃ p : Regrown, w'' = grow (redrawn w1 p.d) p.os := fun d os => Calls.regrown_of (kC _)
          have i0 : ∀ w, (Instr.indexAt 71 (.slice (some ⟨g1, 0, none⟩) l.length q1) (.int .i64 j)).run Try.prog w = .ok (.pointer (some ⟨g1, j * 4, none⟩)) w := fun w => by have := idx39 g1 0 l.length q1 j hj w; rwa [Nat.zero_add] at this
          have hj0 : decide ((j : Int) < 0) = false := by simp
          clear kS hb kC
          go_wp2_with fail
          refine wp_region_quiet_below (by kernel_rfl) (by kernel_rfl) ?_
          repeat (go_big_quiet_step (first | with_reducible exact cx _ _ | with_reducible exact cy _ _))
          refine wpQuiet_nil ?_
          intro _ hw'
          obtain ⟨⟨dq, osq⟩, hw''⟩ := hw'
          subst hw''
          have HB2 := Lib.hid (HB1.out.trans ((below_regrown w1 dq osq).mono HB1.out.size))
          go_wp2_with fail
          go_ret
          exact ⟨by rw [HRT.out]; rfl, HB2.out⟩
        · have HRT := Lib.hid (show rootI X B.id k = J by rw [hroot.out, if_pos (by rw [hL])])
          have kC := better_any (X J).vr (sat (X J).vc (X J).cost : Nat) (X J).vb (X J).vp B.id 0 B.id 0
          rw [hL] at kC
          clear hroot hL
          go_wp2_with fail
          refine kS.mono ?_
          rintro e w1 ⟨rfl, hb⟩
          have HB1 := Lib.hid (HB.out.trans (hb.mono HB.out.size))
          have x0 := fun d os => cell_below (below_regrown w1 d os) (cell_below hb C4.out.1)
          have x1 := fun d os => cell_below (below_regrown w1 d os) (cell_below hb C4.out.2.1)
          have x2 := fun d os => cell_below (below_regrown w1 d os) (cell_below hb C4.out.2.2.1)
          have x3 := fun d os => cell_below (below_regrown w1 d os) (cell_below hb C4.out.2.2.2)
          have y0 := fun d os => cell_below (below_regrown w1 d os) (cell_below hb (cell_below HB.out C0.out))
          have z0 := fun d os => cell_below (below_regrown w1 d os) (cell_below hb X1.out)
          have cx : ∀ d os, Calls Try.prog 35 #[.int .u64 B.id] (grow (redrawn w1 d) os) fun e w'' => e = .returned (vV B.id 0 B.id 0) ∧ ∃ p : Regrown, w'' = grow (redrawn w1 p.d) p.os := fun d os => Calls.regrown_of (own_any B.id _)
          have cy : ∀ d os, Calls Try.prog 34 #[vV (X J).vr (sat (X J).vc (X J).cost : Nat) (X J).vb (X J).vp, vV B.id 0 B.id 0] (grow (redrawn w1 d) os) fun e w'' => e = .returned (.bool true) ∧ ∃ p : Regrown, w'' = grow (redrawn w1 p.d) p.os := fun d os => Calls.regrown_of (kC _)
          have i0 : ∀ w, (Instr.indexAt 71 (.slice (some ⟨g1, 0, none⟩) l.length q1) (.int .i64 j)).run Try.prog w = .ok (.pointer (some ⟨g1, j * 4, none⟩)) w := fun w => by have := idx39 g1 0 l.length q1 j hj w; rwa [Nat.zero_add] at this
          have hj0 : decide ((j : Int) < 0) = false := by simp
          clear kS hb kC
          go_wp2_with fail
          refine wp_region_quiet_below (by kernel_rfl) (by kernel_rfl) ?_
          repeat (go_big_quiet_step (first | with_reducible exact cx _ _ | with_reducible exact cy _ _))
          refine wpQuiet_nil ?_
          intro _ hw'
          obtain ⟨⟨dq, osq⟩, hw''⟩ := hw'
          subst hw''
          have HB2 := Lib.hid (HB1.out.trans ((below_regrown w1 dq osq).mono HB1.out.size))
          have z1 := z0 dq osq
          clear x0 x1 x2 x3 y0 cx cy z0
          go_wp2_with fail
          go_ret
          exact ⟨by rw [HRT.out]; rfl, HB2.out⟩
end Go.Proofs.Ytidgdanhnpfpmaa
