/- Contract of the reference's News. -/
import Derived.Test.YtjfdochceejegaaDoorMb
namespace Go.Proofs.YtjfdochceejegaaDoor
open Go.RowKit Go.Sort

noncomputable def z36 : Array Value := #[.int .i64 0, .int .u8 0, .int .u64 0, .int .u32 0, .int .u64 0, .int .u16 0, .int .u16 0, .int .u16 0, .int .u16 0, .int .u16 0]
theorem info36 : (Tryd.prog.info? 36).map (fun i => (i.zero, i.size)) = some (some (.agg z36), 10) := by kernel_rfl
theorem z36_size : z36.size = 10 := by kernel_rfl
theorem zero36 : ∀ w, (zeroValue 36).run Tryd.prog w = .ok (.agg z36) w := (zero_of_info info36).1
theorem putL_msg (xs Z : Array Value) (h : Z.size = 10) : putL Z 0 (msgC xs).toList = msgC xs := putL_all _ _ (by rw [h]; rfl)
theorem from_port (xs : Array Value) (hr : Rg xs) (w : World) : Calls Tryd.prog 27 #[vV (numI xs 74) (numI xs 75) (numI xs 76) (numI xs 77), vV (numI xs 56) (numI xs 57) (numI xs 58) (numI xs 59)] w fun e w' => e = .returned (.bool (frX xs)) ∧ Below w.heap.size w w' := by
  obtain ⟨b, eb, lb⟩ := hr.b
  obtain ⟨p, ep, lp⟩ := hr.p
  obtain ⟨vb, evb, lvb⟩ := hr.vb
  obtain ⟨vp, evp, lvp⟩ := hr.vp
  unfold frX
  rw [eb, ep, evb, evp]
  exact refFrom_any _ _ b p _ _ vb vp lb lvb lp lvp w
set_option maxHeartbeats 4000000 in
theorem refnews_any (xs : Array Value) (w : World) (ht : Typed xs) (hr : Rg xs) : Calls Tryd.prog 10 #[.agg xs] w fun e w' => e = .returned (.int .i64 (newsX xs)) ∧ Below w.heap.size w w' := by
  obtain ⟨f, ef, lf⟩ := hr.f
  have V0 := Lib.hid (var_new w xs 39)
  have B0 := Lib.hid (box_below w (.cells xs 39))
  have kS := Lib.hid (fun w => sec_msg xs hr w)
  have kR := Lib.hid (fun w => refRole_any f lf w)
  have kL := Lib.hid (fun w => less_any (numI xs 74) (numI xs 75) (numI xs 76) (numI xs 77) (numI xs 56) (numI xs 57) (numI xs 58) (numI xs 59) w)
  rw [show ltV (numI xs 74) (numI xs 75) (numI xs 76) (numI xs 77) (numI xs 56) (numI xs 57) (numI xs 58) (numI xs 59) = betX xs from rfl] at kL
  have kF := Lib.hid (fun w => from_port xs hr w)
  have q1 := Lib.hid (v_eql (numI xs 74) (numI xs 75) (numI xs 76) (numI xs 77) (numI xs 56) (numI xs 57) (numI xs 58) (numI xs 59))
  rw [show eqV (numI xs 74) (numI xs 75) (numI xs 76) (numI xs 77) (numI xs 56) (numI xs 57) (numI xs 58) (numI xs 59) = samX xs from rfl] at q1
  have qt : Hid (∀ w, (binOp .neq 33 (tmV (secA xs) (secM xs) (secH xs) (secD xs)) (tmV (numI xs 68) (numI xs 69) (numI xs 70) (numI xs 71))).run Tryd.prog w = .ok (.bool (!tmsX xs)) w) := Lib.hid (by
    intro w; rw [run_neq_struct, t_equal]; rfl)
  have T0 := Lib.hid ht
  have HR := Lib.hid (show newsX xs = if roleX xs == 2 then (if (betX xs || (frX xs && !samX xs)) || (samX xs && !tmsX xs) then 1 else if !samX xs then 3 else if numI xs 44 == 3 then 2 else 0) else if (roleX xs == 1 || roleX xs == 3) && !betX xs then 4 else 0 from rfl)
  have HO := Lib.hid (show roleX xs = if numI xs 72 == 1 then 2 else if numI xs 72 == 3 then roleF (numI xs 73).toNat else 0 from rfl)
  rw [ef] at HO
  rw [show ((f : Int)).toNat = f from rfl] at HO
  have zz := zero36
  have zs := Lib.hid z36_size
  have HP := Lib.hid (fun h => putL_msg xs z36 h)
  have H72 := Lib.hid (T0.out.numk 72 .i64 rfl)
  have H73 := Lib.hid (T0.out.numk 73 .u8 rfl)
  have H44 := Lib.hid (T0.out.numk 44 .i64 rfl)
  rw [ef] at H73
  have HMk : Hid ((msgC xs)[0]? = some (.int .i64 (numI xs 72))) := Lib.hid rfl
  have HMf : Hid ((msgC xs)[1]? = some (.int .u8 f)) := Lib.hid (by rw [← ef]; rfl)
  have HMv : Hid ((msgC xs)[2]? = some (.int .u64 (numI xs 74)) ∧ (msgC xs)[3]? = some (.int .u32 (numI xs 75)) ∧ (msgC xs)[4]? = some (.int .u64 (numI xs 76)) ∧ (msgC xs)[5]? = some (.int .u16 (numI xs 77))) := Lib.hid ⟨rfl, rfl, rfl, rfl⟩
  have HM := Lib.hid (V0.out.msg ht)
  have H1 := Lib.hid (msgC_one xs)
  have H10 := Lib.hid (msgC_size xs)
  have h56 := Lib.hid (T0.out.numk 56 .u64 rfl)
  have h57 := Lib.hid (T0.out.numk 57 .u32 rfl)
  have h58 := Lib.hid (T0.out.numk 58 .u64 rfl)
  have h59 := Lib.hid (T0.out.numk 59 .u16 rfl)
  have h68 := Lib.hid (T0.out.numk 68 .i64 rfl)
  have h69 := Lib.hid (T0.out.numk 69 .i64 rfl)
  have h70 := Lib.hid (T0.out.numk 70 .i64 rfl)
  have h71 := Lib.hid (T0.out.numk 71 .i64 rfl)
  clear ht hr ef lf T0
  generalize z36 = Z at *
  generalize msgC xs = M at *
  generalize newsX xs = R at *
  generalize roleX xs = ro at *
  generalize betX xs = bB at *
  generalize frX xs = bF at *
  generalize samX xs = bS at *
  generalize tmsX xs = bT at *
  generalize numI xs 72 = k at *
  generalize numI xs 44 = x44 at *
  generalize roleF f = rf at *
  go_enter Tryd.func10, Tryd.ntmps10
  go_upto_region 1 with fail
  generalize w.alloc (.cells xs 39) = w0 at *
  go_wp2_with (with_reducible refine stopL 36 _ rfl ?_)
  refine Lib.hid ?_
  refine wpList_load_whole uM rfl sM rfl _ rfl rfl HM.out H10.out ?_
  go_wp2_with (with_reducible refine stopS 36 _ _ rfl ?_)
  refine Lib.hid ?_
  clear zz
  refine wpList_store_only sM rfl _ _ rfl rfl rfl (var_new w0 Z 36) H1.out H10.out (by rw [zs.out]; omega) ?_
  intro w1 hv ho
  simp only [Act.put]
  rw [HP.out zs.out] at hv
  have hb1 : Below w0.heap.size w0 w1 := (box_below w0 _).trans (ho.below (Nat.le_refl _) (by rw [alloc_size]; omega))
  have V1 := Lib.hid (V0.out.below hb1 V0.out.lt)
  have B1 := Lib.hid (B0.out.trans (hb1.mono B0.out.size))
  have VM1 := Lib.hid hv
  clear hv ho hb1 V0 B0 HM
  generalize w0.heap.size = mb at *
  go_wp2_with (with_reducible refine stopL 36 _ rfl ?_)
  refine Lib.hid ?_
  refine wpList_load_whole uM rfl sM rfl _ rfl rfl (range_whole VM1.out) H10.out ?_
  go_wp2_with fail
  refine (kS.out _).mono ?_
  rintro e w2 ⟨rfl, hb⟩
  have V2 := Lib.hid (V1.out.below hb V1.out.lt)
  have VM2 := Lib.hid (VM1.out.below hb VM1.out.lt)
  have B2 := Lib.hid (B1.out.trans (hb.mono B1.out.size))
  clear hb V1 VM1 B1 kS
  go_wp2_with (with_reducible refine stopS 33 _ _ rfl ?_)
  refine Lib.hid ?_
  refine wpList_store_only s25 rfl _ _ rfl rfl rfl (var_new w2 _ 33) (by simp [Value.oneCell']) rfl (by simp) ?_
  intro w3 hv ho
  simp only [Act.put]
  have hb3 : Below w2.heap.size w2 w3 := (box_below w2 _).trans (ho.below (Nat.le_refl _) (by rw [alloc_size]; omega))
  have V3 := Lib.hid (V2.out.below hb3 V2.out.lt)
  have VM3 := Lib.hid (VM2.out.below hb3 VM2.out.lt)
  have B3 := Lib.hid (B2.out.trans (hb3.mono B2.out.size))
  have VT3 := Lib.hid (show VarAt w3 w2.heap.size (tmC (secA xs) (secM xs) (secH xs) (secD xs)) 33 from hv)
  clear hv ho hb3 V2 VM2 B2
  generalize w2.heap.size = tb at *
  by_cases q1_ : k = 1
  · subst q1_
    have hO := HO.out
    simp at hO
    subst hO
    have m0 : w3.cell? ⟨mb, 0, none⟩ = some (.int .i64 1) := by rw [VM3.out.cell]; exact HMk.out
    go_upto_region 8 with fail
    clear m0
    have m2 : w3.cell? ⟨mb, 2, none⟩ = some (.int .u64 (numI xs 74)) := by rw [VM3.out.cell]; exact HMv.out.1
    have m3 : w3.cell? ⟨mb, 3, none⟩ = some (.int .u32 (numI xs 75)) := by rw [VM3.out.cell]; exact HMv.out.2.1
    have m4 : w3.cell? ⟨mb, 4, none⟩ = some (.int .u64 (numI xs 76)) := by rw [VM3.out.cell]; exact HMv.out.2.2.1
    have m5 : w3.cell? ⟨mb, 5, none⟩ = some (.int .u16 (numI xs 77)) := by rw [VM3.out.cell]; exact HMv.out.2.2.2
    have c56 : w3.cell? ⟨w.heap.size, 56, none⟩ = some (.int .u64 (numI xs 56)) := by rw [V3.out.cell]; exact h56.out
    have c57 : w3.cell? ⟨w.heap.size, 57, none⟩ = some (.int .u32 (numI xs 57)) := by rw [V3.out.cell]; exact h57.out
    have c58 : w3.cell? ⟨w.heap.size, 58, none⟩ = some (.int .u64 (numI xs 58)) := by rw [V3.out.cell]; exact h58.out
    have c59 : w3.cell? ⟨w.heap.size, 59, none⟩ = some (.int .u16 (numI xs 59)) := by rw [V3.out.cell]; exact h59.out
    go_wp2_with fail
    refine (kL.out _).mono ?_
    rintro e w4 ⟨rfl, hb⟩
    clear m2 m3 m4 m5 c56 c57 c58 c59
    have V4 := Lib.hid (V3.out.below hb V3.out.lt)
    have VM4 := Lib.hid (VM3.out.below hb VM3.out.lt)
    have VT4 := Lib.hid (VT3.out.below hb VT3.out.lt)
    have B4 := Lib.hid (B3.out.trans (hb.mono B3.out.size))
    clear hb V3 VM3 VT3 B3 kL
    have m2 : w4.cell? ⟨mb, 2, none⟩ = some (.int .u64 (numI xs 74)) := by rw [VM4.out.cell]; exact HMv.out.1
    have m3 : w4.cell? ⟨mb, 3, none⟩ = some (.int .u32 (numI xs 75)) := by rw [VM4.out.cell]; exact HMv.out.2.1
    have m4 : w4.cell? ⟨mb, 4, none⟩ = some (.int .u64 (numI xs 76)) := by rw [VM4.out.cell]; exact HMv.out.2.2.1
    have m5 : w4.cell? ⟨mb, 5, none⟩ = some (.int .u16 (numI xs 77)) := by rw [VM4.out.cell]; exact HMv.out.2.2.2
    have c56 : w4.cell? ⟨w.heap.size, 56, none⟩ = some (.int .u64 (numI xs 56)) := by rw [V4.out.cell]; exact h56.out
    have c57 : w4.cell? ⟨w.heap.size, 57, none⟩ = some (.int .u32 (numI xs 57)) := by rw [V4.out.cell]; exact h57.out
    have c58 : w4.cell? ⟨w.heap.size, 58, none⟩ = some (.int .u64 (numI xs 58)) := by rw [V4.out.cell]; exact h58.out
    have c59 : w4.cell? ⟨w.heap.size, 59, none⟩ = some (.int .u16 (numI xs 59)) := by rw [V4.out.cell]; exact h59.out
    go_wp2_with fail
    refine (kF.out _).mono ?_
    rintro e w5 ⟨rfl, hb⟩
    clear m2 m3 m4 m5 c56 c57 c58 c59
    have V5 := Lib.hid (V4.out.below hb V4.out.lt)
    have VM5 := Lib.hid (VM4.out.below hb VM4.out.lt)
    have VT5 := Lib.hid (VT4.out.below hb VT4.out.lt)
    have B5 := Lib.hid (B4.out.trans (hb.mono B4.out.size))
    clear hb V4 VM4 VT4 B4 kF
    have m2 : w5.cell? ⟨mb, 2, none⟩ = some (.int .u64 (numI xs 74)) := by rw [VM5.out.cell]; exact HMv.out.1
    have m3 : w5.cell? ⟨mb, 3, none⟩ = some (.int .u32 (numI xs 75)) := by rw [VM5.out.cell]; exact HMv.out.2.1
    have m4 : w5.cell? ⟨mb, 4, none⟩ = some (.int .u64 (numI xs 76)) := by rw [VM5.out.cell]; exact HMv.out.2.2.1
    have m5 : w5.cell? ⟨mb, 5, none⟩ = some (.int .u16 (numI xs 77)) := by rw [VM5.out.cell]; exact HMv.out.2.2.2
    have c56 : w5.cell? ⟨w.heap.size, 56, none⟩ = some (.int .u64 (numI xs 56)) := by rw [V5.out.cell]; exact h56.out
    have c57 : w5.cell? ⟨w.heap.size, 57, none⟩ = some (.int .u32 (numI xs 57)) := by rw [V5.out.cell]; exact h57.out
    have c58 : w5.cell? ⟨w.heap.size, 58, none⟩ = some (.int .u64 (numI xs 58)) := by rw [V5.out.cell]; exact h58.out
    have c59 : w5.cell? ⟨w.heap.size, 59, none⟩ = some (.int .u16 (numI xs 59)) := by rw [V5.out.cell]; exact h59.out
    have qe := q1.out
    go_upto_region 11 with fail
    clear m2 m3 m4 m5 c56 c57 c58 c59 qe q1
    have c68 : w5.cell? ⟨w.heap.size, 68, none⟩ = some (.int .i64 (numI xs 68)) := by rw [V5.out.cell]; exact h68.out
    have c69 : w5.cell? ⟨w.heap.size, 69, none⟩ = some (.int .i64 (numI xs 69)) := by rw [V5.out.cell]; exact h69.out
    have c70 : w5.cell? ⟨w.heap.size, 70, none⟩ = some (.int .i64 (numI xs 70)) := by rw [V5.out.cell]; exact h70.out
    have c71 : w5.cell? ⟨w.heap.size, 71, none⟩ = some (.int .i64 (numI xs 71)) := by rw [V5.out.cell]; exact h71.out
    have t0_ : w5.cell? ⟨tb, 0, none⟩ = some (.int .i64 (secA xs)) := VT5.out.cell 0
    have t1_ : w5.cell? ⟨tb, 1, none⟩ = some (.int .i64 (secM xs)) := VT5.out.cell 1
    have t2_ : w5.cell? ⟨tb, 2, none⟩ = some (.int .i64 (secH xs)) := VT5.out.cell 2
    have t3_ : w5.cell? ⟨tb, 3, none⟩ = some (.int .i64 (secD xs)) := VT5.out.cell 3
    have c44 : w5.cell? ⟨w.heap.size, 44, none⟩ = some (.int .i64 x44) := by rw [V5.out.cell]; exact H44.out
    have qn := qt.out
    cases bB
    · cases bF
      · cases bS
        · have hR := HR.out
          simp at hR
          have HC := Lib.hid hR
          clear hR HR
          go_wp2_with fail
          go_ret
          exact ⟨by rw [HC.out] <;> rfl, B5.out⟩
        · cases bT
          · have hR := HR.out
            simp at hR
            have HC := Lib.hid hR
            clear hR HR
            go_wp2_with fail
            go_ret
            exact ⟨by rw [HC.out] <;> rfl, B5.out⟩
          · by_cases q4 : x44 = 3
            · subst q4
              have hR := HR.out
              simp at hR
              have HC := Lib.hid hR
              clear hR HR
              go_wp2_with fail
              go_ret
              exact ⟨by rw [HC.out] <;> rfl, B5.out⟩
            · have e4 : (x44 == 3) = false := by simpa using q4
              clear q4
              have hR := HR.out
              simp [e4] at hR
              have HC := Lib.hid hR
              clear hR HR
              go_wp2_with fail
              go_ret
              exact ⟨by rw [HC.out] <;> rfl, B5.out⟩
      · cases bS
        · have hR := HR.out
          simp at hR
          have HC := Lib.hid hR
          clear hR HR
          go_wp2_with fail
          go_ret
          exact ⟨by rw [HC.out] <;> rfl, B5.out⟩
        · cases bT
          · have hR := HR.out
            simp at hR
            have HC := Lib.hid hR
            clear hR HR
            go_wp2_with fail
            go_ret
            exact ⟨by rw [HC.out] <;> rfl, B5.out⟩
          · by_cases q4 : x44 = 3
            · subst q4
              have hR := HR.out
              simp at hR
              have HC := Lib.hid hR
              clear hR HR
              go_wp2_with fail
              go_ret
              exact ⟨by rw [HC.out] <;> rfl, B5.out⟩
            · have e4 : (x44 == 3) = false := by simpa using q4
              clear q4
              have hR := HR.out
              simp [e4] at hR
              have HC := Lib.hid hR
              clear hR HR
              go_wp2_with fail
              go_ret
              exact ⟨by rw [HC.out] <;> rfl, B5.out⟩
    · have hR := HR.out
      simp at hR
      have HC := Lib.hid hR
      clear hR HR
      go_wp2_with fail
      go_ret
      exact ⟨by rw [HC.out] <;> rfl, B5.out⟩
  · have e1_ : (k == 1) = false := by simpa using q1_
    by_cases q3_ : k = 3
    · subst q3_
      have hO := HO.out
      simp at hO
      subst hO
      have m0 : w3.cell? ⟨mb, 0, none⟩ = some (.int .i64 3) := by rw [VM3.out.cell]; exact HMk.out
      have m1 : w3.cell? ⟨mb, 1, none⟩ = some (.int .u8 f) := by rw [VM3.out.cell]; exact HMf.out
      go_wp2_with fail
      refine (kR.out _).mono ?_
      rintro e w9 ⟨rfl, rfl⟩
      go_upto_region 8 with fail
      clear m0 m1 kR q1_ e1_
      have m2 : w3.cell? ⟨mb, 2, none⟩ = some (.int .u64 (numI xs 74)) := by rw [VM3.out.cell]; exact HMv.out.1
      have m3 : w3.cell? ⟨mb, 3, none⟩ = some (.int .u32 (numI xs 75)) := by rw [VM3.out.cell]; exact HMv.out.2.1
      have m4 : w3.cell? ⟨mb, 4, none⟩ = some (.int .u64 (numI xs 76)) := by rw [VM3.out.cell]; exact HMv.out.2.2.1
      have m5 : w3.cell? ⟨mb, 5, none⟩ = some (.int .u16 (numI xs 77)) := by rw [VM3.out.cell]; exact HMv.out.2.2.2
      have c56 : w3.cell? ⟨w.heap.size, 56, none⟩ = some (.int .u64 (numI xs 56)) := by rw [V3.out.cell]; exact h56.out
      have c57 : w3.cell? ⟨w.heap.size, 57, none⟩ = some (.int .u32 (numI xs 57)) := by rw [V3.out.cell]; exact h57.out
      have c58 : w3.cell? ⟨w.heap.size, 58, none⟩ = some (.int .u64 (numI xs 58)) := by rw [V3.out.cell]; exact h58.out
      have c59 : w3.cell? ⟨w.heap.size, 59, none⟩ = some (.int .u16 (numI xs 59)) := by rw [V3.out.cell]; exact h59.out
      go_wp2_with fail
      refine (kL.out _).mono ?_
      rintro e w4 ⟨rfl, hb⟩
      clear m2 m3 m4 m5 c56 c57 c58 c59
      have V4 := Lib.hid (V3.out.below hb V3.out.lt)
      have VM4 := Lib.hid (VM3.out.below hb VM3.out.lt)
      have VT4 := Lib.hid (VT3.out.below hb VT3.out.lt)
      have B4 := Lib.hid (B3.out.trans (hb.mono B3.out.size))
      clear hb V3 VM3 VT3 B3 kL
      have m2 : w4.cell? ⟨mb, 2, none⟩ = some (.int .u64 (numI xs 74)) := by rw [VM4.out.cell]; exact HMv.out.1
      have m3 : w4.cell? ⟨mb, 3, none⟩ = some (.int .u32 (numI xs 75)) := by rw [VM4.out.cell]; exact HMv.out.2.1
      have m4 : w4.cell? ⟨mb, 4, none⟩ = some (.int .u64 (numI xs 76)) := by rw [VM4.out.cell]; exact HMv.out.2.2.1
      have m5 : w4.cell? ⟨mb, 5, none⟩ = some (.int .u16 (numI xs 77)) := by rw [VM4.out.cell]; exact HMv.out.2.2.2
      have c56 : w4.cell? ⟨w.heap.size, 56, none⟩ = some (.int .u64 (numI xs 56)) := by rw [V4.out.cell]; exact h56.out
      have c57 : w4.cell? ⟨w.heap.size, 57, none⟩ = some (.int .u32 (numI xs 57)) := by rw [V4.out.cell]; exact h57.out
      have c58 : w4.cell? ⟨w.heap.size, 58, none⟩ = some (.int .u64 (numI xs 58)) := by rw [V4.out.cell]; exact h58.out
      have c59 : w4.cell? ⟨w.heap.size, 59, none⟩ = some (.int .u16 (numI xs 59)) := by rw [V4.out.cell]; exact h59.out
      go_wp2_with fail
      refine (kF.out _).mono ?_
      rintro e w5 ⟨rfl, hb⟩
      clear m2 m3 m4 m5 c56 c57 c58 c59
      have V5 := Lib.hid (V4.out.below hb V4.out.lt)
      have VM5 := Lib.hid (VM4.out.below hb VM4.out.lt)
      have VT5 := Lib.hid (VT4.out.below hb VT4.out.lt)
      have B5 := Lib.hid (B4.out.trans (hb.mono B4.out.size))
      clear hb V4 VM4 VT4 B4 kF
      have m2 : w5.cell? ⟨mb, 2, none⟩ = some (.int .u64 (numI xs 74)) := by rw [VM5.out.cell]; exact HMv.out.1
      have m3 : w5.cell? ⟨mb, 3, none⟩ = some (.int .u32 (numI xs 75)) := by rw [VM5.out.cell]; exact HMv.out.2.1
      have m4 : w5.cell? ⟨mb, 4, none⟩ = some (.int .u64 (numI xs 76)) := by rw [VM5.out.cell]; exact HMv.out.2.2.1
      have m5 : w5.cell? ⟨mb, 5, none⟩ = some (.int .u16 (numI xs 77)) := by rw [VM5.out.cell]; exact HMv.out.2.2.2
      have c56 : w5.cell? ⟨w.heap.size, 56, none⟩ = some (.int .u64 (numI xs 56)) := by rw [V5.out.cell]; exact h56.out
      have c57 : w5.cell? ⟨w.heap.size, 57, none⟩ = some (.int .u32 (numI xs 57)) := by rw [V5.out.cell]; exact h57.out
      have c58 : w5.cell? ⟨w.heap.size, 58, none⟩ = some (.int .u64 (numI xs 58)) := by rw [V5.out.cell]; exact h58.out
      have c59 : w5.cell? ⟨w.heap.size, 59, none⟩ = some (.int .u16 (numI xs 59)) := by rw [V5.out.cell]; exact h59.out
      have qe := q1.out
      go_upto_region 11 with fail
      clear m2 m3 m4 m5 c56 c57 c58 c59 qe q1
      by_cases r2 : ro = 2
      · subst r2
        have c68 : w5.cell? ⟨w.heap.size, 68, none⟩ = some (.int .i64 (numI xs 68)) := by rw [V5.out.cell]; exact h68.out
        have c69 : w5.cell? ⟨w.heap.size, 69, none⟩ = some (.int .i64 (numI xs 69)) := by rw [V5.out.cell]; exact h69.out
        have c70 : w5.cell? ⟨w.heap.size, 70, none⟩ = some (.int .i64 (numI xs 70)) := by rw [V5.out.cell]; exact h70.out
        have c71 : w5.cell? ⟨w.heap.size, 71, none⟩ = some (.int .i64 (numI xs 71)) := by rw [V5.out.cell]; exact h71.out
        have t0_ : w5.cell? ⟨tb, 0, none⟩ = some (.int .i64 (secA xs)) := VT5.out.cell 0
        have t1_ : w5.cell? ⟨tb, 1, none⟩ = some (.int .i64 (secM xs)) := VT5.out.cell 1
        have t2_ : w5.cell? ⟨tb, 2, none⟩ = some (.int .i64 (secH xs)) := VT5.out.cell 2
        have t3_ : w5.cell? ⟨tb, 3, none⟩ = some (.int .i64 (secD xs)) := VT5.out.cell 3
        have c44 : w5.cell? ⟨w.heap.size, 44, none⟩ = some (.int .i64 x44) := by rw [V5.out.cell]; exact H44.out
        have qn := qt.out
        cases bB
        · cases bF
          · cases bS
            · have hR := HR.out
              simp at hR
              have HC := Lib.hid hR
              clear hR HR
              go_wp2_with fail
              go_ret
              exact ⟨by rw [HC.out] <;> rfl, B5.out⟩
            · cases bT
              · have hR := HR.out
                simp at hR
                have HC := Lib.hid hR
                clear hR HR
                go_wp2_with fail
                go_ret
                exact ⟨by rw [HC.out] <;> rfl, B5.out⟩
              · by_cases q4 : x44 = 3
                · subst q4
                  have hR := HR.out
                  simp at hR
                  have HC := Lib.hid hR
                  clear hR HR
                  go_wp2_with fail
                  go_ret
                  exact ⟨by rw [HC.out] <;> rfl, B5.out⟩
                · have e4 : (x44 == 3) = false := by simpa using q4
                  clear q4
                  have hR := HR.out
                  simp [e4] at hR
                  have HC := Lib.hid hR
                  clear hR HR
                  go_wp2_with fail
                  go_ret
                  exact ⟨by rw [HC.out] <;> rfl, B5.out⟩
          · cases bS
            · have hR := HR.out
              simp at hR
              have HC := Lib.hid hR
              clear hR HR
              go_wp2_with fail
              go_ret
              exact ⟨by rw [HC.out] <;> rfl, B5.out⟩
            · cases bT
              · have hR := HR.out
                simp at hR
                have HC := Lib.hid hR
                clear hR HR
                go_wp2_with fail
                go_ret
                exact ⟨by rw [HC.out] <;> rfl, B5.out⟩
              · by_cases q4 : x44 = 3
                · subst q4
                  have hR := HR.out
                  simp at hR
                  have HC := Lib.hid hR
                  clear hR HR
                  go_wp2_with fail
                  go_ret
                  exact ⟨by rw [HC.out] <;> rfl, B5.out⟩
                · have e4 : (x44 == 3) = false := by simpa using q4
                  clear q4
                  have hR := HR.out
                  simp [e4] at hR
                  have HC := Lib.hid hR
                  clear hR HR
                  go_wp2_with fail
                  go_ret
                  exact ⟨by rw [HC.out] <;> rfl, B5.out⟩
        · have hR := HR.out
          simp at hR
          have HC := Lib.hid hR
          clear hR HR
          go_wp2_with fail
          go_ret
          exact ⟨by rw [HC.out] <;> rfl, B5.out⟩
      · have f2 : (ro == 2) = false := by simpa using r2
        by_cases r1 : ro = 1
        · subst r1
          cases bB
          · have hR := HR.out
            simp [f2] at hR
            have HC := Lib.hid hR
            clear hR HR
            go_wp2_with fail
            go_ret
            exact ⟨by rw [HC.out] <;> rfl, B5.out⟩
          · have hR := HR.out
            simp [f2] at hR
            have HC := Lib.hid hR
            clear hR HR
            go_wp2_with fail
            go_ret
            exact ⟨by rw [HC.out] <;> rfl, B5.out⟩
        · have f1 : (ro == 1) = false := by simpa using r1
          by_cases r3 : ro = 3
          · subst r3
            cases bB
            · have hR := HR.out
              simp at hR
              have HC := Lib.hid hR
              clear hR HR
              go_wp2_with fail
              go_ret
              exact ⟨by rw [HC.out] <;> rfl, B5.out⟩
            · have hR := HR.out
              simp at hR
              have HC := Lib.hid hR
              clear hR HR
              go_wp2_with fail
              go_ret
              exact ⟨by rw [HC.out] <;> rfl, B5.out⟩
          · have f3 : (ro == 3) = false := by simpa using r3
            clear r1 r2 r3
            have hR := HR.out
            simp [f1, f2, f3] at hR
            have HC := Lib.hid hR
            clear hR HR
            go_wp2_with fail
            go_ret
            exact ⟨by rw [HC.out] <;> rfl, B5.out⟩
    · have e3_ : (k == 3) = false := by simpa using q3_
      have hO := HO.out
      simp [e1_, e3_] at hO
      subst hO
      have m0 : w3.cell? ⟨mb, 0, none⟩ = some (.int .i64 k) := by rw [VM3.out.cell]; exact HMk.out
      clear q1_ q3_
      go_upto_region 8 with fail
      clear m0 e1_ e3_
      have m2 : w3.cell? ⟨mb, 2, none⟩ = some (.int .u64 (numI xs 74)) := by rw [VM3.out.cell]; exact HMv.out.1
      have m3 : w3.cell? ⟨mb, 3, none⟩ = some (.int .u32 (numI xs 75)) := by rw [VM3.out.cell]; exact HMv.out.2.1
      have m4 : w3.cell? ⟨mb, 4, none⟩ = some (.int .u64 (numI xs 76)) := by rw [VM3.out.cell]; exact HMv.out.2.2.1
      have m5 : w3.cell? ⟨mb, 5, none⟩ = some (.int .u16 (numI xs 77)) := by rw [VM3.out.cell]; exact HMv.out.2.2.2
      have c56 : w3.cell? ⟨w.heap.size, 56, none⟩ = some (.int .u64 (numI xs 56)) := by rw [V3.out.cell]; exact h56.out
      have c57 : w3.cell? ⟨w.heap.size, 57, none⟩ = some (.int .u32 (numI xs 57)) := by rw [V3.out.cell]; exact h57.out
      have c58 : w3.cell? ⟨w.heap.size, 58, none⟩ = some (.int .u64 (numI xs 58)) := by rw [V3.out.cell]; exact h58.out
      have c59 : w3.cell? ⟨w.heap.size, 59, none⟩ = some (.int .u16 (numI xs 59)) := by rw [V3.out.cell]; exact h59.out
      go_wp2_with fail
      refine (kL.out _).mono ?_
      rintro e w4 ⟨rfl, hb⟩
      clear m2 m3 m4 m5 c56 c57 c58 c59
      have V4 := Lib.hid (V3.out.below hb V3.out.lt)
      have VM4 := Lib.hid (VM3.out.below hb VM3.out.lt)
      have VT4 := Lib.hid (VT3.out.below hb VT3.out.lt)
      have B4 := Lib.hid (B3.out.trans (hb.mono B3.out.size))
      clear hb V3 VM3 VT3 B3 kL
      have m2 : w4.cell? ⟨mb, 2, none⟩ = some (.int .u64 (numI xs 74)) := by rw [VM4.out.cell]; exact HMv.out.1
      have m3 : w4.cell? ⟨mb, 3, none⟩ = some (.int .u32 (numI xs 75)) := by rw [VM4.out.cell]; exact HMv.out.2.1
      have m4 : w4.cell? ⟨mb, 4, none⟩ = some (.int .u64 (numI xs 76)) := by rw [VM4.out.cell]; exact HMv.out.2.2.1
      have m5 : w4.cell? ⟨mb, 5, none⟩ = some (.int .u16 (numI xs 77)) := by rw [VM4.out.cell]; exact HMv.out.2.2.2
      have c56 : w4.cell? ⟨w.heap.size, 56, none⟩ = some (.int .u64 (numI xs 56)) := by rw [V4.out.cell]; exact h56.out
      have c57 : w4.cell? ⟨w.heap.size, 57, none⟩ = some (.int .u32 (numI xs 57)) := by rw [V4.out.cell]; exact h57.out
      have c58 : w4.cell? ⟨w.heap.size, 58, none⟩ = some (.int .u64 (numI xs 58)) := by rw [V4.out.cell]; exact h58.out
      have c59 : w4.cell? ⟨w.heap.size, 59, none⟩ = some (.int .u16 (numI xs 59)) := by rw [V4.out.cell]; exact h59.out
      go_wp2_with fail
      refine (kF.out _).mono ?_
      rintro e w5 ⟨rfl, hb⟩
      clear m2 m3 m4 m5 c56 c57 c58 c59
      have V5 := Lib.hid (V4.out.below hb V4.out.lt)
      have VM5 := Lib.hid (VM4.out.below hb VM4.out.lt)
      have VT5 := Lib.hid (VT4.out.below hb VT4.out.lt)
      have B5 := Lib.hid (B4.out.trans (hb.mono B4.out.size))
      clear hb V4 VM4 VT4 B4 kF
      have m2 : w5.cell? ⟨mb, 2, none⟩ = some (.int .u64 (numI xs 74)) := by rw [VM5.out.cell]; exact HMv.out.1
      have m3 : w5.cell? ⟨mb, 3, none⟩ = some (.int .u32 (numI xs 75)) := by rw [VM5.out.cell]; exact HMv.out.2.1
      have m4 : w5.cell? ⟨mb, 4, none⟩ = some (.int .u64 (numI xs 76)) := by rw [VM5.out.cell]; exact HMv.out.2.2.1
      have m5 : w5.cell? ⟨mb, 5, none⟩ = some (.int .u16 (numI xs 77)) := by rw [VM5.out.cell]; exact HMv.out.2.2.2
      have c56 : w5.cell? ⟨w.heap.size, 56, none⟩ = some (.int .u64 (numI xs 56)) := by rw [V5.out.cell]; exact h56.out
      have c57 : w5.cell? ⟨w.heap.size, 57, none⟩ = some (.int .u32 (numI xs 57)) := by rw [V5.out.cell]; exact h57.out
      have c58 : w5.cell? ⟨w.heap.size, 58, none⟩ = some (.int .u64 (numI xs 58)) := by rw [V5.out.cell]; exact h58.out
      have c59 : w5.cell? ⟨w.heap.size, 59, none⟩ = some (.int .u16 (numI xs 59)) := by rw [V5.out.cell]; exact h59.out
      have qe := q1.out
      go_upto_region 11 with fail
      clear m2 m3 m4 m5 c56 c57 c58 c59 qe q1
      have hR := HR.out
      simp at hR
      have HC := Lib.hid hR
      clear hR HR
      go_wp2_with fail
      go_ret
      exact ⟨by rw [HC.out] <;> rfl, B5.out⟩
end Go.Proofs.YtjfdochceejegaaDoor
