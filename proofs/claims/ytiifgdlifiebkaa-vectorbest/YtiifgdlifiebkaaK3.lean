/- VectorBest's call, where there are more vectors than ports. -/
import Derived.Test.YtiifgdlifiebkaaK
namespace Go.Proofs.Ytiifgdlifiebkaa
open Go.RowKit Go.Sort

set_option maxRecDepth 20000 in
set_option maxHeartbeats 2000000 in
theorem vbest_more (b o : Nat) (b' o' n n' c c' : Nat) (R C G P Q : Nat → Nat) (w : World) (hn : n' < n) (hm : 0 < n') (hn100 : n ≤ 100) (hm100 : n' ≤ 100) (hv : Vs w b o n R C G P) (hq : Qs w b' o' n' Q) :
    Calls Try.prog 5 #[.slice (some ⟨b, o, none⟩) n c, .slice (some ⟨b', o', none⟩) n' c'] w fun e w' => e = .returned (.bool true) ∧ Below w.heap.size w w' := by
  have HQ := Lib.hid hq
  have LQ := Lib.hid (hq.lt (by omega))
  have HV := Lib.hid hv
  have LV := Lib.hid (hv.lt (by omega))
  clear hv hq
  obtain ⟨i0, hi, hz0, hz1, hz2⟩ := info_parts info26
  go_enter Try.func5, Try.ntmps5
  go_wp2_with fail
  refine (lives_any _).mono ?_
  rintro e w1 ⟨rfl, hb⟩
  have HB := Lib.hid hb
  clear hb
  go_wp2
  go_loopw [5, 27] (fun v i wr => ∃ k : Nat, k ≤ n' ∧ i = .int .i64 k ∧ wr.ownsRow w.heap.size 26 1 v k (qs Q k) ∧ Below w.heap.size w wr) (fun _ i _ => n' - (intOf i).toNat)
  case atStart => exact ⟨0, Nat.zero_le _, rfl, World.ownsRow_nil _ _ _ _, HB.out⟩
  case round =>
    obtain ⟨k, hk, rfl, hown, hnx⟩ := hrel
    by_cases hlt : k < n'
    · have hcx := (HQ.out.below hnx LQ.out) k hlt
      have hsz := hnx.size
      have HN := Lib.hid hnx
      have HO := Lib.hid hown
      clear hnx hown
      go_wp2_with (at_builtin; refine wpList_append_own _ rfl _ _ 41 rfl w.heap.size 26 i0 (.int .u16 0) 1 2 und41 hi hz0 hz1 hz2 rfl (by decide) _ _ _ rfl (HO.out.alloc _) ⟨wr.heap.size, 0, none⟩ 1 1 [.int .u16 (Q k)] rfl rfl ?c1 ?c2 ?c3 ?c4 ?c5 ?_)
      case c1 => exact cell_one_new _ _ _
      case c2 => intro u hu; simp at hu; subst hu; rfl
      case c3 => unfold maxLen; omega
      case c4 => omega
      case c5 => simp; omega
      intro v' w2 hown' hgrow _
      have R := Lib.hid (rel_app (by omega) HO.out HN.out hown' hgrow)
      clear hown' hgrow HN HO hcx
      go_wp2
      go_roundw
      case rel => exact ⟨k + 1, by omega, by go_num, R.out.1, R.out.2⟩
      case measure => simp [intOf]; omega
    · obtain rfl : n' = k := by omega
      obtain ⟨g, cap, rfl, hg, hqg⟩ := own_qs hown (by omega)
      have HN := Lib.hid hnx
      have hvr := HV.out.below hnx LV.out
      have HBS := Lib.hid (best_some b o g 0 n n' c cap n' R C G P Q wr (by omega) (by omega) (by omega) (fun i hi => hvr i (by omega)) (fun i hi => hqg i (by omega)))
      have LT := Lib.hid (hqg.lt (by omega))
      have hbl := bN_lt (R := R) (C := C) (G := G) (P := P) (Q := Q) (k := n') (by omega)
      have HL := Lib.hid (bN_least (R := R) (C := C) (G := G) (P := P) (Q := Q) (k := n') (by omega))
      generalize bN R C G P Q n' = j at *
      have HQG := Lib.hid hqg
      have HVR := Lib.hid hvr
      clear hnx hown hqg hvr HQ LQ
      go_wp2_with fail
      refine HBS.out.mono ?_
      rintro e w3 ⟨rfl, hb⟩
      have HN3 := Lib.hid (HN.out.trans (hb.mono HN.out.size))
      have HV3 := Lib.hid (HVR.out.below hb (Nat.lt_of_lt_of_le LV.out HN.out.size))
      have HQ3 := Lib.hid (HQG.out.below hb LT.out)
      have LQ3 := Lib.hid (Nat.lt_of_lt_of_le LT.out hb.size)
      have LV3 := Lib.hid (Nat.lt_of_lt_of_le LV.out HN3.out.size)
      clear HN hb HVR HQG LT HBS
      go_wp2
      clear i0 hi hz0 hz1 hz2
      go_loopw [56] (fun i wr => ∃ k : Nat, k ≤ n' ∧ i = .int .i64 k ∧ Below w3.heap.size w3 wr) (fun i _ => n' - (intOf i).toNat)
      case atStart => exact ⟨0, Nat.zero_le _, rfl, Below.refl _ _⟩
      case round =>
        rename_i wr
        obtain ⟨k, hk, rfl, hnx⟩ := hrel
        have HB4 := Lib.hid hnx
        clear hnx
        by_cases hlt : k < n'
        · have hl := HL.out k hlt
          have hVX := HV3.out.below HB4.out LV3.out
          have hQX := HQ3.out.below HB4.out LQ3.out
          have x0 := fun d os => cell_regrown (hVX k (by omega)).1 d os
          have x1 := fun d os => cell_regrown (hVX k (by omega)).2.1 d os
          have x2 := fun d os => cell_regrown (hVX k (by omega)).2.2.1 d os
          have x3 := fun d os => cell_regrown (hVX k (by omega)).2.2.2 d os
          have y0 := fun d os => cell_regrown (hVX j (by omega)).1 d os
          have y1 := fun d os => cell_regrown (hVX j (by omega)).2.1 d os
          have y2 := fun d os => cell_regrown (hVX j (by omega)).2.2.1 d os
          have y3 := fun d os => cell_regrown (hVX j (by omega)).2.2.2 d os
          have z0 := fun d os => cell_regrown (hQX k (by omega)) d os
          have z1 := fun d os => cell_regrown (hQX j (by omega)) d os
          have i0 := idx39 b o n c k (by omega)
          have i1 := idx39 b o n c j (by omega)
          have i2 := idx41 g 0 n' cap k (by omega)
          have i3 := idx41 g 0 n' cap j (by omega)
          rw [Nat.zero_add] at z0 z1 i2 i3
          clear hVX hQX
          have cl := less_any (R j) (C j) (G j) (P j) (R k) (C k) (G k) (P k)
          have q := v_equal (R k) (C k) (G k) (P k) (R j) (C j) (G j) (P j)
          have g0 := g28
          rcases hl with ha | ⟨ha, hq | ⟨hq, hjk⟩⟩
          · rw [lt_of_lex ha] at cl
            have cL : ∀ d os, Calls Try.prog 7 #[vV (R j) (C j) (G j) (P j), vV (R k) (C k) (G k) (P k)] (grow (redrawn wr d) os) fun e w'' => e = .returned (.bool true) ∧ ∃ p : Regrown, w'' = grow (redrawn wr p.d) p.os := fun d os => Calls.regrown_of (cl _)
            clear cl q ha
            go_wp2
            refine wp_region_quiet_below (by kernel_rfl) (by kernel_rfl) ?_
            repeat (go_big_quiet_step (first | with_reducible exact cL _ _))
            refine wpQuiet_nil ?_
            intro _ hw'
            obtain ⟨⟨dq, osq⟩, hw''⟩ := hw'
            have HB5 := Lib.hid (HB4.out.trans ((below_regrown wr dq osq).mono HB4.out.size))
            clear cL x0 x1 x2 x3 y0 y1 y2 y3 z0 z1 HB4
            rw [hw'']
            clear hw''
            generalize grow (redrawn wr dq) osq = w4 at *
            go_wp2
            go_quiet (fail)
            go_wp2
            exact ⟨⟨k + 1, by omega, by go_num, below_drewN HB5.out _⟩, by simp [intOf]; omega⟩
          · rw [lt_of_same ha] at cl
            rw [eq_of_same ha] at q
            have cL : ∀ d os, Calls Try.prog 7 #[vV (R j) (C j) (G j) (P j), vV (R k) (C k) (G k) (P k)] (grow (redrawn wr d) os) fun e w'' => e = .returned (.bool false) ∧ ∃ p : Regrown, w'' = grow (redrawn wr p.d) p.os := fun d os => Calls.regrown_of (cl _)
            clear cl ha
            go_wp2
            refine wp_region_quiet_below (by kernel_rfl) (by kernel_rfl) ?_
            repeat (go_big_quiet_step (first | with_reducible exact cL _ _))
            refine wpQuiet_nil ?_
            intro _ hw'
            obtain ⟨⟨dq, osq⟩, hw''⟩ := hw'
            have HB5 := Lib.hid (HB4.out.trans ((below_regrown wr dq osq).mono HB4.out.size))
            clear cL x0 x1 x2 x3 y0 y1 y2 y3 z0 z1 HB4
            rw [hw'']
            clear hw''
            generalize grow (redrawn wr dq) osq = w4 at *
            go_wp2
            go_quiet (fail)
            go_wp2
            exact ⟨⟨k + 1, by omega, by go_num, below_drewN HB5.out _⟩, by simp [intOf]; omega⟩
          · rw [lt_of_same ha] at cl
            rw [eq_of_same ha] at q
            have cL : ∀ d os, Calls Try.prog 7 #[vV (R j) (C j) (G j) (P j), vV (R k) (C k) (G k) (P k)] (grow (redrawn wr d) os) fun e w'' => e = .returned (.bool false) ∧ ∃ p : Regrown, w'' = grow (redrawn wr p.d) p.os := fun d os => Calls.regrown_of (cl _)
            clear cl ha
            rw [← hq] at z0
            have HQ5 := Lib.hid hq
            clear hq
            go_wp2
            refine wp_region_quiet_below (by kernel_rfl) (by kernel_rfl) ?_
            repeat (go_big_quiet_step (first | with_reducible exact cL _ _))
            refine wpQuiet_nil ?_
            intro _ hw'
            obtain ⟨⟨dq, osq⟩, hw''⟩ := hw'
            have HB5 := Lib.hid (HB4.out.trans ((below_regrown wr dq osq).mono HB4.out.size))
            clear cL x0 x1 x2 x3 y0 y1 y2 y3 z0 z1 HB4
            rw [hw'']
            clear hw''
            generalize grow (redrawn wr dq) osq = w4 at *
            have hVX := HV3.out.below HB5.out LV3.out
            have hQX := HQ3.out.below HB5.out LQ3.out
            obtain ⟨x0, x1, x2, x3⟩ := hVX k (by omega)
            obtain ⟨y0, y1, y2, y3⟩ := hVX j (by omega)
            have z0 := hQX k (by omega)
            have z1 := hQX j (by omega)
            rw [Nat.zero_add] at z0 z1
            rw [← HQ5.out] at z0
            clear hVX hQX
            go_wp2
            go_quiet (fail)
            go_wp2
            exact ⟨⟨k + 1, by omega, by go_num, below_drewN HB5.out _⟩, by simp [intOf]; omega⟩
        · obtain rfl : n' = k := by omega
          go_wp2
          go_ret
          exact ⟨rfl, HN3.out.trans (HB4.out.mono HN3.out.size)⟩
end Go.Proofs.Ytiifgdlifiebkaa
