/- Contract of the reference's Migrate, in Selecting. -/
import Derived.Test.YthkmhnajhhomoaaR
namespace Go.Proofs.Ythkmhnajhhomoaa
open Go.RowKit Go.Sort

set_option maxHeartbeats 4000000 in
theorem refmigrate_l (B : Bd) (s : Value) (n k : Nat) (XS : Nat → Array Value) (w : World) (hs : PIn w s n XS) (hk : k < n) (hn : n ≤ 20) (ht : ∀ j, j < n → Typed (XS j)) (h83 : numI (XS k) 83 = 1) :
    Calls Try.prog 10 #[.agg (B.cells s), .int .i64 k] w fun e w' => Ret B n (at1 XS k (migX B.rs (XS k)).2) (migX B.rs (XS k)).1 w e w' := by
  have hx : ∀ i, i < n → (XS i).size = 90 := fun i hi => (ht i hi).1
  have V1 := Lib.hid ((var_new w (B.cells s) 34).alloc (.cells z34 34))
  have V2 := Lib.hid (show VarAt ((w.alloc (.cells (B.cells s) 34)).alloc (.cells z34 34)) (w.heap.size + 1) z34 34 by
    have := var_new (w.alloc (.cells (B.cells s) 34)) z34 34
    rwa [alloc_size] at this)
  have B1 := Lib.hid (show Below w.heap.size w ((w.alloc (.cells (B.cells s) 34)).alloc (.cells z34 34)) from ((Below.refl w.heap.size w).alloc (Nat.le_refl _) _).alloc (by rw [alloc_size]; omega) _)
  obtain ⟨pb, o, c, hsl, hpat⟩ := hs.pat (by omega)
  subst hsl
  have kTh := Lib.hid (fun w => there_yes B (some ⟨pb, o, none⟩) n c k w hk)
  have kW := Lib.hid (fun ys w0 h0 hy => with_any B (.slice (some ⟨pb, o, none⟩) n c) n k XS ys w0 h0 hk hn ht hy)
  have HF0 := Lib.hid (fun e w' b (he : e = .returned (.tuple #[.agg (B.cells (.slice (some ⟨pb, o, none⟩) n c)), .bool b])) (hb : Below w.heap.size w w') => (show Ret B n (at1 XS k (XS k)) b w e w' from ⟨_, he, (hs.below hx hb).congr (fun i _ => at1_self XS k i), hb⟩))
  have HF1 := Lib.hid (fun e w' b ys pb' cap (he : e = .returned (.tuple #[.agg (B.cells (.slice (some ⟨pb', 0, none⟩) n cap)), .bool b])) (hp : PIn w' (.slice (some ⟨pb', 0, none⟩) n cap) n (at1 XS k ys)) (hb : Below w.heap.size w w') => (show Ret B n (at1 XS k ys) b w e w' from ⟨_, he, hp, hb⟩))
  have HPK := Lib.hid (fun w' (hb : Below w.heap.size w w') => (((hpat k hk).below (hx k hk) hb).range (hx k hk)))
  have HSW := Lib.hid (fun w' (hb : Below w.heap.size w w') => hs.below hx hb)
  have HC18 := Lib.hid (show (B.cells (.slice (some ⟨pb, o, none⟩) n c)).size = 18 by simp)
  have HC1 := Lib.hid (B.one (s := .slice (some ⟨pb, o, none⟩) n c) rfl)
  have HC17 := Lib.hid (show (B.cells (.slice (some ⟨pb, o, none⟩) n c))[17]? = some (.slice (some ⟨pb, o, none⟩) n c) by simp)
  have HC6 := Lib.hid (show (B.cells (.slice (some ⟨pb, o, none⟩) n c))[6]? = some (.bool B.rs) by simp)
  have HD18 := Lib.hid (fun pb' cap => (show (B.cells (.slice (some ⟨pb', 0, none⟩) n cap)).size = 18 by simp))
  have HD1 := Lib.hid (fun pb' cap => B.one (s := .slice (some ⟨pb', 0, none⟩) n cap) rfl)
  have i0 := idx32o pb o n c k hk
  have HTK := Lib.hid (ht k hk)
  have zz := zero34
  have zs := Lib.hid z34_size
  have zps := Lib.hid z48_size
  have kSe := Lib.hid (fun w => refsense_any (XS k) w (ht k hk))
  have kCh := Lib.hid (fun w => refcheck_any B (.slice (some ⟨pb, o, none⟩) n c) (XS k) w (ht k hk))
  have TSe := Lib.hid (senseX_typed (ht k hk))
  have TCh := Lib.hid (checkX_typed B.rs (ht k hk))
  have TSl := Lib.hid (selX_typed (ht k hk))
  have HR := Lib.hid (show migX B.rs (XS k) = if (numI (XS k) 9 == 0) || !boolI (XS k) 2 || boolI (XS k) 23 then (true, senseX (XS k)) else (false, (XS k)) by unfold migX leaveLX; rw [h83]; simp)
  have zp := zero48
  clear hs ht hpat hx
  have HCE := Lib.hid (show B.cells (.slice (some ⟨pb, o, none⟩) n c) = B.cells (.slice (some ⟨pb, o, none⟩) n c) from rfl)
  generalize hCC : B.cells (.slice (some ⟨pb, o, none⟩) n c) = C at *
  have HCC := Lib.hid hCC
  clear hCC HCE
  generalize z34 = Z at *
  generalize z48 = ZP at *
  generalize hXK : XS k = xs at *
  clear hXK
  have H83 := Lib.hid h83
  clear h83
  generalize migX B.rs xs = M at *
  have e83 := Lib.hid (HTK.out.num 83 rfl)
  have e9 := Lib.hid (HTK.out.num 9 rfl)
  have e2 := Lib.hid (HTK.out.bool 2 rfl)
  have e23 := Lib.hid (HTK.out.bool 23 rfl)
  go_enter Try.func10, Try.ntmps10
  go_wp2_with (with_reducible refine stopL 34 _ rfl ?_)
  refine Lib.hid ?_
  clear zz
  refine wpList_load_whole uB rfl sB rfl _ rfl rfl (range_whole V1.out) HC18.out ?_
  generalize (w.alloc (.cells C 34)).alloc (.cells Z 34) = w0 at *
  go_wp2_with fail
  refine (kTh.out _).mono ?_
  rintro e w1 ⟨rfl, hb⟩
  have V11 := Lib.hid (V1.out.below hb V1.out.lt)
  have V21 := Lib.hid (V2.out.below hb V2.out.lt)
  have B11 := Lib.hid (B1.out.trans (hb.mono B1.out.size))
  have hl0 := V21.out.lt
  clear hb V1 V2 B1 kTh
  have c17 : w1.cell? ⟨w.heap.size, 17, none⟩ = some (.slice (some ⟨pb, o, none⟩) n c) := by rw [V11.out.cell]; exact HC17.out
  go_wp2_with (with_reducible refine stopL 53 _ rfl ?_)
  refine Lib.hid ?_
  refine wpList_load_whole uP rfl sP rfl _ rfl rfl (HPK.out _ B11.out) HTK.out.1 ?_
  go_wp2_with (with_reducible refine stopS 53 _ _ rfl ?_)
  refine Lib.hid ?_
  clear zp
  refine wpList_store_only sP rfl _ _ rfl rfl rfl (var_new w1 ZP 53) HTK.out.one HTK.out.1 (by rw [zps.out]; omega) ?_
  intro w2 hv ho
  simp only [Act.put]
  rw [putL_all _ _ (by rw [zps.out, HTK.out.1])] at hv
  have hb2 : Below w1.heap.size w1 w2 := (box_below w1 _).trans (ho.below (Nat.le_refl _) (by rw [alloc_size]; omega))
  have VP := Lib.hid hv
  have VB := Lib.hid (V11.out.below hb2 V11.out.lt)
  have VR := Lib.hid (V21.out.below hb2 V21.out.lt)
  have B2 := Lib.hid (B11.out.trans (hb2.mono B11.out.size))
  clear hv ho hb2 V11 V21 B11 c17
  generalize w1.heap.size = xb at *
  have c83 : w2.cell? ⟨xb, 83, none⟩ = some (.int .i64 (numI xs 83)) := by rw [VP.out.cell]; exact e83.out
  have c9 : w2.cell? ⟨xb, 9, none⟩ = some (.int .i64 (numI xs 9)) := by rw [VP.out.cell]; exact e9.out
  have c2 : w2.cell? ⟨xb, 2, none⟩ = some (.bool (boolI xs 2)) := by rw [VP.out.cell]; exact e2.out
  have c23 : w2.cell? ⟨xb, 23, none⟩ = some (.bool (boolI xs 23)) := by rw [VP.out.cell]; exact e23.out
  rw [H83.out] at c83
  clear H83
  generalize numI xs 9 = x9 at *
  generalize boolI xs 2 = x2 at *
  generalize boolI xs 23 = x23 at *
  by_cases q0 : x9 = 0
  · subst q0
    have hR := HR.out
    try simp [] at hR
    subst hR
    have HTY := Lib.hid TSe.out
    go_wp2_with fail
    refine wp_region_held_drew (S := fun w' => VarAt w' w.heap.size C 34 ∧ VarAt w' xb xs 53) (by kernel_rfl) ⟨VB.out.drew, VP.out.drew⟩ (fun hS => ?_)
    refine wpAnyH_take (i := 0) (v := .agg C) rfl (by kernel_rfl) (by kernel_rfl) (by kernel_rfl) (fun _ _ _ h => h) (yields_br (by rfl) _ rfl rfl (fun w9 h9 => h9.1) HC18.out) hS ?_
    simp only [Act.put, List.getElem_toArray, List.getElem_cons_zero, List.getElem_cons_succ, List.setIfInBounds_toArray, List.set_cons_zero, List.set_cons_succ]
    refine wpAnyH_take (i := 1) (v := .int .i64 k) rfl (by kernel_rfl) (by kernel_rfl) (by kernel_rfl) (fun _ _ _ h => h) (Or.inl ⟨by rfl, ?_⟩) hS ?_
    · (intro w9 hS9; go_simp; try with_reducible rfl)
    simp only [Act.put, List.getElem_toArray, List.getElem_cons_zero, List.getElem_cons_succ, List.setIfInBounds_toArray, List.set_cons_zero, List.set_cons_succ]
    refine wpAnyH_take (i := 2) (v := .agg xs) rfl (by kernel_rfl) (by kernel_rfl) (by kernel_rfl) (fun _ _ _ h => h) (yields_port (by rfl) _ rfl rfl (fun w9 h9 => range_whole h9.2) HTK.out.1) hS ?_
    simp only [Act.put, List.getElem_toArray, List.getElem_cons_zero, List.getElem_cons_succ, List.setIfInBounds_toArray, List.set_cons_zero, List.set_cons_succ]
    refine wpAnyH_ready (rs := [3]) (by kernel_rfl) (by simp) (AllReadyH.cons rfl (fun K hK => ?_) AllReadyH.nil)
    go_simp
    refine (kSe.out _).mono ?_
    rintro e w3 ⟨rfl, hb⟩
    have VR3 := Lib.hid (VR.out.drew.below hb VR.out.lt)
    have B3 := Lib.hid (B2.out.drew.trans (hb.mono B2.out.size))
    have hS3 : VarAt w3 w.heap.size C 34 ∧ VarAt w3 xb xs 53 := ⟨hS.1.below hb hS.1.lt, hS.2.below hb hS.2.lt⟩
    refine hK _ _ hS3 (fun hS => ?_)
    clear hK K hS3 hb
    refine wpAnyH_ready (rs := [4]) (by kernel_rfl) (by simp) (AllReadyH.cons rfl (fun K hK => ?_) AllReadyH.nil)
    go_simp
    refine (kW.out (senseX xs) _ (HSW.out _ B3.out) HTY.out).mono ?_
    rintro e w4 ⟨pb4, cap4, rfl, hk4, hb⟩
    have VR4 := Lib.hid (VR3.out.below hb VR3.out.lt)
    have B4 := Lib.hid (B3.out.trans (hb.mono B3.out.size))
    have hne4 : w.heap.size + 1 < pb4 := by have h1 := hk4.choose_spec.2.2.2; have h2 := VR3.out.lt; omega
    have K4 := Lib.hid hk4
    have hS4 : VarAt w4 w.heap.size C 34 ∧ VarAt w4 xb xs 53 := ⟨hS.1.below hb hS.1.lt, hS.2.below hb hS.2.lt⟩
    have hK9 := Lib.hid hK
    clear hK hb hk4 VR3 B3
    have HK4 := Lib.hid (HD18.out pb4 cap4)
    have HK1 := Lib.hid (HD1.out pb4 cap4)
    have HFF := Lib.hid (fun e w' b ys he hp hb => HF1.out e w' b ys pb4 cap4 he hp hb)
    generalize B.cells (.slice (some ⟨pb4, 0, none⟩) n cap4) = D at *
    refine hK9.out _ _ hS4 (fun hS => ?_)
    clear hK9 K hS4
    refine wpAnyH_ready (rs := [5]) (by kernel_rfl) (by simp) (AllReadyH.cons rfl (fun K hK => ?_) AllReadyH.nil)
    rw [if_pos (by rfl)]
    refine wp_store_only sB _ _ rfl rfl rfl VR4.out HK1.out HK4.out (by rw [zs.out]; omega) ?_
    intro w5 hv ho
    simp only [Act.put]
    rw [putL_all _ _ (by rw [zs.out, HK4.out])] at hv
    have V5 := Lib.hid hv
    have B5 := Lib.hid (B4.out.trans (ho.below (by omega) B4.out.size))
    obtain ⟨A5, hA5, hn5, hs5, hq5⟩ := K4.out
    have P5 := Lib.hid (Kept3.pin (cap := cap4) (show Kept3 w3 w5 pb4 n _ from ⟨A5, ho.var hA5 (by omega), hn5, hs5, hq5⟩))
    refine hK _ _ ⟨ho.var hS.1 (by omega), ho.var hS.2 (by omega)⟩ (fun hS => ?_)
    clear hK K hv ho hA5 hn5 hs5 hq5
    refine wpAnyH_take (i := 6) (v := .bool true) rfl (by kernel_rfl) (by kernel_rfl) (by kernel_rfl) (fun _ _ _ h => h) (Or.inl ⟨by rfl, ?_⟩) hS ?_
    · (intro w9 hS9; go_simp; try with_reducible rfl)
    simp only [Act.put, List.getElem_toArray, List.getElem_cons_zero, List.getElem_cons_succ, List.setIfInBounds_toArray, List.set_cons_zero, List.set_cons_succ]
    refine wpAnyH_done (by kernel_rfl) ?_ _
    go_wp2_with (with_reducible refine stopE ?_)
    refine Lib.hid ?_
    refine bodyPost_ret (v := .tuple #[.agg D, .bool true]) (results_pair (p := 4) (u := 5) rfl _ _ (w.heap.size + 1) 34 _ (0, 0) rfl V5.out HK4.out) rfl (HFF.out _ _ true _ rfl P5.out B5.out)
  · have e0_ : (x9 == 0) = false := by simpa using q0
    have n0_ : (x9 != 0) = true := by simpa using q0
    clear q0
    cases x2
    · have hR := HR.out
      try simp [e0_, n0_] at hR
      subst hR
      have HTY := Lib.hid TSe.out
      go_wp2_with fail
      refine wp_region_held_drew (S := fun w' => VarAt w' w.heap.size C 34 ∧ VarAt w' xb xs 53) (by kernel_rfl) ⟨VB.out.drew, VP.out.drew⟩ (fun hS => ?_)
      refine wpAnyH_take (i := 0) (v := .agg C) rfl (by kernel_rfl) (by kernel_rfl) (by kernel_rfl) (fun _ _ _ h => h) (yields_br (by rfl) _ rfl rfl (fun w9 h9 => h9.1) HC18.out) hS ?_
      simp only [Act.put, List.getElem_toArray, List.getElem_cons_zero, List.getElem_cons_succ, List.setIfInBounds_toArray, List.set_cons_zero, List.set_cons_succ]
      refine wpAnyH_take (i := 1) (v := .int .i64 k) rfl (by kernel_rfl) (by kernel_rfl) (by kernel_rfl) (fun _ _ _ h => h) (Or.inl ⟨by rfl, ?_⟩) hS ?_
      · (intro w9 hS9; go_simp; try with_reducible rfl)
      simp only [Act.put, List.getElem_toArray, List.getElem_cons_zero, List.getElem_cons_succ, List.setIfInBounds_toArray, List.set_cons_zero, List.set_cons_succ]
      refine wpAnyH_take (i := 2) (v := .agg xs) rfl (by kernel_rfl) (by kernel_rfl) (by kernel_rfl) (fun _ _ _ h => h) (yields_port (by rfl) _ rfl rfl (fun w9 h9 => range_whole h9.2) HTK.out.1) hS ?_
      simp only [Act.put, List.getElem_toArray, List.getElem_cons_zero, List.getElem_cons_succ, List.setIfInBounds_toArray, List.set_cons_zero, List.set_cons_succ]
      refine wpAnyH_ready (rs := [3]) (by kernel_rfl) (by simp) (AllReadyH.cons rfl (fun K hK => ?_) AllReadyH.nil)
      go_simp
      refine (kSe.out _).mono ?_
      rintro e w3 ⟨rfl, hb⟩
      have VR3 := Lib.hid (VR.out.drew.below hb VR.out.lt)
      have B3 := Lib.hid (B2.out.drew.trans (hb.mono B2.out.size))
      have hS3 : VarAt w3 w.heap.size C 34 ∧ VarAt w3 xb xs 53 := ⟨hS.1.below hb hS.1.lt, hS.2.below hb hS.2.lt⟩
      refine hK _ _ hS3 (fun hS => ?_)
      clear hK K hS3 hb
      refine wpAnyH_ready (rs := [4]) (by kernel_rfl) (by simp) (AllReadyH.cons rfl (fun K hK => ?_) AllReadyH.nil)
      go_simp
      refine (kW.out (senseX xs) _ (HSW.out _ B3.out) HTY.out).mono ?_
      rintro e w4 ⟨pb4, cap4, rfl, hk4, hb⟩
      have VR4 := Lib.hid (VR3.out.below hb VR3.out.lt)
      have B4 := Lib.hid (B3.out.trans (hb.mono B3.out.size))
      have hne4 : w.heap.size + 1 < pb4 := by have h1 := hk4.choose_spec.2.2.2; have h2 := VR3.out.lt; omega
      have K4 := Lib.hid hk4
      have hS4 : VarAt w4 w.heap.size C 34 ∧ VarAt w4 xb xs 53 := ⟨hS.1.below hb hS.1.lt, hS.2.below hb hS.2.lt⟩
      have hK9 := Lib.hid hK
      clear hK hb hk4 VR3 B3
      have HK4 := Lib.hid (HD18.out pb4 cap4)
      have HK1 := Lib.hid (HD1.out pb4 cap4)
      have HFF := Lib.hid (fun e w' b ys he hp hb => HF1.out e w' b ys pb4 cap4 he hp hb)
      generalize B.cells (.slice (some ⟨pb4, 0, none⟩) n cap4) = D at *
      refine hK9.out _ _ hS4 (fun hS => ?_)
      clear hK9 K hS4
      refine wpAnyH_ready (rs := [5]) (by kernel_rfl) (by simp) (AllReadyH.cons rfl (fun K hK => ?_) AllReadyH.nil)
      rw [if_pos (by rfl)]
      refine wp_store_only sB _ _ rfl rfl rfl VR4.out HK1.out HK4.out (by rw [zs.out]; omega) ?_
      intro w5 hv ho
      simp only [Act.put]
      rw [putL_all _ _ (by rw [zs.out, HK4.out])] at hv
      have V5 := Lib.hid hv
      have B5 := Lib.hid (B4.out.trans (ho.below (by omega) B4.out.size))
      obtain ⟨A5, hA5, hn5, hs5, hq5⟩ := K4.out
      have P5 := Lib.hid (Kept3.pin (cap := cap4) (show Kept3 w3 w5 pb4 n _ from ⟨A5, ho.var hA5 (by omega), hn5, hs5, hq5⟩))
      refine hK _ _ ⟨ho.var hS.1 (by omega), ho.var hS.2 (by omega)⟩ (fun hS => ?_)
      clear hK K hv ho hA5 hn5 hs5 hq5
      refine wpAnyH_take (i := 6) (v := .bool true) rfl (by kernel_rfl) (by kernel_rfl) (by kernel_rfl) (fun _ _ _ h => h) (Or.inl ⟨by rfl, ?_⟩) hS ?_
      · (intro w9 hS9; go_simp; try with_reducible rfl)
      simp only [Act.put, List.getElem_toArray, List.getElem_cons_zero, List.getElem_cons_succ, List.setIfInBounds_toArray, List.set_cons_zero, List.set_cons_succ]
      refine wpAnyH_done (by kernel_rfl) ?_ _
      go_wp2_with (with_reducible refine stopE ?_)
      refine Lib.hid ?_
      refine bodyPost_ret (v := .tuple #[.agg D, .bool true]) (results_pair (p := 4) (u := 5) rfl _ _ (w.heap.size + 1) 34 _ (0, 0) rfl V5.out HK4.out) rfl (HFF.out _ _ true _ rfl P5.out B5.out)
    · cases x23
      · have hR := HR.out
        try simp [e0_, n0_] at hR
        subst hR
        go_wp2_with (with_reducible refine stopL 34 _ rfl ?_)
        refine Lib.hid ?_
        refine wpList_load_whole uB rfl sB rfl _ rfl rfl (range_whole VB.out) HC18.out ?_
        refine wpList_store_only sB rfl _ _ rfl rfl rfl VR.out HC1.out HC18.out (by rw [zs.out]; omega) ?_
        intro w9 hv9 ho9
        rw [putL_all _ _ (by rw [zs.out, HC18.out])] at hv9
        have V9 := Lib.hid hv9
        have B9 := Lib.hid (B2.out.trans (ho9.below (by omega) B2.out.size))
        clear hv9 ho9
        go_wp2_with (with_reducible refine stopE ?_)
        refine Lib.hid ?_
        refine bodyPost_ret (v := .tuple #[.agg C, .bool false]) (results_pair (p := 4) (u := 5) rfl _ _ (w.heap.size + 1) 34 _ (0, 0) rfl V9.out HC18.out) rfl (HF0.out _ _ false rfl B9.out)
      · have hR := HR.out
        try simp [e0_, n0_] at hR
        subst hR
        have HTY := Lib.hid TSe.out
        go_wp2_with fail
        refine wp_region_held_drew (S := fun w' => VarAt w' w.heap.size C 34 ∧ VarAt w' xb xs 53) (by kernel_rfl) ⟨VB.out.drew, VP.out.drew⟩ (fun hS => ?_)
        refine wpAnyH_take (i := 0) (v := .agg C) rfl (by kernel_rfl) (by kernel_rfl) (by kernel_rfl) (fun _ _ _ h => h) (yields_br (by rfl) _ rfl rfl (fun w9 h9 => h9.1) HC18.out) hS ?_
        simp only [Act.put, List.getElem_toArray, List.getElem_cons_zero, List.getElem_cons_succ, List.setIfInBounds_toArray, List.set_cons_zero, List.set_cons_succ]
        refine wpAnyH_take (i := 1) (v := .int .i64 k) rfl (by kernel_rfl) (by kernel_rfl) (by kernel_rfl) (fun _ _ _ h => h) (Or.inl ⟨by rfl, ?_⟩) hS ?_
        · (intro w9 hS9; go_simp; try with_reducible rfl)
        simp only [Act.put, List.getElem_toArray, List.getElem_cons_zero, List.getElem_cons_succ, List.setIfInBounds_toArray, List.set_cons_zero, List.set_cons_succ]
        refine wpAnyH_take (i := 2) (v := .agg xs) rfl (by kernel_rfl) (by kernel_rfl) (by kernel_rfl) (fun _ _ _ h => h) (yields_port (by rfl) _ rfl rfl (fun w9 h9 => range_whole h9.2) HTK.out.1) hS ?_
        simp only [Act.put, List.getElem_toArray, List.getElem_cons_zero, List.getElem_cons_succ, List.setIfInBounds_toArray, List.set_cons_zero, List.set_cons_succ]
        refine wpAnyH_ready (rs := [3]) (by kernel_rfl) (by simp) (AllReadyH.cons rfl (fun K hK => ?_) AllReadyH.nil)
        go_simp
        refine (kSe.out _).mono ?_
        rintro e w3 ⟨rfl, hb⟩
        have VR3 := Lib.hid (VR.out.drew.below hb VR.out.lt)
        have B3 := Lib.hid (B2.out.drew.trans (hb.mono B2.out.size))
        have hS3 : VarAt w3 w.heap.size C 34 ∧ VarAt w3 xb xs 53 := ⟨hS.1.below hb hS.1.lt, hS.2.below hb hS.2.lt⟩
        refine hK _ _ hS3 (fun hS => ?_)
        clear hK K hS3 hb
        refine wpAnyH_ready (rs := [4]) (by kernel_rfl) (by simp) (AllReadyH.cons rfl (fun K hK => ?_) AllReadyH.nil)
        go_simp
        refine (kW.out (senseX xs) _ (HSW.out _ B3.out) HTY.out).mono ?_
        rintro e w4 ⟨pb4, cap4, rfl, hk4, hb⟩
        have VR4 := Lib.hid (VR3.out.below hb VR3.out.lt)
        have B4 := Lib.hid (B3.out.trans (hb.mono B3.out.size))
        have hne4 : w.heap.size + 1 < pb4 := by have h1 := hk4.choose_spec.2.2.2; have h2 := VR3.out.lt; omega
        have K4 := Lib.hid hk4
        have hS4 : VarAt w4 w.heap.size C 34 ∧ VarAt w4 xb xs 53 := ⟨hS.1.below hb hS.1.lt, hS.2.below hb hS.2.lt⟩
        have hK9 := Lib.hid hK
        clear hK hb hk4 VR3 B3
        have HK4 := Lib.hid (HD18.out pb4 cap4)
        have HK1 := Lib.hid (HD1.out pb4 cap4)
        have HFF := Lib.hid (fun e w' b ys he hp hb => HF1.out e w' b ys pb4 cap4 he hp hb)
        generalize B.cells (.slice (some ⟨pb4, 0, none⟩) n cap4) = D at *
        refine hK9.out _ _ hS4 (fun hS => ?_)
        clear hK9 K hS4
        refine wpAnyH_ready (rs := [5]) (by kernel_rfl) (by simp) (AllReadyH.cons rfl (fun K hK => ?_) AllReadyH.nil)
        rw [if_pos (by rfl)]
        refine wp_store_only sB _ _ rfl rfl rfl VR4.out HK1.out HK4.out (by rw [zs.out]; omega) ?_
        intro w5 hv ho
        simp only [Act.put]
        rw [putL_all _ _ (by rw [zs.out, HK4.out])] at hv
        have V5 := Lib.hid hv
        have B5 := Lib.hid (B4.out.trans (ho.below (by omega) B4.out.size))
        obtain ⟨A5, hA5, hn5, hs5, hq5⟩ := K4.out
        have P5 := Lib.hid (Kept3.pin (cap := cap4) (show Kept3 w3 w5 pb4 n _ from ⟨A5, ho.var hA5 (by omega), hn5, hs5, hq5⟩))
        refine hK _ _ ⟨ho.var hS.1 (by omega), ho.var hS.2 (by omega)⟩ (fun hS => ?_)
        clear hK K hv ho hA5 hn5 hs5 hq5
        refine wpAnyH_take (i := 6) (v := .bool true) rfl (by kernel_rfl) (by kernel_rfl) (by kernel_rfl) (fun _ _ _ h => h) (Or.inl ⟨by rfl, ?_⟩) hS ?_
        · (intro w9 hS9; go_simp; try with_reducible rfl)
        simp only [Act.put, List.getElem_toArray, List.getElem_cons_zero, List.getElem_cons_succ, List.setIfInBounds_toArray, List.set_cons_zero, List.set_cons_succ]
        refine wpAnyH_done (by kernel_rfl) ?_ _
        go_wp2_with (with_reducible refine stopE ?_)
        refine Lib.hid ?_
        refine bodyPost_ret (v := .tuple #[.agg D, .bool true]) (results_pair (p := 4) (u := 5) rfl _ _ (w.heap.size + 1) 34 _ (0, 0) rfl V5.out HK4.out) rfl (HFF.out _ _ true _ rfl P5.out B5.out)
end Go.Proofs.Ythkmhnajhhomoaa
