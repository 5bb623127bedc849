/- Contract of the reference's Start. -/
import Derived.Test.YthkmhnajhhomoaaR
import Derived.Deep.DeepCutAuto
namespace Go.Proofs.Ythkmhnajhhomoaa
open Go.RowKit Go.Sort

/-- A bridge, as the reference's Start returns it. -/
def Ret1 (B : Bd) (n : Nat) (YS : Nat → Array Value) (w : World) (e : Ending) (w' : World) : Prop := ∃ s', e = .returned (.agg (B.cells s')) ∧ PIn w' s' n YS ∧ Below w.heap.size w w'
set_option maxHeartbeats 1000000 in
theorem refstart_none (B : Bd) (s : Value) (n : Nat) (i : Int) (XS : Nat → Array Value) (w : World) (hs : PIn w s n XS) (hi : i < 0 ∨ (n : Int) ≤ i) (ht : ∀ j, j < n → Typed (XS j)) :
    Calls Try.prog 16 #[.agg (B.cells s), .int .i64 i] w fun e w' => Ret1 B n XS w e w' := by
  have V1 := Lib.hid ((var_new w (B.cells s) 34).alloc (.cells z34 34))
  have V2 := Lib.hid (show VarAt ((w.alloc (.cells (B.cells s) 34)).alloc (.cells z34 34)) (w.heap.size + 1) z34 34 by
    have := var_new (w.alloc (.cells (B.cells s) 34)) z34 34
    rwa [alloc_size] at this)
  have B1 := Lib.hid (show Below w.heap.size w ((w.alloc (.cells (B.cells s) 34)).alloc (.cells z34 34)) from ((Below.refl w.heap.size w).alloc (Nat.le_refl _) _).alloc (by rw [alloc_size]; omega) _)
  obtain ⟨a, c, rfl⟩ : ∃ a c, s = .slice a n c := by obtain ⟨a, c, rfl, _⟩ := hs; exact ⟨a, c, rfl⟩
  have kTh := Lib.hid (fun w => there_no B a n c i w hi)
  have HF := Lib.hid (fun e w' (he : e = .returned (.agg (B.cells (.slice a n c)))) hb => (show Ret1 B n XS w e w' from ⟨_, he, hs.below (fun j hj => (ht j hj).1) hb, hb⟩))
  have HC18 := Lib.hid (show (B.cells (.slice a n c)).size = 18 by simp)
  have HC1 := Lib.hid (B.one (s := .slice a n c) rfl)
  have zz := zero34
  have zs := Lib.hid z34_size
  clear hs ht hi
  generalize Ret1 B n XS w = RT at *
  generalize z34 = Z at *
  generalize B.cells (.slice a n c) = C at *
  go_enter Try.func16, Try.ntmps16
  go_wp2_with (with_reducible refine stopL 34 _ rfl ?_)
  refine Lib.hid ?_
  clear zz
  refine wpList_load_whole uB rfl sB rfl _ rfl rfl (range_whole V1.out) HC18.out ?_
  generalize (w.alloc (.cells C 34)).alloc (.cells Z 34) = w0 at *
  go_wp2_with fail
  refine (kTh.out _).mono ?_
  rintro e w1 ⟨rfl, hb⟩
  have V11 := Lib.hid (V1.out.below hb V1.out.lt)
  have V21 := Lib.hid (V2.out.below hb V2.out.lt)
  have B11 := Lib.hid (B1.out.trans (hb.mono B1.out.size))
  clear hb V1 V2 B1 kTh
  go_wp2_with (with_reducible refine stopL 34 _ rfl ?_)
  refine Lib.hid ?_
  refine wpList_load_whole uB rfl sB rfl _ rfl rfl (range_whole V11.out) HC18.out ?_
  refine wpList_store_only sB rfl _ _ rfl rfl rfl V21.out HC1.out HC18.out (by rw [zs.out]; omega) ?_
  intro w9 hv9 ho9
  rw [putL_all _ _ (by rw [zs.out, HC18.out])] at hv9
  have V9 := Lib.hid hv9
  have B9 := Lib.hid (B11.out.trans (ho9.below (by omega) B11.out.size))
  clear hv9 ho9
  go_wp2_with (with_reducible refine stopE ?_)
  refine Lib.hid ?_
  refine bodyPost_ret (v := .agg C) (results_cell_row (p := 4) (ty := 34) rfl _ _ (w.heap.size + 1) 34 _ (0, 0) _ rfl V9.out uB rfl (by rw [sB]; simp [HC18.out])) rfl (HF.out _ _ rfl B9.out)
set_option maxHeartbeats 4000000 in
theorem refstart_some (B : Bd) (s : Value) (n k : Nat) (XS : Nat → Array Value) (w : World) (hs : PIn w s n XS) (hk : k < n) (hn : n ≤ 20) (ht : ∀ j, j < n → Typed (XS j)) :
    Calls Try.prog 16 #[.agg (B.cells s), .int .i64 k] w fun e w' => Ret1 B n (at1 XS k (startX B.rs (XS k))) w e w' := by
  have hx : ∀ i, i < n → (XS i).size = 90 := fun i hi => (ht i hi).1
  have V1 := Lib.hid ((var_new w (B.cells s) 34).alloc (.cells z34 34))
  have V2 := Lib.hid (show VarAt ((w.alloc (.cells (B.cells s) 34)).alloc (.cells z34 34)) (w.heap.size + 1) z34 34 by
    have := var_new (w.alloc (.cells (B.cells s) 34)) z34 34
    rwa [alloc_size] at this)
  have B1 := Lib.hid (show Below w.heap.size w ((w.alloc (.cells (B.cells s) 34)).alloc (.cells z34 34)) from ((Below.refl w.heap.size w).alloc (Nat.le_refl _) _).alloc (by rw [alloc_size]; omega) _)
  obtain ⟨pb, o, c, hsl, hpat⟩ := hs.pat (by omega)
  subst hsl
  have kTh := Lib.hid (fun w => there_yes B (some ⟨pb, o, none⟩) n c k w hk)
  have kW := Lib.hid (fun ys w0 h0 hy => with_any B (.slice (some ⟨pb, o, none⟩) n c) n k XS ys w0 h0 hk hn ht hy)
  have HF0 := Lib.hid (fun e w' (he : e = .returned (.agg (B.cells (.slice (some ⟨pb, o, none⟩) n c)))) (hb : Below w.heap.size w w') => (show Ret1 B n (at1 XS k (XS k)) w e w' from ⟨_, he, (hs.below hx hb).congr (fun i _ => at1_self XS k i), hb⟩))
  have HF1 := Lib.hid (fun e w' ys pb' cap (he : e = .returned (.agg (B.cells (.slice (some ⟨pb', 0, none⟩) n cap)))) (hp : PIn w' (.slice (some ⟨pb', 0, none⟩) n cap) n (at1 XS k ys)) (hb : Below w.heap.size w w') => (show Ret1 B n (at1 XS k ys) w e w' from ⟨_, he, hp, hb⟩))
  have HPK := Lib.hid (fun w' (hb : Below w.heap.size w w') => (((hpat k hk).below (hx k hk) hb).range (hx k hk)))
  have HSW := Lib.hid (fun w' (hb : Below w.heap.size w w') => hs.below hx hb)
  have HC18 := Lib.hid (show (B.cells (.slice (some ⟨pb, o, none⟩) n c)).size = 18 by simp)
  have HC1 := Lib.hid (B.one (s := .slice (some ⟨pb, o, none⟩) n c) rfl)
  have HC17 := Lib.hid (show (B.cells (.slice (some ⟨pb, o, none⟩) n c))[17]? = some (.slice (some ⟨pb, o, none⟩) n c) by simp)
  have HC6 := Lib.hid (show (B.cells (.slice (some ⟨pb, o, none⟩) n c))[6]? = some (.bool B.rs) by simp)
  have HD18 := Lib.hid (fun pb' cap => (show (B.cells (.slice (some ⟨pb', 0, none⟩) n cap)).size = 18 by simp))
  have HD1 := Lib.hid (fun pb' cap => B.one (s := .slice (some ⟨pb', 0, none⟩) n cap) rfl)
  have i0 := idx32o pb o n c k hk
  have HTK := Lib.hid (ht k hk)
  have zz := zero34
  have zs := Lib.hid z34_size
  have zps := Lib.hid z48_size
  have kDi := Lib.hid (fun w => refdiscard_any (XS k) w (ht k hk))
  have kCh := Lib.hid (fun w => refcheck_any B (.slice (some ⟨pb, o, none⟩) n c) (discX (XS k)) w (discX_typed (ht k hk)))
  have HTC := Lib.hid (checkX_typed B.rs (discX_typed (ht k hk)))
  have HSX := Lib.hid (show startX B.rs (XS k) = edgeX (boolI (checkX B.rs (discX (XS k))) 3) (checkX B.rs (discX (XS k))) from rfl)
  have HTD := Lib.hid (show (discX (XS k)).size = 90 from (discX_typed (ht k hk)).1)
  have zp := zero48
  clear hs ht hpat hx
  have HCE := Lib.hid (show B.cells (.slice (some ⟨pb, o, none⟩) n c) = B.cells (.slice (some ⟨pb, o, none⟩) n c) from rfl)
  generalize hCC : B.cells (.slice (some ⟨pb, o, none⟩) n c) = C at *
  have HCC := Lib.hid hCC
  clear hCC HCE
  generalize z34 = Z at *
  generalize z48 = ZP at *
  generalize hXK : XS k = xs at *
  clear hXK HF0
  generalize checkX B.rs (discX xs) = ys at *
  generalize discX xs = ds at *
  generalize startX B.rs xs = M at *
  have HZP := Lib.hid zp
  go_enter Try.func16, Try.ntmps16
  go_wp2_with (with_reducible refine stopL 34 _ rfl ?_)
  refine Lib.hid ?_
  clear zz
  refine wpList_load_whole uB rfl sB rfl _ rfl rfl (range_whole V1.out) HC18.out ?_
  generalize (w.alloc (.cells C 34)).alloc (.cells Z 34) = w0 at *
  go_wp2_with fail
  refine (kTh.out _).mono ?_
  rintro e w1 ⟨rfl, hb⟩
  have V11 := Lib.hid (V1.out.below hb V1.out.lt)
  have V21 := Lib.hid (V2.out.below hb V2.out.lt)
  have B11 := Lib.hid (B1.out.trans (hb.mono B1.out.size))
  have hl0 := V21.out.lt
  clear hb V1 V2 B1 kTh
  have c17 : w1.cell? ⟨w.heap.size, 17, none⟩ = some (.slice (some ⟨pb, o, none⟩) n c) := by rw [V11.out.cell]; exact HC17.out
  clear zp
  go_upto_region 3 with fail
  go_cut [5] (fun v wx => ∃ xb : Nat, v = .pointer (some ⟨xb, 0, none⟩) ∧ VarAt wx xb ys 53 ∧ Below w1.heap.size w1 wx ∧ w1.heap.size ≤ xb)
  case first =>
    rename_i J K9 hJ hK9
    clear c17
    have zp := HZP.out
    refine wp_region_held_drew (S := fun w' => VarAt w' w.heap.size C 34 ∧ Below w.heap.size w w') (by kernel_rfl) ⟨V11.out.drew, B11.out.drew⟩ (fun hS => ?_)
    refine wpAnyH_take (i := 0) (v := .agg C) rfl (by kernel_rfl) (by kernel_rfl) (by kernel_rfl) (fun _ _ _ h => h) (yields_br (by rfl) _ rfl rfl (fun w9 h9 => h9.1) HC18.out) hS ?_
    simp only [Act.put, List.getElem_toArray, List.getElem_cons_zero, List.getElem_cons_succ, List.setIfInBounds_toArray, List.set_cons_zero, List.set_cons_succ]
    refine wpAnyH_take (i := 1) (v := .pointer (some ⟨w.heap.size, 17, none⟩)) rfl (by kernel_rfl) (by kernel_rfl) (by kernel_rfl) (fun _ _ _ h => h) (Or.inl ⟨by rfl, ?_⟩) hS ?_
    · (intro w9 hS9; go_simp; try with_reducible rfl)
    simp only [Act.put, List.getElem_toArray, List.getElem_cons_zero, List.getElem_cons_succ, List.setIfInBounds_toArray, List.set_cons_zero, List.set_cons_succ]
    refine wpAnyH_take (i := 2) (v := .slice (some ⟨pb, o, none⟩) n c) rfl (by kernel_rfl) (by kernel_rfl) (by kernel_rfl) (fun _ _ _ h => h) (Or.inl ⟨by rfl, ?_⟩) hS ?_
    · (intro w9 hS9; have q : w9.cell? ⟨w.heap.size, 17, none⟩ = some (.slice (some ⟨pb, o, none⟩) n c) := (by rw [hS9.1.cell]; exact HC17.out); go_simp; try with_reducible rfl)
    simp only [Act.put, List.getElem_toArray, List.getElem_cons_zero, List.getElem_cons_succ, List.setIfInBounds_toArray, List.set_cons_zero, List.set_cons_succ]
    refine wpAnyH_take (i := 3) (v := .int .i64 k) rfl (by kernel_rfl) (by kernel_rfl) (by kernel_rfl) (fun _ _ _ h => h) (Or.inl ⟨by rfl, ?_⟩) hS ?_
    · (intro w9 hS9; go_simp; try with_reducible rfl)
    simp only [Act.put, List.getElem_toArray, List.getElem_cons_zero, List.getElem_cons_succ, List.setIfInBounds_toArray, List.set_cons_zero, List.set_cons_succ]
    refine wpAnyH_take (i := 4) (v := .pointer (some ⟨pb, o + k * 90, none⟩)) rfl (by kernel_rfl) (by kernel_rfl) (by kernel_rfl) (fun _ _ _ h => h) (Or.inl ⟨by rfl, ?_⟩) hS ?_
    · (intro w9 hS9; go_simp; try with_reducible rfl)
    simp only [Act.put, List.getElem_toArray, List.getElem_cons_zero, List.getElem_cons_succ, List.setIfInBounds_toArray, List.set_cons_zero, List.set_cons_succ]
    refine wpAnyH_take (i := 5) (v := .agg xs) rfl (by kernel_rfl) (by kernel_rfl) (by kernel_rfl) (fun _ _ _ h => h) (yields_port (by rfl) _ rfl rfl (fun w9 h9 => HPK.out _ h9.2) HTK.out.1) hS ?_
    simp only [Act.put, List.getElem_toArray, List.getElem_cons_zero, List.getElem_cons_succ, List.setIfInBounds_toArray, List.set_cons_zero, List.set_cons_succ]
    have BX := Lib.hid (show Below w1.heap.size w1 w1.drew from (Below.refl _ _).drew)
    generalize w1.drew = wa at *
    refine wpAnyH_ready (rs := [6, 8]) (by kernel_rfl) (by simp) (AllReadyH.cons rfl (fun K hK => ?_) (AllReadyH.cons rfl (fun K hK => ?_) AllReadyH.nil))
    · go_simp
      refine (kDi.out _).mono ?_
      rintro e wb ⟨rfl, hb⟩
      have BY := Lib.hid (BX.out.trans (hb.mono BX.out.size))
      clear BX
      have BX := BY
      clear BY
      refine hK _ _ ⟨hS.1.below hb hS.1.lt, hS.2.trans (hb.mono hS.2.size)⟩ (fun hS => ?_)
      clear hK K hb
      refine wpAnyH_ready (rs := [7, 8]) (by kernel_rfl) (by simp) (AllReadyH.cons rfl (fun K hK => ?_) (AllReadyH.cons rfl (fun K hK => ?_) AllReadyH.nil))
      · go_simp
        refine (kCh.out _).mono ?_
        rintro e wc ⟨rfl, hb⟩
        have BY := Lib.hid (BX.out.trans (hb.mono BX.out.size))
        clear BX
        have BX := BY
        clear BY
        refine hK _ _ ⟨hS.1.below hb hS.1.lt, hS.2.trans (hb.mono hS.2.size)⟩ (fun hS => ?_)
        clear hK K hb
        refine wpAnyH_ready (rs := [8]) (by kernel_rfl) (by simp) (AllReadyH.cons rfl (fun K hK => ?_) AllReadyH.nil)
        go_simp
        have VX := Lib.hid (var_new wc ZP 53)
        have LX := Lib.hid BX.out.size
        have BY := Lib.hid (BX.out.alloc BX.out.size (.cells ZP 53))
        clear BX
        have BX := BY
        clear BY
        refine hK _ _ ⟨hS.1.alloc _, hS.2.alloc hS.2.size _⟩ (fun hS => ?_)
        clear hK K
        generalize xbE : wc.heap.size = xb at *
        clear xbE
        generalize wc.alloc (.cells ZP 53) = wcx at *
        refine wpAnyH_ready (rs := [9]) (by kernel_rfl) (by simp) (AllReadyH.cons rfl (fun K hK => ?_) AllReadyH.nil)
        rw [if_pos (by rfl)]
        refine wp_store_only sP _ _ rfl rfl rfl VX.out HTC.out.one HTC.out.1 (by rw [zps.out]; omega) ?_
        intro w8 hv ho
        simp only [Act.put]
        rw [putL_all _ _ (by rw [zps.out, HTC.out.1])] at hv
        refine hK _ _ ⟨ho.var hS.1 (by have := LX.out; have := V11.out.lt; omega), hS.2.trans (ho.below (by have := LX.out; have := B11.out.size; omega) hS.2.size)⟩ (fun hS => ?_)
        refine wpAnyH_done (by kernel_rfl) ?_ _
        refine hK9 _ _ (Met.intro (hJ _ _ ?_))
        (repeat apply Exists.intro)
        refine ⟨?_, rfl⟩
        exact ⟨_, rfl, hv, BX.out.trans (ho.below LX.out BX.out.size), LX.out⟩
      · go_simp
        have VX := Lib.hid (var_new wb ZP 53)
        have LX := Lib.hid BX.out.size
        have BY := Lib.hid (BX.out.alloc BX.out.size (.cells ZP 53))
        clear BX
        have BX := BY
        clear BY
        refine hK _ _ ⟨hS.1.alloc _, hS.2.alloc hS.2.size _⟩ (fun hS => ?_)
        clear hK K
        generalize xbE : wb.heap.size = xb at *
        clear xbE
        generalize wb.alloc (.cells ZP 53) = wbx at *
        refine wpAnyH_ready (rs := [7]) (by kernel_rfl) (by simp) (AllReadyH.cons rfl (fun K hK => ?_) AllReadyH.nil)
        go_simp
        refine (kCh.out _).mono ?_
        rintro e wcx ⟨rfl, hb⟩
        have VY := Lib.hid (VX.out.below hb VX.out.lt)
        clear VX
        have VX := VY
        clear VY
        have BY := Lib.hid (BX.out.trans (hb.mono BX.out.size))
        clear BX
        have BX := BY
        clear BY
        refine hK _ _ ⟨hS.1.below hb hS.1.lt, hS.2.trans (hb.mono hS.2.size)⟩ (fun hS => ?_)
        clear hK K hb
        refine wpAnyH_ready (rs := [9]) (by kernel_rfl) (by simp) (AllReadyH.cons rfl (fun K hK => ?_) AllReadyH.nil)
        rw [if_pos (by rfl)]
        refine wp_store_only sP _ _ rfl rfl rfl VX.out HTC.out.one HTC.out.1 (by rw [zps.out]; omega) ?_
        intro w8 hv ho
        simp only [Act.put]
        rw [putL_all _ _ (by rw [zps.out, HTC.out.1])] at hv
        refine hK _ _ ⟨ho.var hS.1 (by have := LX.out; have := V11.out.lt; omega), hS.2.trans (ho.below (by have := LX.out; have := B11.out.size; omega) hS.2.size)⟩ (fun hS => ?_)
        refine wpAnyH_done (by kernel_rfl) ?_ _
        refine hK9 _ _ (Met.intro (hJ _ _ ?_))
        (repeat apply Exists.intro)
        refine ⟨?_, rfl⟩
        exact ⟨_, rfl, hv, BX.out.trans (ho.below LX.out BX.out.size), LX.out⟩
    · go_simp
      have VX := Lib.hid (var_new wa ZP 53)
      have LX := Lib.hid BX.out.size
      have BY := Lib.hid (BX.out.alloc BX.out.size (.cells ZP 53))
      clear BX
      have BX := BY
      clear BY
      refine hK _ _ ⟨hS.1.alloc _, hS.2.alloc hS.2.size _⟩ (fun hS => ?_)
      clear hK K
      generalize xbE : wa.heap.size = xb at *
      clear xbE
      generalize wa.alloc (.cells ZP 53) = wax at *
      refine wpAnyH_ready (rs := [6]) (by kernel_rfl) (by simp) (AllReadyH.cons rfl (fun K hK => ?_) AllReadyH.nil)
      go_simp
      refine (kDi.out _).mono ?_
      rintro e wbx ⟨rfl, hb⟩
      have VY := Lib.hid (VX.out.below hb VX.out.lt)
      clear VX
      have VX := VY
      clear VY
      have BY := Lib.hid (BX.out.trans (hb.mono BX.out.size))
      clear BX
      have BX := BY
      clear BY
      refine hK _ _ ⟨hS.1.below hb hS.1.lt, hS.2.trans (hb.mono hS.2.size)⟩ (fun hS => ?_)
      clear hK K hb
      refine wpAnyH_ready (rs := [7]) (by kernel_rfl) (by simp) (AllReadyH.cons rfl (fun K hK => ?_) AllReadyH.nil)
      go_simp
      refine (kCh.out _).mono ?_
      rintro e wcx ⟨rfl, hb⟩
      have VY := Lib.hid (VX.out.below hb VX.out.lt)
      clear VX
      have VX := VY
      clear VY
      have BY := Lib.hid (BX.out.trans (hb.mono BX.out.size))
      clear BX
      have BX := BY
      clear BY
      refine hK _ _ ⟨hS.1.below hb hS.1.lt, hS.2.trans (hb.mono hS.2.size)⟩ (fun hS => ?_)
      clear hK K hb
      refine wpAnyH_ready (rs := [9]) (by kernel_rfl) (by simp) (AllReadyH.cons rfl (fun K hK => ?_) AllReadyH.nil)
      rw [if_pos (by rfl)]
      refine wp_store_only sP _ _ rfl rfl rfl VX.out HTC.out.one HTC.out.1 (by rw [zps.out]; omega) ?_
      intro w8 hv ho
      simp only [Act.put]
      rw [putL_all _ _ (by rw [zps.out, HTC.out.1])] at hv
      refine hK _ _ ⟨ho.var hS.1 (by have := LX.out; have := V11.out.lt; omega), hS.2.trans (ho.below (by have := LX.out; have := B11.out.size; omega) hS.2.size)⟩ (fun hS => ?_)
      refine wpAnyH_done (by kernel_rfl) ?_ _
      refine hK9 _ _ (Met.intro (hJ _ _ ?_))
      (repeat apply Exists.intro)
      refine ⟨?_, rfl⟩
      exact ⟨_, rfl, hv, BX.out.trans (ho.below LX.out BX.out.size), LX.out⟩
  case rest =>
    obtain ⟨xb, rfl, hx, hbx, hlx⟩ := hcut
    have VP := Lib.hid hx
    have VB := Lib.hid (V11.out.below hbx V11.out.lt)
    have VR := Lib.hid (V21.out.below hbx V21.out.lt)
    have B2 := Lib.hid (B11.out.trans (hbx.mono B11.out.size))
    have hxb : w.heap.size + 1 < xb := Nat.lt_of_lt_of_le V21.out.lt hlx
    have c3 : wc.cell? ⟨xb, 3, none⟩ = some (.bool (boolI ys 3)) := by rw [hx.cell]; exact HTC.out.bool 3 rfl
    have c25 : wc.cell? ⟨xb, 25, none⟩ = some (.bool (boolI ys 25)) := by rw [hx.cell]; exact HTC.out.bool 25 rfl
    have c84 : wc.cell? ⟨xb, 84, none⟩ = some (.int .i64 (numI ys 84)) := by rw [hx.cell]; exact HTC.out.num 84 rfl
    have TE := Lib.hid (fun e => edgeX_typed e HTC.out)
    clear hx hbx hlx V11 V21 B11 hl0
    generalize boolI ys 3 = x3 at *
    generalize boolI ys 25 = x25 at *
    generalize numI ys 84 = x84 at *
    cases x3
    · have hM := HSX.out
      subst hM
      have HTY := Lib.hid (TE.out false)
      have fz := VP.out.frozen
      have VPn := Lib.hid (show VarAt _ xb (edgeX false ys) 53 from ((VP.out.set 25 (.bool false)).set 84 (.int .i64 0)))
      have VBn := Lib.hid ((VB.out.set_other (p := ⟨xb, 25, none⟩) (by simp; omega) (.bool false)).set_other (p := ⟨xb, 84, none⟩) (by simp; omega) (.int .i64 0))
      have VRn := Lib.hid ((VR.out.set_other (p := ⟨xb, 25, none⟩) (by simp; omega) (.bool false)).set_other (p := ⟨xb, 84, none⟩) (by simp; omega) (.int .i64 0))
      have Bn := Lib.hid ((B2.out.setCell (p := ⟨xb, 25, none⟩) (by simp; omega) (.bool false)).setCell (p := ⟨xb, 84, none⟩) (by simp; omega) (.int .i64 0))
      go_wp2_with (with_reducible refine stopL 34 _ rfl ?_)
      refine Lib.hid ?_
      refine wpList_load_whole uB rfl sB rfl _ rfl rfl (range_whole VBn.out) HC18.out ?_
      go_wp2_with (with_reducible refine stopL 53 _ rfl ?_)
      refine Lib.hid ?_
      refine wpList_load_whole uP rfl sP rfl _ rfl rfl (range_whole VPn.out) HTY.out.1 ?_
      go_wp2_with fail
      refine (kW.out (edgeX false ys) _ (HSW.out _ Bn.out) HTY.out).mono ?_
      rintro e w4 ⟨pb4, cap4, rfl, hk4, hb⟩
      have VR4 := Lib.hid (VRn.out.below hb VRn.out.lt)
      have B4 := Lib.hid (Bn.out.trans (hb.mono Bn.out.size))
      have hne4 : w.heap.size + 1 < pb4 := by have h1 := hk4.choose_spec.2.2.2; have h2 := VRn.out.lt; omega
      have K4 := Lib.hid hk4
      clear hb hk4 VPn VBn VRn Bn fz
      have HK4 := Lib.hid (HD18.out pb4 cap4)
      have HK1 := Lib.hid (HD1.out pb4 cap4)
      have HFF := Lib.hid (fun e w' ys he hp hb => HF1.out e w' ys pb4 cap4 he hp hb)
      generalize B.cells (.slice (some ⟨pb4, 0, none⟩) n cap4) = D at *
      go_wp2_with (with_reducible refine stopS 34 _ _ rfl ?_)
      refine Lib.hid ?_
      refine wpList_store_only sB rfl _ _ rfl rfl rfl VR4.out HK1.out HK4.out (by rw [zs.out]; omega) ?_
      intro w5 hv ho
      simp only [Act.put]
      rw [putL_all _ _ (by rw [zs.out, HK4.out])] at hv
      have V5 := Lib.hid hv
      have B5 := Lib.hid (B4.out.trans (ho.below (by omega) B4.out.size))
      obtain ⟨A5, hA5, hn5, hs5, hq5⟩ := K4.out
      have P5 := Lib.hid (Kept3.pin (cap := cap4) (show Kept3 w w5 pb4 n _ from ⟨A5, ho.var hA5 (by omega), hn5, hs5, by omega⟩))
      clear hv ho hA5 hn5 hs5 hq5
      go_wp2_with (with_reducible refine stopE ?_)
      refine Lib.hid ?_
      refine bodyPost_ret (v := .agg D) (results_cell_row (p := 4) (ty := 34) rfl _ _ (w.heap.size + 1) 34 _ (0, 0) _ rfl V5.out uB rfl (by rw [sB]; simp [HK4.out])) rfl (HFF.out _ _ _ rfl P5.out B5.out)
    · have hM := HSX.out
      subst hM
      have HTY := Lib.hid (TE.out true)
      have fz := VP.out.frozen
      have VPn := Lib.hid (show VarAt _ xb (upd ys [(25, .bool true), (84, .int .i64 0), (84, .int .i64 1)]) 53 from (((VP.out.set 25 (.bool true)).set 84 (.int .i64 0)).set 84 (.int .i64 1)))
      rw [edgeX_true] at VPn
      have VBn := Lib.hid (((VB.out.set_other (p := ⟨xb, 25, none⟩) (by simp; omega) (.bool true)).set_other (p := ⟨xb, 84, none⟩) (by simp; omega) (.int .i64 0)).set_other (p := ⟨xb, 84, none⟩) (by simp; omega) (.int .i64 1))
      have VRn := Lib.hid (((VR.out.set_other (p := ⟨xb, 25, none⟩) (by simp; omega) (.bool true)).set_other (p := ⟨xb, 84, none⟩) (by simp; omega) (.int .i64 0)).set_other (p := ⟨xb, 84, none⟩) (by simp; omega) (.int .i64 1))
      have Bn := Lib.hid (((B2.out.setCell (p := ⟨xb, 25, none⟩) (by simp; omega) (.bool true)).setCell (p := ⟨xb, 84, none⟩) (by simp; omega) (.int .i64 0)).setCell (p := ⟨xb, 84, none⟩) (by simp; omega) (.int .i64 1))
      go_wp2_with (with_reducible refine stopL 34 _ rfl ?_)
      refine Lib.hid ?_
      refine wpList_load_whole uB rfl sB rfl _ rfl rfl (range_whole VBn.out) HC18.out ?_
      go_wp2_with (with_reducible refine stopL 53 _ rfl ?_)
      refine Lib.hid ?_
      refine wpList_load_whole uP rfl sP rfl _ rfl rfl (range_whole VPn.out) HTY.out.1 ?_
      go_wp2_with fail
      refine (kW.out (edgeX true ys) _ (HSW.out _ Bn.out) HTY.out).mono ?_
      rintro e w4 ⟨pb4, cap4, rfl, hk4, hb⟩
      have VR4 := Lib.hid (VRn.out.below hb VRn.out.lt)
      have B4 := Lib.hid (Bn.out.trans (hb.mono Bn.out.size))
      have hne4 : w.heap.size + 1 < pb4 := by have h1 := hk4.choose_spec.2.2.2; have h2 := VRn.out.lt; omega
      have K4 := Lib.hid hk4
      clear hb hk4 VPn VBn VRn Bn fz
      have HK4 := Lib.hid (HD18.out pb4 cap4)
      have HK1 := Lib.hid (HD1.out pb4 cap4)
      have HFF := Lib.hid (fun e w' ys he hp hb => HF1.out e w' ys pb4 cap4 he hp hb)
      generalize B.cells (.slice (some ⟨pb4, 0, none⟩) n cap4) = D at *
      go_wp2_with (with_reducible refine stopS 34 _ _ rfl ?_)
      refine Lib.hid ?_
      refine wpList_store_only sB rfl _ _ rfl rfl rfl VR4.out HK1.out HK4.out (by rw [zs.out]; omega) ?_
      intro w5 hv ho
      simp only [Act.put]
      rw [putL_all _ _ (by rw [zs.out, HK4.out])] at hv
      have V5 := Lib.hid hv
      have B5 := Lib.hid (B4.out.trans (ho.below (by omega) B4.out.size))
      obtain ⟨A5, hA5, hn5, hs5, hq5⟩ := K4.out
      have P5 := Lib.hid (Kept3.pin (cap := cap4) (show Kept3 w w5 pb4 n _ from ⟨A5, ho.var hA5 (by omega), hn5, hs5, by omega⟩))
      clear hv ho hA5 hn5 hs5 hq5
      go_wp2_with (with_reducible refine stopE ?_)
      refine Lib.hid ?_
      refine bodyPost_ret (v := .agg D) (results_cell_row (p := 4) (ty := 34) rfl _ _ (w.heap.size + 1) 34 _ (0, 0) _ rfl V5.out uB rfl (by rw [sB]; simp [HK4.out])) rfl (HFF.out _ _ _ rfl P5.out B5.out)
end Go.Proofs.Ythkmhnajhhomoaa
