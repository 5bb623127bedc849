/- PortTicks' call. -/
import Derived.Test.YtegbkpbdgdmhgaaU
import Derived.Test.YtegbkpbdgdmhgaaK
namespace Go.Proofs.Ytegbkpbdgdmhgaa
open Go.RowKit Go.Sort

theorem neNil (w : World) : (binOp .neq 40 (.pointer none) (.pointer none)).run Try.prog w = .ok (.bool false) w := by kernel_rfl
theorem neSome (b o : Nat) (w : World) : (binOp .neq 40 (.pointer (some ⟨b, o, none⟩)) (.pointer none)).run Try.prog w = .ok (.bool true) w := by kernel_rfl
theorem neSame (b o : Nat) (w : World) : (binOp .neq 40 (.pointer (some ⟨b, o, none⟩)) (.pointer (some ⟨b, o, none⟩))).run Try.prog w = .ok (.bool false) w := by
  have u : Try.prog.underlying 40 = some (.pointer 49) := by kernel_rfl
  have e : (Op.equalIn Op.maxDepth 40 (.pointer (some ⟨b, o, none⟩)) (.pointer (some ⟨b, o, none⟩))).run Try.prog w = .ok true w := by
    show (Op.equalIn (9999+1) 40 _ _).run Try.prog w = _
    unfold Op.equalIn
    simp [run_underlying u, sameAddr]
  unfold binOp
  simp only [Op.equal]
  simp [e]
set_option maxRecDepth 20000 in
set_option maxHeartbeats 4000000 in
theorem ticks_any (B : Bd) (s : Value) (n : Nat) (i : Int) (XS : Nat → Array Value) (w : World) (hs : PIn w s n XS) (ht : ∀ i, i < n → Typed (XS i)) :
    Calls Try.prog 3 #[.agg (B.cells s), .int .i64 i] w fun e w' => e = .returned (.bool true) ∧ Below w.heap.size w w' := by
  have hx : ∀ i, i < n → (XS i).size = 90 := fun i hi => (ht i hi).1
  have hv0 := Lib.hid (var_new w (B.cells s) 34)
  have hB0 := Lib.hid (box_below w (.cells (B.cells s) 34))
  have HX := Lib.hid hx
  have HT := Lib.hid ht
  have HSW := Lib.hid hs
  have HC18 := Lib.hid (show (B.cells s).size = 18 by simp)
  have kF := Lib.hid (fun w => fits_any B s n XS w)
  have kCp := Lib.hid (fun w => copy_any B s n XS w)
  have kTk := Lib.hid (fun bb pb cap w => tick_any B bb pb n cap XS w)
  have kRf := Lib.hid (fun w => reftick_any B s n XS w)
  have kZ := Lib.hid zero34
  have HC17 := Lib.hid (show (B.cells s)[17]? = some s by simp)
  obtain ⟨sa, sc, rfl⟩ : ∃ a c, s = .slice a n c := by obtain ⟨a, c, rfl, _⟩ := hs; exact ⟨a, c, rfl⟩
  clear hs ht hx
  generalize B.cells (.slice sa n sc) = C at *
  go_enter Try.func3, Try.ntmps3
  go_wp2_with fail
  generalize w.alloc (.cells C 34) = w0 at *
  refine (lives_any _).mono ?_
  rintro e w1 ⟨rfl, hb⟩
  have V1 := Lib.hid (hv0.out.below hb hv0.out.lt)
  have B1 := Lib.hid (hB0.out.trans (hb.mono hB0.out.size))
  clear hb hv0 hB0
  go_wp2_with (with_reducible refine stopL 34 _ rfl ?_)
  refine Lib.hid ?_
  refine guarded_load (by rfl) _ rfl rfl V1.out HC18.out ?_
  go_wp2_with fail
  refine (kF.out _ (HSW.out.below HX.out B1.out) HT.out).mono ?_
  rintro e w2 ⟨⟨q, rfl, hqn⟩, hb⟩
  have V2 := Lib.hid (V1.out.below hb V1.out.lt)
  have B2 := Lib.hid (B1.out.trans (hb.mono B1.out.size))
  clear hb V1 B1
  cases q
  · go_wp2_with fail
    refine (lives_any _).mono ?_
    rintro e w3 ⟨rfl, hb⟩
    have B3 := Lib.hid (B2.out.trans (hb.mono B2.out.size))
    clear hb
    go_wp2_with fail
    go_ret
    exact ⟨rfl, B3.out⟩
  · have hn := hqn rfl
    clear hqn
    go_wp2_with (with_reducible refine stopL 34 _ rfl ?_)
    refine Lib.hid ?_
    refine wpList_load_whole uB rfl sB rfl _ rfl rfl (range_whole V2.out) HC18.out ?_
    go_wp2_with fail
    refine (kCp.out _ (HSW.out.below HX.out B2.out) hn HT.out).mono ?_
    rintro e w3 ⟨pb, cap, rfl, ⟨A, hA, hAn, hAs, hpb⟩, hb⟩
    have V3 := Lib.hid (V2.out.below hb V2.out.lt)
    have B3 := Lib.hid (B2.out.trans (hb.mono B2.out.size))
    have hlt0 : w.heap.size < pb := Nat.lt_of_lt_of_le V2.out.lt hpb
    have PA := Lib.hid hA
    have PN := Lib.hid hAn
    have PS := Lib.hid hAs
    clear hb hA hAn hAs V2 B2 hpb
    have hC1 := Lib.hid (show (B.cells (.slice (some ⟨pb, 0, none⟩) n cap)).size = 18 by simp)
    have hO1 := Lib.hid (B.one (s := .slice (some ⟨pb, 0, none⟩) n cap) rfl)
    have HBR := Lib.hid (fun w' bb XS' => Br.mk (w := w') (B := B) (bb := bb) (pb := pb) (n := n) (cap := cap) (XS := XS'))
    have HBR2 := Lib.hid (fun w' bb XS' => Br.hb (w := w') (B := B) (bb := bb) (pb := pb) (n := n) (cap := cap) (XS := XS'))
    have HC1 := Lib.hid (show (B.cells (.slice (some ⟨pb, 0, none⟩) n cap))[17]? = some (.slice (some ⟨pb, 0, none⟩) n cap) by simp)
    have kSm := Lib.hid (fun p2 c2 A1 A2 w => same_any B pb p2 n cap c2 A1 A2 (fun i => tkX (XS i)) w)
    generalize B.cells (.slice (some ⟨pb, 0, none⟩) n cap) = C1 at *
    have zz := kZ.out
    have zs := Lib.hid z34_size
    generalize z34 = Z3 at *
    go_wp2_with (with_reducible refine stopS 34 _ _ rfl ?_)
    refine Lib.hid ?_
    clear zz
    refine wpList_store_only sB rfl _ _ rfl rfl rfl (var_new w3 Z3 34) hO1.out hC1.out (by rw [zs.out]; omega) ?_
    intro w4 hv4 ho4
    simp only [Act.put]
    rw [putL_all _ _ (by rw [zs.out, hC1.out])] at hv4
    have hb4 : Below w3.heap.size w3 w4 := (box_below w3 _).trans (ho4.below (Nat.le_refl _) (by rw [alloc_size]; omega))
    have VX := Lib.hid hv4
    have V4 := Lib.hid (V3.out.below hb4 V3.out.lt)
    have PA4 := Lib.hid (PA.out.below hb4 PA.out.lt)
    have B4 := Lib.hid (B3.out.trans (hb4.mono B3.out.size))
    have hxw : w.heap.size < w3.heap.size := Nat.lt_of_lt_of_le (Nat.lt_succ_self _) (Nat.succ_le_of_lt V3.out.lt)
    clear hv4 ho4 hb4 V3 B3 PA
    generalize w3.heap.size = xb at *
    have BR4 := Lib.hid (HBR.out w4 xb XS VX.out ⟨A, PA4.out, PN.out, PS.out⟩)
    clear PA4 PN PS VX
    go_wp2_with fail
    refine (tickNil _).mono ?_
    rintro e w5 ⟨rfl, rfl⟩
    have kT := Lib.hid (kTk.out xb pb cap w4 BR4.out HT.out hn)
    go_wp2_with fail
    refine kT.out.mono ?_
    rintro e w5 ⟨rfl, hbr, ho⟩
    have V5 := Lib.hid (ho.var V4.out (by omega))
    have B5 := Lib.hid (B4.out.trans (ho.below (by omega) B4.out.size))
    have BR5 := Lib.hid hbr
    have VX5 := Lib.hid (HBR2.out w5 xb _ hbr)
    clear hbr ho V4 B4 BR4 kT
    have c17 : w5.cell? ⟨w.heap.size, 17, none⟩ = some (.slice sa n sc) := by rw [V5.out.cell]; exact HC17.out
    have c17x : w5.cell? ⟨xb, 17, none⟩ = some (.slice (some ⟨pb, 0, none⟩) n cap) := by rw [VX5.out.cell]; exact HC1.out
    have j1 := neNil
    by_cases hi : 0 ≤ i ∧ i < n
    · obtain ⟨k, rfl⟩ : ∃ k : Nat, i = k := ⟨i.toNat, by omega⟩
      have hk : k < n := by omega
      have kO := Lib.hid (of_some B xb pb n cap k _ w5 BR5.out hk)
      have i0 := idx32b pb n cap k hk
      have j2 := neSome pb (k * 90)
      have j3 := neSame pb (k * 90)
      have h1 : decide ((k : Int) < 0) = false := by simp
      clear hi
      go_wp2_with fail
      refine kO.out.mono ?_
      rintro e w6 ⟨rfl, rfl⟩
      clear kO
      go_wp2_with fail
      refine (ofNil _ _).mono ?_
      rintro e w6 ⟨rfl, rfl⟩
      go_wp2_with fail
      refine wp_region_held_drew (S := fun w' => VarAt w' xb C1 34 ∧ VarAt w' w.heap.size C 34) (by kernel_rfl) ⟨VX5.out.drew, V5.out.drew⟩ (fun hS => ?_)
      refine wpAnyH_take (i := 0) (v := .agg C1) rfl (by kernel_rfl) (by kernel_rfl) (by kernel_rfl) (fun _ _ _ h => h) (yields_br (by rfl) _ rfl rfl (fun w9 h9 => h9.1) hC1.out) hS ?_
      simp only [Act.put, List.getElem_toArray, List.getElem_cons_zero, List.setIfInBounds_toArray, List.set_cons_zero, List.set_cons_succ]
      refine wpAnyH_take (i := 1) (v := .agg C) rfl (by kernel_rfl) (by kernel_rfl) (by kernel_rfl) (fun _ _ _ h => h) (yields_br (by rfl) _ rfl rfl (fun w9 h9 => h9.2) HC18.out) hS ?_
      simp only [Act.put, List.getElem_toArray, List.getElem_cons_zero, List.getElem_cons_succ, List.setIfInBounds_toArray, List.set_cons_zero, List.set_cons_succ]
      refine wpAnyH_ready (rs := [2]) (by kernel_rfl) (by simp) (AllReadyH.cons rfl (fun K hK => ?_) AllReadyH.nil)
      go_simp
      refine (kRf.out _ (HSW.out.below HX.out B5.out.drew) hn HT.out).mono ?_
      rintro e w6 ⟨p2, cap2, rfl, ⟨A2, hA2, hA2n, hA2s, hp2⟩, hb⟩
      have B6 := Lib.hid (B5.out.drew.trans (hb.mono B5.out.size))
      obtain ⟨A1, hA1, hA1n, hA1s⟩ := (BR5.out.drew.below hb).ex
      have kS := Lib.hid (kSm.out p2 cap2 A1 A2 w6 hA1 hA2 hA1s hA2s (fun j hj => tkX_typed (HT.out j hj)) hn)
      have hS6 : VarAt w6 xb C1 34 ∧ VarAt w6 w.heap.size C 34 := ⟨hS.1.below hb hS.1.lt, hS.2.below hb hS.2.lt⟩
      clear hb hA2 hA2n hA2s hp2 hA1 hA1n hA1s B5 V5 VX5 BR5
      generalize B.cells (.slice (some ⟨p2, 0, none⟩) n cap2) = C3 at *
      refine hK.out _ _ hS6 (fun hS => ?_)
      clear hK K hS6
      refine wpAnyH_ready (rs := [3]) (by kernel_rfl) (by simp) (AllReadyH.cons rfl (fun K hK => ?_) AllReadyH.nil)
      go_simp
      refine kS.out.mono ?_
      rintro e w7 ⟨rfl, hb⟩
      have B8 := Lib.hid (B6.out.trans (hb.mono B6.out.size))
      have hS8 : VarAt w7 xb C1 34 ∧ VarAt w7 w.heap.size C 34 := ⟨hS.1.below hb hS.1.lt, hS.2.below hb hS.2.lt⟩
      refine hK.out _ _ hS8 (fun hS => ?_)
      clear hK K hS8 hb
      refine wpAnyH_take (i := 4) (v := ?_) rfl (by kernel_rfl) (by kernel_rfl) (by kernel_rfl) (fun _ _ _ h => h) (Or.inl ⟨by rfl, ?_⟩) hS ?_
      rotate_left
      · (intro w9 hS9; go_simp; try with_reducible rfl)
      simp only [Act.put, List.getElem_toArray, List.getElem_cons_zero, List.getElem_cons_succ, List.setIfInBounds_toArray, List.set_cons_zero, List.set_cons_succ]
      refine wpAnyH_done (by kernel_rfl) ?_ _
      go_wp2_with fail
      go_ret
      exact ⟨rfl, B8.out⟩
    · have kO := Lib.hid (of_none B xb pb n cap i _ w5 BR5.out (by omega))
      have hi2 : i < 0 ∨ (n : Int) ≤ i := by omega
      have HI2 := Lib.hid hi2
      clear hi hi2
      by_cases h0 : i < 0
      · go_wp2_with fail
        refine kO.out.mono ?_
        rintro e w6 ⟨rfl, rfl⟩
        clear kO
        go_wp2_with fail
        refine (ofNil _ _).mono ?_
        rintro e w6 ⟨rfl, rfl⟩
        go_wp2_with fail
        refine wp_region_held_drew (S := fun w' => VarAt w' xb C1 34 ∧ VarAt w' w.heap.size C 34) (by kernel_rfl) ⟨VX5.out.drew, V5.out.drew⟩ (fun hS => ?_)
        refine wpAnyH_take (i := 0) (v := .agg C1) rfl (by kernel_rfl) (by kernel_rfl) (by kernel_rfl) (fun _ _ _ h => h) (yields_br (by rfl) _ rfl rfl (fun w9 h9 => h9.1) hC1.out) hS ?_
        simp only [Act.put, List.getElem_toArray, List.getElem_cons_zero, List.setIfInBounds_toArray, List.set_cons_zero, List.set_cons_succ]
        refine wpAnyH_take (i := 1) (v := .agg C) rfl (by kernel_rfl) (by kernel_rfl) (by kernel_rfl) (fun _ _ _ h => h) (yields_br (by rfl) _ rfl rfl (fun w9 h9 => h9.2) HC18.out) hS ?_
        simp only [Act.put, List.getElem_toArray, List.getElem_cons_zero, List.getElem_cons_succ, List.setIfInBounds_toArray, List.set_cons_zero, List.set_cons_succ]
        refine wpAnyH_ready (rs := [2]) (by kernel_rfl) (by simp) (AllReadyH.cons rfl (fun K hK => ?_) AllReadyH.nil)
        go_simp
        refine (kRf.out _ (HSW.out.below HX.out B5.out.drew) hn HT.out).mono ?_
        rintro e w6 ⟨p2, cap2, rfl, ⟨A2, hA2, hA2n, hA2s, hp2⟩, hb⟩
        have B6 := Lib.hid (B5.out.drew.trans (hb.mono B5.out.size))
        obtain ⟨A1, hA1, hA1n, hA1s⟩ := (BR5.out.drew.below hb).ex
        have kS := Lib.hid (kSm.out p2 cap2 A1 A2 w6 hA1 hA2 hA1s hA2s (fun j hj => tkX_typed (HT.out j hj)) hn)
        have hS6 : VarAt w6 xb C1 34 ∧ VarAt w6 w.heap.size C 34 := ⟨hS.1.below hb hS.1.lt, hS.2.below hb hS.2.lt⟩
        clear hb hA2 hA2n hA2s hp2 hA1 hA1n hA1s B5 V5 VX5 BR5
        generalize B.cells (.slice (some ⟨p2, 0, none⟩) n cap2) = C3 at *
        refine hK.out _ _ hS6 (fun hS => ?_)
        clear hK K hS6
        refine wpAnyH_ready (rs := [3]) (by kernel_rfl) (by simp) (AllReadyH.cons rfl (fun K hK => ?_) AllReadyH.nil)
        go_simp
        refine kS.out.mono ?_
        rintro e w7 ⟨rfl, hb⟩
        have B8 := Lib.hid (B6.out.trans (hb.mono B6.out.size))
        have hS8 : VarAt w7 xb C1 34 ∧ VarAt w7 w.heap.size C 34 := ⟨hS.1.below hb hS.1.lt, hS.2.below hb hS.2.lt⟩
        refine hK.out _ _ hS8 (fun hS => ?_)
        clear hK K hS8 hb
        refine wpAnyH_take (i := 4) (v := ?_) rfl (by kernel_rfl) (by kernel_rfl) (by kernel_rfl) (fun _ _ _ h => h) (Or.inl ⟨by rfl, ?_⟩) hS ?_
        rotate_left
        · (intro w9 hS9; go_simp; try with_reducible rfl)
        simp only [Act.put, List.getElem_toArray, List.getElem_cons_zero, List.getElem_cons_succ, List.setIfInBounds_toArray, List.set_cons_zero, List.set_cons_succ]
        refine wpAnyH_done (by kernel_rfl) ?_ _
        go_wp2_with fail
        go_ret
        exact ⟨rfl, B8.out⟩
      · have h1 : (n : Int) ≤ i := by have := HI2.out; omega
        go_wp2_with fail
        refine kO.out.mono ?_
        rintro e w6 ⟨rfl, rfl⟩
        clear kO
        go_wp2_with fail
        refine (ofNil _ _).mono ?_
        rintro e w6 ⟨rfl, rfl⟩
        go_wp2_with fail
        refine wp_region_held_drew (S := fun w' => VarAt w' xb C1 34 ∧ VarAt w' w.heap.size C 34) (by kernel_rfl) ⟨VX5.out.drew, V5.out.drew⟩ (fun hS => ?_)
        refine wpAnyH_take (i := 0) (v := .agg C1) rfl (by kernel_rfl) (by kernel_rfl) (by kernel_rfl) (fun _ _ _ h => h) (yields_br (by rfl) _ rfl rfl (fun w9 h9 => h9.1) hC1.out) hS ?_
        simp only [Act.put, List.getElem_toArray, List.getElem_cons_zero, List.setIfInBounds_toArray, List.set_cons_zero, List.set_cons_succ]
        refine wpAnyH_take (i := 1) (v := .agg C) rfl (by kernel_rfl) (by kernel_rfl) (by kernel_rfl) (fun _ _ _ h => h) (yields_br (by rfl) _ rfl rfl (fun w9 h9 => h9.2) HC18.out) hS ?_
        simp only [Act.put, List.getElem_toArray, List.getElem_cons_zero, List.getElem_cons_succ, List.setIfInBounds_toArray, List.set_cons_zero, List.set_cons_succ]
        refine wpAnyH_ready (rs := [2]) (by kernel_rfl) (by simp) (AllReadyH.cons rfl (fun K hK => ?_) AllReadyH.nil)
        go_simp
        refine (kRf.out _ (HSW.out.below HX.out B5.out.drew) hn HT.out).mono ?_
        rintro e w6 ⟨p2, cap2, rfl, ⟨A2, hA2, hA2n, hA2s, hp2⟩, hb⟩
        have B6 := Lib.hid (B5.out.drew.trans (hb.mono B5.out.size))
        obtain ⟨A1, hA1, hA1n, hA1s⟩ := (BR5.out.drew.below hb).ex
        have kS := Lib.hid (kSm.out p2 cap2 A1 A2 w6 hA1 hA2 hA1s hA2s (fun j hj => tkX_typed (HT.out j hj)) hn)
        have hS6 : VarAt w6 xb C1 34 ∧ VarAt w6 w.heap.size C 34 := ⟨hS.1.below hb hS.1.lt, hS.2.below hb hS.2.lt⟩
        clear hb hA2 hA2n hA2s hp2 hA1 hA1n hA1s B5 V5 VX5 BR5
        generalize B.cells (.slice (some ⟨p2, 0, none⟩) n cap2) = C3 at *
        refine hK.out _ _ hS6 (fun hS => ?_)
        clear hK K hS6
        refine wpAnyH_ready (rs := [3]) (by kernel_rfl) (by simp) (AllReadyH.cons rfl (fun K hK => ?_) AllReadyH.nil)
        go_simp
        refine kS.out.mono ?_
        rintro e w7 ⟨rfl, hb⟩
        have B8 := Lib.hid (B6.out.trans (hb.mono B6.out.size))
        have hS8 : VarAt w7 xb C1 34 ∧ VarAt w7 w.heap.size C 34 := ⟨hS.1.below hb hS.1.lt, hS.2.below hb hS.2.lt⟩
        refine hK.out _ _ hS8 (fun hS => ?_)
        clear hK K hS8 hb
        refine wpAnyH_take (i := 4) (v := ?_) rfl (by kernel_rfl) (by kernel_rfl) (by kernel_rfl) (fun _ _ _ h => h) (Or.inl ⟨by rfl, ?_⟩) hS ?_
        rotate_left
        · (intro w9 hS9; go_simp; try with_reducible rfl)
        simp only [Act.put, List.getElem_toArray, List.getElem_cons_zero, List.getElem_cons_succ, List.setIfInBounds_toArray, List.set_cons_zero, List.set_cons_succ]
        refine wpAnyH_done (by kernel_rfl) ?_ _
        go_wp2_with fail
        go_ret
        exact ⟨rfl, B8.out⟩
end Go.Proofs.Ytegbkpbdgdmhgaa
