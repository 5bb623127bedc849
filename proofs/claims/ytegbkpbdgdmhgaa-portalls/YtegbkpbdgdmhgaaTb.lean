/- PortAlls' call. -/
import Derived.Test.YtegbkpbdgdmhgaaTc
namespace Go.Proofs.Ytegbkpbdgdmhgaa
open Go.RowKit Go.Sort

theorem pc_only {w w' : World} {p b n : Nat} {XS : Nat → Array Value} (h : ∃ A, VarAt w p A 49 ∧ n * 90 ≤ A.size ∧ ∀ i, i < n → Sub A (i * 90) (XS i)) (ho : Only b w w') (hp : p ≠ b) : ∃ A, VarAt w' p A 49 ∧ n * 90 ≤ A.size ∧ ∀ i, i < n → Sub A (i * 90) (XS i) := by
  obtain ⟨A, h1, h2⟩ := h
  exact ⟨A, ho.var h1 hp, h2⟩
set_option maxRecDepth 20000 in
set_option maxHeartbeats 8000000 in
theorem alls_any (B : Bd) (s : Value) (n : Nat) (i : Int) (XS : Nat → Array Value) (w : World) (hs : PIn w s n XS) (ht : ∀ i, i < n → Typed (XS i)) :
    Calls Try.prog 4 #[.agg (B.cells s), .int .i64 i] w fun e w' => e = .returned (.bool true) ∧ Below w.heap.size w w' := by
  have hx : ∀ i, i < n → (XS i).size = 90 := fun i hi => (ht i hi).1
  have hv0 := Lib.hid (var_new w (B.cells s) 34)
  have hB0 := Lib.hid (box_below w (.cells (B.cells s) 34))
  have HX := Lib.hid hx
  have HT := Lib.hid ht
  have HSW := Lib.hid hs
  have HC18 := Lib.hid (show (B.cells s).size = 18 by simp)
  obtain ⟨D, hD⟩ : ∃ D : Nat → Nat → Array Value, ∀ p c, D p c = B.cells (.slice (some ⟨p, 0, none⟩) n c) := ⟨_, fun _ _ => rfl⟩
  have HD := Lib.hid hD
  have HDz := Lib.hid (fun p c => show (D p c).size = 18 by rw [hD]; simp)
  have HDo := Lib.hid (fun p c => show (D p c).all (·.oneCell') = true by rw [hD]; exact B.one rfl)
  have kF := Lib.hid (fun w => fits_any B s n XS w)
  have kCp := Lib.hid (fun (hn : n ≤ 20) w (h : PIn w s n XS) => show Calls Try.prog 7 #[.agg (B.cells s)] w fun e w' => ∃ pb cap, e = .returned (.agg (D pb cap)) ∧ Kept3 w w' pb n XS ∧ Below w.heap.size w w' by
    simp only [hD]; exact copy_any B s n XS w h hn ht)
  have kR1 := Lib.hid (fun (hn : n ≤ 20) w (h : PIn w s n XS) => show Calls Try.prog 19 #[.agg (B.cells s)] w fun e w' => ∃ pb cap, e = .returned (.agg (D pb cap)) ∧ Kept3 w w' pb n (fun j => onX 41 (XS j)) ∧ Below w.heap.size w w' by
    simp only [hD]; exact refsync_any B s n XS w h hn ht)
  have kR2 := Lib.hid (fun (hn : n ≤ 20) w (h : PIn w s n XS) => show Calls Try.prog 20 #[.agg (B.cells s)] w fun e w' => ∃ pb cap, e = .returned (.agg (D pb cap)) ∧ Kept3 w w' pb n (fun j => onX 28 (XS j)) ∧ Below w.heap.size w w' by
    simp only [hD]; exact refreroot_any B s n XS w h hn ht)
  have kR3 := Lib.hid (fun (hn : n ≤ 20) w (h : PIn w s n XS) => show Calls Try.prog 21 #[.agg (B.cells s), .int .i64 i] w fun e w' => ∃ pb cap, e = .returned (.agg (D pb cap)) ∧ Kept3 w w' pb n (fun j => propX i j (XS j)) ∧ Below w.heap.size w w' by
    simp only [hD]; exact refprop_any i B s n XS w h hn ht)
  have kRS := Lib.hid (fun (hn : n ≤ 20) w (h : PIn w s n XS) => refsynced_any B s n XS w h ht hn)
  have kRR := Lib.hid (fun (hn : n ≤ 20) w (h : PIn w s n XS) => refrerooted_any i B s n XS w h ht hn)
  have kS := Lib.hid (fun (hn : n ≤ 20) bb w hb (h : PIn w s n XS) => synced_any B s bb n XS w hb h ht hn)
  have kR := Lib.hid (fun (hn : n ≤ 20) bb w hb (h : PIn w s n XS) => rerooted_any i B s bb n XS w hb h ht hn)
  have kSm := Lib.hid (fun (hn : n ≤ 20) (YS : Nat → Array Value) (hy : ∀ i, i < n → Typed (YS i)) p1 p2 c1 c2 A1 A2 w h1 h2 s1 s2 => show Calls Try.prog 10 #[.agg (D p1 c1), .agg (D p2 c2)] w fun e w' => e = .returned (.bool true) ∧ Below w.heap.size w w' by
    simp only [hD]; exact same_any B p1 p2 n c1 c2 A1 A2 YS w h1 h2 s1 s2 hy hn)
  clear hs ht hx hD
  generalize B.cells s = C at *
  go_enter Try.func4, Try.ntmps4
  go_wp2_with fail
  generalize w.alloc (.cells C 34) = w0 at *
  refine (lives_any _).mono ?_
  rintro e w1 ⟨rfl, hb⟩
  have V1 := Lib.hid (hv0.out.below hb hv0.out.lt)
  have B1 := Lib.hid (hB0.out.trans (hb.mono hB0.out.size))
  clear hb hv0 hB0
  go_wp2_with (with_reducible refine stopL 34 _ rfl ?_)
  refine Lib.hid ?_
  refine guarded_load (by rfl) _ rfl rfl V1.out HC18.out ?_
  go_wp2_with fail
  refine (kF.out _ (HSW.out.below HX.out B1.out) HT.out).mono ?_
  rintro e w2 ⟨⟨q, rfl, hqn⟩, hb⟩
  have V2 := Lib.hid (V1.out.below hb V1.out.lt)
  have B2 := Lib.hid (B1.out.trans (hb.mono B1.out.size))
  clear hb V1 B1
  cases q
  · go_wp2_with fail
    refine (lives_any _).mono ?_
    rintro e w3 ⟨rfl, hb⟩
    have B3 := Lib.hid (B2.out.trans (hb.mono B2.out.size))
    clear hb
    go_wp2_with fail
    go_ret
    exact ⟨rfl, B3.out⟩
  · have hn := hqn rfl
    clear hqn
    go_wp2_with fail
    have zz := zero34
    have zs := Lib.hid z34_size
    generalize z34 = Z at *
    have hst := Lib.hid (show St C Z s n w.heap.size XS w w2.drew [] none none none from ⟨V2.out.drew, HSW.out.below HX.out B2.out.drew, B2.out.drew, fun _ h => (by cases h), List.nodup_nil, fun _ h => (by cases h), fun _ h => (by cases h), fun _ h => (by cases h), fun _ h => (by cases h), fun _ h => (by cases h), fun _ h => (by cases h)⟩)
    refine wp_region_held_drew (S := fun w' => VarAt w' w.heap.size C 34) (by kernel_rfl) V2.out.drew (fun hS => ?_)
    refine wpAnyH_take (i := 0) (v := .agg C) rfl (by kernel_rfl) (by kernel_rfl) (by kernel_rfl) (fun _ _ _ h => h) (yields_br (by rfl) _ rfl rfl (fun w9 h9 => h9) HC18.out) hS ?_
    simp only [Act.put, List.getElem_toArray, List.getElem_cons_zero, List.setIfInBounds_toArray, List.set_cons_zero, List.set_cons_succ]
    refine wpAnyH_take (i := 2) (v := .agg C) rfl (by kernel_rfl) (by kernel_rfl) (by kernel_rfl) (fun _ _ _ h => h) (yields_br (by rfl) _ rfl rfl (fun w9 h9 => h9) HC18.out) hS ?_
    simp only [Act.put, List.getElem_toArray, List.getElem_cons_zero, List.getElem_cons_succ, List.setIfInBounds_toArray, List.set_cons_zero, List.set_cons_succ]
    refine wpAnyH_take (i := 4) (v := .agg C) rfl (by kernel_rfl) (by kernel_rfl) (by kernel_rfl) (fun _ _ _ h => h) (yields_br (by rfl) _ rfl rfl (fun w9 h9 => h9) HC18.out) hS ?_
    simp only [Act.put, List.getElem_toArray, List.getElem_cons_zero, List.getElem_cons_succ, List.setIfInBounds_toArray, List.set_cons_zero, List.set_cons_succ]
    refine st0 HX.out (Lib.hid (kCp.out hn)) zz (Lib.hid (fun w3 p1 c1 p2 c2 p3 c3 ex ey ez hst => ?_)) _ hst.out
    clear zz
    have hx1 := (hst.ax ex rfl).2
    have hy1 := (hst.ay ey rfl).2
    have hz1 := (hst.az ez rfl).2
    have hxy : ey ≠ ex := fun e => hst.xy ex rfl (by rw [e])
    have hxz : ez ≠ ex := fun e => hst.xz ex rfl (by rw [e])
    have hyz : ez ≠ ey := fun e => hst.yz ey rfl (by rw [e])
    have hnd := hst.nd
    simp at hnd
    have h21 : p2 ≠ p1 := fun e => hnd.2 e
    have h31 : p3 ≠ p1 := fun e => hnd.1.2 e
    have h32 : p3 ≠ p2 := fun e => hnd.1.1 e
    have hqx := (hst.ax ex rfl).1
    have hqy := (hst.ay ey rfl).1
    have hqz := (hst.az ez rfl).1
    have hqp1 := (hst.pc p1 (by simp)).1
    have hqp2 := (hst.pc p2 (by simp)).1
    have hqp3 := (hst.pc p3 (by simp)).1
    have Q1 := Lib.hid (hst.pc p1 (by simp)).2
    have Q2 := Lib.hid (hst.pc p2 (by simp)).2
    have Q3 := Lib.hid (hst.pc p3 (by simp)).2
    have V3 := Lib.hid hst.hb
    have B3 := Lib.hid hst.bel
    have ne1 : ∀ p e, (∃ A, VarAt w3 p A 49 ∧ n * 90 ≤ A.size ∧ ∀ i, i < n → Sub A (i * 90) (XS i)) → VarAt w3 e Z 34 → p ≠ e := fun p e ⟨A, h1, _⟩ h2 => var_ne h1 h2 (by decide)
    have n1x := ne1 p1 ex Q1.out hx1
    have n1y := ne1 p1 ey Q1.out hy1
    have n1z := ne1 p1 ez Q1.out hz1
    have n2x := ne1 p2 ex Q2.out hx1
    have n2y := ne1 p2 ey Q2.out hy1
    have n2z := ne1 p2 ez Q2.out hz1
    have n3x := ne1 p3 ex Q3.out hx1
    have n3y := ne1 p3 ey Q3.out hy1
    have n3z := ne1 p3 ez Q3.out hz1
    have VX := Lib.hid hx1
    have VY := Lib.hid hy1
    have VZ := Lib.hid hz1
    clear ne1 hnd hst hx1 hy1 hz1 V2 B2
    refine wpAnyH_ready (rs := [9]) (by kernel_rfl) (by simp) (AllReadyH.cons rfl (fun K hK => ?_) AllReadyH.nil)
    rw [if_pos (by rfl)]
    refine wp_store_only sB _ _ rfl rfl rfl VX.out (HDo.out _ _) (HDz.out _ _) (by rw [zs.out]; omega) ?_
    intro w4 hv ho
    simp only [Act.put]
    rw [putL_all _ _ (by rw [zs.out, HDz.out])] at hv
    replace VX := Lib.hid hv
    replace VY := Lib.hid (ho.var VY.out (by omega))
    replace VZ := Lib.hid (ho.var VZ.out (by omega))
    replace V3 := Lib.hid (ho.var V3.out (by omega))
    replace B3 := Lib.hid (B3.out.trans (ho.below (by omega) B3.out.size))
    replace Q1 := Lib.hid (pc_only Q1.out ho n1x)
    replace Q2 := Lib.hid (pc_only Q2.out ho n2x)
    replace Q3 := Lib.hid (pc_only Q3.out ho n3x)
    clear hv ho
    refine hK.out _ _ V3.out (fun _ => ?_)
    clear hK K
    simp only [List.setIfInBounds_toArray, List.set_cons_zero, List.set_cons_succ]
    refine wpAnyH_ready (rs := [10]) (by kernel_rfl) (by simp) (AllReadyH.cons rfl (fun K hK => ?_) AllReadyH.nil)
    rw [if_pos (by rfl)]
    refine wp_store_only sB _ _ rfl rfl rfl VY.out (HDo.out _ _) (HDz.out _ _) (by rw [zs.out]; omega) ?_
    intro w5 hv ho
    simp only [Act.put]
    rw [putL_all _ _ (by rw [zs.out, HDz.out])] at hv
    replace VY := Lib.hid hv
    replace VX := Lib.hid (ho.var VX.out (by omega))
    replace VZ := Lib.hid (ho.var VZ.out (by omega))
    replace V3 := Lib.hid (ho.var V3.out (by omega))
    replace B3 := Lib.hid (B3.out.trans (ho.below (by omega) B3.out.size))
    replace Q1 := Lib.hid (pc_only Q1.out ho n1y)
    replace Q2 := Lib.hid (pc_only Q2.out ho n2y)
    replace Q3 := Lib.hid (pc_only Q3.out ho n3y)
    clear hv ho
    refine hK.out _ _ V3.out (fun _ => ?_)
    clear hK K
    simp only [List.setIfInBounds_toArray, List.set_cons_zero, List.set_cons_succ]
    refine wpAnyH_ready (rs := [11]) (by kernel_rfl) (by simp) (AllReadyH.cons rfl (fun K hK => ?_) AllReadyH.nil)
    rw [if_pos (by rfl)]
    refine wp_store_only sB _ _ rfl rfl rfl VZ.out (HDo.out _ _) (HDz.out _ _) (by rw [zs.out]; omega) ?_
    intro w6 hv ho
    simp only [Act.put]
    rw [putL_all _ _ (by rw [zs.out, HDz.out])] at hv
    replace VZ := Lib.hid hv
    replace VX := Lib.hid (ho.var VX.out (by omega))
    replace VY := Lib.hid (ho.var VY.out (by omega))
    replace V3 := Lib.hid (ho.var V3.out (by omega))
    replace B3 := Lib.hid (B3.out.trans (ho.below (by omega) B3.out.size))
    replace Q1 := Lib.hid (pc_only Q1.out ho n1z)
    replace Q2 := Lib.hid (pc_only Q2.out ho n2z)
    replace Q3 := Lib.hid (pc_only Q3.out ho n3z)
    clear hv ho
    refine hK.out _ _ V3.out (fun _ => ?_)
    clear hK K
    simp only [List.setIfInBounds_toArray, List.set_cons_zero, List.set_cons_succ]
    refine wpAnyH_done (by kernel_rfl) ?_ _
    have BX := Lib.hid (show Br w6 B ex p1 n c1 XS from ⟨by rw [← HD.out]; exact VX.out, Q1.out⟩)
    have BY := Lib.hid (show Br w6 B ey p2 n c2 XS from ⟨by rw [← HD.out]; exact VY.out, Q2.out⟩)
    have BZ := Lib.hid (show Br w6 B ez p3 n c3 XS from ⟨by rw [← HD.out]; exact VZ.out, Q3.out⟩)
    clear Q1 Q2 Q3 VX VY VZ
    have k1 := Lib.hid (sync_any B ex p1 n c1 XS w6 BX.out HT.out hn)
    go_wp2_with fail
    refine k1.out.mono ?_
    rintro e w7 ⟨rfl, hbr, ho⟩
    replace BX := Lib.hid hbr
    replace BY := Lib.hid (BY.out.only ho (Ne.symm n1y) h21)
    replace BZ := Lib.hid (BZ.out.only ho (Ne.symm n1z) h31)
    replace V3 := Lib.hid (ho.var V3.out (by omega))
    replace B3 := Lib.hid (B3.out.trans (ho.below (by omega) B3.out.size))
    clear hbr ho k1
    have k1 := Lib.hid (reroot_any B ey p2 n c2 XS w7 BY.out HT.out hn)
    go_wp2_with fail
    refine k1.out.mono ?_
    rintro e w8 ⟨rfl, hbr, ho⟩
    replace BY := Lib.hid hbr
    replace BX := Lib.hid (BX.out.only ho (Ne.symm n2x) (Ne.symm h21))
    replace BZ := Lib.hid (BZ.out.only ho (Ne.symm n2z) h32)
    replace V3 := Lib.hid (ho.var V3.out (by omega))
    replace B3 := Lib.hid (B3.out.trans (ho.below (by omega) B3.out.size))
    clear hbr ho k1
    have k1 := Lib.hid (prop_any i B ez p3 n c3 XS w8 BZ.out HT.out hn)
    go_wp2_with fail
    refine k1.out.mono ?_
    rintro e w9 ⟨rfl, hbr, ho⟩
    replace BZ := Lib.hid hbr
    replace BX := Lib.hid (BX.out.only ho (Ne.symm n3x) (Ne.symm h31))
    replace BY := Lib.hid (BY.out.only ho (Ne.symm n3y) (Ne.symm h32))
    replace V3 := Lib.hid (ho.var V3.out (by omega))
    replace B3 := Lib.hid (B3.out.trans (ho.below (by omega) B3.out.size))
    clear hbr ho k1
    have hVX := BX.out.hb
    have hVY := BY.out.hb
    have hVZ := BZ.out.hb
    rw [← HD.out] at hVX hVY hVZ
    have KSm := kSm.out hn
    have KS := Lib.hid (kS.out hn w.heap.size w9.drew V3.out.drew (HSW.out.below HX.out B3.out.drew))
    have KRS := Lib.hid (kRS.out hn)
    have KR := Lib.hid (kR.out hn)
    have KRR := Lib.hid (kRR.out hn)
    generalize allP (fun i => synX (XS i)) n = a1 at *
    generalize allP (fun k => rrX i k (XS k)) n = a2 at *
    go_wp2_with fail
    refine wp_region_held_drew (S := fun w' => VarAt w' w.heap.size C 34 ∧ VarAt w' ex (D p1 c1) 34 ∧ VarAt w' ey (D p2 c2) 34 ∧ VarAt w' ez (D p3 c3) 34) (by kernel_rfl) ⟨V3.out.drew, hVX.drew, hVY.drew, hVZ.drew⟩ (fun hS => ?_)
    replace BX := Lib.hid BX.out.drew
    replace BY := Lib.hid BY.out.drew
    replace BZ := Lib.hid BZ.out.drew
    replace V3 := Lib.hid V3.out.drew
    replace B3 := Lib.hid B3.out.drew
    clear hVX hVY hVZ
    generalize w9.drew = w10 at *
    refine wpAnyH_take (i := 1) (v := .agg C) rfl (by kernel_rfl) (by kernel_rfl) (by kernel_rfl) (fun _ _ _ h => h) (yields_br (by rfl) _ rfl rfl (fun w9 h9 => h9.1) HC18.out) hS ?_
    simp only [Act.put, List.getElem_toArray, List.getElem_cons_zero, List.getElem_cons_succ, List.setIfInBounds_toArray, List.set_cons_zero, List.set_cons_succ]
    refine wpAnyH_ready (rs := [0]) (by kernel_rfl) (by simp) (AllReadyH.cons rfl (fun K hK => ?_) AllReadyH.nil)
    go_simp
    refine (KS.out).mono ?_
    rintro e w11 ⟨rfl, hb⟩
    have hS1 : VarAt w11 w.heap.size C 34 ∧ VarAt w11 ex (D p1 c1) 34 ∧ VarAt w11 ey (D p2 c2) 34 ∧ VarAt w11 ez (D p3 c3) 34 := ⟨hS.1.below hb hS.1.lt, hS.2.1.below hb hS.2.1.lt, hS.2.2.1.below hb hS.2.2.1.lt, hS.2.2.2.below hb hS.2.2.2.lt⟩
    replace V3 := Lib.hid hS1.1
    replace B3 := Lib.hid (B3.out.trans (hb.mono B3.out.size))
    replace BX := Lib.hid (BX.out.below hb)
    replace BY := Lib.hid (BY.out.below hb)
    replace BZ := Lib.hid (BZ.out.below hb)
    clear hb
    refine hK.out _ _ hS1 (fun hS => ?_)
    clear hK K hS1
    try simp only [List.setIfInBounds_toArray, List.set_cons_zero, List.set_cons_succ]
    refine wpAnyH_ready (rs := [2]) (by kernel_rfl) (by simp) (AllReadyH.cons rfl (fun K hK => ?_) AllReadyH.nil)
    go_simp
    refine (KRS.out _ (HSW.out.below HX.out B3.out)).mono ?_
    rintro e w11 ⟨rfl, hb⟩
    have hS1 : VarAt w11 w.heap.size C 34 ∧ VarAt w11 ex (D p1 c1) 34 ∧ VarAt w11 ey (D p2 c2) 34 ∧ VarAt w11 ez (D p3 c3) 34 := ⟨hS.1.below hb hS.1.lt, hS.2.1.below hb hS.2.1.lt, hS.2.2.1.below hb hS.2.2.1.lt, hS.2.2.2.below hb hS.2.2.2.lt⟩
    replace V3 := Lib.hid hS1.1
    replace B3 := Lib.hid (B3.out.trans (hb.mono B3.out.size))
    replace BX := Lib.hid (BX.out.below hb)
    replace BY := Lib.hid (BY.out.below hb)
    replace BZ := Lib.hid (BZ.out.below hb)
    clear hb
    refine hK.out _ _ hS1 (fun hS => ?_)
    clear hK K hS1
    try simp only [List.setIfInBounds_toArray, List.set_cons_zero, List.set_cons_succ]
    refine wpAnyH_take (i := 3) (v := .bool true) rfl (by kernel_rfl) (by kernel_rfl) (by kernel_rfl) (fun _ _ _ h => h) (Or.inl ⟨by rfl, ?_⟩) hS ?_
    · (intro w9 hS9; go_simp; try with_reducible rfl)
    simp only [Act.put, List.getElem_toArray, List.getElem_cons_zero, List.getElem_cons_succ, List.setIfInBounds_toArray, List.set_cons_zero, List.set_cons_succ]
    refine wpAnyH_take (i := 4) (v := .bool true) rfl (by kernel_rfl) (by kernel_rfl) (by kernel_rfl) (fun _ _ _ h => h) (Or.inl ⟨by rfl, ?_⟩) hS ?_
    · (intro w9 hS9; go_simp; try with_reducible rfl)
    simp only [Act.put, List.getElem_toArray, List.getElem_cons_zero, List.getElem_cons_succ, List.setIfInBounds_toArray, List.set_cons_zero, List.set_cons_succ]
    refine wpAnyH_take (i := 5) (v := .int .i64 i) rfl (by kernel_rfl) (by kernel_rfl) (by kernel_rfl) (fun _ _ _ h => h) (Or.inl ⟨by rfl, ?_⟩) hS ?_
    · (intro w9 hS9; go_simp; try with_reducible rfl)
    simp only [Act.put, List.getElem_toArray, List.getElem_cons_zero, List.getElem_cons_succ, List.setIfInBounds_toArray, List.set_cons_zero, List.set_cons_succ]
    refine wpAnyH_take (i := 7) (v := .agg C) rfl (by kernel_rfl) (by kernel_rfl) (by kernel_rfl) (fun _ _ _ h => h) (yields_br (by rfl) _ rfl rfl (fun w9 h9 => h9.1) HC18.out) hS ?_
    simp only [Act.put, List.getElem_toArray, List.getElem_cons_zero, List.getElem_cons_succ, List.setIfInBounds_toArray, List.set_cons_zero, List.set_cons_succ]
    refine wpAnyH_take (i := 8) (v := .int .i64 i) rfl (by kernel_rfl) (by kernel_rfl) (by kernel_rfl) (fun _ _ _ h => h) (Or.inl ⟨by rfl, ?_⟩) hS ?_
    · (intro w9 hS9; go_simp; try with_reducible rfl)
    simp only [Act.put, List.getElem_toArray, List.getElem_cons_zero, List.getElem_cons_succ, List.setIfInBounds_toArray, List.set_cons_zero, List.set_cons_succ]
    refine wpAnyH_ready (rs := [6]) (by kernel_rfl) (by simp) (AllReadyH.cons rfl (fun K hK => ?_) AllReadyH.nil)
    go_simp
    refine (KR.out _ _ V3.out (HSW.out.below HX.out B3.out)).mono ?_
    rintro e w11 ⟨rfl, rfl⟩
    have hS1 := hS
    refine hK.out _ _ hS1 (fun hS => ?_)
    clear hK K hS1
    try simp only [List.setIfInBounds_toArray, List.set_cons_zero, List.set_cons_succ]
    refine wpAnyH_ready (rs := [9]) (by kernel_rfl) (by simp) (AllReadyH.cons rfl (fun K hK => ?_) AllReadyH.nil)
    go_simp
    refine (KRR.out _ (HSW.out.below HX.out B3.out)).mono ?_
    rintro e w11 ⟨rfl, hb⟩
    have hS1 : VarAt w11 w.heap.size C 34 ∧ VarAt w11 ex (D p1 c1) 34 ∧ VarAt w11 ey (D p2 c2) 34 ∧ VarAt w11 ez (D p3 c3) 34 := ⟨hS.1.below hb hS.1.lt, hS.2.1.below hb hS.2.1.lt, hS.2.2.1.below hb hS.2.2.1.lt, hS.2.2.2.below hb hS.2.2.2.lt⟩
    replace V3 := Lib.hid hS1.1
    replace B3 := Lib.hid (B3.out.trans (hb.mono B3.out.size))
    replace BX := Lib.hid (BX.out.below hb)
    replace BY := Lib.hid (BY.out.below hb)
    replace BZ := Lib.hid (BZ.out.below hb)
    clear hb
    refine hK.out _ _ hS1 (fun hS => ?_)
    clear hK K hS1
    try simp only [List.setIfInBounds_toArray, List.set_cons_zero, List.set_cons_succ]
    refine wpAnyH_take (i := 10) (v := .bool true) rfl (by kernel_rfl) (by kernel_rfl) (by kernel_rfl) (fun _ _ _ h => h) (Or.inl ⟨by rfl, ?_⟩) hS ?_
    · (intro w9 hS9; go_simp; try with_reducible rfl)
    simp only [Act.put, List.getElem_toArray, List.getElem_cons_zero, List.getElem_cons_succ, List.setIfInBounds_toArray, List.set_cons_zero, List.set_cons_succ]
    refine wpAnyH_take (i := 11) (v := .bool true) rfl (by kernel_rfl) (by kernel_rfl) (by kernel_rfl) (fun _ _ _ h => h) (Or.inl ⟨by rfl, ?_⟩) hS ?_
    · (intro w9 hS9; go_simp; try with_reducible rfl)
    simp only [Act.put, List.getElem_toArray, List.getElem_cons_zero, List.getElem_cons_succ, List.setIfInBounds_toArray, List.set_cons_zero, List.set_cons_succ]
    refine wpAnyH_take (i := 12) (v := .bool true) rfl (by kernel_rfl) (by kernel_rfl) (by kernel_rfl) (fun _ _ _ h => h) (Or.inl ⟨by rfl, ?_⟩) hS ?_
    · (intro w9 hS9; go_simp; try with_reducible rfl)
    simp only [Act.put, List.getElem_toArray, List.getElem_cons_zero, List.getElem_cons_succ, List.setIfInBounds_toArray, List.set_cons_zero, List.set_cons_succ]
    refine wpAnyH_take (i := 13) (v := .agg (D p1 c1)) rfl (by kernel_rfl) (by kernel_rfl) (by kernel_rfl) (fun _ _ _ h => h) (yields_br (by rfl) _ rfl rfl (fun w9 h9 => h9.2.1) (HDz.out _ _)) hS ?_
    simp only [Act.put, List.getElem_toArray, List.getElem_cons_zero, List.getElem_cons_succ, List.setIfInBounds_toArray, List.set_cons_zero, List.set_cons_succ]
    refine wpAnyH_take (i := 14) (v := .agg C) rfl (by kernel_rfl) (by kernel_rfl) (by kernel_rfl) (fun _ _ _ h => h) (yields_br (by rfl) _ rfl rfl (fun w9 h9 => h9.1) HC18.out) hS ?_
    simp only [Act.put, List.getElem_toArray, List.getElem_cons_zero, List.getElem_cons_succ, List.setIfInBounds_toArray, List.set_cons_zero, List.set_cons_succ]
    refine wpAnyH_ready (rs := [15]) (by kernel_rfl) (by simp) (AllReadyH.cons rfl (fun K hK => ?_) AllReadyH.nil)
    go_simp
    refine (kR1.out hn _ (HSW.out.below HX.out B3.out)).mono ?_
    rintro e w11 ⟨r, cr, rfl, ⟨A2, hA2, hA2n, hA2s, hp2⟩, hb⟩
    have hS1 : VarAt w11 w.heap.size C 34 ∧ VarAt w11 ex (D p1 c1) 34 ∧ VarAt w11 ey (D p2 c2) 34 ∧ VarAt w11 ez (D p3 c3) 34 := ⟨hS.1.below hb hS.1.lt, hS.2.1.below hb hS.2.1.lt, hS.2.2.1.below hb hS.2.2.1.lt, hS.2.2.2.below hb hS.2.2.2.lt⟩
    replace V3 := Lib.hid hS1.1
    replace B3 := Lib.hid (B3.out.trans (hb.mono B3.out.size))
    replace BX := Lib.hid (BX.out.below hb)
    replace BY := Lib.hid (BY.out.below hb)
    replace BZ := Lib.hid (BZ.out.below hb)
    clear hb
    obtain ⟨A1, hA1, hA1n, hA1s⟩ := BX.out.ex
    have kz := Lib.hid (KSm (fun j => (fun _ => onX 41) j (XS j)) (fun j hj => onX_typed (HT.out j hj) 41 rfl) p1 r c1 cr A1 A2 w11 hA1 hA2 hA1s hA2s)
    clear hA1 hA1n hA1s hA2 hA2n hA2s hp2
    refine hK.out _ _ hS1 (fun hS => ?_)
    clear hK K hS1
    try simp only [List.setIfInBounds_toArray, List.set_cons_zero, List.set_cons_succ]
    refine wpAnyH_ready (rs := [16]) (by kernel_rfl) (by simp) (AllReadyH.cons rfl (fun K hK => ?_) AllReadyH.nil)
    go_simp
    refine (kz.out).mono ?_
    rintro e w11 ⟨rfl, hb⟩
    have hS1 : VarAt w11 w.heap.size C 34 ∧ VarAt w11 ex (D p1 c1) 34 ∧ VarAt w11 ey (D p2 c2) 34 ∧ VarAt w11 ez (D p3 c3) 34 := ⟨hS.1.below hb hS.1.lt, hS.2.1.below hb hS.2.1.lt, hS.2.2.1.below hb hS.2.2.1.lt, hS.2.2.2.below hb hS.2.2.2.lt⟩
    replace V3 := Lib.hid hS1.1
    replace B3 := Lib.hid (B3.out.trans (hb.mono B3.out.size))
    replace BX := Lib.hid (BX.out.below hb)
    replace BY := Lib.hid (BY.out.below hb)
    replace BZ := Lib.hid (BZ.out.below hb)
    clear hb
    clear kz
    refine hK.out _ _ hS1 (fun hS => ?_)
    clear hK K hS1
    try simp only [List.setIfInBounds_toArray, List.set_cons_zero, List.set_cons_succ]
    refine wpAnyH_take (i := 17) (v := .bool true) rfl (by kernel_rfl) (by kernel_rfl) (by kernel_rfl) (fun _ _ _ h => h) (Or.inl ⟨by rfl, ?_⟩) hS ?_
    · (intro w9 hS9; go_simp; try with_reducible rfl)
    simp only [Act.put, List.getElem_toArray, List.getElem_cons_zero, List.getElem_cons_succ, List.setIfInBounds_toArray, List.set_cons_zero, List.set_cons_succ]
    refine wpAnyH_take (i := 18) (v := .bool true) rfl (by kernel_rfl) (by kernel_rfl) (by kernel_rfl) (fun _ _ _ h => h) (Or.inl ⟨by rfl, ?_⟩) hS ?_
    · (intro w9 hS9; go_simp; try with_reducible rfl)
    simp only [Act.put, List.getElem_toArray, List.getElem_cons_zero, List.getElem_cons_succ, List.setIfInBounds_toArray, List.set_cons_zero, List.set_cons_succ]
    refine wpAnyH_take (i := 19) (v := .agg (D p2 c2)) rfl (by kernel_rfl) (by kernel_rfl) (by kernel_rfl) (fun _ _ _ h => h) (yields_br (by rfl) _ rfl rfl (fun w9 h9 => h9.2.2.1) (HDz.out _ _)) hS ?_
    simp only [Act.put, List.getElem_toArray, List.getElem_cons_zero, List.getElem_cons_succ, List.setIfInBounds_toArray, List.set_cons_zero, List.set_cons_succ]
    refine wpAnyH_take (i := 20) (v := .agg C) rfl (by kernel_rfl) (by kernel_rfl) (by kernel_rfl) (fun _ _ _ h => h) (yields_br (by rfl) _ rfl rfl (fun w9 h9 => h9.1) HC18.out) hS ?_
    simp only [Act.put, List.getElem_toArray, List.getElem_cons_zero, List.getElem_cons_succ, List.setIfInBounds_toArray, List.set_cons_zero, List.set_cons_succ]
    refine wpAnyH_ready (rs := [21]) (by kernel_rfl) (by simp) (AllReadyH.cons rfl (fun K hK => ?_) AllReadyH.nil)
    go_simp
    refine (kR2.out hn _ (HSW.out.below HX.out B3.out)).mono ?_
    rintro e w11 ⟨r, cr, rfl, ⟨A2, hA2, hA2n, hA2s, hp2⟩, hb⟩
    have hS1 : VarAt w11 w.heap.size C 34 ∧ VarAt w11 ex (D p1 c1) 34 ∧ VarAt w11 ey (D p2 c2) 34 ∧ VarAt w11 ez (D p3 c3) 34 := ⟨hS.1.below hb hS.1.lt, hS.2.1.below hb hS.2.1.lt, hS.2.2.1.below hb hS.2.2.1.lt, hS.2.2.2.below hb hS.2.2.2.lt⟩
    replace V3 := Lib.hid hS1.1
    replace B3 := Lib.hid (B3.out.trans (hb.mono B3.out.size))
    replace BX := Lib.hid (BX.out.below hb)
    replace BY := Lib.hid (BY.out.below hb)
    replace BZ := Lib.hid (BZ.out.below hb)
    clear hb
    obtain ⟨A1, hA1, hA1n, hA1s⟩ := BY.out.ex
    have kz := Lib.hid (KSm (fun j => (fun _ => onX 28) j (XS j)) (fun j hj => onX_typed (HT.out j hj) 28 rfl) p2 r c2 cr A1 A2 w11 hA1 hA2 hA1s hA2s)
    clear hA1 hA1n hA1s hA2 hA2n hA2s hp2
    refine hK.out _ _ hS1 (fun hS => ?_)
    clear hK K hS1
    try simp only [List.setIfInBounds_toArray, List.set_cons_zero, List.set_cons_succ]
    refine wpAnyH_ready (rs := [22]) (by kernel_rfl) (by simp) (AllReadyH.cons rfl (fun K hK => ?_) AllReadyH.nil)
    go_simp
    refine (kz.out).mono ?_
    rintro e w11 ⟨rfl, hb⟩
    have hS1 : VarAt w11 w.heap.size C 34 ∧ VarAt w11 ex (D p1 c1) 34 ∧ VarAt w11 ey (D p2 c2) 34 ∧ VarAt w11 ez (D p3 c3) 34 := ⟨hS.1.below hb hS.1.lt, hS.2.1.below hb hS.2.1.lt, hS.2.2.1.below hb hS.2.2.1.lt, hS.2.2.2.below hb hS.2.2.2.lt⟩
    replace V3 := Lib.hid hS1.1
    replace B3 := Lib.hid (B3.out.trans (hb.mono B3.out.size))
    replace BX := Lib.hid (BX.out.below hb)
    replace BY := Lib.hid (BY.out.below hb)
    replace BZ := Lib.hid (BZ.out.below hb)
    clear hb
    clear kz
    refine hK.out _ _ hS1 (fun hS => ?_)
    clear hK K hS1
    try simp only [List.setIfInBounds_toArray, List.set_cons_zero, List.set_cons_succ]
    refine wpAnyH_take (i := 23) (v := .bool true) rfl (by kernel_rfl) (by kernel_rfl) (by kernel_rfl) (fun _ _ _ h => h) (Or.inl ⟨by rfl, ?_⟩) hS ?_
    · (intro w9 hS9; go_simp; try with_reducible rfl)
    simp only [Act.put, List.getElem_toArray, List.getElem_cons_zero, List.getElem_cons_succ, List.setIfInBounds_toArray, List.set_cons_zero, List.set_cons_succ]
    refine wpAnyH_take (i := 24) (v := .bool true) rfl (by kernel_rfl) (by kernel_rfl) (by kernel_rfl) (fun _ _ _ h => h) (Or.inl ⟨by rfl, ?_⟩) hS ?_
    · (intro w9 hS9; go_simp; try with_reducible rfl)
    simp only [Act.put, List.getElem_toArray, List.getElem_cons_zero, List.getElem_cons_succ, List.setIfInBounds_toArray, List.set_cons_zero, List.set_cons_succ]
    refine wpAnyH_take (i := 25) (v := .agg (D p3 c3)) rfl (by kernel_rfl) (by kernel_rfl) (by kernel_rfl) (fun _ _ _ h => h) (yields_br (by rfl) _ rfl rfl (fun w9 h9 => h9.2.2.2) (HDz.out _ _)) hS ?_
    simp only [Act.put, List.getElem_toArray, List.getElem_cons_zero, List.getElem_cons_succ, List.setIfInBounds_toArray, List.set_cons_zero, List.set_cons_succ]
    refine wpAnyH_take (i := 26) (v := .agg C) rfl (by kernel_rfl) (by kernel_rfl) (by kernel_rfl) (fun _ _ _ h => h) (yields_br (by rfl) _ rfl rfl (fun w9 h9 => h9.1) HC18.out) hS ?_
    simp only [Act.put, List.getElem_toArray, List.getElem_cons_zero, List.getElem_cons_succ, List.setIfInBounds_toArray, List.set_cons_zero, List.set_cons_succ]
    refine wpAnyH_take (i := 27) (v := .int .i64 i) rfl (by kernel_rfl) (by kernel_rfl) (by kernel_rfl) (fun _ _ _ h => h) (Or.inl ⟨by rfl, ?_⟩) hS ?_
    · (intro w9 hS9; go_simp; try with_reducible rfl)
    simp only [Act.put, List.getElem_toArray, List.getElem_cons_zero, List.getElem_cons_succ, List.setIfInBounds_toArray, List.set_cons_zero, List.set_cons_succ]
    refine wpAnyH_ready (rs := [28]) (by kernel_rfl) (by simp) (AllReadyH.cons rfl (fun K hK => ?_) AllReadyH.nil)
    go_simp
    refine (kR3.out hn _ (HSW.out.below HX.out B3.out)).mono ?_
    rintro e w11 ⟨r, cr, rfl, ⟨A2, hA2, hA2n, hA2s, hp2⟩, hb⟩
    have hS1 : VarAt w11 w.heap.size C 34 ∧ VarAt w11 ex (D p1 c1) 34 ∧ VarAt w11 ey (D p2 c2) 34 ∧ VarAt w11 ez (D p3 c3) 34 := ⟨hS.1.below hb hS.1.lt, hS.2.1.below hb hS.2.1.lt, hS.2.2.1.below hb hS.2.2.1.lt, hS.2.2.2.below hb hS.2.2.2.lt⟩
    replace V3 := Lib.hid hS1.1
    replace B3 := Lib.hid (B3.out.trans (hb.mono B3.out.size))
    replace BX := Lib.hid (BX.out.below hb)
    replace BY := Lib.hid (BY.out.below hb)
    replace BZ := Lib.hid (BZ.out.below hb)
    clear hb
    obtain ⟨A1, hA1, hA1n, hA1s⟩ := BZ.out.ex
    have kz := Lib.hid (KSm (fun j => (propX i) j (XS j)) (fun j hj => propX_typed (HT.out j hj) i j) p3 r c3 cr A1 A2 w11 hA1 hA2 hA1s hA2s)
    clear hA1 hA1n hA1s hA2 hA2n hA2s hp2
    refine hK.out _ _ hS1 (fun hS => ?_)
    clear hK K hS1
    try simp only [List.setIfInBounds_toArray, List.set_cons_zero, List.set_cons_succ]
    refine wpAnyH_ready (rs := [29]) (by kernel_rfl) (by simp) (AllReadyH.cons rfl (fun K hK => ?_) AllReadyH.nil)
    go_simp
    refine (kz.out).mono ?_
    rintro e w11 ⟨rfl, hb⟩
    have hS1 : VarAt w11 w.heap.size C 34 ∧ VarAt w11 ex (D p1 c1) 34 ∧ VarAt w11 ey (D p2 c2) 34 ∧ VarAt w11 ez (D p3 c3) 34 := ⟨hS.1.below hb hS.1.lt, hS.2.1.below hb hS.2.1.lt, hS.2.2.1.below hb hS.2.2.1.lt, hS.2.2.2.below hb hS.2.2.2.lt⟩
    replace V3 := Lib.hid hS1.1
    replace B3 := Lib.hid (B3.out.trans (hb.mono B3.out.size))
    replace BX := Lib.hid (BX.out.below hb)
    replace BY := Lib.hid (BY.out.below hb)
    replace BZ := Lib.hid (BZ.out.below hb)
    clear hb
    clear kz
    refine hK.out _ _ hS1 (fun hS => ?_)
    clear hK K hS1
    try simp only [List.setIfInBounds_toArray, List.set_cons_zero, List.set_cons_succ]
    refine wpAnyH_take (i := 30) (v := .bool true) rfl (by kernel_rfl) (by kernel_rfl) (by kernel_rfl) (fun _ _ _ h => h) (Or.inl ⟨by rfl, ?_⟩) hS ?_
    · (intro w9 hS9; go_simp; try with_reducible rfl)
    simp only [Act.put, List.getElem_toArray, List.getElem_cons_zero, List.getElem_cons_succ, List.setIfInBounds_toArray, List.set_cons_zero, List.set_cons_succ]
    refine wpAnyH_take (i := 31) (v := .bool true) rfl (by kernel_rfl) (by kernel_rfl) (by kernel_rfl) (fun _ _ _ h => h) (Or.inl ⟨by rfl, ?_⟩) hS ?_
    · (intro w9 hS9; go_simp; try with_reducible rfl)
    simp only [Act.put, List.getElem_toArray, List.getElem_cons_zero, List.getElem_cons_succ, List.setIfInBounds_toArray, List.set_cons_zero, List.set_cons_succ]
    refine wpAnyH_done (by kernel_rfl) ?_ _
    go_wp2_with fail
    go_ret
    exact ⟨rfl, B3.out⟩
end Go.Proofs.Ytegbkpbdgdmhgaa
