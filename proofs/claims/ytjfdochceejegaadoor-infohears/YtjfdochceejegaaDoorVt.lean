/- InfoStarts' call. -/
import Derived.Test.YtjfdochceejegaaDoorTc
import Derived.Test.YtjfdochceejegaaDoorLa
import Derived.Test.YtjfdochceejegaaDoorMg
namespace Go.Proofs.YtjfdochceejegaaDoor
open Go.RowKit Go.Sort

theorem pin_of {w : World} {pb n cap : Nat} {XS : Nat → Array Value} (h : ∃ A, VarAt w pb A 39 ∧ n * 90 ≤ A.size ∧ ∀ i, i < n → Sub A (i * 90) (XS i)) : PIn w (.slice (some ⟨pb, 0, none⟩) n cap) n XS := by
  obtain ⟨A, hA, _, h4⟩ := h
  refine ⟨some ⟨pb, 0, none⟩, cap, rfl, fun h => (by cases h), fun _ => ⟨pb, 0, rfl, fun i hi k hk => ?_⟩⟩
  rw [hA.cell, Nat.zero_add]; exact h4 i hi k hk
set_option maxRecDepth 20000 in
set_option maxHeartbeats 8000000 in
theorem starts_in (B : Bd) (s : Value) (n k : Nat) (XS : Nat → Array Value) (w : World) (hs : PIn w s n XS) (ht : ∀ i, i < n → Typed (XS i)) (he : Env w) (hk : k < n) :
    Calls Tryd.prog 6 #[.agg (B.cells s), .int .i64 k] w fun e w' => e = .returned (.bool true) ∧ Below w.heap.size w w' := by
  have hx : ∀ i, i < n → (XS i).size = 90 := fun i hi => (ht i hi).1
  have hv0 := Lib.hid (var_new w (B.cells s) 47)
  have hB0 := Lib.hid (box_below w (.cells (B.cells s) 47))
  have HX := Lib.hid hx
  have HT := Lib.hid ht
  have HSW := Lib.hid hs
  have HENV := Lib.hid he
  have HC18 := Lib.hid (show (B.cells s).size = 18 by simp)
  obtain ⟨D, hD⟩ : ∃ D : Nat → Nat → Array Value, ∀ p c, D p c = B.cells (.slice (some ⟨p, 0, none⟩) n c) := ⟨_, fun _ _ => rfl⟩
  have HD := Lib.hid hD
  have HDz := Lib.hid (fun p c => show (D p c).size = 18 by rw [hD]; simp)
  have HDs := Lib.hid (fun p c => show (D p c)[17]? = some (.slice (some ⟨p, 0, none⟩) n c) by rw [hD]; simp)
  have HDo := Lib.hid (fun p c => show (D p c).all (·.oneCell') = true by rw [hD]; exact B.one rfl)
  have kF := Lib.hid (fun w => fits_any B s n XS w)
  have kCp := Lib.hid (fun (hn : n ≤ 20) w (h : PIn w s n XS) => show Calls Tryd.prog 15 #[.agg (B.cells s)] w fun e w' => ∃ pb cap, e = .returned (.agg (D pb cap)) ∧ Kept3 w w' pb n XS ∧ Below w.heap.size w w' by
    simp only [hD]; exact copy_any B s n XS w h hn ht)
  have kSm := Lib.hid (fun (hn : n ≤ 20) (YS : Nat → Array Value) (hy : ∀ i, i < n → Typed (YS i)) p1 p2 c1 c2 w h1 h2 => show Calls Tryd.prog 16 #[.agg (D p1 c1), .agg (D p2 c2)] w fun e w' => e = .returned (.bool true) ∧ Below w.heap.size w w' by
    simp only [hD]; exact same_pin B (.slice (some ⟨p1, 0, none⟩) n c1) (.slice (some ⟨p2, 0, none⟩) n c2) n YS w h1 h2 hy hn)
  clear hs ht hx hD he
  generalize B.cells s = C at *
  go_enter Tryd.func6, Tryd.ntmps6
  go_wp2_with fail
  generalize w.alloc (.cells C 47) = w0 at *
  refine (livesL_any _ (HENV.out.below hB0.out)).mono ?_
  rintro e w1 ⟨rfl, hb⟩
  have V1 := Lib.hid (hv0.out.below hb hv0.out.lt)
  have B1 := Lib.hid (hB0.out.trans (hb.mono hB0.out.size))
  clear hb hv0 hB0
  go_wp2_with (with_reducible refine stopL 47 _ rfl ?_)
  refine Lib.hid ?_
  refine guarded_load (by rfl) _ rfl rfl V1.out HC18.out ?_
  go_wp2_with fail
  refine (kF.out _ (HSW.out.below HX.out B1.out) HT.out).mono ?_
  rintro e w2 ⟨⟨q, rfl, hqn⟩, hb⟩
  have V2 := Lib.hid (V1.out.below hb V1.out.lt)
  have B2 := Lib.hid (B1.out.trans (hb.mono B1.out.size))
  clear hb V1 B1 kF
  cases q
  · go_wp2_with fail
    refine (livesL_any _ (HENV.out.below B2.out)).mono ?_
    rintro e w3 ⟨rfl, hb⟩
    have B3 := Lib.hid (B2.out.trans (hb.mono B2.out.size))
    clear hb
    go_wp2_with fail
    go_ret
    exact ⟨rfl, B3.out⟩
  · have hn := hqn rfl
    clear hqn
    have P2 := Lib.hid (HSW.out.below HX.out B2.out)
    go_wp2_with fail
    have zz := zero34
    have zs := Lib.hid z34_size
    generalize z34 = Z at *
    have hst := Lib.hid (show St C Z s n w.heap.size XS w w2.drew [] none none from ⟨V2.out.drew, HSW.out.below HX.out B2.out.drew, B2.out.drew, fun _ h => (by cases h), List.nodup_nil, fun _ h => (by cases h), fun _ h => (by cases h), fun _ h => (by cases h)⟩)
    refine wp_region_held_drew (S := fun w' => VarAt w' w.heap.size C 47) (by kernel_rfl) V2.out.drew (fun hS => ?_)
    refine wpAnyH_take (i := 0) (v := .agg C) rfl (by kernel_rfl) (by kernel_rfl) (by kernel_rfl) (fun _ _ _ h => h) (yields_br (by rfl) _ rfl rfl (fun w9 h9 => h9) HC18.out) hS ?_
    simp only [Act.put, List.getElem_toArray, List.getElem_cons_zero, List.setIfInBounds_toArray, List.set_cons_zero, List.set_cons_succ]
    refine wpAnyH_take (i := 2) (v := .agg C) rfl (by kernel_rfl) (by kernel_rfl) (by kernel_rfl) (fun _ _ _ h => h) (yields_br (by rfl) _ rfl rfl (fun w9 h9 => h9) HC18.out) hS ?_
    simp only [Act.put, List.getElem_toArray, List.getElem_cons_zero, List.getElem_cons_succ, List.setIfInBounds_toArray, List.set_cons_zero, List.set_cons_succ]
    refine st0 HX.out (Lib.hid (kCp.out hn)) zz (Lib.hid (fun w3 p1 c1 p2 c2 ex ey hst => ?_)) _ hst.out
    clear zz
    have hx1 := (hst.ax ex rfl).2
    have hy1 := (hst.ay ey rfl).2
    have hxy : ey ≠ ex := fun e => hst.xy ex rfl (by rw [e])
    have hnd := hst.nd
    simp at hnd
    have h21 : p2 ≠ p1 := fun e => hnd e
    have hqx := (hst.ax ex rfl).1
    have hqy := (hst.ay ey rfl).1
    have hqp1 := (hst.pc p1 (by simp)).1
    have hqp2 := (hst.pc p2 (by simp)).1
    have Q1 := Lib.hid (hst.pc p1 (by simp)).2
    have Q2 := Lib.hid (hst.pc p2 (by simp)).2
    have V3 := Lib.hid hst.hb
    have B3 := Lib.hid hst.bel
    have ne1 : ∀ p e, (∃ A, VarAt w3 p A 39 ∧ n * 90 ≤ A.size ∧ ∀ i, i < n → Sub A (i * 90) (XS i)) → VarAt w3 e Z 47 → p ≠ e := fun p e ⟨A, h1, _⟩ h2 => var_ne h1 h2 (by decide)
    have n1x := ne1 p1 ex Q1.out hx1
    have n1y := ne1 p1 ey Q1.out hy1
    have n2x := ne1 p2 ex Q2.out hx1
    have n2y := ne1 p2 ey Q2.out hy1
    have VX := Lib.hid hx1
    have VY := Lib.hid hy1
    clear ne1 hnd hst hx1 hy1 V2 B2
    refine wpAnyH_ready (rs := [6]) (by kernel_rfl) (by simp) (AllReadyH.cons rfl (fun K hK => ?_) AllReadyH.nil)
    rw [if_pos (by rfl)]
    refine wp_store_only sB _ _ rfl rfl rfl VX.out (HDo.out _ _) (HDz.out _ _) (by rw [zs.out]; omega) ?_
    intro w4 hv ho
    simp only [Act.put]
    rw [putL_all _ _ (by rw [zs.out, HDz.out])] at hv
    have VX' := Lib.hid hv
    have VY' := Lib.hid (ho.var VY.out (by omega))
    have Q1' := Lib.hid (show ∃ A, VarAt w4 p1 A 39 ∧ n * 90 ≤ A.size ∧ ∀ i, i < n → Sub A (i * 90) (XS i) by obtain ⟨A, a1, a2⟩ := Q1.out; exact ⟨A, ho.var a1 (by omega), a2⟩)
    have Q2' := Lib.hid (show ∃ A, VarAt w4 p2 A 39 ∧ n * 90 ≤ A.size ∧ ∀ i, i < n → Sub A (i * 90) (XS i) by obtain ⟨A, a1, a2⟩ := Q2.out; exact ⟨A, ho.var a1 (by omega), a2⟩)
    have V4 := Lib.hid (ho.var V3.out (by omega))
    have B4 := Lib.hid (B3.out.trans (ho.below (by omega) B3.out.size))
    clear VX VY Q1 Q2
    have VX := VX'
    have VY := VY'
    have Q1 := Q1'
    have Q2 := Q2'
    clear VX' VY' Q1' Q2'
    refine hK _ _ V4.out (fun hS => ?_)
    clear hK K hv ho V3 B3
    refine wpAnyH_ready (rs := [7]) (by kernel_rfl) (by simp) (AllReadyH.cons rfl (fun K hK => ?_) AllReadyH.nil)
    rw [if_pos (by rfl)]
    refine wp_store_only sB _ _ rfl rfl rfl VY.out (HDo.out _ _) (HDz.out _ _) (by rw [zs.out]; omega) ?_
    intro w5 hv ho
    simp only [Act.put]
    rw [putL_all _ _ (by rw [zs.out, HDz.out])] at hv
    have VY' := Lib.hid hv
    have VX' := Lib.hid (ho.var VX.out (by omega))
    have Q1' := Lib.hid (show ∃ A, VarAt w5 p1 A 39 ∧ n * 90 ≤ A.size ∧ ∀ i, i < n → Sub A (i * 90) (XS i) by obtain ⟨A, a1, a2⟩ := Q1.out; exact ⟨A, ho.var a1 (by omega), a2⟩)
    have Q2' := Lib.hid (show ∃ A, VarAt w5 p2 A 39 ∧ n * 90 ≤ A.size ∧ ∀ i, i < n → Sub A (i * 90) (XS i) by obtain ⟨A, a1, a2⟩ := Q2.out; exact ⟨A, ho.var a1 (by omega), a2⟩)
    have V5 := Lib.hid (ho.var V4.out (by omega))
    have B5 := Lib.hid (B4.out.trans (ho.below (by omega) B4.out.size))
    clear VX VY Q1 Q2
    have VX := VX'
    have VY := VY'
    have Q1 := Q1'
    have Q2 := Q2'
    clear VX' VY' Q1' Q2'
    refine hK _ _ V5.out (fun hS => ?_)
    clear hK K hv ho V4 B4
    refine wpAnyH_done (by kernel_rfl) ?_ _
    clear V5
    have BX := Lib.hid (show Br w5 B ex p1 n c1 XS from ⟨by rw [← HD.out]; exact VX.out, Q1.out⟩)
    clear VX Q1
    go_wp2_with fail
    refine (start_nil _ _).mono ?_
    rintro e w6 ⟨rfl, rfl⟩
    go_wp2_with fail
    refine (start_some B ex p1 n c1 k XS w5 BX.out hk (HT.out k hk)).mono ?_
    rintro e w6 ⟨rfl, hm⟩
    have BX6 := Lib.hid (BX.out.mv hk hm)
    have VY6 := Lib.hid (hm.only.var VY.out (by omega))
    have Q6 := Lib.hid (show ∃ A, VarAt w6 p2 A 39 ∧ n * 90 ≤ A.size ∧ ∀ i, i < n → Sub A (i * 90) (XS i) by obtain ⟨A, a1, a2⟩ := Q2.out; exact ⟨A, hm.only.var a1 h21, a2⟩)
    have B6 := Lib.hid (B5.out.trans (hm.only.below (by omega) B5.out.size))
    have VX6 := Lib.hid (show VarAt w6 ex (D p1 c1) 47 by rw [HD.out]; exact BX6.out.hb)
    have QX6 := Lib.hid BX6.out.ex
    clear hm BX VY Q2 B5 BX6
    have c17 : w6.cell? ⟨ey, 17, none⟩ = some (.slice (some ⟨p2, 0, none⟩) n c2) := by rw [VY6.out.cell]; exact HDs.out _ _
    have h1 : (0 : Int) ≤ (k : Int) := by omega
    have h2 : (k : Int) < (n : Int) := by omega
    have TK := Lib.hid (HT.out k hk)
    have TY := Lib.hid (disX_typed TK.out)
    have kD := Lib.hid (fun w => refdisable_any (XS k) w TK.out)
    have hYS := Lib.hid (at1_typed (k := k) HT.out TY.out)
    go_wp2_with fail
    clear c17
    obtain ⟨A2, hA2, hA2n, hA2s⟩ := Q6.out
    have HA := Lib.hid hA2
    have HAN := Lib.hid hA2n
    have HAS := Lib.hid hA2s
    clear hA2 hA2n hA2s Q6
    have HRG := Lib.hid (fun (w' : World) (h : VarAt w' p2 A2 39) => (show w'.rangeAt p2 (k * 90) (XS k).toList from fun j v hj => by
      have hj' : j < 90 := by rw [← TK.out.1]; simpa using (List.getElem?_eq_some_iff.1 hj).1
      rw [h.cell, HAS.out k hk j hj']; simpa using hj))
    generalize disX (XS k) = ys at *
    have i6 := idx32b p2 n c2 k hk
    generalize hxk : XS k = xs at *
    refine wp_region_held_drew (S := fun w' => VarAt w' ey (D p2 c2) 47) (by kernel_rfl) VY6.out.drew (fun hS => ?_)
    refine wpAnyH_take (i := 0) (v := .pointer (some ⟨ey, 17, none⟩)) rfl (by kernel_rfl) (by kernel_rfl) (by kernel_rfl) (fun _ _ _ h => h) (Or.inl ⟨by rfl, ?_⟩) hS ?_
    · (intro w9 hS9; go_simp; try with_reducible rfl)
    simp only [Act.put, List.getElem_toArray, List.getElem_cons_zero, List.setIfInBounds_toArray, List.set_cons_zero, List.set_cons_succ]
    refine wpAnyH_take (i := 1) (v := .slice (some ⟨p2, 0, none⟩) n c2) rfl (by kernel_rfl) (by kernel_rfl) (by kernel_rfl) (fun _ _ _ h => h) (Or.inl ⟨by rfl, ?_⟩) hS ?_
    · (intro w9 hS9; have q17 : w9.cell? ⟨ey, 17, none⟩ = some (.slice (some ⟨p2, 0, none⟩) n c2) := (by rw [hS9.cell]; exact HDs.out _ _); go_simp; try with_reducible rfl)
    simp only [Act.put, List.getElem_toArray, List.getElem_cons_zero, List.getElem_cons_succ, List.setIfInBounds_toArray, List.set_cons_zero, List.set_cons_succ]
    refine wpAnyH_take (i := 2) (v := .int .i64 k) rfl (by kernel_rfl) (by kernel_rfl) (by kernel_rfl) (fun _ _ _ h => h) (Or.inl ⟨by rfl, ?_⟩) hS ?_
    · (intro w9 hS9; go_simp; try with_reducible rfl)
    simp only [Act.put, List.getElem_toArray, List.getElem_cons_zero, List.getElem_cons_succ, List.setIfInBounds_toArray, List.set_cons_zero, List.set_cons_succ]
    refine wpAnyH_take (i := 3) (v := .pointer (some ⟨ey, 17, none⟩)) rfl (by kernel_rfl) (by kernel_rfl) (by kernel_rfl) (fun _ _ _ h => h) (Or.inl ⟨by rfl, ?_⟩) hS ?_
    · (intro w9 hS9; go_simp; try with_reducible rfl)
    simp only [Act.put, List.getElem_toArray, List.getElem_cons_zero, List.getElem_cons_succ, List.setIfInBounds_toArray, List.set_cons_zero, List.set_cons_succ]
    refine wpAnyH_take (i := 4) (v := .slice (some ⟨p2, 0, none⟩) n c2) rfl (by kernel_rfl) (by kernel_rfl) (by kernel_rfl) (fun _ _ _ h => h) (Or.inl ⟨by rfl, ?_⟩) hS ?_
    · (intro w9 hS9; have q17 : w9.cell? ⟨ey, 17, none⟩ = some (.slice (some ⟨p2, 0, none⟩) n c2) := (by rw [hS9.cell]; exact HDs.out _ _); go_simp; try with_reducible rfl)
    simp only [Act.put, List.getElem_toArray, List.getElem_cons_zero, List.getElem_cons_succ, List.setIfInBounds_toArray, List.set_cons_zero, List.set_cons_succ]
    refine wpAnyH_take (i := 5) (v := .int .i64 k) rfl (by kernel_rfl) (by kernel_rfl) (by kernel_rfl) (fun _ _ _ h => h) (Or.inl ⟨by rfl, ?_⟩) hS ?_
    · (intro w9 hS9; go_simp; try with_reducible rfl)
    simp only [Act.put, List.getElem_toArray, List.getElem_cons_zero, List.getElem_cons_succ, List.setIfInBounds_toArray, List.set_cons_zero, List.set_cons_succ]
    refine wpAnyH_take (i := 6) (v := .pointer (some ⟨p2, k * 90, none⟩)) rfl (by kernel_rfl) (by kernel_rfl) (by kernel_rfl) (fun _ _ _ h => h) (Or.inl ⟨by rfl, ?_⟩) hS ?_
    · (intro w9 hS9; go_simp; try with_reducible rfl)
    simp only [Act.put, List.getElem_toArray, List.getElem_cons_zero, List.getElem_cons_succ, List.setIfInBounds_toArray, List.set_cons_zero, List.set_cons_succ]
    refine wpAnyH_ready (rs := [7]) (by kernel_rfl) (by simp) (AllReadyH.cons rfl (fun K hK => ?_) AllReadyH.nil)
    rw [if_pos (by rfl)]
    refine wp_load_whole uP rfl sP _ rfl rfl (HRG.out _ HA.out.drew) TK.out.1 ?_
    refine hK _ _ VY6.out.drew (fun hS => ?_)
    clear hK K
    simp only [Act.put, List.getElem_toArray, List.getElem_cons_zero, List.getElem_cons_succ, List.setIfInBounds_toArray, List.set_cons_zero, List.set_cons_succ]
    refine wpAnyH_ready (rs := [8]) (by kernel_rfl) (by simp) (AllReadyH.cons rfl (fun K hK => ?_) AllReadyH.nil)
    go_simp
    refine (kD.out _).mono ?_
    rintro e w7 ⟨rfl, hb⟩
    have B7 := Lib.hid (B6.out.drew.trans (hb.mono B6.out.drew.size))
    have VX7 := Lib.hid (VX6.out.drew.below hb VX6.out.drew.lt)
    have VY7 := Lib.hid (VY6.out.drew.below hb VY6.out.drew.lt)
    have A7 := Lib.hid (HA.out.drew.below hb HA.out.drew.lt)
    have QX7 := Lib.hid (show ∃ A, VarAt w7 p1 A 39 ∧ n * 90 ≤ A.size ∧ ∀ i, i < n → Sub A (i * 90) (at1 XS k ys i) by obtain ⟨A, a1, a2⟩ := QX6.out; exact ⟨A, a1.drew.below hb a1.drew.lt, a2⟩)
    refine hK _ _ VY7.out (fun hS => ?_)
    clear hK K hb B6 VX6 VY6 HA QX6 kD
    refine wpAnyH_take (i := 9) (v := .pointer (some ⟨p2, k * 90, none⟩)) rfl (by kernel_rfl) (by kernel_rfl) (by kernel_rfl) (fun _ _ _ h => h) (Or.inl ⟨by rfl, ?_⟩) hS ?_
    · (intro w9 hS9; go_simp; try with_reducible rfl)
    simp only [Act.put, List.getElem_toArray, List.getElem_cons_zero, List.getElem_cons_succ, List.setIfInBounds_toArray, List.set_cons_zero, List.set_cons_succ]
    refine wpAnyH_ready (rs := [10]) (by kernel_rfl) (by simp) (AllReadyH.cons rfl (fun K hK => ?_) AllReadyH.nil)
    rw [if_pos (by rfl)]
    refine wp_store_only sP _ _ rfl rfl rfl A7.out TY.out.one TY.out.1 (by have := HAN.out; omega) ?_
    intro w8 hv ho
    simp only [Act.put]
    have VX8 := Lib.hid (ho.var VX7.out (by omega))
    have VY8 := Lib.hid (ho.var VY7.out (by omega))
    have B8 := Lib.hid (B7.out.trans (ho.below (by omega) B7.out.size))
    have PX8 := Lib.hid (pin_of (cap := c1) (show ∃ A, VarAt w8 p1 A 39 ∧ n * 90 ≤ A.size ∧ ∀ i, i < n → Sub A (i * 90) (at1 XS k ys i) by obtain ⟨A, a1, a2⟩ := QX7.out; exact ⟨A, ho.var a1 (by omega), a2⟩))
    have PY8 := Lib.hid (pin_of (cap := c2) (XS := at1 XS k ys) ⟨_, hv, by rw [putL_size]; exact HAN.out, subs_whole HAS.out HAN.out hk TY.out.1⟩)
    refine hK _ _ VY8.out (fun hS => ?_)
    clear hK K hv ho VX7 VY7 A7 B7 QX7
    refine wpAnyH_done (by kernel_rfl) ?_ _
    go_wp2_with (with_reducible refine stopL 47 _ rfl ?_)
    refine Lib.hid ?_
    refine wpList_load_whole uB rfl sB rfl _ rfl rfl (range_whole VX8.out) (HDz.out _ _) ?_
    refine wpList_load_whole uB rfl sB rfl _ rfl rfl (range_whole VY8.out) (HDz.out _ _) ?_
    go_wp2_with fail
    refine (kSm.out hn (at1 XS k ys) (hYS.out) p1 p2 c1 c2 _ PX8.out PY8.out).mono ?_
    rintro e w9 ⟨rfl, hb⟩
    have B9 := Lib.hid (B8.out.trans (hb.mono B8.out.size))
    clear hb
    go_wp2_with fail
    go_ret
    exact ⟨rfl, B9.out⟩
set_option maxRecDepth 20000 in
set_option maxHeartbeats 8000000 in
theorem starts_out (B : Bd) (s : Value) (n : Nat) (i : Int) (XS : Nat → Array Value) (w : World) (hs : PIn w s n XS) (ht : ∀ i, i < n → Typed (XS i)) (he : Env w) (hi : i < 0 ∨ (n : Int) ≤ i) :
    Calls Tryd.prog 6 #[.agg (B.cells s), .int .i64 i] w fun e w' => e = .returned (.bool true) ∧ Below w.heap.size w w' := by
  have hx : ∀ i, i < n → (XS i).size = 90 := fun i hi => (ht i hi).1
  have hv0 := Lib.hid (var_new w (B.cells s) 47)
  have hB0 := Lib.hid (box_below w (.cells (B.cells s) 47))
  have HX := Lib.hid hx
  have HT := Lib.hid ht
  have HSW := Lib.hid hs
  have HENV := Lib.hid he
  have HC18 := Lib.hid (show (B.cells s).size = 18 by simp)
  obtain ⟨D, hD⟩ : ∃ D : Nat → Nat → Array Value, ∀ p c, D p c = B.cells (.slice (some ⟨p, 0, none⟩) n c) := ⟨_, fun _ _ => rfl⟩
  have HD := Lib.hid hD
  have HDz := Lib.hid (fun p c => show (D p c).size = 18 by rw [hD]; simp)
  have HDs := Lib.hid (fun p c => show (D p c)[17]? = some (.slice (some ⟨p, 0, none⟩) n c) by rw [hD]; simp)
  have HDo := Lib.hid (fun p c => show (D p c).all (·.oneCell') = true by rw [hD]; exact B.one rfl)
  have kF := Lib.hid (fun w => fits_any B s n XS w)
  have kCp := Lib.hid (fun (hn : n ≤ 20) w (h : PIn w s n XS) => show Calls Tryd.prog 15 #[.agg (B.cells s)] w fun e w' => ∃ pb cap, e = .returned (.agg (D pb cap)) ∧ Kept3 w w' pb n XS ∧ Below w.heap.size w w' by
    simp only [hD]; exact copy_any B s n XS w h hn ht)
  have kSm := Lib.hid (fun (hn : n ≤ 20) (YS : Nat → Array Value) (hy : ∀ i, i < n → Typed (YS i)) p1 p2 c1 c2 w h1 h2 => show Calls Tryd.prog 16 #[.agg (D p1 c1), .agg (D p2 c2)] w fun e w' => e = .returned (.bool true) ∧ Below w.heap.size w w' by
    simp only [hD]; exact same_pin B (.slice (some ⟨p1, 0, none⟩) n c1) (.slice (some ⟨p2, 0, none⟩) n c2) n YS w h1 h2 hy hn)
  clear hs ht hx hD he
  generalize B.cells s = C at *
  go_enter Tryd.func6, Tryd.ntmps6
  go_wp2_with fail
  generalize w.alloc (.cells C 47) = w0 at *
  refine (livesL_any _ (HENV.out.below hB0.out)).mono ?_
  rintro e w1 ⟨rfl, hb⟩
  have V1 := Lib.hid (hv0.out.below hb hv0.out.lt)
  have B1 := Lib.hid (hB0.out.trans (hb.mono hB0.out.size))
  clear hb hv0 hB0
  go_wp2_with (with_reducible refine stopL 47 _ rfl ?_)
  refine Lib.hid ?_
  refine guarded_load (by rfl) _ rfl rfl V1.out HC18.out ?_
  go_wp2_with fail
  refine (kF.out _ (HSW.out.below HX.out B1.out) HT.out).mono ?_
  rintro e w2 ⟨⟨q, rfl, hqn⟩, hb⟩
  have V2 := Lib.hid (V1.out.below hb V1.out.lt)
  have B2 := Lib.hid (B1.out.trans (hb.mono B1.out.size))
  clear hb V1 B1 kF
  cases q
  · go_wp2_with fail
    refine (livesL_any _ (HENV.out.below B2.out)).mono ?_
    rintro e w3 ⟨rfl, hb⟩
    have B3 := Lib.hid (B2.out.trans (hb.mono B2.out.size))
    clear hb
    go_wp2_with fail
    go_ret
    exact ⟨rfl, B3.out⟩
  · have hn := hqn rfl
    clear hqn
    have P2 := Lib.hid (HSW.out.below HX.out B2.out)
    go_wp2_with fail
    have zz := zero34
    have zs := Lib.hid z34_size
    generalize z34 = Z at *
    have hst := Lib.hid (show St C Z s n w.heap.size XS w w2.drew [] none none from ⟨V2.out.drew, HSW.out.below HX.out B2.out.drew, B2.out.drew, fun _ h => (by cases h), List.nodup_nil, fun _ h => (by cases h), fun _ h => (by cases h), fun _ h => (by cases h)⟩)
    refine wp_region_held_drew (S := fun w' => VarAt w' w.heap.size C 47) (by kernel_rfl) V2.out.drew (fun hS => ?_)
    refine wpAnyH_take (i := 0) (v := .agg C) rfl (by kernel_rfl) (by kernel_rfl) (by kernel_rfl) (fun _ _ _ h => h) (yields_br (by rfl) _ rfl rfl (fun w9 h9 => h9) HC18.out) hS ?_
    simp only [Act.put, List.getElem_toArray, List.getElem_cons_zero, List.setIfInBounds_toArray, List.set_cons_zero, List.set_cons_succ]
    refine wpAnyH_take (i := 2) (v := .agg C) rfl (by kernel_rfl) (by kernel_rfl) (by kernel_rfl) (fun _ _ _ h => h) (yields_br (by rfl) _ rfl rfl (fun w9 h9 => h9) HC18.out) hS ?_
    simp only [Act.put, List.getElem_toArray, List.getElem_cons_zero, List.getElem_cons_succ, List.setIfInBounds_toArray, List.set_cons_zero, List.set_cons_succ]
    refine st0 HX.out (Lib.hid (kCp.out hn)) zz (Lib.hid (fun w3 p1 c1 p2 c2 ex ey hst => ?_)) _ hst.out
    clear zz
    have hx1 := (hst.ax ex rfl).2
    have hy1 := (hst.ay ey rfl).2
    have hxy : ey ≠ ex := fun e => hst.xy ex rfl (by rw [e])
    have hnd := hst.nd
    simp at hnd
    have h21 : p2 ≠ p1 := fun e => hnd e
    have hqx := (hst.ax ex rfl).1
    have hqy := (hst.ay ey rfl).1
    have hqp1 := (hst.pc p1 (by simp)).1
    have hqp2 := (hst.pc p2 (by simp)).1
    have Q1 := Lib.hid (hst.pc p1 (by simp)).2
    have Q2 := Lib.hid (hst.pc p2 (by simp)).2
    have V3 := Lib.hid hst.hb
    have B3 := Lib.hid hst.bel
    have ne1 : ∀ p e, (∃ A, VarAt w3 p A 39 ∧ n * 90 ≤ A.size ∧ ∀ i, i < n → Sub A (i * 90) (XS i)) → VarAt w3 e Z 47 → p ≠ e := fun p e ⟨A, h1, _⟩ h2 => var_ne h1 h2 (by decide)
    have n1x := ne1 p1 ex Q1.out hx1
    have n1y := ne1 p1 ey Q1.out hy1
    have n2x := ne1 p2 ex Q2.out hx1
    have n2y := ne1 p2 ey Q2.out hy1
    have VX := Lib.hid hx1
    have VY := Lib.hid hy1
    clear ne1 hnd hst hx1 hy1 V2 B2
    refine wpAnyH_ready (rs := [6]) (by kernel_rfl) (by simp) (AllReadyH.cons rfl (fun K hK => ?_) AllReadyH.nil)
    rw [if_pos (by rfl)]
    refine wp_store_only sB _ _ rfl rfl rfl VX.out (HDo.out _ _) (HDz.out _ _) (by rw [zs.out]; omega) ?_
    intro w4 hv ho
    simp only [Act.put]
    rw [putL_all _ _ (by rw [zs.out, HDz.out])] at hv
    have VX' := Lib.hid hv
    have VY' := Lib.hid (ho.var VY.out (by omega))
    have Q1' := Lib.hid (show ∃ A, VarAt w4 p1 A 39 ∧ n * 90 ≤ A.size ∧ ∀ i, i < n → Sub A (i * 90) (XS i) by obtain ⟨A, a1, a2⟩ := Q1.out; exact ⟨A, ho.var a1 (by omega), a2⟩)
    have Q2' := Lib.hid (show ∃ A, VarAt w4 p2 A 39 ∧ n * 90 ≤ A.size ∧ ∀ i, i < n → Sub A (i * 90) (XS i) by obtain ⟨A, a1, a2⟩ := Q2.out; exact ⟨A, ho.var a1 (by omega), a2⟩)
    have V4 := Lib.hid (ho.var V3.out (by omega))
    have B4 := Lib.hid (B3.out.trans (ho.below (by omega) B3.out.size))
    clear VX VY Q1 Q2
    have VX := VX'
    have VY := VY'
    have Q1 := Q1'
    have Q2 := Q2'
    clear VX' VY' Q1' Q2'
    refine hK _ _ V4.out (fun hS => ?_)
    clear hK K hv ho V3 B3
    refine wpAnyH_ready (rs := [7]) (by kernel_rfl) (by simp) (AllReadyH.cons rfl (fun K hK => ?_) AllReadyH.nil)
    rw [if_pos (by rfl)]
    refine wp_store_only sB _ _ rfl rfl rfl VY.out (HDo.out _ _) (HDz.out _ _) (by rw [zs.out]; omega) ?_
    intro w5 hv ho
    simp only [Act.put]
    rw [putL_all _ _ (by rw [zs.out, HDz.out])] at hv
    have VY' := Lib.hid hv
    have VX' := Lib.hid (ho.var VX.out (by omega))
    have Q1' := Lib.hid (show ∃ A, VarAt w5 p1 A 39 ∧ n * 90 ≤ A.size ∧ ∀ i, i < n → Sub A (i * 90) (XS i) by obtain ⟨A, a1, a2⟩ := Q1.out; exact ⟨A, ho.var a1 (by omega), a2⟩)
    have Q2' := Lib.hid (show ∃ A, VarAt w5 p2 A 39 ∧ n * 90 ≤ A.size ∧ ∀ i, i < n → Sub A (i * 90) (XS i) by obtain ⟨A, a1, a2⟩ := Q2.out; exact ⟨A, ho.var a1 (by omega), a2⟩)
    have V5 := Lib.hid (ho.var V4.out (by omega))
    have B5 := Lib.hid (B4.out.trans (ho.below (by omega) B4.out.size))
    clear VX VY Q1 Q2
    have VX := VX'
    have VY := VY'
    have Q1 := Q1'
    have Q2 := Q2'
    clear VX' VY' Q1' Q2'
    refine hK _ _ V5.out (fun hS => ?_)
    clear hK K hv ho V4 B4
    refine wpAnyH_done (by kernel_rfl) ?_ _
    clear V5
    have BX := Lib.hid (show Br w5 B ex p1 n c1 XS from ⟨by rw [← HD.out]; exact VX.out, Q1.out⟩)
    clear VX Q1
    go_wp2_with fail
    refine (start_nil _ _).mono ?_
    rintro e w6 ⟨rfl, rfl⟩
    go_wp2_with fail
    refine (start_none B ex p1 n c1 i XS w5 BX.out hi).mono ?_
    rintro e w6 ⟨rfl, rfl⟩
    have VX8 := Lib.hid (show VarAt w5 ex (D p1 c1) 47 by rw [HD.out]; exact BX.out.hb)
    have VY8 := VY
    have B8 := B5
    have PX8 := Lib.hid (pin_of (cap := c1) BX.out.ex)
    have PY8 := Lib.hid (pin_of (cap := c2) Q2.out)
    have c17 : w5.cell? ⟨ey, 17, none⟩ = some (.slice (some ⟨p2, 0, none⟩) n c2) := by rw [VY8.out.cell]; exact HDs.out _ _
    clear BX VY B5 Q2
    by_cases h0 : i < 0
    · have h1 : ¬ (0 ≤ i) := by omega
      clear hi
      go_wp2_with (with_reducible refine stopL 47 _ rfl ?_)
      refine Lib.hid ?_
      refine wpList_load_whole uB rfl sB rfl _ rfl rfl (range_whole VX8.out) (HDz.out _ _) ?_
      refine wpList_load_whole uB rfl sB rfl _ rfl rfl (range_whole VY8.out) (HDz.out _ _) ?_
      go_wp2_with fail
      refine (kSm.out hn (XS) (HT.out) p1 p2 c1 c2 _ PX8.out PY8.out).mono ?_
      rintro e w9 ⟨rfl, hb⟩
      have B9 := Lib.hid (B8.out.trans (hb.mono B8.out.size))
      clear hb
      go_wp2_with fail
      go_ret
      exact ⟨rfl, B9.out⟩
    · have h1 : 0 ≤ i := by omega
      have h2 : ¬ (i < (n : Int)) := by omega
      clear hi h0
      go_wp2_with (with_reducible refine stopL 47 _ rfl ?_)
      refine Lib.hid ?_
      refine wpList_load_whole uB rfl sB rfl _ rfl rfl (range_whole VX8.out) (HDz.out _ _) ?_
      refine wpList_load_whole uB rfl sB rfl _ rfl rfl (range_whole VY8.out) (HDz.out _ _) ?_
      go_wp2_with fail
      refine (kSm.out hn (XS) (HT.out) p1 p2 c1 c2 _ PX8.out PY8.out).mono ?_
      rintro e w9 ⟨rfl, hb⟩
      have B9 := Lib.hid (B8.out.trans (hb.mono B8.out.size))
      clear hb
      go_wp2_with fail
      go_ret
      exact ⟨rfl, B9.out⟩
theorem starts_any (B : Bd) (s : Value) (n : Nat) (i : Int) (XS : Nat → Array Value) (w : World) (hs : PIn w s n XS) (ht : ∀ i, i < n → Typed (XS i)) (_hr : ∀ i, i < n → Rg (XS i)) (he : Env w) :
    Calls Tryd.prog 6 #[.agg (B.cells s), .int .i64 i] w fun e w' => e = .returned (.bool true) ∧ Below w.heap.size w w' := by
  by_cases hi : 0 ≤ i ∧ i < n
  · obtain ⟨k, rfl⟩ : ∃ k : Nat, i = k := ⟨i.toNat, by omega⟩
    exact starts_in B s n k XS w hs ht he (by omega)
  · exact starts_out B s n i XS w hs ht he (by omega)
end Go.Proofs.YtjfdochceejegaaDoor
