/- Contract of the reference's Step. -/
import Derived.Test.YtjfdochceejegaaDoorMf
namespace Go.Proofs.YtjfdochceejegaaDoor
open Go.RowKit Go.Sort

theorem results_pair {fn : Func} {p u : Tmp} (h : fn.results = #[.cell p 47, .tmp u]) (tmps : Array Value) (w : World) (g : Nat) (t : TypeId) (cs : Array Value) (fr : Nat × Nat)
    (hp : tmps.getD p undef = .pointer (some ⟨g, 0, none⟩)) (hg : w.heap[g]? = some (.cells cs t fr)) (hz : cs.size = 18) :
    (results fn tmps).run Tryd.prog w = .ok (.tuple #[.agg cs, tmps.getD u undef]) w := by
  rw [results_cell_tmp h, hp]
  simp [asAddr, run_loadVar_row w g t 47 cs fr _ hg uB rfl (by rw [sB, hz])]
theorem PIn.congr {w : World} {s : Value} {n : Nat} {XS YS : Nat → Array Value} (h : PIn w s n XS) (e : ∀ i, i < n → YS i = XS i) : PIn w s n YS := by
  obtain ⟨a, c, rfl, h0, h1⟩ := h
  exact ⟨a, c, rfl, h0, fun hn => by
    obtain ⟨b, o, rfl, hc⟩ := h1 hn
    exact ⟨b, o, rfl, fun i hi k hk => by rw [hc i hi k hk, e i hi]⟩⟩
/-- A bridge and a Bool, as a reference's machine returns them. -/
def Ret (B : Bd) (n : Nat) (YS : Nat → Array Value) (d : Bool) (w : World) (e : Ending) (w' : World) : Prop := ∃ s', e = .returned (.tuple #[.agg (B.cells s'), .bool d]) ∧ PIn w' s' n YS ∧ Below w.heap.size w w'
theorem Kept3.pin {w w' : World} {pb n cap : Nat} {XS : Nat → Array Value} (h : Kept3 w w' pb n XS) : PIn w' (.slice (some ⟨pb, 0, none⟩) n cap) n XS := by
  obtain ⟨A, hA, _, h4, _⟩ := h
  refine ⟨some ⟨pb, 0, none⟩, cap, rfl, fun h => (by cases h), fun _ => ⟨pb, 0, rfl, fun i hi k hk => ?_⟩⟩
  rw [hA.cell, Nat.zero_add]; exact h4 i hi k hk
set_option maxHeartbeats 1000000 in
theorem refstep_none (B : Bd) (s : Value) (n : Nat) (i : Int) (XS : Nat → Array Value) (w : World) (hs : PIn w s n XS) (hi : i < 0 ∨ (n : Int) ≤ i) (ht : ∀ j, j < n → Typed (XS j)) :
    Calls Tryd.prog 14 #[.agg (B.cells s), .int .i64 i] w fun e w' => Ret B n XS false w e w' := by
  have V1 := Lib.hid ((var_new w (B.cells s) 47).alloc (.cells z34 47))
  have V2 := Lib.hid (show VarAt ((w.alloc (.cells (B.cells s) 47)).alloc (.cells z34 47)) (w.heap.size + 1) z34 47 by
    have := var_new (w.alloc (.cells (B.cells s) 47)) z34 47
    rwa [alloc_size] at this)
  have B1 := Lib.hid (show Below w.heap.size w ((w.alloc (.cells (B.cells s) 47)).alloc (.cells z34 47)) from ((Below.refl w.heap.size w).alloc (Nat.le_refl _) _).alloc (by rw [alloc_size]; omega) _)
  obtain ⟨a, c, rfl⟩ : ∃ a c, s = .slice a n c := by obtain ⟨a, c, rfl, _⟩ := hs; exact ⟨a, c, rfl⟩
  have HF := Lib.hid (fun e w' (he : e = .returned (.tuple #[.agg (B.cells (.slice a n c)), .bool false])) hb => (show Ret B n XS false w e w' from ⟨_, he, hs.below (fun j hj => (ht j hj).1) hb, hb⟩))
  have HC18 := Lib.hid (show (B.cells (.slice a n c)).size = 18 by simp)
  have HC17 := Lib.hid (show (B.cells (.slice a n c))[17]? = some (.slice a n c) by simp)
  have HC1 := Lib.hid (B.one (s := .slice a n c) rfl)
  have zz := zero34
  have zs := Lib.hid z34_size
  clear hs ht
  generalize Ret B n XS false w = RT at *
  generalize z34 = Z at *
  generalize B.cells (.slice a n c) = C at *
  by_cases h0 : i < 0
  · clear hi
    go_enter Tryd.func14, Tryd.ntmps14
    go_upto_region 1 with fail
    clear zz
    generalize (w.alloc (.cells C 47)).alloc (.cells Z 47) = w0 at *
    have c17 : w0.cell? ⟨w.heap.size, 17, none⟩ = some (.slice a n c) := by rw [V1.out.cell]; exact HC17.out
    go_wp2_with (with_reducible refine stopL 47 _ rfl ?_)
    refine Lib.hid ?_
    refine wpList_load_whole uB rfl sB rfl _ rfl rfl (range_whole V1.out) HC18.out ?_
    refine wpList_store_only sB rfl _ _ rfl rfl rfl V2.out HC1.out HC18.out (by rw [zs.out]; omega) ?_
    intro w9 hv9 ho9
    rw [putL_all _ _ (by rw [zs.out, HC18.out])] at hv9
    have V9 := Lib.hid hv9
    have B9 := Lib.hid (B1.out.trans (ho9.below (by omega) B1.out.size))
    clear hv9 ho9
    go_wp2_with (with_reducible refine stopE ?_)
    refine Lib.hid ?_
    refine bodyPost_ret (v := .tuple #[.agg C, .bool false]) (results_pair (p := 4) (u := 5) rfl _ _ (w.heap.size + 1) 47 _ (0, 0) rfl V9.out HC18.out) rfl (HF.out _ _ rfl B9.out)
  · have h1 : ¬ (i < 0) := h0
    have h2 : (n : Int) ≤ i := by omega
    clear hi
    go_enter Tryd.func14, Tryd.ntmps14
    go_upto_region 1 with fail
    clear zz
    generalize (w.alloc (.cells C 47)).alloc (.cells Z 47) = w0 at *
    have c17 : w0.cell? ⟨w.heap.size, 17, none⟩ = some (.slice a n c) := by rw [V1.out.cell]; exact HC17.out
    go_wp2_with (with_reducible refine stopL 47 _ rfl ?_)
    refine Lib.hid ?_
    refine wpList_load_whole uB rfl sB rfl _ rfl rfl (range_whole V1.out) HC18.out ?_
    refine wpList_store_only sB rfl _ _ rfl rfl rfl V2.out HC1.out HC18.out (by rw [zs.out]; omega) ?_
    intro w9 hv9 ho9
    rw [putL_all _ _ (by rw [zs.out, HC18.out])] at hv9
    have V9 := Lib.hid hv9
    have B9 := Lib.hid (B1.out.trans (ho9.below (by omega) B1.out.size))
    clear hv9 ho9
    go_wp2_with (with_reducible refine stopE ?_)
    refine Lib.hid ?_
    refine bodyPost_ret (v := .tuple #[.agg C, .bool false]) (results_pair (p := 4) (u := 5) rfl _ _ (w.heap.size + 1) 47 _ (0, 0) rfl V9.out HC18.out) rfl (HF.out _ _ rfl B9.out)
set_option maxHeartbeats 4000000 in
theorem refstep_some (B : Bd) (s : Value) (n k : Nat) (XS : Nat → Array Value) (w : World) (hs : PIn w s n XS) (hk : k < n) (hn : n ≤ 20) (ht : ∀ j, j < n → Typed (XS j)) (hr : Rg (XS k)) :
    Calls Tryd.prog 14 #[.agg (B.cells s), .int .i64 k] w fun e w' => Ret B n (at1 XS k (stepX B.rs (XS k)).2) (stepX B.rs (XS k)).1 w e w' := by
  have hx : ∀ i, i < n → (XS i).size = 90 := fun i hi => (ht i hi).1
  have V1 := Lib.hid ((var_new w (B.cells s) 47).alloc (.cells z34 47))
  have V2 := Lib.hid (show VarAt ((w.alloc (.cells (B.cells s) 47)).alloc (.cells z34 47)) (w.heap.size + 1) z34 47 by
    have := var_new (w.alloc (.cells (B.cells s) 47)) z34 47
    rwa [alloc_size] at this)
  have B1 := Lib.hid (show Below w.heap.size w ((w.alloc (.cells (B.cells s) 47)).alloc (.cells z34 47)) from ((Below.refl w.heap.size w).alloc (Nat.le_refl _) _).alloc (by rw [alloc_size]; omega) _)
  obtain ⟨pb, o, c, hsl, hpat⟩ := hs.pat (by omega)
  subst hsl
  have kN := Lib.hid (fun w => refnext_any B (.slice (some ⟨pb, o, none⟩) n c) (XS k) w (ht k hk) hr)
  have kCp := Lib.hid (fun w0 h0 => copy_any B (.slice (some ⟨pb, o, none⟩) n c) n XS w0 h0 hn ht)
  have HPK := Lib.hid (fun w' (hb : Below w.heap.size w w') => (((hpat k hk).below (hx k hk) hb).range (hx k hk)))
  have HSW := Lib.hid (fun w' (hb : Below w.heap.size w w') => hs.below hx hb)
  have HC18 := Lib.hid (show (B.cells (.slice (some ⟨pb, o, none⟩) n c)).size = 18 by simp)
  have HC1 := Lib.hid (B.one (s := .slice (some ⟨pb, o, none⟩) n c) rfl)
  have HC17 := Lib.hid (show (B.cells (.slice (some ⟨pb, o, none⟩) n c))[17]? = some (.slice (some ⟨pb, o, none⟩) n c) by simp)
  have HD18 := Lib.hid (fun pb' cap => (show (B.cells (.slice (some ⟨pb', 0, none⟩) n cap)).size = 18 by simp))
  have HD17 := Lib.hid (fun pb' cap => (show (B.cells (.slice (some ⟨pb', 0, none⟩) n cap))[17]? = some (.slice (some ⟨pb', 0, none⟩) n cap) by simp))
  have HD1 := Lib.hid (fun pb' cap => B.one (s := .slice (some ⟨pb', 0, none⟩) n cap) rfl)
  have i0 := idx32o pb o n c k hk
  have HTK := Lib.hid (ht k hk)
  have HTY := Lib.hid (stepX_typed B.rs (ht k hk))
  have HF := Lib.hid (fun e w' pb' cap (he : e = .returned (.tuple #[.agg (B.cells (.slice (some ⟨pb', 0, none⟩) n cap)), .bool (stepX B.rs (XS k)).1])) (hp : PIn w' (.slice (some ⟨pb', 0, none⟩) n cap) n (at1 XS k (stepX B.rs (XS k)).2)) (hb : Below w.heap.size w w') => (show Ret B n (at1 XS k (stepX B.rs (XS k)).2) (stepX B.rs (XS k)).1 w e w' from ⟨_, he, hp, hb⟩))
  have zz := zero34
  have zs := Lib.hid z34_size
  have zps := Lib.hid z48_size
  have zp := zero48
  clear hs ht hpat hx hr
  have h1 : ¬ ((k : Int) < 0) := by omega
  have h2 : ¬ ((n : Int) ≤ (k : Int)) := by omega
  generalize hCC : B.cells (.slice (some ⟨pb, o, none⟩) n c) = C at *
  have HCC := Lib.hid hCC
  clear hCC
  generalize z34 = Z at *
  generalize z48 = ZP at *
  generalize (stepX B.rs (XS k)).1 = did at *
  generalize (stepX B.rs (XS k)).2 = ys at *
  generalize hXK : XS k = xs at *
  clear hXK
  go_enter Tryd.func14, Tryd.ntmps14
  go_upto_region 1 with fail
  clear zz
  generalize (w.alloc (.cells C 47)).alloc (.cells Z 47) = w0 at *
  have c17 : w0.cell? ⟨w.heap.size, 17, none⟩ = some (.slice (some ⟨pb, o, none⟩) n c) := by rw [V1.out.cell]; exact HC17.out
  go_upto_region 3 with fail
  clear c17
  refine wp_region_held_drew (S := fun w' => VarAt w' w.heap.size C 47 ∧ w'.rangeAt pb (o + k * 90) xs.toList) (by kernel_rfl) ⟨V1.out.drew, HPK.out _ B1.out.drew⟩ (fun hS => ?_)
  refine wpAnyH_take (i := 0) (v := .agg C) rfl (by kernel_rfl) (by kernel_rfl) (by kernel_rfl) (fun _ _ _ h => h) (yields_br (by rfl) _ rfl rfl (fun w9 h9 => h9.1) HC18.out) hS ?_
  simp only [Act.put, List.getElem_toArray, List.getElem_cons_zero, List.setIfInBounds_toArray, List.set_cons_zero, List.set_cons_succ]
  refine wpAnyH_take (i := 1) (v := .pointer (some ⟨w.heap.size, 17, none⟩)) rfl (by kernel_rfl) (by kernel_rfl) (by kernel_rfl) (fun _ _ _ h => h) (Or.inl ⟨by rfl, ?_⟩) hS ?_
  · (intro w9 hS9; go_simp; try with_reducible rfl)
  simp only [Act.put, List.getElem_toArray, List.getElem_cons_zero, List.getElem_cons_succ, List.setIfInBounds_toArray, List.set_cons_zero, List.set_cons_succ]
  refine wpAnyH_take (i := 2) (v := .slice (some ⟨pb, o, none⟩) n c) rfl (by kernel_rfl) (by kernel_rfl) (by kernel_rfl) (fun _ _ _ h => h) (Or.inl ⟨by rfl, ?_⟩) hS ?_
  · (intro w9 hS9; have q17 : w9.cell? ⟨w.heap.size, 17, none⟩ = some (.slice (some ⟨pb, o, none⟩) n c) := (by rw [hS9.1.cell]; exact HC17.out); go_simp; try with_reducible rfl)
  simp only [Act.put, List.getElem_toArray, List.getElem_cons_zero, List.getElem_cons_succ, List.setIfInBounds_toArray, List.set_cons_zero, List.set_cons_succ]
  refine wpAnyH_take (i := 3) (v := .int .i64 k) rfl (by kernel_rfl) (by kernel_rfl) (by kernel_rfl) (fun _ _ _ h => h) (Or.inl ⟨by rfl, ?_⟩) hS ?_
  · (intro w9 hS9; go_simp; try with_reducible rfl)
  simp only [Act.put, List.getElem_toArray, List.getElem_cons_zero, List.getElem_cons_succ, List.setIfInBounds_toArray, List.set_cons_zero, List.set_cons_succ]
  refine wpAnyH_take (i := 4) (v := .pointer (some ⟨pb, o + k * 90, none⟩)) rfl (by kernel_rfl) (by kernel_rfl) (by kernel_rfl) (fun _ _ _ h => h) (Or.inl ⟨by rfl, ?_⟩) hS ?_
  · (intro w9 hS9; go_simp; try with_reducible rfl)
  simp only [Act.put, List.getElem_toArray, List.getElem_cons_zero, List.getElem_cons_succ, List.setIfInBounds_toArray, List.set_cons_zero, List.set_cons_succ]
  refine wpAnyH_take (i := 5) (v := .agg xs) rfl (by kernel_rfl) (by kernel_rfl) (by kernel_rfl) (fun _ _ _ h => h) (yields_port (by rfl) _ rfl rfl (fun w9 h9 => h9.2) HTK.out.1) hS ?_
  simp only [Act.put, List.getElem_toArray, List.getElem_cons_zero, List.getElem_cons_succ, List.setIfInBounds_toArray, List.set_cons_zero, List.set_cons_succ]
  refine wpAnyH_ready (rs := [6, 10]) (by kernel_rfl) (by simp) (AllReadyH.cons rfl (fun K hK => ?_) (AllReadyH.cons rfl (fun K hK => ?_) AllReadyH.nil))
  · go_simp
    refine (kN.out _).mono ?_
    rintro e w3 ⟨rfl, hb⟩
    have B3 := Lib.hid (B1.out.drew.trans (hb.mono B1.out.drew.size))
    have V13 := Lib.hid (V1.out.drew.below hb V1.out.drew.lt)
    have V23 := Lib.hid (V2.out.drew.below hb V2.out.drew.lt)
    refine hK _ _ ⟨V13.out, HPK.out _ B3.out⟩ (fun hS => ?_)
    clear hK K hb V1 V2 B1
    have kN0 := kN
    refine wpAnyH_take (i := 7) (v := .tuple #[.agg ys, .bool did]) rfl (by kernel_rfl) (by kernel_rfl) (by kernel_rfl) (fun _ _ _ h => h) (Or.inl ⟨by rfl, ?_⟩) hS ?_
    · (intro w9 hS9; go_simp; try with_reducible rfl)
    simp only [Act.put, List.getElem_toArray, List.getElem_cons_zero, List.getElem_cons_succ, List.setIfInBounds_toArray, List.set_cons_zero, List.set_cons_succ]
    refine wpAnyH_take (i := 8) (v := .agg ys) rfl (by kernel_rfl) (by kernel_rfl) (by kernel_rfl) (fun _ _ _ h => h) (Or.inl ⟨by rfl, ?_⟩) hS ?_
    · (intro w9 hS9; go_simp; try with_reducible rfl)
    simp only [Act.put, List.getElem_toArray, List.getElem_cons_zero, List.getElem_cons_succ, List.setIfInBounds_toArray, List.set_cons_zero, List.set_cons_succ]
    refine wpAnyH_take (i := 9) (v := .bool did) rfl (by kernel_rfl) (by kernel_rfl) (by kernel_rfl) (fun _ _ _ h => h) (Or.inl ⟨by rfl, ?_⟩) hS ?_
    · (intro w9 hS9; go_simp; try with_reducible rfl)
    simp only [Act.put, List.getElem_toArray, List.getElem_cons_zero, List.getElem_cons_succ, List.setIfInBounds_toArray, List.set_cons_zero, List.set_cons_succ]
    refine wpAnyH_ready (rs := [10]) (by kernel_rfl) (by simp) (AllReadyH.cons rfl (fun K hK => ?_) AllReadyH.nil)
    go_simp
    have V1e := Lib.hid (V13.out.alloc (.cells ZP 39))
    have V2e := Lib.hid (V23.out.alloc (.cells ZP 39))
    have Be := Lib.hid (B3.out.alloc B3.out.size (.cells ZP 39))
    have VN := Lib.hid (var_new w3 ZP 39)
    refine hK _ _ ⟨V1e.out, HPK.out _ Be.out⟩ (fun hS => ?_)
    have hxb : w.heap.size + 1 < w3.heap.size := V23.out.lt
    clear hK K V13 V23 B3
    generalize w3.heap.size = xb at *
    refine wpAnyH_ready (rs := [11]) (by kernel_rfl) (by simp) (AllReadyH.cons rfl (fun K hK => ?_) AllReadyH.nil)
    rw [if_pos (by rfl)]
    refine wp_store_only sP _ _ rfl rfl rfl VN.out HTY.out.one HTY.out.1 (by rw [zps.out]; omega) ?_
    intro w5 hv ho
    simp only [Act.put]
    rw [putL_all _ _ (by rw [zps.out, HTY.out.1])] at hv
    have VPf := Lib.hid hv
    have V1f := Lib.hid (ho.var V1e.out (by omega))
    have V2f := Lib.hid (ho.var V2e.out (by omega))
    have Bf := Lib.hid (Be.out.trans (ho.below (by omega) Be.out.size))
    refine hK _ _ ⟨V1f.out, HPK.out _ Bf.out⟩ (fun hS => ?_)
    clear hK K hv ho V1e V2e Be
    refine wpAnyH_take (i := 12) (v := .bool did) rfl (by kernel_rfl) (by kernel_rfl) (by kernel_rfl) (fun _ _ _ h => h) (Or.inl ⟨by rfl, ?_⟩) hS ?_
    · (intro w9 hS9; go_simp; try with_reducible rfl)
    simp only [Act.put, List.getElem_toArray, List.getElem_cons_zero, List.getElem_cons_succ, List.setIfInBounds_toArray, List.set_cons_zero, List.set_cons_succ]
    refine wpAnyH_done (by kernel_rfl) ?_ _
    clear HPK kN0 zp
    go_wp2_with (with_reducible refine stopL 47 _ rfl ?_)
    refine Lib.hid ?_
    refine wpList_load_whole uB rfl sB rfl _ rfl rfl (range_whole V1f.out) HC18.out ?_
    have kC6 := Lib.hid (kCp.out w5 (HSW.out _ Bf.out))
    clear kCp HSW
    go_wp2_with fail
    refine kC6.out.mono ?_
    rintro e w6 ⟨pb6, cap6, rfl, ⟨A, hA, hAn, hAs, hpb⟩, hb⟩
    have V16 := Lib.hid (V1f.out.below hb V1f.out.lt)
    have V26 := Lib.hid (V2f.out.below hb V2f.out.lt)
    have VP6 := Lib.hid (VPf.out.below hb VPf.out.lt)
    have hl6 := VPf.out.lt
    have B6 := Lib.hid (Bf.out.trans (hb.mono Bf.out.size))
    have HA := Lib.hid hA
    have HAN := Lib.hid hAn
    have HAS := Lib.hid hAs
    clear hb hA hAn hAs V1f V2f VPf Bf kC6
    have HE18 := Lib.hid (HD18.out pb6 cap6)
    have HE17 := Lib.hid (HD17.out pb6 cap6)
    have HE1 := Lib.hid (HD1.out pb6 cap6)
    have HFF := Lib.hid (fun e w' he hp hb => HF.out e w' pb6 cap6 he hp hb)
    clear HD18 HD17 HD1 HF HCC
    generalize B.cells (.slice (some ⟨pb6, 0, none⟩) n cap6) = D at *
    go_wp2_with (with_reducible refine stopS 47 _ _ rfl ?_)
    refine Lib.hid ?_
    refine wpList_store_only sB rfl _ _ rfl rfl rfl V16.out HE1.out HE18.out (by rw [HC18.out]; omega) ?_
    intro w7 hv ho
    simp only [Act.put]
    rw [putL_all _ _ (by rw [HC18.out, HE18.out])] at hv
    have V17 := Lib.hid hv
    have V27 := Lib.hid (ho.var V26.out (by omega))
    have VP7 := Lib.hid (ho.var VP6.out (by omega))
    have A7 := Lib.hid (ho.var HA.out (by omega))
    have B7 := Lib.hid (B6.out.trans (ho.below (Nat.le_refl _) B6.out.size))
    have c17 : w7.cell? ⟨w.heap.size, 17, none⟩ = some (.slice (some ⟨pb6, 0, none⟩) n cap6) := by rw [hv.cell]; exact HE17.out
    have i6 := idx32b pb6 n cap6 k hk
    clear hv ho V16 V26 VP6 HA B6
    go_wp2_with (with_reducible refine stopL 39 _ rfl ?_)
    refine Lib.hid ?_
    refine wpList_load_whole uP rfl sP rfl _ rfl rfl (range_whole VP7.out) HTY.out.1 ?_
    go_wp2_with (with_reducible refine stopS 39 _ _ rfl ?_)
    refine Lib.hid ?_
    refine wpList_store_only sP rfl _ _ rfl rfl rfl A7.out HTY.out.one HTY.out.1 (by have := HAN.out; omega) ?_
    intro w8 hv ho
    simp only [Act.put]
    have V18 := Lib.hid (ho.var V17.out (by omega))
    have V28 := Lib.hid (ho.var V27.out (by omega))
    have B8 := Lib.hid (B7.out.trans (ho.below (by omega) B7.out.size))
    have K8 := Lib.hid (show Kept3 w w8 pb6 n (at1 XS k ys) from ⟨_, hv, by rw [putL_size]; exact HAN.out, subs_whole HAS.out HAN.out hk HTY.out.1, by omega⟩)
    clear hv ho V17 V27 VP7 A7 B7 c17
    go_wp2_with (with_reducible refine stopL 47 _ rfl ?_)
    refine Lib.hid ?_
    refine wpList_load_whole uB rfl sB rfl _ rfl rfl (range_whole V18.out) HE18.out ?_
    go_wp2_with (with_reducible refine stopS 47 _ _ rfl ?_)
    refine Lib.hid ?_
    refine wpList_store_only sB rfl _ _ rfl rfl rfl V28.out HE1.out HE18.out (by rw [zs.out]; omega) ?_
    intro w9 hv ho
    simp only [Act.put]
    rw [putL_all _ _ (by rw [zs.out, HE18.out])] at hv
    have V9 := Lib.hid hv
    have B9 := Lib.hid (B8.out.trans (ho.below (by omega) B8.out.size))
    obtain ⟨A', hA', hAn', hAs', hp'⟩ := K8.out
    have P9 := Lib.hid (Kept3.pin (cap := cap6) (show Kept3 w w9 pb6 n (at1 XS k ys) from ⟨A', ho.var hA' (by omega), hAn', hAs', hp'⟩))
    clear hv ho hA' hAn' hAs' hp'
    go_wp2_with (with_reducible refine stopE ?_)
    refine Lib.hid ?_
    refine bodyPost_ret (v := .tuple #[.agg D, .bool did]) (results_pair (p := 4) (u := 5) rfl _ _ (w.heap.size + 1) 47 _ (0, 0) rfl V9.out HE18.out) rfl (HFF.out _ _ rfl P9.out B9.out)
  · go_simp
    have V1a := Lib.hid (V1.out.drew.alloc (.cells ZP 39))
    have V2a := Lib.hid (V2.out.drew.alloc (.cells ZP 39))
    have Ba := Lib.hid (B1.out.drew.alloc B1.out.drew.size (.cells ZP 39))
    have VN := Lib.hid (show VarAt (w0.drew.alloc (.cells ZP 39)) w0.heap.size ZP 39 from var_new w0.drew ZP 39)
    refine hK _ _ ⟨V1a.out, HPK.out _ Ba.out⟩ (fun hS => ?_)
    have hxb : w.heap.size + 1 < w0.heap.size := V2.out.lt
    clear hK K V1 V2 B1
    generalize w0.heap.size = xb at *
    refine wpAnyH_ready (rs := [6]) (by kernel_rfl) (by simp) (AllReadyH.cons rfl (fun K hK => ?_) AllReadyH.nil)
    go_simp
    refine (kN.out _).mono ?_
    rintro e w3 ⟨rfl, hb⟩
    have Be := Lib.hid (Ba.out.trans (hb.mono Ba.out.size))
    have V1e := Lib.hid (V1a.out.below hb V1a.out.lt)
    have V2e := Lib.hid (V2a.out.below hb V2a.out.lt)
    have VN3 := Lib.hid (VN.out.below hb VN.out.lt)
    refine hK _ _ ⟨V1e.out, HPK.out _ Be.out⟩ (fun hS => ?_)
    clear hK K hb V1a V2a Ba VN
    have kN0 := kN
    refine wpAnyH_take (i := 7) (v := .tuple #[.agg ys, .bool did]) rfl (by kernel_rfl) (by kernel_rfl) (by kernel_rfl) (fun _ _ _ h => h) (Or.inl ⟨by rfl, ?_⟩) hS ?_
    · (intro w9 hS9; go_simp; try with_reducible rfl)
    simp only [Act.put, List.getElem_toArray, List.getElem_cons_zero, List.getElem_cons_succ, List.setIfInBounds_toArray, List.set_cons_zero, List.set_cons_succ]
    refine wpAnyH_take (i := 8) (v := .agg ys) rfl (by kernel_rfl) (by kernel_rfl) (by kernel_rfl) (fun _ _ _ h => h) (Or.inl ⟨by rfl, ?_⟩) hS ?_
    · (intro w9 hS9; go_simp; try with_reducible rfl)
    simp only [Act.put, List.getElem_toArray, List.getElem_cons_zero, List.getElem_cons_succ, List.setIfInBounds_toArray, List.set_cons_zero, List.set_cons_succ]
    refine wpAnyH_take (i := 9) (v := .bool did) rfl (by kernel_rfl) (by kernel_rfl) (by kernel_rfl) (fun _ _ _ h => h) (Or.inl ⟨by rfl, ?_⟩) hS ?_
    · (intro w9 hS9; go_simp; try with_reducible rfl)
    simp only [Act.put, List.getElem_toArray, List.getElem_cons_zero, List.getElem_cons_succ, List.setIfInBounds_toArray, List.set_cons_zero, List.set_cons_succ]
    refine wpAnyH_ready (rs := [11]) (by kernel_rfl) (by simp) (AllReadyH.cons rfl (fun K hK => ?_) AllReadyH.nil)
    rw [if_pos (by rfl)]
    refine wp_store_only sP _ _ rfl rfl rfl VN3.out HTY.out.one HTY.out.1 (by rw [zps.out]; omega) ?_
    intro w5 hv ho
    simp only [Act.put]
    rw [putL_all _ _ (by rw [zps.out, HTY.out.1])] at hv
    have VPf := Lib.hid hv
    have V1f := Lib.hid (ho.var V1e.out (by omega))
    have V2f := Lib.hid (ho.var V2e.out (by omega))
    have Bf := Lib.hid (Be.out.trans (ho.below (by omega) Be.out.size))
    refine hK _ _ ⟨V1f.out, HPK.out _ Bf.out⟩ (fun hS => ?_)
    clear hK K hv ho V1e V2e Be
    refine wpAnyH_take (i := 12) (v := .bool did) rfl (by kernel_rfl) (by kernel_rfl) (by kernel_rfl) (fun _ _ _ h => h) (Or.inl ⟨by rfl, ?_⟩) hS ?_
    · (intro w9 hS9; go_simp; try with_reducible rfl)
    simp only [Act.put, List.getElem_toArray, List.getElem_cons_zero, List.getElem_cons_succ, List.setIfInBounds_toArray, List.set_cons_zero, List.set_cons_succ]
    refine wpAnyH_done (by kernel_rfl) ?_ _
    clear HPK kN0 zp
    go_wp2_with (with_reducible refine stopL 47 _ rfl ?_)
    refine Lib.hid ?_
    refine wpList_load_whole uB rfl sB rfl _ rfl rfl (range_whole V1f.out) HC18.out ?_
    have kC6 := Lib.hid (kCp.out w5 (HSW.out _ Bf.out))
    clear kCp HSW
    go_wp2_with fail
    refine kC6.out.mono ?_
    rintro e w6 ⟨pb6, cap6, rfl, ⟨A, hA, hAn, hAs, hpb⟩, hb⟩
    have V16 := Lib.hid (V1f.out.below hb V1f.out.lt)
    have V26 := Lib.hid (V2f.out.below hb V2f.out.lt)
    have VP6 := Lib.hid (VPf.out.below hb VPf.out.lt)
    have hl6 := VPf.out.lt
    have B6 := Lib.hid (Bf.out.trans (hb.mono Bf.out.size))
    have HA := Lib.hid hA
    have HAN := Lib.hid hAn
    have HAS := Lib.hid hAs
    clear hb hA hAn hAs V1f V2f VPf Bf kC6
    have HE18 := Lib.hid (HD18.out pb6 cap6)
    have HE17 := Lib.hid (HD17.out pb6 cap6)
    have HE1 := Lib.hid (HD1.out pb6 cap6)
    have HFF := Lib.hid (fun e w' he hp hb => HF.out e w' pb6 cap6 he hp hb)
    clear HD18 HD17 HD1 HF HCC
    generalize B.cells (.slice (some ⟨pb6, 0, none⟩) n cap6) = D at *
    go_wp2_with (with_reducible refine stopS 47 _ _ rfl ?_)
    refine Lib.hid ?_
    refine wpList_store_only sB rfl _ _ rfl rfl rfl V16.out HE1.out HE18.out (by rw [HC18.out]; omega) ?_
    intro w7 hv ho
    simp only [Act.put]
    rw [putL_all _ _ (by rw [HC18.out, HE18.out])] at hv
    have V17 := Lib.hid hv
    have V27 := Lib.hid (ho.var V26.out (by omega))
    have VP7 := Lib.hid (ho.var VP6.out (by omega))
    have A7 := Lib.hid (ho.var HA.out (by omega))
    have B7 := Lib.hid (B6.out.trans (ho.below (Nat.le_refl _) B6.out.size))
    have c17 : w7.cell? ⟨w.heap.size, 17, none⟩ = some (.slice (some ⟨pb6, 0, none⟩) n cap6) := by rw [hv.cell]; exact HE17.out
    have i6 := idx32b pb6 n cap6 k hk
    clear hv ho V16 V26 VP6 HA B6
    go_wp2_with (with_reducible refine stopL 39 _ rfl ?_)
    refine Lib.hid ?_
    refine wpList_load_whole uP rfl sP rfl _ rfl rfl (range_whole VP7.out) HTY.out.1 ?_
    go_wp2_with (with_reducible refine stopS 39 _ _ rfl ?_)
    refine Lib.hid ?_
    refine wpList_store_only sP rfl _ _ rfl rfl rfl A7.out HTY.out.one HTY.out.1 (by have := HAN.out; omega) ?_
    intro w8 hv ho
    simp only [Act.put]
    have V18 := Lib.hid (ho.var V17.out (by omega))
    have V28 := Lib.hid (ho.var V27.out (by omega))
    have B8 := Lib.hid (B7.out.trans (ho.below (by omega) B7.out.size))
    have K8 := Lib.hid (show Kept3 w w8 pb6 n (at1 XS k ys) from ⟨_, hv, by rw [putL_size]; exact HAN.out, subs_whole HAS.out HAN.out hk HTY.out.1, by omega⟩)
    clear hv ho V17 V27 VP7 A7 B7 c17
    go_wp2_with (with_reducible refine stopL 47 _ rfl ?_)
    refine Lib.hid ?_
    refine wpList_load_whole uB rfl sB rfl _ rfl rfl (range_whole V18.out) HE18.out ?_
    go_wp2_with (with_reducible refine stopS 47 _ _ rfl ?_)
    refine Lib.hid ?_
    refine wpList_store_only sB rfl _ _ rfl rfl rfl V28.out HE1.out HE18.out (by rw [zs.out]; omega) ?_
    intro w9 hv ho
    simp only [Act.put]
    rw [putL_all _ _ (by rw [zs.out, HE18.out])] at hv
    have V9 := Lib.hid hv
    have B9 := Lib.hid (B8.out.trans (ho.below (by omega) B8.out.size))
    obtain ⟨A', hA', hAn', hAs', hp'⟩ := K8.out
    have P9 := Lib.hid (Kept3.pin (cap := cap6) (show Kept3 w w9 pb6 n (at1 XS k ys) from ⟨A', ho.var hA' (by omega), hAn', hAs', hp'⟩))
    clear hv ho hA' hAn' hAs' hp'
    go_wp2_with (with_reducible refine stopE ?_)
    refine Lib.hid ?_
    refine bodyPost_ret (v := .tuple #[.agg D, .bool did]) (results_pair (p := 4) (u := 5) rfl _ _ (w.heap.size + 1) 47 _ (0, 0) rfl V9.out HE18.out) rfl (HFF.out _ _ rfl P9.out B9.out)
end Go.Proofs.YtjfdochceejegaaDoor
