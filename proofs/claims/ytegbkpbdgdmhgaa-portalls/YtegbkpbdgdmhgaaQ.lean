/- Contracts of the reference's Sync, ReRoot, Prop. -/
import Derived.Test.YtegbkpbdgdmhgaaP
namespace Go.Proofs.Ytegbkpbdgdmhgaa
open Go.RowKit Go.Sort

set_option maxRecDepth 20000 in
set_option maxHeartbeats 2000000 in
theorem refsync_any (B : Bd) (s : Value) (n : Nat) (XS : Nat → Array Value) (w : World) (hs : PIn w s n XS) (hn : n ≤ 20) (ht : ∀ j, j < n → Typed (XS j)) :
    Calls Try.prog 19 #[.agg (B.cells s)] w fun e w' => ∃ pb cap, e = .returned (.agg (B.cells (.slice (some ⟨pb, 0, none⟩) n cap))) ∧ Kept3 w w' pb n (fun j => (fun _ => onX 41) j (XS j)) ∧ Below w.heap.size w w' := by
  have hx : ∀ i, i < n → (XS i).size = 90 := fun i hi => (ht i hi).1
  have V1 := Lib.hid ((var_new w (B.cells s) 34).alloc (.cells z34 34))
  have V2 := Lib.hid (show VarAt ((w.alloc (.cells (B.cells s) 34)).alloc (.cells z34 34)) (w.heap.size + 1) z34 34 by
    have := var_new (w.alloc (.cells (B.cells s) 34)) z34 34
    rwa [alloc_size] at this)
  have B1 := Lib.hid (show Below w.heap.size w ((w.alloc (.cells (B.cells s) 34)).alloc (.cells z34 34)) from ((Below.refl w.heap.size w).alloc (Nat.le_refl _) _).alloc (by rw [alloc_size]; omega) _)
  have kCp := Lib.hid (fun w0 h0 => copy_any B s n XS w0 h0 hn ht)
  have HSW := Lib.hid hs
  have HT := Lib.hid ht
  have HX := Lib.hid hx
  have HC18 := Lib.hid (show (B.cells s).size = 18 by simp)
  have zz := zero34
  have zs := Lib.hid z34_size
  clear hs ht hx
  generalize z34 = Z at *
  generalize B.cells s = C at *
  go_enter Try.func19, Try.ntmps19
  go_wp2_with (with_reducible refine stopL 34 _ rfl ?_)
  refine Lib.hid ?_
  clear zz
  refine wpList_load_whole uB rfl sB rfl _ rfl rfl (range_whole V1.out) HC18.out ?_
  generalize (w.alloc (.cells C 34)).alloc (.cells Z 34) = w0 at *
  go_wp2_with fail
  refine (kCp.out _ (HSW.out.below HX.out B1.out)).mono ?_
  rintro e w1 ⟨pb, cap, rfl, ⟨A, hA, hAn, hAs, hpb⟩, hb⟩
  have V11 := Lib.hid (V1.out.below hb V1.out.lt)
  have V21 := Lib.hid (V2.out.below hb V2.out.lt)
  have B11 := Lib.hid (B1.out.trans (hb.mono B1.out.size))
  have hl2 := V2.out.lt
  have hne : w.heap.size ≠ pb := by omega
  have hne2 : w.heap.size + 1 ≠ pb := by omega
  have hpw : w.heap.size ≤ pb := by omega
  have HA := Lib.hid hA
  have HAN := Lib.hid hAn
  have HAS := Lib.hid hAs
  clear hb hA hAn hAs V1 V2 B1 hl2 hpb
  go_wp2_with (with_reducible refine stopS 34 _ _ rfl ?_)
  refine Lib.hid ?_
  refine wpList_store_only sB rfl _ _ rfl rfl rfl V11.out (B.one rfl) (by simp) (by rw [HC18.out]; omega) ?_
  intro w2 hv2 ho2
  simp only [Act.put]
  rw [putL_all _ _ (by rw [HC18.out]; simp)] at hv2
  have VR := Lib.hid (ho2.var V21.out (by omega))
  have HBR := Lib.hid (show Br w2 B w.heap.size pb n cap XS from ⟨hv2, A, ho2.var HA.out (Ne.symm hne), HAN.out, HAS.out⟩)
  have B2 := Lib.hid (B11.out.trans (ho2.below (Nat.le_refl _) B11.out.size))
  clear hv2 ho2 V11 V21 B11 HA HAN HAS A HC18 kCp HSW
  go_wp2_with fail
  go_loopw [3] (fun c wr => ∃ k : Nat, k ≤ n ∧ c = .int .i64 k ∧ Br wr B w.heap.size pb n cap (fun j => if j < k then (fun _ => onX 41) j (XS j) else XS j) ∧ VarAt wr (w.heap.size + 1) Z 34 ∧ Below w.heap.size w wr) (fun c _ => n - (intOf c).toNat)
  case atStart => exact ⟨0, Nat.zero_le _, rfl, HBR.out.congr fun j _ => by rw [if_neg (by omega)], VR.out, B2.out⟩
  case round =>
    obtain ⟨k, hk, rfl, hbk, hvr, hbw⟩ := hrel
    have VRK := Lib.hid hvr
    have BWK := Lib.hid hbw
    have c17k : wr.cell? ⟨w.heap.size, 17, none⟩ = some (.slice (some ⟨pb, 0, none⟩) n cap) := hbk.hb.cell 17
    clear hvr hbw VR HBR B2
    by_cases hlt : k < n
    · obtain ⟨A, hA, hAn, hAs⟩ := hbk.ex
      have i0 := idx32b pb n cap k hlt
      have hx := (HT.out k hlt).1
      have HBK := Lib.hid hbk
      have HA := Lib.hid hA
      have HAN := Lib.hid hAn
      have HAS := Lib.hid hAs
      have fz := hA.frozen
      have hs1 := hA.some (k := k * 90 + 41) (by omega)
      have HS := Lib.hid (subs_put (j := 41) (l := [.bool true]) hAs hAn hlt (by rw [if_neg (by omega)]; exact hx) (by simp))
      clear hA hAn hAs hbk hx
      have hb2 := Lib.hid (show Br (wr.setCell ⟨pb, k * 90 + 41, none⟩ (.bool true)) B w.heap.size pb n cap (fun j => if j < k + 1 then (fun _ => onX 41) j (XS j) else XS j) from
        Br.congr ⟨(((Only.refl pb wr).set _ _).var HBK.out.hb HBK.out.ne), _, HA.out.set _ _, by rw [Array.size_setIfInBounds]; exact HAN.out, HS.out⟩ (upd_step (F := (fun _ => onX 41)) (by rw [if_neg (by omega)]; exact rfl)))
      have hvr2 := Lib.hid (((Only.refl pb wr).set (k * 90 + 41) (.bool true)).var VRK.out hne2)
      have hbw2 := Lib.hid (BWK.out.setCell (p := ⟨pb, k * 90 + 41, none⟩) hpw (.bool true))
      clear HS HBK HA VRK BWK
      go_wp2_with fail
      exact ⟨⟨k + 1, by omega, by go_num, hb2.out, hvr2.out, hbw2.out⟩, meas_next hlt⟩
    · obtain rfl : k = n := by omega
      obtain ⟨A, hA, hAn, hAs⟩ := hbk.ex
      have HBK := Lib.hid hbk.hb
      have K3 := Lib.hid (show Kept3 w wr pb k (fun j => (fun _ => onX 41) j (XS j)) from ⟨A, hA, hAn, fun i hi => by have := hAs i hi; rwa [if_pos hi] at this, hpw⟩)
      clear hbk hA hAn hAs
      go_wp2_with (with_reducible refine stopL 34 _ rfl ?_)
      refine Lib.hid ?_
      refine wpList_load_whole uB rfl sB rfl _ rfl rfl (range_whole HBK.out) (by simp) ?_
      refine wpList_store_only sB rfl _ _ rfl rfl rfl VRK.out (B.one rfl) (by simp) (by rw [zs.out]; omega) ?_
      intro w3 hv3 ho3
      rw [putL_all _ _ (by rw [zs.out]; simp)] at hv3
      have V3 := Lib.hid hv3
      have B3 := Lib.hid (BWK.out.trans (ho3.below (by omega) BWK.out.size))
      obtain ⟨A, hA, hAn, hAs, hp⟩ := K3.out
      have K4 := Lib.hid (show Kept3 w w3 pb k (fun j => (fun _ => onX 41) j (XS j)) from ⟨A, ho3.var hA (by omega), hAn, hAs, hp⟩)
      clear hv3 ho3 HBK VRK BWK K3 hA hAn hAs hp
      go_wp2_with (with_reducible refine stopE ?_)
      refine Lib.hid ?_
      exact bodyPost_ret (v := .agg (B.cells (.slice (some ⟨pb, 0, none⟩) k cap))) (results_cell_row (p := 2) (ty := 34) rfl _ _ (w.heap.size + 1) 34 _ (0, 0) _ rfl V3.out uB rfl (by rw [sB]; simp)) rfl ⟨pb, ⟨cap, rfl⟩, K4.out, B3.out⟩
set_option maxRecDepth 20000 in
set_option maxHeartbeats 2000000 in
theorem refreroot_any (B : Bd) (s : Value) (n : Nat) (XS : Nat → Array Value) (w : World) (hs : PIn w s n XS) (hn : n ≤ 20) (ht : ∀ j, j < n → Typed (XS j)) :
    Calls Try.prog 20 #[.agg (B.cells s)] w fun e w' => ∃ pb cap, e = .returned (.agg (B.cells (.slice (some ⟨pb, 0, none⟩) n cap))) ∧ Kept3 w w' pb n (fun j => (fun _ => onX 28) j (XS j)) ∧ Below w.heap.size w w' := by
  have hx : ∀ i, i < n → (XS i).size = 90 := fun i hi => (ht i hi).1
  have V1 := Lib.hid ((var_new w (B.cells s) 34).alloc (.cells z34 34))
  have V2 := Lib.hid (show VarAt ((w.alloc (.cells (B.cells s) 34)).alloc (.cells z34 34)) (w.heap.size + 1) z34 34 by
    have := var_new (w.alloc (.cells (B.cells s) 34)) z34 34
    rwa [alloc_size] at this)
  have B1 := Lib.hid (show Below w.heap.size w ((w.alloc (.cells (B.cells s) 34)).alloc (.cells z34 34)) from ((Below.refl w.heap.size w).alloc (Nat.le_refl _) _).alloc (by rw [alloc_size]; omega) _)
  have kCp := Lib.hid (fun w0 h0 => copy_any B s n XS w0 h0 hn ht)
  have HSW := Lib.hid hs
  have HT := Lib.hid ht
  have HX := Lib.hid hx
  have HC18 := Lib.hid (show (B.cells s).size = 18 by simp)
  have zz := zero34
  have zs := Lib.hid z34_size
  clear hs ht hx
  generalize z34 = Z at *
  generalize B.cells s = C at *
  go_enter Try.func20, Try.ntmps20
  go_wp2_with (with_reducible refine stopL 34 _ rfl ?_)
  refine Lib.hid ?_
  clear zz
  refine wpList_load_whole uB rfl sB rfl _ rfl rfl (range_whole V1.out) HC18.out ?_
  generalize (w.alloc (.cells C 34)).alloc (.cells Z 34) = w0 at *
  go_wp2_with fail
  refine (kCp.out _ (HSW.out.below HX.out B1.out)).mono ?_
  rintro e w1 ⟨pb, cap, rfl, ⟨A, hA, hAn, hAs, hpb⟩, hb⟩
  have V11 := Lib.hid (V1.out.below hb V1.out.lt)
  have V21 := Lib.hid (V2.out.below hb V2.out.lt)
  have B11 := Lib.hid (B1.out.trans (hb.mono B1.out.size))
  have hl2 := V2.out.lt
  have hne : w.heap.size ≠ pb := by omega
  have hne2 : w.heap.size + 1 ≠ pb := by omega
  have hpw : w.heap.size ≤ pb := by omega
  have HA := Lib.hid hA
  have HAN := Lib.hid hAn
  have HAS := Lib.hid hAs
  clear hb hA hAn hAs V1 V2 B1 hl2 hpb
  go_wp2_with (with_reducible refine stopS 34 _ _ rfl ?_)
  refine Lib.hid ?_
  refine wpList_store_only sB rfl _ _ rfl rfl rfl V11.out (B.one rfl) (by simp) (by rw [HC18.out]; omega) ?_
  intro w2 hv2 ho2
  simp only [Act.put]
  rw [putL_all _ _ (by rw [HC18.out]; simp)] at hv2
  have VR := Lib.hid (ho2.var V21.out (by omega))
  have HBR := Lib.hid (show Br w2 B w.heap.size pb n cap XS from ⟨hv2, A, ho2.var HA.out (Ne.symm hne), HAN.out, HAS.out⟩)
  have B2 := Lib.hid (B11.out.trans (ho2.below (Nat.le_refl _) B11.out.size))
  clear hv2 ho2 V11 V21 B11 HA HAN HAS A HC18 kCp HSW
  go_wp2_with fail
  go_loopw [3] (fun c wr => ∃ k : Nat, k ≤ n ∧ c = .int .i64 k ∧ Br wr B w.heap.size pb n cap (fun j => if j < k then (fun _ => onX 28) j (XS j) else XS j) ∧ VarAt wr (w.heap.size + 1) Z 34 ∧ Below w.heap.size w wr) (fun c _ => n - (intOf c).toNat)
  case atStart => exact ⟨0, Nat.zero_le _, rfl, HBR.out.congr fun j _ => by rw [if_neg (by omega)], VR.out, B2.out⟩
  case round =>
    obtain ⟨k, hk, rfl, hbk, hvr, hbw⟩ := hrel
    have VRK := Lib.hid hvr
    have BWK := Lib.hid hbw
    have c17k : wr.cell? ⟨w.heap.size, 17, none⟩ = some (.slice (some ⟨pb, 0, none⟩) n cap) := hbk.hb.cell 17
    clear hvr hbw VR HBR B2
    by_cases hlt : k < n
    · obtain ⟨A, hA, hAn, hAs⟩ := hbk.ex
      have i0 := idx32b pb n cap k hlt
      have hx := (HT.out k hlt).1
      have HBK := Lib.hid hbk
      have HA := Lib.hid hA
      have HAN := Lib.hid hAn
      have HAS := Lib.hid hAs
      have fz := hA.frozen
      have hs1 := hA.some (k := k * 90 + 28) (by omega)
      have HS := Lib.hid (subs_put (j := 28) (l := [.bool true]) hAs hAn hlt (by rw [if_neg (by omega)]; exact hx) (by simp))
      clear hA hAn hAs hbk hx
      have hb2 := Lib.hid (show Br (wr.setCell ⟨pb, k * 90 + 28, none⟩ (.bool true)) B w.heap.size pb n cap (fun j => if j < k + 1 then (fun _ => onX 28) j (XS j) else XS j) from
        Br.congr ⟨(((Only.refl pb wr).set _ _).var HBK.out.hb HBK.out.ne), _, HA.out.set _ _, by rw [Array.size_setIfInBounds]; exact HAN.out, HS.out⟩ (upd_step (F := (fun _ => onX 28)) (by rw [if_neg (by omega)]; exact rfl)))
      have hvr2 := Lib.hid (((Only.refl pb wr).set (k * 90 + 28) (.bool true)).var VRK.out hne2)
      have hbw2 := Lib.hid (BWK.out.setCell (p := ⟨pb, k * 90 + 28, none⟩) hpw (.bool true))
      clear HS HBK HA VRK BWK
      go_wp2_with fail
      exact ⟨⟨k + 1, by omega, by go_num, hb2.out, hvr2.out, hbw2.out⟩, meas_next hlt⟩
    · obtain rfl : k = n := by omega
      obtain ⟨A, hA, hAn, hAs⟩ := hbk.ex
      have HBK := Lib.hid hbk.hb
      have K3 := Lib.hid (show Kept3 w wr pb k (fun j => (fun _ => onX 28) j (XS j)) from ⟨A, hA, hAn, fun i hi => by have := hAs i hi; rwa [if_pos hi] at this, hpw⟩)
      clear hbk hA hAn hAs
      go_wp2_with (with_reducible refine stopL 34 _ rfl ?_)
      refine Lib.hid ?_
      refine wpList_load_whole uB rfl sB rfl _ rfl rfl (range_whole HBK.out) (by simp) ?_
      refine wpList_store_only sB rfl _ _ rfl rfl rfl VRK.out (B.one rfl) (by simp) (by rw [zs.out]; omega) ?_
      intro w3 hv3 ho3
      rw [putL_all _ _ (by rw [zs.out]; simp)] at hv3
      have V3 := Lib.hid hv3
      have B3 := Lib.hid (BWK.out.trans (ho3.below (by omega) BWK.out.size))
      obtain ⟨A, hA, hAn, hAs, hp⟩ := K3.out
      have K4 := Lib.hid (show Kept3 w w3 pb k (fun j => (fun _ => onX 28) j (XS j)) from ⟨A, ho3.var hA (by omega), hAn, hAs, hp⟩)
      clear hv3 ho3 HBK VRK BWK K3 hA hAn hAs hp
      go_wp2_with (with_reducible refine stopE ?_)
      refine Lib.hid ?_
      exact bodyPost_ret (v := .agg (B.cells (.slice (some ⟨pb, 0, none⟩) k cap))) (results_cell_row (p := 2) (ty := 34) rfl _ _ (w.heap.size + 1) 34 _ (0, 0) _ rfl V3.out uB rfl (by rw [sB]; simp)) rfl ⟨pb, ⟨cap, rfl⟩, K4.out, B3.out⟩
set_option maxRecDepth 20000 in
set_option maxHeartbeats 2000000 in
theorem refprop_any (i : Int) (B : Bd) (s : Value) (n : Nat) (XS : Nat → Array Value) (w : World) (hs : PIn w s n XS) (hn : n ≤ 20) (ht : ∀ j, j < n → Typed (XS j)) :
    Calls Try.prog 21 #[.agg (B.cells s), .int .i64 i] w fun e w' => ∃ pb cap, e = .returned (.agg (B.cells (.slice (some ⟨pb, 0, none⟩) n cap))) ∧ Kept3 w w' pb n (fun j => (propX i) j (XS j)) ∧ Below w.heap.size w w' := by
  have hx : ∀ i, i < n → (XS i).size = 90 := fun i hi => (ht i hi).1
  have V1 := Lib.hid ((var_new w (B.cells s) 34).alloc (.cells z34 34))
  have V2 := Lib.hid (show VarAt ((w.alloc (.cells (B.cells s) 34)).alloc (.cells z34 34)) (w.heap.size + 1) z34 34 by
    have := var_new (w.alloc (.cells (B.cells s) 34)) z34 34
    rwa [alloc_size] at this)
  have B1 := Lib.hid (show Below w.heap.size w ((w.alloc (.cells (B.cells s) 34)).alloc (.cells z34 34)) from ((Below.refl w.heap.size w).alloc (Nat.le_refl _) _).alloc (by rw [alloc_size]; omega) _)
  have kCp := Lib.hid (fun w0 h0 => copy_any B s n XS w0 h0 hn ht)
  have HSW := Lib.hid hs
  have HT := Lib.hid ht
  have HX := Lib.hid hx
  have HC18 := Lib.hid (show (B.cells s).size = 18 by simp)
  have zz := zero34
  have zs := Lib.hid z34_size
  clear hs ht hx
  generalize z34 = Z at *
  generalize B.cells s = C at *
  go_enter Try.func21, Try.ntmps21
  go_wp2_with (with_reducible refine stopL 34 _ rfl ?_)
  refine Lib.hid ?_
  clear zz
  refine wpList_load_whole uB rfl sB rfl _ rfl rfl (range_whole V1.out) HC18.out ?_
  generalize (w.alloc (.cells C 34)).alloc (.cells Z 34) = w0 at *
  go_wp2_with fail
  refine (kCp.out _ (HSW.out.below HX.out B1.out)).mono ?_
  rintro e w1 ⟨pb, cap, rfl, ⟨A, hA, hAn, hAs, hpb⟩, hb⟩
  have V11 := Lib.hid (V1.out.below hb V1.out.lt)
  have V21 := Lib.hid (V2.out.below hb V2.out.lt)
  have B11 := Lib.hid (B1.out.trans (hb.mono B1.out.size))
  have hl2 := V2.out.lt
  have hne : w.heap.size ≠ pb := by omega
  have hne2 : w.heap.size + 1 ≠ pb := by omega
  have hpw : w.heap.size ≤ pb := by omega
  have HA := Lib.hid hA
  have HAN := Lib.hid hAn
  have HAS := Lib.hid hAs
  clear hb hA hAn hAs V1 V2 B1 hl2 hpb
  go_wp2_with (with_reducible refine stopS 34 _ _ rfl ?_)
  refine Lib.hid ?_
  refine wpList_store_only sB rfl _ _ rfl rfl rfl V11.out (B.one rfl) (by simp) (by rw [HC18.out]; omega) ?_
  intro w2 hv2 ho2
  simp only [Act.put]
  rw [putL_all _ _ (by rw [HC18.out]; simp)] at hv2
  have VR := Lib.hid (ho2.var V21.out (by omega))
  have HBR := Lib.hid (show Br w2 B w.heap.size pb n cap XS from ⟨hv2, A, ho2.var HA.out (Ne.symm hne), HAN.out, HAS.out⟩)
  have B2 := Lib.hid (B11.out.trans (ho2.below (Nat.le_refl _) B11.out.size))
  clear hv2 ho2 V11 V21 B11 HA HAN HAS A HC18 kCp HSW
  go_wp2_with fail
  go_loopw [5] (fun c wr => ∃ k : Nat, k ≤ n ∧ c = .int .i64 k ∧ Br wr B w.heap.size pb n cap (fun j => if j < k then (propX i) j (XS j) else XS j) ∧ VarAt wr (w.heap.size + 1) Z 34 ∧ Below w.heap.size w wr) (fun c _ => n - (intOf c).toNat)
  case atStart => exact ⟨0, Nat.zero_le _, rfl, HBR.out.congr fun j _ => by rw [if_neg (by omega)], VR.out, B2.out⟩
  case round =>
    obtain ⟨k, hk, rfl, hbk, hvr, hbw⟩ := hrel
    have VRK := Lib.hid hvr
    have BWK := Lib.hid hbw
    have c17k : wr.cell? ⟨w.heap.size, 17, none⟩ = some (.slice (some ⟨pb, 0, none⟩) n cap) := hbk.hb.cell 17
    clear hvr hbw VR HBR B2
    by_cases hlt : k < n
    · obtain ⟨A, hA, hAn, hAs⟩ := hbk.ex
      have i0 := idx32b pb n cap k hlt
      have hx := (HT.out k hlt).1
      have HBK := Lib.hid hbk
      have HA := Lib.hid hA
      have HAN := Lib.hid hAn
      have HAS := Lib.hid hAs
      have fz := hA.frozen
      have hs1 := hA.some (k := k * 90 + 38) (by omega)
      have HS := Lib.hid (subs_put (j := 38) (l := [.bool true]) hAs hAn hlt (by rw [if_neg (by omega)]; exact hx) (by simp))
      clear hA hAn hAs hbk hx
      by_cases hki : (k : Int) = i
      · have hd : ((k : Int) != i) = false := by rw [hki]; simp
        have hb2 := Lib.hid (show Br wr B w.heap.size pb n cap (fun j => if j < k + 1 then (propX i) j (XS j) else XS j) from
          Br.congr (XS := fun j => if j = k then XS k else if j < k then (propX i) j (XS j) else XS j) (HBK.out.congr fun j _ => by
            by_cases e : j = k
            · subst e; rw [if_pos rfl, if_neg (by omega)]
            · rw [if_neg e]) (upd_step (F := (propX i)) (by unfold propX; rw [if_pos hki])))
        have hki2 := Lib.hid hki
        clear HS HBK HA hki
        go_wp2_with fail
        exact ⟨⟨k + 1, by omega, by go_num, hb2.out, VRK.out, BWK.out⟩, meas_next hlt⟩
      · have hd : ((k : Int) != i) = true := by simpa using hki
        have hb2 := Lib.hid (show Br (wr.setCell ⟨pb, k * 90 + 38, none⟩ (.bool true)) B w.heap.size pb n cap (fun j => if j < k + 1 then (propX i) j (XS j) else XS j) from
          Br.congr ⟨(((Only.refl pb wr).set _ _).var HBK.out.hb HBK.out.ne), _, HA.out.set _ _, by rw [Array.size_setIfInBounds]; exact HAN.out, HS.out⟩ (upd_step (F := (propX i)) (by rw [if_neg (by omega)]; exact (if_neg hki).symm)))
        have hvr2 := Lib.hid (((Only.refl pb wr).set (k * 90 + 38) (.bool true)).var VRK.out hne2)
        have hbw2 := Lib.hid (BWK.out.setCell (p := ⟨pb, k * 90 + 38, none⟩) hpw (.bool true))
        clear hki HS HBK HA VRK BWK
        go_wp2_with fail
        exact ⟨⟨k + 1, by omega, by go_num, hb2.out, hvr2.out, hbw2.out⟩, meas_next hlt⟩
    · obtain rfl : k = n := by omega
      obtain ⟨A, hA, hAn, hAs⟩ := hbk.ex
      have HBK := Lib.hid hbk.hb
      have K3 := Lib.hid (show Kept3 w wr pb k (fun j => (propX i) j (XS j)) from ⟨A, hA, hAn, fun i hi => by have := hAs i hi; rwa [if_pos hi] at this, hpw⟩)
      clear hbk hA hAn hAs
      go_wp2_with (with_reducible refine stopL 34 _ rfl ?_)
      refine Lib.hid ?_
      refine wpList_load_whole uB rfl sB rfl _ rfl rfl (range_whole HBK.out) (by simp) ?_
      refine wpList_store_only sB rfl _ _ rfl rfl rfl VRK.out (B.one rfl) (by simp) (by rw [zs.out]; omega) ?_
      intro w3 hv3 ho3
      rw [putL_all _ _ (by rw [zs.out]; simp)] at hv3
      have V3 := Lib.hid hv3
      have B3 := Lib.hid (BWK.out.trans (ho3.below (by omega) BWK.out.size))
      obtain ⟨A, hA, hAn, hAs, hp⟩ := K3.out
      have K4 := Lib.hid (show Kept3 w w3 pb k (fun j => (propX i) j (XS j)) from ⟨A, ho3.var hA (by omega), hAn, hAs, hp⟩)
      clear hv3 ho3 HBK VRK BWK K3 hA hAn hAs hp
      go_wp2_with (with_reducible refine stopE ?_)
      refine Lib.hid ?_
      exact bodyPost_ret (v := .agg (B.cells (.slice (some ⟨pb, 0, none⟩) k cap))) (results_cell_row (p := 4) (ty := 34) rfl _ _ (w.heap.size + 1) 34 _ (0, 0) _ rfl V3.out uB rfl (by rw [sB]; simp)) rfl ⟨pb, cap, rfl, K4.out, B3.out⟩
end Go.Proofs.Ytegbkpbdgdmhgaa
