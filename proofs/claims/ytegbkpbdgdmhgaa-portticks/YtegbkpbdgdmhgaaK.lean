/- Contract of the reference's Tick. -/
import Derived.Test.YtegbkpbdgdmhgaaQ
namespace Go.Proofs.Ytegbkpbdgdmhgaa
open Go.RowKit Go.Sort

set_option maxRecDepth 20000 in
set_option maxHeartbeats 2000000 in
theorem reftick_any (B : Bd) (s : Value) (n : Nat) (XS : Nat → Array Value) (w : World) (hs : PIn w s n XS) (hn : n ≤ 20) (ht : ∀ j, j < n → Typed (XS j)) :
    Calls Try.prog 11 #[.agg (B.cells s)] w fun e w' => ∃ pb cap, e = .returned (.agg (B.cells (.slice (some ⟨pb, 0, none⟩) n cap))) ∧ Kept3 w w' pb n (fun j => (fun _ => tkX) j (XS j)) ∧ Below w.heap.size w w' := by
  have hx : ∀ i, i < n → (XS i).size = 90 := fun i hi => (ht i hi).1
  have V1 := Lib.hid ((var_new w (B.cells s) 34).alloc (.cells z34 34))
  have V2 := Lib.hid (show VarAt ((w.alloc (.cells (B.cells s) 34)).alloc (.cells z34 34)) (w.heap.size + 1) z34 34 by
    have := var_new (w.alloc (.cells (B.cells s) 34)) z34 34
    rwa [alloc_size] at this)
  have B1 := Lib.hid (show Below w.heap.size w ((w.alloc (.cells (B.cells s) 34)).alloc (.cells z34 34)) from ((Below.refl w.heap.size w).alloc (Nat.le_refl _) _).alloc (by rw [alloc_size]; omega) _)
  have kCp := Lib.hid (fun w0 h0 => copy_any B s n XS w0 h0 hn ht)
  have HSW := Lib.hid hs
  have HT := Lib.hid ht
  have HX := Lib.hid hx
  have HC18 := Lib.hid (show (B.cells s).size = 18 by simp)
  have zz := zero34
  have zs := Lib.hid z34_size
  clear hs ht hx
  generalize z34 = Z at *
  generalize B.cells s = C at *
  go_enter Try.func11, Try.ntmps11
  go_wp2_with (with_reducible refine stopL 34 _ rfl ?_)
  refine Lib.hid ?_
  clear zz
  refine wpList_load_whole uB rfl sB rfl _ rfl rfl (range_whole V1.out) HC18.out ?_
  generalize (w.alloc (.cells C 34)).alloc (.cells Z 34) = w0 at *
  go_wp2_with fail
  refine (kCp.out _ (HSW.out.below HX.out B1.out)).mono ?_
  rintro e w1 ⟨pb, cap, rfl, ⟨A, hA, hAn, hAs, hpb⟩, hb⟩
  have V11 := Lib.hid (V1.out.below hb V1.out.lt)
  have V21 := Lib.hid (V2.out.below hb V2.out.lt)
  have B11 := Lib.hid (B1.out.trans (hb.mono B1.out.size))
  have hl2 := V2.out.lt
  have hne : w.heap.size ≠ pb := by omega
  have hne2 : w.heap.size + 1 ≠ pb := by omega
  have hpw : w.heap.size ≤ pb := by omega
  have HA := Lib.hid hA
  have HAN := Lib.hid hAn
  have HAS := Lib.hid hAs
  clear hb hA hAn hAs V1 V2 B1 hl2 hpb
  go_wp2_with (with_reducible refine stopS 34 _ _ rfl ?_)
  refine Lib.hid ?_
  refine wpList_store_only sB rfl _ _ rfl rfl rfl V11.out (B.one rfl) (by simp) (by rw [HC18.out]; omega) ?_
  intro w2 hv2 ho2
  simp only [Act.put]
  rw [putL_all _ _ (by rw [HC18.out]; simp)] at hv2
  have VR := Lib.hid (ho2.var V21.out (by omega))
  have HBR := Lib.hid (show Br w2 B w.heap.size pb n cap XS from ⟨hv2, A, ho2.var HA.out (Ne.symm hne), HAN.out, HAS.out⟩)
  have B2 := Lib.hid (B11.out.trans (ho2.below (Nat.le_refl _) B11.out.size))
  clear hv2 ho2 V11 V21 B11 HA HAN HAS A HC18 kCp HSW
  go_wp2_with fail
  go_loopw [3] (fun c wr => ∃ k : Nat, k ≤ n ∧ c = .int .i64 k ∧ Br wr B w.heap.size pb n cap (fun j => if j < k then (fun _ => tkX) j (XS j) else XS j) ∧ VarAt wr (w.heap.size + 1) Z 34 ∧ Below w.heap.size w wr) (fun c _ => n - (intOf c).toNat)
  case atStart => exact ⟨0, Nat.zero_le _, rfl, HBR.out.congr fun j _ => by rw [if_neg (by omega)], VR.out, B2.out⟩
  case round =>
    obtain ⟨k, hk, rfl, hbk, hvr, hbw⟩ := hrel
    have VRK := Lib.hid hvr
    have BWK := Lib.hid hbw
    have c17k : wr.cell? ⟨w.heap.size, 17, none⟩ = some (.slice (some ⟨pb, 0, none⟩) n cap) := hbk.hb.cell 17
    clear hvr hbw VR HBR B2
    by_cases hlt : k < n
    · obtain ⟨A, hA, hAn, hAs⟩ := hbk.ex
      have i0 := idx32b pb n cap k hlt
      have hx := (HT.out k hlt).1
      have HBK := Lib.hid hbk
      have HA := Lib.hid hA
      have HAN := Lib.hid hAn
      have HAS := Lib.hid hAs
      have hxk : Sub A (k * 90) (XS k) := by have := hAs k hlt; rwa [if_neg (by omega)] at this
      have hty := HT.out k hlt
      have e6 := hty.num 6 rfl
      have e7 := hty.num 7 rfl
      have e8 := hty.num 8 rfl
      have e9 := hty.num 9 rfl
      have e10 := hty.num 10 rfl
      have e11 := hty.num 11 rfl
      have e12 := hty.num 12 rfl
      have e13 := hty.num 13 rfl
      have e14 := hty.num 14 rfl
      have zp := zero48
      have zps := Lib.hid z48_size
      have HTK := Lib.hid (show Typed (tkX (XS k)) from tkX_typed hty)
      have HTX := Lib.hid (show tkX (XS k) = putL (XS k) 6 (tks (fun j => numI (XS k) (6 + j)) 9) from rfl)
      have HTY := Lib.hid hty
      have HXK := Lib.hid hxk
      have HS := Lib.hid (subs_whole (ys := tkX (XS k)) hAs hAn hlt (tkX_typed hty).1)
      have hl1 := hA.lt
      have hl2 := VRK.out.lt
      clear hA hAn hAs hbk hxk hty
      generalize z48 = ZP at *
      go_wp2_with (with_reducible refine stopL 49 _ rfl ?_)
      refine Lib.hid ?_
      refine wpList_load_whole uP rfl sP rfl _ rfl rfl (range_port HA.out HXK.out hx) hx ?_
      go_wp2_with (with_reducible refine stopS 49 _ _ rfl ?_)
      refine Lib.hid ?_
      clear zp
      refine wpList_store_only sP rfl _ _ rfl rfl rfl (var_new wr ZP 49) HTY.out.one hx (by rw [zps.out]; omega) ?_
      intro w4 hv4 ho4
      simp only [Act.put]
      rw [putL_all _ _ (by rw [zps.out, hx])] at hv4
      have HB4 := Lib.hid (show Below wr.heap.size wr w4 from (box_below wr _).trans (ho4.below (Nat.le_refl _) (by rw [alloc_size]; omega)))
      have hbx := HB4.out
      have HBK4 := Lib.hid (HBK.out.below hbx)
      have HA4 := Lib.hid (HA.out.below hbx hl1)
      have VRK4 := Lib.hid (VRK.out.below hbx hl2)
      have BWK4 := Lib.hid (BWK.out.trans (hbx.mono BWK.out.size))
      have hbs := BWK.out.size
      have hq1 : pb ≠ wr.heap.size := by omega
      have hq2 : w.heap.size + 1 ≠ wr.heap.size := by omega
      have hq3 : w.heap.size ≠ wr.heap.size := by omega
      have c17q : w4.cell? ⟨w.heap.size, 17, none⟩ = some (.slice (some ⟨pb, 0, none⟩) n cap) := HBK4.out.hb.cell 17
      have fz := hv4.frozen
      have c6 := hv4.cell 6
      rw [e6] at c6
      have c7 := hv4.cell 7
      rw [e7] at c7
      have c8 := hv4.cell 8
      rw [e8] at c8
      have c9 := hv4.cell 9
      rw [e9] at c9
      have c10 := hv4.cell 10
      rw [e10] at c10
      have c11 := hv4.cell 11
      rw [e11] at c11
      have c12 := hv4.cell 12
      rw [e12] at c12
      have c13 := hv4.cell 13
      rw [e13] at c13
      have c14 := hv4.cell 14
      rw [e14] at c14
      have HV5 := Lib.hid (show VarAt _ wr.heap.size (tkX (XS k)) 49 from (((((((((hv4.set 6 (.int .i64 (dn (numI (XS k) 6)))).set 7 (.int .i64 (dn (numI (XS k) 7)))).set 8 (.int .i64 (dn (numI (XS k) 8)))).set 9 (.int .i64 (dn (numI (XS k) 9)))).set 10 (.int .i64 (dn (numI (XS k) 10)))).set 11 (.int .i64 (dn (numI (XS k) 11)))).set 12 (.int .i64 (dn (numI (XS k) 12)))).set 13 (.int .i64 (dn (numI (XS k) 13)))).set 14 (.int .i64 (dn (numI (XS k) 14)))))
      have HO5 := Lib.hid ((((((((((Only.refl wr.heap.size w4).set 6 (.int .i64 (dn (numI (XS k) 6)))).set 7 (.int .i64 (dn (numI (XS k) 7)))).set 8 (.int .i64 (dn (numI (XS k) 8)))).set 9 (.int .i64 (dn (numI (XS k) 9)))).set 10 (.int .i64 (dn (numI (XS k) 10)))).set 11 (.int .i64 (dn (numI (XS k) 11)))).set 12 (.int .i64 (dn (numI (XS k) 12)))).set 13 (.int .i64 (dn (numI (XS k) 13)))).set 14 (.int .i64 (dn (numI (XS k) 14))))
      have hq : wr.heap.size ≠ w.heap.size := by omega
      clear e6 e7 e8 e9 e10 e11 e12 e13 e14 hbx HB4 hv4 ho4 HBK HA VRK BWK HXK c17k
      generalize wr.heap.size = q at *
      generalize numI (XS k) 6 = t6 at *
      generalize numI (XS k) 7 = t7 at *
      generalize numI (XS k) 8 = t8 at *
      generalize numI (XS k) 9 = t9 at *
      generalize numI (XS k) 10 = t10 at *
      generalize numI (XS k) 11 = t11 at *
      generalize numI (XS k) 12 = t12 at *
      generalize numI (XS k) 13 = t13 at *
      generalize numI (XS k) 14 = t14 at *
      go_wp2_with (first | (go_at_call 28; refine (less_any _ _).mono ?_; rintro e w5 ⟨rfl, rfl⟩) | (with_reducible refine stopL 49 _ rfl ?_))
      refine Lib.hid ?_
      refine wpList_load_whole uP rfl sP rfl _ rfl rfl (range_whole HV5.out) HTK.out.1 ?_
      go_wp2_with (with_reducible refine stopS 49 _ _ rfl ?_)
      refine Lib.hid ?_
      refine wpList_store_only sP rfl _ _ rfl rfl rfl (HO5.out.var HA4.out hq1) HTK.out.one HTK.out.1 (by have := HAN.out; omega) ?_
      intro w6 hv6 ho6
      simp only [Act.put]
      have hb2 := Lib.hid (show Br w6 B w.heap.size pb n cap (fun j => if j < k + 1 then (fun _ => tkX) j (XS j) else XS j) from
        Br.congr ⟨ho6.var (HO5.out.var HBK4.out.hb hq3) hne, _, hv6, by rw [putL_size]; exact HAN.out, HS.out⟩ (upd_step (F := fun _ => tkX) rfl))
      have hvr2 := Lib.hid (ho6.var (HO5.out.var VRK4.out hq2) hne2)
      have hbw2 := Lib.hid ((BWK4.out.trans (HO5.out.below (by omega) BWK4.out.size)).trans (ho6.below hpw (Nat.le_trans BWK4.out.size HO5.out.size)))
      clear hv6 ho6 HV5 HO5 HA4 VRK4 BWK4 HBK4 HS HTX c17q
      go_wp2_with fail
      exact ⟨⟨k + 1, by omega, by go_num, hb2.out, hvr2.out, hbw2.out⟩, meas_next hlt⟩
    · obtain rfl : k = n := by omega
      obtain ⟨A, hA, hAn, hAs⟩ := hbk.ex
      have HBK := Lib.hid hbk.hb
      have K3 := Lib.hid (show Kept3 w wr pb k (fun j => (fun _ => tkX) j (XS j)) from ⟨A, hA, hAn, fun i hi => by have := hAs i hi; rwa [if_pos hi] at this, hpw⟩)
      clear hbk hA hAn hAs
      go_wp2_with (with_reducible refine stopL 34 _ rfl ?_)
      refine Lib.hid ?_
      refine wpList_load_whole uB rfl sB rfl _ rfl rfl (range_whole HBK.out) (by simp) ?_
      refine wpList_store_only sB rfl _ _ rfl rfl rfl VRK.out (B.one rfl) (by simp) (by rw [zs.out]; omega) ?_
      intro w3 hv3 ho3
      rw [putL_all _ _ (by rw [zs.out]; simp)] at hv3
      have V3 := Lib.hid hv3
      have B3 := Lib.hid (BWK.out.trans (ho3.below (by omega) BWK.out.size))
      obtain ⟨A, hA, hAn, hAs, hp⟩ := K3.out
      have K4 := Lib.hid (show Kept3 w w3 pb k (fun j => (fun _ => tkX) j (XS j)) from ⟨A, ho3.var hA (by omega), hAn, hAs, hp⟩)
      clear hv3 ho3 HBK VRK BWK K3 hA hAn hAs hp
      go_wp2_with (with_reducible refine stopE ?_)
      refine Lib.hid ?_
      exact bodyPost_ret (v := .agg (B.cells (.slice (some ⟨pb, 0, none⟩) k cap))) (results_cell_row (p := 2) (ty := 34) rfl _ _ (w.heap.size + 1) 34 _ (0, 0) _ rfl V3.out uB rfl (by rw [sB]; simp)) rfl ⟨pb, ⟨cap, rfl⟩, K4.out, B3.out⟩
end Go.Proofs.Ytegbkpbdgdmhgaa
