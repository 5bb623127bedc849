/- Contract of the reference's with: a bridge with a port in its place. -/
import Derived.Test.YthkmhnajhhomoaaK
namespace Go.Proofs.Ythkmhnajhhomoaa
open Go.RowKit Go.Sort

set_option maxHeartbeats 2000000 in
theorem with_any (B : Bd) (s : Value) (n k : Nat) (XS : Nat → Array Value) (ys : Array Value) (w : World) (hs : PIn w s n XS) (hk : k < n) (hn : n ≤ 20) (ht : ∀ j, j < n → Typed (XS j)) (hy : Typed ys) :
    Calls Try.prog 26 #[.agg (B.cells s), .int .i64 k, .agg ys] w fun e w' => ∃ pb cap, e = .returned (.agg (B.cells (.slice (some ⟨pb, 0, none⟩) n cap))) ∧ Kept3 w w' pb n (at1 XS k ys) ∧ Below w.heap.size w w' := by
  have hx : ∀ i, i < n → (XS i).size = 90 := fun i hi => (ht i hi).1
  have V1 := Lib.hid (((var_new w (B.cells s) 34).alloc (.cells ys 53)).alloc (.cells z34 34))
  have V2 := Lib.hid (show VarAt (((w.alloc (.cells (B.cells s) 34)).alloc (.cells ys 53)).alloc (.cells z34 34)) (w.heap.size + 1) ys 53 by
    have := (var_new (w.alloc (.cells (B.cells s) 34)) ys 53).alloc (.cells z34 34)
    rwa [alloc_size] at this)
  have V3 := Lib.hid (show VarAt (((w.alloc (.cells (B.cells s) 34)).alloc (.cells ys 53)).alloc (.cells z34 34)) (w.heap.size + 2) z34 34 by
    have := var_new ((w.alloc (.cells (B.cells s) 34)).alloc (.cells ys 53)) z34 34
    rwa [alloc_size, alloc_size] at this)
  have B1 := Lib.hid (show Below w.heap.size w (((w.alloc (.cells (B.cells s) 34)).alloc (.cells ys 53)).alloc (.cells z34 34)) from (((Below.refl w.heap.size w).alloc (Nat.le_refl _) _).alloc (by rw [alloc_size]; omega) _).alloc (by rw [alloc_size, alloc_size]; omega) _)
  have kCp := Lib.hid (fun w0 h0 => copy_any B s n XS w0 h0 hn ht)
  have HSW := Lib.hid hs
  have HT := Lib.hid ht
  have HY := Lib.hid hy
  have HX := Lib.hid hx
  have HC18 := Lib.hid (show (B.cells s).size = 18 by simp)
  have zz := zero34
  have zs := Lib.hid z34_size
  clear hs ht hx hy
  generalize z34 = Z at *
  generalize B.cells s = C at *
  go_enter Try.func26, Try.ntmps26
  go_wp2_with (with_reducible refine stopL 34 _ rfl ?_)
  refine Lib.hid ?_
  clear zz
  refine wpList_load_whole uB rfl sB rfl _ rfl rfl (range_whole V1.out) HC18.out ?_
  generalize ((w.alloc (.cells C 34)).alloc (.cells ys 53)).alloc (.cells Z 34) = w0 at *
  go_wp2_with fail
  refine (kCp.out _ (HSW.out.below HX.out B1.out)).mono ?_
  rintro e w1 ⟨pb, cap, rfl, ⟨A, hA, hAn, hAs, hpb⟩, hb⟩
  have V11 := Lib.hid (V1.out.below hb V1.out.lt)
  have V21 := Lib.hid (V2.out.below hb V2.out.lt)
  have V31 := Lib.hid (V3.out.below hb V3.out.lt)
  have B11 := Lib.hid (B1.out.trans (hb.mono B1.out.size))
  have hl2 := V3.out.lt
  have hne : w.heap.size + 3 ≤ pb := by omega
  have HA := Lib.hid hA
  have HAN := Lib.hid hAn
  have HAS := Lib.hid hAs
  clear hb hA hAn hAs V1 V2 V3 B1 hl2 hpb
  go_wp2_with (with_reducible refine stopS 34 _ _ rfl ?_)
  refine Lib.hid ?_
  refine wpList_store_only sB rfl _ _ rfl rfl rfl V11.out (B.one rfl) (by simp) (by rw [HC18.out]; omega) ?_
  intro w2 hv2 ho2
  simp only [Act.put]
  rw [putL_all _ _ (by rw [HC18.out]; simp)] at hv2
  have c17 : w2.cell? ⟨w.heap.size, 17, none⟩ = some (.slice (some ⟨pb, 0, none⟩) n cap) := hv2.cell 17
  have i0 := idx32b pb n cap k hk
  have V12 := Lib.hid hv2
  have V22 := Lib.hid (ho2.var V21.out (by omega))
  have V32 := Lib.hid (ho2.var V31.out (by omega))
  have A2 := Lib.hid (ho2.var HA.out (by omega))
  have B2 := Lib.hid (B11.out.trans (ho2.below (Nat.le_refl _) B11.out.size))
  clear hv2 ho2 V11 V21 V31 B11 HA HC18 kCp HSW
  go_wp2_with (with_reducible refine stopL 53 _ rfl ?_)
  refine Lib.hid ?_
  refine wpList_load_whole uP rfl sP rfl _ rfl rfl (range_whole V22.out) HY.out.1 ?_
  go_wp2_with (with_reducible refine stopS 53 _ _ rfl ?_)
  refine Lib.hid ?_
  refine wpList_store_only sP rfl _ _ rfl rfl rfl A2.out HY.out.one HY.out.1 (by have := HAN.out; omega) ?_
  intro w3 hv3 ho3
  simp only [Act.put]
  have V13 := Lib.hid (ho3.var V12.out (by omega))
  have V33 := Lib.hid (ho3.var V32.out (by omega))
  have B3 := Lib.hid (B2.out.trans (ho3.below (by omega) B2.out.size))
  have K3 := Lib.hid (show Kept3 w w3 pb n (at1 XS k ys) from ⟨_, hv3, by rw [putL_size]; exact HAN.out, subs_whole HAS.out HAN.out hk HY.out.1, by omega⟩)
  clear hv3 ho3 V12 V22 V32 A2 B2 c17
  go_wp2_with (with_reducible refine stopL 34 _ rfl ?_)
  refine Lib.hid ?_
  refine wpList_load_whole uB rfl sB rfl _ rfl rfl (range_whole V13.out) (by simp) ?_
  refine wpList_store_only sB rfl _ _ rfl rfl rfl V33.out (B.one rfl) (by simp) (by rw [zs.out]; omega) ?_
  intro w4 hv4 ho4
  rw [putL_all _ _ (by rw [zs.out]; simp)] at hv4
  have V4 := Lib.hid hv4
  have B4 := Lib.hid (B3.out.trans (ho4.below (by omega) B3.out.size))
  obtain ⟨A', hA', hAn', hAs', hp'⟩ := K3.out
  have K4 := Lib.hid (show Kept3 w w4 pb n (at1 XS k ys) from ⟨A', ho4.var hA' (by omega), hAn', hAs', hp'⟩)
  clear hv4 ho4 V13 V33 B3 K3 hA' hAn' hAs' hp'
  go_wp2_with (with_reducible refine stopE ?_)
  refine Lib.hid ?_
  exact bodyPost_ret (v := .agg (B.cells (.slice (some ⟨pb, 0, none⟩) n cap))) (results_cell_row (p := 6) (ty := 34) rfl _ _ (w.heap.size + 2) 34 _ (0, 0) _ rfl V4.out uB rfl (by rw [sB]; simp)) rfl ⟨pb, cap, rfl, K4.out, B4.out⟩
theorem Kept3.pin {w w' : World} {pb n cap : Nat} {XS : Nat → Array Value} (h : Kept3 w w' pb n XS) : PIn w' (.slice (some ⟨pb, 0, none⟩) n cap) n XS := by
  obtain ⟨A, hA, _, h4, _⟩ := h
  refine ⟨some ⟨pb, 0, none⟩, cap, rfl, fun h => (by cases h), fun _ => ⟨pb, 0, rfl, fun i hi k hk => ?_⟩⟩
  rw [hA.cell, Nat.zero_add]; exact h4 i hi k hk
end Go.Proofs.Ythkmhnajhhomoaa
