/- Contract of the laws' Does, for whatever machine. -/
import Derived.Test.YtjfdochceejegaaDoorMg
import Derived.Test.YtjfdochceejegaaDoorSb
namespace Go.Proofs.YtjfdochceejegaaDoor
open Go.RowKit Go.Sort

set_option maxRecDepth 20000 in
set_option maxHeartbeats 2000000 in
theorem does_any (F G : FuncId) (B : Bd) (s : Value) (n : Nat) (i : Int) (XS YS : Nat → Array Value) (d : Bool) (w : World) (hs : PIn w s n XS) (hn : n ≤ 20) (ht : ∀ i, i < n → Typed (XS i)) (hy : ∀ i, i < n → Typed (YS i))
    (cF : ∀ args w, (callFunc F args).run Tryd.prog w = .ok (.enter F args) w) (cG : ∀ args w, (callFunc G args).run Tryd.prog w = .ok (.enter G args) w)
    (hF : ∀ bb pb cap w1, Below w.heap.size w w1 → Br w1 B bb pb n cap XS → Calls Tryd.prog F #[.pointer (some ⟨bb, 0, none⟩), .int .i64 i] w1 fun e w' => e = .returned (.bool d) ∧ Br w' B bb pb n cap YS ∧ Only pb w1 w')
    (hG : ∀ s w, PIn w s n XS → Calls Tryd.prog G #[.agg (B.cells s), .int .i64 i] w fun e w' => Ret B n YS d w e w') :
    Calls Tryd.prog 12 #[.agg (B.cells s), .int .i64 i, .func (.func F) #[] #[], .func (.func G) #[] #[]] w fun e w' => e = .returned (.bool true) ∧ Below w.heap.size w w' := by
  have hx : ∀ i, i < n → (XS i).size = 90 := fun i hi => (ht i hi).1
  have hv0 := Lib.hid (var_new w (B.cells s) 47)
  have hB0 := Lib.hid (box_below w (.cells (B.cells s) 47))
  have HX := Lib.hid hx
  have HX2 := Lib.hid (fun i hi => (hy i hi).1)
  have HSW := Lib.hid hs
  have HC18 := Lib.hid (show (B.cells s).size = 18 by simp)
  have kCp := Lib.hid (fun w h => copy_any B s n XS w h hn ht)
  have kF := Lib.hid hF
  have kG := Lib.hid hG
  have kSm := Lib.hid (fun s1 s2 w h1 h2 => same_pin B s1 s2 n YS w h1 h2 hy hn)
  have HD18 := Lib.hid (fun s => (show (B.cells s).size = 18 by simp))
  have HD1 := Lib.hid (fun s (h : s.oneCell' = true) => B.one (s := s) h)
  have CFH := Lib.hid cF
  have CGH := Lib.hid cG
  have kZ := Lib.hid zero34
  have zs := Lib.hid z34_size
  clear hs ht hx hy hF hG cF cG
  generalize z34 = Z at *
  generalize B.cells s = C at *
  go_enter Tryd.func12, Tryd.ntmps12
  go_wp2_with (with_reducible refine stopL 47 _ rfl ?_)
  refine Lib.hid ?_
  refine wpList_load_whole uB rfl sB rfl _ rfl rfl (range_whole hv0.out) HC18.out ?_
  generalize w.alloc (.cells C 47) = w0 at *
  go_wp2_with fail
  refine (kCp.out _ (HSW.out.below HX.out hB0.out)).mono ?_
  rintro e w1 ⟨pb, cap, rfl, ⟨A, hA, hAn, hAs, hpb⟩, hb⟩
  have V1 := Lib.hid (hv0.out.below hb hv0.out.lt)
  have B1 := Lib.hid (hB0.out.trans (hb.mono hB0.out.size))
  have hlt0 : w.heap.size < pb := Nat.lt_of_lt_of_le hv0.out.lt hpb
  have PA := Lib.hid hA
  have PN := Lib.hid hAn
  have PS := Lib.hid hAs
  clear hb hA hAn hAs hv0 hB0 hpb
  have HBR := Lib.hid (fun w' bb XS' => Br.mk (w := w') (B := B) (bb := bb) (pb := pb) (n := n) (cap := cap) (XS := XS'))
  have HBR2 := Lib.hid (fun w' bb XS' => Br.hb (w := w') (B := B) (bb := bb) (pb := pb) (n := n) (cap := cap) (XS := XS'))
  have kSm1 := Lib.hid (fun s2 w h2 => kSm.out (.slice (some ⟨pb, 0, none⟩) n cap) s2 w h2)
  have hC1 := Lib.hid (HD18.out (.slice (some ⟨pb, 0, none⟩) n cap))
  have hO1 := Lib.hid (HD1.out (.slice (some ⟨pb, 0, none⟩) n cap) rfl)
  clear kSm
  generalize B.cells (.slice (some ⟨pb, 0, none⟩) n cap) = C1 at *
  have zz := kZ.out
  go_wp2_with (with_reducible refine stopS 47 _ _ rfl ?_)
  refine Lib.hid ?_
  clear zz
  refine wpList_store_only sB rfl _ _ rfl rfl rfl (var_new w1 Z 47) hO1.out hC1.out (by rw [zs.out]; omega) ?_
  intro w2 hv ho
  simp only [Act.put]
  rw [putL_all _ _ (by rw [zs.out, hC1.out])] at hv
  have hb2 : Below w1.heap.size w1 w2 := (box_below w1 _).trans (ho.below (Nat.le_refl _) (by rw [alloc_size]; omega))
  have V2 := Lib.hid (V1.out.below hb2 V1.out.lt)
  have BR2 := Lib.hid (HBR.out w2 w1.heap.size XS hv ⟨A, PA.out.below hb2 PA.out.lt, PN.out, PS.out⟩)
  have B2 := Lib.hid (B1.out.trans (hb2.mono B1.out.size))
  have hxw : w.heap.size < w1.heap.size := V1.out.lt
  clear hv ho hb2 V1 B1 PA PN PS
  generalize w1.heap.size = xb at *
  have q1 := CFH.out
  go_wp2_with fail
  refine (kF.out _ _ _ _ B2.out BR2.out).mono ?_
  rintro e w3 ⟨rfl, hbr, ho⟩
  have V3 := Lib.hid (ho.var V2.out (by omega))
  have B3 := Lib.hid (B2.out.trans (ho.below (by omega) B2.out.size))
  have BR3 := Lib.hid hbr
  clear hbr ho V2 B2 BR2 q1 kF
  go_wp2_with (with_reducible refine stopL 47 _ rfl ?_)
  refine Lib.hid ?_
  refine wpList_load_whole uB rfl sB rfl _ rfl rfl (range_whole V3.out) HC18.out ?_
  go_wp2_with fail
  refine (kCp.out _ (HSW.out.below HX.out B3.out)).mono ?_
  rintro e w4 ⟨p2, cap2, rfl, hk4, hb⟩
  have PI4 := Lib.hid (show PIn w4 (.slice (some ⟨p2, 0, none⟩) n cap2) n XS by
    obtain ⟨A2, g1, g2, g3, g4⟩ := hk4
    refine ⟨some ⟨p2, 0, none⟩, cap2, rfl, fun h => (by cases h), fun _ => ⟨p2, 0, rfl, fun i hi k hk => ?_⟩⟩
    rw [g1.cell, Nat.zero_add]; exact g3 i hi k hk)
  have V4 := Lib.hid (V3.out.below hb V3.out.lt)
  have B4 := Lib.hid (B3.out.trans (hb.mono B3.out.size))
  have BR4 := Lib.hid (BR3.out.below hb)
  clear hb hk4 V3 B3 BR3
  have kG4 := Lib.hid (kG.out _ _ PI4.out)
  clear kG
  generalize B.cells (.slice (some ⟨p2, 0, none⟩) n cap2) = C2 at *
  have q2 := CGH.out
  go_wp2_with fail
  refine kG4.out.mono ?_
  rintro e w5 ⟨s5, rfl, hp5, hb⟩
  have PI5 := Lib.hid hp5
  have hs5 : s5.oneCell' = true := by obtain ⟨a5, c5, rfl, _⟩ := hp5; rfl
  have B5 := Lib.hid (B4.out.trans (hb.mono B4.out.size))
  have BR5 := Lib.hid (BR4.out.below hb)
  have hO5 := Lib.hid (HD1.out s5 hs5)
  have hC5 := Lib.hid (HD18.out s5)
  have kSm5 := Lib.hid (fun w h1 h2 => kSm1.out s5 w h1 h2)
  clear hb hp5 hs5 V4 B4 BR4 q2 kG4 kSm1
  generalize B.cells s5 = C5 at *
  have zz := kZ.out
  go_wp2_with (with_reducible refine stopS 47 _ _ rfl ?_)
  refine Lib.hid ?_
  clear zz
  refine wpList_store_only sB rfl _ _ rfl rfl rfl (var_new w5 Z 47) hO5.out hC5.out (by rw [zs.out]; omega) ?_
  intro w6 hv ho
  simp only [Act.put]
  rw [putL_all _ _ (by rw [zs.out, hC5.out])] at hv
  have hb6 : Below w5.heap.size w5 w6 := (box_below w5 _).trans (ho.below (Nat.le_refl _) (by rw [alloc_size]; omega))
  have VY := Lib.hid hv
  have B6 := Lib.hid (B5.out.trans (hb6.mono B5.out.size))
  have BR6 := Lib.hid (BR5.out.below hb6)
  have VX := Lib.hid (HBR2.out w6 xb _ BR6.out)
  have PI6 := Lib.hid (PI5.out.below HX2.out hb6)
  clear hv ho hb6 B5 BR5 PI5
  cases d
  all_goals
    go_wp2_with (with_reducible refine stopL 47 _ rfl ?_)
    refine Lib.hid ?_
    refine guarded_load (by rfl) _ rfl rfl VX.out hC1.out ?_
    refine guarded_load (by rfl) _ rfl rfl VY.out hC5.out ?_
    go_wp2_with fail
    refine (kSm5.out _ BR6.out.pin PI6.out).mono ?_
    rintro e w7 ⟨rfl, hb⟩
    have B7 := Lib.hid (B6.out.trans (hb.mono B6.out.size))
    clear hb
    go_wp2_with fail
    go_ret
    exact ⟨rfl, B7.out⟩
end Go.Proofs.YtjfdochceejegaaDoor
