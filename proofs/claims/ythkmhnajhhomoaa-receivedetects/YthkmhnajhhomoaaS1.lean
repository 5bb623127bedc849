/- Contract of the reference's Detect, in Edge. -/
import Derived.Test.YthkmhnajhhomoaaR
namespace Go.Proofs.Ythkmhnajhhomoaa
open Go.RowKit Go.Sort

set_option maxHeartbeats 4000000 in
theorem refdetect_e (B : Bd) (s : Value) (n k : Nat) (XS : Nat → Array Value) (w : World) (hs : PIn w s n XS) (hk : k < n) (hn : n ≤ 20) (ht : ∀ j, j < n → Typed (XS j)) (h84 : numI (XS k) 84 = 1) :
    Calls Try.prog 12 #[.agg (B.cells s), .int .i64 k] w fun e w' => Ret B n (at1 XS k (detX (XS k)).2) (detX (XS k)).1 w e w' := by
  have hx : ∀ i, i < n → (XS i).size = 90 := fun i hi => (ht i hi).1
  have V1 := Lib.hid ((var_new w (B.cells s) 34).alloc (.cells z34 34))
  have V2 := Lib.hid (show VarAt ((w.alloc (.cells (B.cells s) 34)).alloc (.cells z34 34)) (w.heap.size + 1) z34 34 by
    have := var_new (w.alloc (.cells (B.cells s) 34)) z34 34
    rwa [alloc_size] at this)
  have B1 := Lib.hid (show Below w.heap.size w ((w.alloc (.cells (B.cells s) 34)).alloc (.cells z34 34)) from ((Below.refl w.heap.size w).alloc (Nat.le_refl _) _).alloc (by rw [alloc_size]; omega) _)
  obtain ⟨pb, o, c, hsl, hpat⟩ := hs.pat (by omega)
  subst hsl
  have kTh := Lib.hid (fun w => there_yes B (some ⟨pb, o, none⟩) n c k w hk)
  have kW := Lib.hid (fun ys w0 h0 hy => with_any B (.slice (some ⟨pb, o, none⟩) n c) n k XS ys w0 h0 hk hn ht hy)
  have HF0 := Lib.hid (fun e w' b (he : e = .returned (.tuple #[.agg (B.cells (.slice (some ⟨pb, o, none⟩) n c)), .bool b])) (hb : Below w.heap.size w w') => (show Ret B n (at1 XS k (XS k)) b w e w' from ⟨_, he, (hs.below hx hb).congr (fun i _ => at1_self XS k i), hb⟩))
  have HF1 := Lib.hid (fun e w' b ys pb' cap (he : e = .returned (.tuple #[.agg (B.cells (.slice (some ⟨pb', 0, none⟩) n cap)), .bool b])) (hp : PIn w' (.slice (some ⟨pb', 0, none⟩) n cap) n (at1 XS k ys)) (hb : Below w.heap.size w w') => (show Ret B n (at1 XS k ys) b w e w' from ⟨_, he, hp, hb⟩))
  have HPK := Lib.hid (fun w' (hb : Below w.heap.size w w') => (((hpat k hk).below (hx k hk) hb).range (hx k hk)))
  have HSW := Lib.hid (fun w' (hb : Below w.heap.size w w') => hs.below hx hb)
  have HC18 := Lib.hid (show (B.cells (.slice (some ⟨pb, o, none⟩) n c)).size = 18 by simp)
  have HC1 := Lib.hid (B.one (s := .slice (some ⟨pb, o, none⟩) n c) rfl)
  have HC17 := Lib.hid (show (B.cells (.slice (some ⟨pb, o, none⟩) n c))[17]? = some (.slice (some ⟨pb, o, none⟩) n c) by simp)
  have HC6 := Lib.hid (show (B.cells (.slice (some ⟨pb, o, none⟩) n c))[6]? = some (.bool B.rs) by simp)
  have HD18 := Lib.hid (fun pb' cap => (show (B.cells (.slice (some ⟨pb', 0, none⟩) n cap)).size = 18 by simp))
  have HD1 := Lib.hid (fun pb' cap => B.one (s := .slice (some ⟨pb', 0, none⟩) n cap) rfl)
  have i0 := idx32o pb o n c k hk
  have HTK := Lib.hid (ht k hk)
  have zz := zero34
  have zs := Lib.hid z34_size
  have zps := Lib.hid z48_size
  have TE0 := Lib.hid (edgeX_typed false (ht k hk))
  have TE1 := Lib.hid (edgeX_typed true (ht k hk))
  have HR := Lib.hid (show detX (XS k) = if (!boolI (XS k) 2 && !boolI (XS k) 3) || !boolI (XS k) 25 then (true, edgeX false (XS k)) else (false, (XS k)) by unfold detX noEdgeX; rw [h84]; rfl)
  have zp := zero48
  clear hs ht hpat hx
  have HCE := Lib.hid (show B.cells (.slice (some ⟨pb, o, none⟩) n c) = B.cells (.slice (some ⟨pb, o, none⟩) n c) from rfl)
  generalize hCC : B.cells (.slice (some ⟨pb, o, none⟩) n c) = C at *
  have HCC := Lib.hid hCC
  clear hCC HCE
  generalize z34 = Z at *
  generalize z48 = ZP at *
  generalize hXK : XS k = xs at *
  clear hXK
  have H84 := Lib.hid h84
  clear h84
  generalize detX xs = M at *
  have e84 := Lib.hid (HTK.out.num 84 rfl)
  have e25 := Lib.hid (HTK.out.bool 25 rfl)
  have e2 := Lib.hid (HTK.out.bool 2 rfl)
  have e3 := Lib.hid (HTK.out.bool 3 rfl)
  have e6 := Lib.hid (HTK.out.num 6 rfl)
  have e4 := Lib.hid (HTK.out.bool 4 rfl)
  have e40 := Lib.hid (HTK.out.bool 40 rfl)
  have e27 := Lib.hid (HTK.out.bool 27 rfl)
  go_enter Try.func12, Try.ntmps12
  go_wp2_with (with_reducible refine stopL 34 _ rfl ?_)
  refine Lib.hid ?_
  clear zz
  refine wpList_load_whole uB rfl sB rfl _ rfl rfl (range_whole V1.out) HC18.out ?_
  generalize (w.alloc (.cells C 34)).alloc (.cells Z 34) = w0 at *
  go_wp2_with fail
  refine (kTh.out _).mono ?_
  rintro e w1 ⟨rfl, hb⟩
  have V11 := Lib.hid (V1.out.below hb V1.out.lt)
  have V21 := Lib.hid (V2.out.below hb V2.out.lt)
  have B11 := Lib.hid (B1.out.trans (hb.mono B1.out.size))
  have hl0 := V21.out.lt
  clear hb V1 V2 B1 kTh
  have c17 : w1.cell? ⟨w.heap.size, 17, none⟩ = some (.slice (some ⟨pb, o, none⟩) n c) := by rw [V11.out.cell]; exact HC17.out
  go_wp2_with (with_reducible refine stopL 53 _ rfl ?_)
  refine Lib.hid ?_
  refine wpList_load_whole uP rfl sP rfl _ rfl rfl (HPK.out _ B11.out) HTK.out.1 ?_
  go_wp2_with (with_reducible refine stopS 53 _ _ rfl ?_)
  refine Lib.hid ?_
  clear zp
  refine wpList_store_only sP rfl _ _ rfl rfl rfl (var_new w1 ZP 53) HTK.out.one HTK.out.1 (by rw [zps.out]; omega) ?_
  intro w2 hv ho
  simp only [Act.put]
  rw [putL_all _ _ (by rw [zps.out, HTK.out.1])] at hv
  have hb2 : Below w1.heap.size w1 w2 := (box_below w1 _).trans (ho.below (Nat.le_refl _) (by rw [alloc_size]; omega))
  have VP := Lib.hid hv
  have VB := Lib.hid (V11.out.below hb2 V11.out.lt)
  have VR := Lib.hid (V21.out.below hb2 V21.out.lt)
  have B2 := Lib.hid (B11.out.trans (hb2.mono B11.out.size))
  clear hv ho hb2 V11 V21 B11 c17
  generalize w1.heap.size = xb at *
  have c84 : w2.cell? ⟨xb, 84, none⟩ = some (.int .i64 (numI xs 84)) := by rw [VP.out.cell]; exact e84.out
  have c25 : w2.cell? ⟨xb, 25, none⟩ = some (.bool (boolI xs 25)) := by rw [VP.out.cell]; exact e25.out
  have c2 : w2.cell? ⟨xb, 2, none⟩ = some (.bool (boolI xs 2)) := by rw [VP.out.cell]; exact e2.out
  have c3 : w2.cell? ⟨xb, 3, none⟩ = some (.bool (boolI xs 3)) := by rw [VP.out.cell]; exact e3.out
  have c6 : w2.cell? ⟨xb, 6, none⟩ = some (.int .i64 (numI xs 6)) := by rw [VP.out.cell]; exact e6.out
  have c4 : w2.cell? ⟨xb, 4, none⟩ = some (.bool (boolI xs 4)) := by rw [VP.out.cell]; exact e4.out
  have c40 : w2.cell? ⟨xb, 40, none⟩ = some (.bool (boolI xs 40)) := by rw [VP.out.cell]; exact e40.out
  have c27 : w2.cell? ⟨xb, 27, none⟩ = some (.bool (boolI xs 27)) := by rw [VP.out.cell]; exact e27.out
  rw [H84.out] at c84
  clear H84
  generalize boolI xs 25 = x25 at *
  generalize boolI xs 2 = x2 at *
  generalize boolI xs 3 = x3 at *
  generalize numI xs 6 = x6 at *
  generalize boolI xs 4 = x4 at *
  generalize boolI xs 40 = x40 at *
  generalize boolI xs 27 = x27 at *
  cases x25
  · have hR := HR.out
    try simp [] at hR
    subst hR
    have HTY := Lib.hid TE0.out
    have fz := VP.out.frozen
    have VPn := Lib.hid (show VarAt _ xb (edgeX false xs) 53 from ((VP.out.set 25 (.bool false)).set 84 (.int .i64 0)))
    have VBn := Lib.hid ((VB.out.set_other (p := ⟨xb, 25, none⟩) (by simp; omega) (.bool false)).set_other (p := ⟨xb, 84, none⟩) (by simp; omega) (.int .i64 0))
    have VRn := Lib.hid ((VR.out.set_other (p := ⟨xb, 25, none⟩) (by simp; omega) (.bool false)).set_other (p := ⟨xb, 84, none⟩) (by simp; omega) (.int .i64 0))
    have Bn := Lib.hid ((B2.out.setCell (p := ⟨xb, 25, none⟩) (by simp; omega) (.bool false)).setCell (p := ⟨xb, 84, none⟩) (by simp; omega) (.int .i64 0))
    go_wp2_with (with_reducible refine stopL 34 _ rfl ?_)
    refine Lib.hid ?_
    refine wpList_load_whole uB rfl sB rfl _ rfl rfl (range_whole VBn.out) HC18.out ?_
    go_wp2_with (with_reducible refine stopL 53 _ rfl ?_)
    refine Lib.hid ?_
    refine wpList_load_whole uP rfl sP rfl _ rfl rfl (range_whole VPn.out) HTY.out.1 ?_
    go_wp2_with fail
    refine (kW.out (edgeX false xs) _ (HSW.out _ Bn.out) HTY.out).mono ?_
    rintro e w4 ⟨pb4, cap4, rfl, hk4, hb⟩
    have VR4 := Lib.hid (VRn.out.below hb VRn.out.lt)
    have B4 := Lib.hid (Bn.out.trans (hb.mono Bn.out.size))
    have hne4 : w.heap.size + 1 < pb4 := by have h1 := hk4.choose_spec.2.2.2; have h2 := VRn.out.lt; omega
    have K4 := Lib.hid hk4
    clear hb hk4 VPn VBn VRn Bn fz
    have HK4 := Lib.hid (HD18.out pb4 cap4)
    have HK1 := Lib.hid (HD1.out pb4 cap4)
    have HFF := Lib.hid (fun e w' b ys he hp hb => HF1.out e w' b ys pb4 cap4 he hp hb)
    generalize B.cells (.slice (some ⟨pb4, 0, none⟩) n cap4) = D at *
    go_wp2_with (with_reducible refine stopS 34 _ _ rfl ?_)
    refine Lib.hid ?_
    refine wpList_store_only sB rfl _ _ rfl rfl rfl VR4.out HK1.out HK4.out (by rw [zs.out]; omega) ?_
    intro w5 hv ho
    simp only [Act.put]
    rw [putL_all _ _ (by rw [zs.out, HK4.out])] at hv
    have V5 := Lib.hid hv
    have B5 := Lib.hid (B4.out.trans (ho.below (by omega) B4.out.size))
    obtain ⟨A5, hA5, hn5, hs5, hq5⟩ := K4.out
    have P5 := Lib.hid (Kept3.pin (cap := cap4) (show Kept3 w w5 pb4 n _ from ⟨A5, ho.var hA5 (by omega), hn5, hs5, by omega⟩))
    clear hv ho hA5 hn5 hs5 hq5
    go_wp2_with (with_reducible refine stopE ?_)
    refine Lib.hid ?_
    refine bodyPost_ret (v := .tuple #[.agg D, .bool true]) (results_pair (p := 4) (u := 5) rfl _ _ (w.heap.size + 1) 34 _ (0, 0) rfl V5.out HK4.out) rfl (HFF.out _ _ true _ rfl P5.out B5.out)
  · cases x2
    · cases x3
      · have hR := HR.out
        try simp [] at hR
        subst hR
        have HTY := Lib.hid TE0.out
        have fz := VP.out.frozen
        have VPn := Lib.hid (show VarAt _ xb (edgeX false xs) 53 from ((VP.out.set 25 (.bool false)).set 84 (.int .i64 0)))
        have VBn := Lib.hid ((VB.out.set_other (p := ⟨xb, 25, none⟩) (by simp; omega) (.bool false)).set_other (p := ⟨xb, 84, none⟩) (by simp; omega) (.int .i64 0))
        have VRn := Lib.hid ((VR.out.set_other (p := ⟨xb, 25, none⟩) (by simp; omega) (.bool false)).set_other (p := ⟨xb, 84, none⟩) (by simp; omega) (.int .i64 0))
        have Bn := Lib.hid ((B2.out.setCell (p := ⟨xb, 25, none⟩) (by simp; omega) (.bool false)).setCell (p := ⟨xb, 84, none⟩) (by simp; omega) (.int .i64 0))
        go_wp2_with (with_reducible refine stopL 34 _ rfl ?_)
        refine Lib.hid ?_
        refine wpList_load_whole uB rfl sB rfl _ rfl rfl (range_whole VBn.out) HC18.out ?_
        go_wp2_with (with_reducible refine stopL 53 _ rfl ?_)
        refine Lib.hid ?_
        refine wpList_load_whole uP rfl sP rfl _ rfl rfl (range_whole VPn.out) HTY.out.1 ?_
        go_wp2_with fail
        refine (kW.out (edgeX false xs) _ (HSW.out _ Bn.out) HTY.out).mono ?_
        rintro e w4 ⟨pb4, cap4, rfl, hk4, hb⟩
        have VR4 := Lib.hid (VRn.out.below hb VRn.out.lt)
        have B4 := Lib.hid (Bn.out.trans (hb.mono Bn.out.size))
        have hne4 : w.heap.size + 1 < pb4 := by have h1 := hk4.choose_spec.2.2.2; have h2 := VRn.out.lt; omega
        have K4 := Lib.hid hk4
        clear hb hk4 VPn VBn VRn Bn fz
        have HK4 := Lib.hid (HD18.out pb4 cap4)
        have HK1 := Lib.hid (HD1.out pb4 cap4)
        have HFF := Lib.hid (fun e w' b ys he hp hb => HF1.out e w' b ys pb4 cap4 he hp hb)
        generalize B.cells (.slice (some ⟨pb4, 0, none⟩) n cap4) = D at *
        go_wp2_with (with_reducible refine stopS 34 _ _ rfl ?_)
        refine Lib.hid ?_
        refine wpList_store_only sB rfl _ _ rfl rfl rfl VR4.out HK1.out HK4.out (by rw [zs.out]; omega) ?_
        intro w5 hv ho
        simp only [Act.put]
        rw [putL_all _ _ (by rw [zs.out, HK4.out])] at hv
        have V5 := Lib.hid hv
        have B5 := Lib.hid (B4.out.trans (ho.below (by omega) B4.out.size))
        obtain ⟨A5, hA5, hn5, hs5, hq5⟩ := K4.out
        have P5 := Lib.hid (Kept3.pin (cap := cap4) (show Kept3 w w5 pb4 n _ from ⟨A5, ho.var hA5 (by omega), hn5, hs5, by omega⟩))
        clear hv ho hA5 hn5 hs5 hq5
        go_wp2_with (with_reducible refine stopE ?_)
        refine Lib.hid ?_
        refine bodyPost_ret (v := .tuple #[.agg D, .bool true]) (results_pair (p := 4) (u := 5) rfl _ _ (w.heap.size + 1) 34 _ (0, 0) rfl V5.out HK4.out) rfl (HFF.out _ _ true _ rfl P5.out B5.out)
      · by_cases q3 : x6 = 0
        · subst q3
          cases x4
          · have hR := HR.out
            try simp [] at hR
            subst hR
            go_wp2_with (with_reducible refine stopL 34 _ rfl ?_)
            refine Lib.hid ?_
            refine wpList_load_whole uB rfl sB rfl _ rfl rfl (range_whole VB.out) HC18.out ?_
            refine wpList_store_only sB rfl _ _ rfl rfl rfl VR.out HC1.out HC18.out (by rw [zs.out]; omega) ?_
            intro w9 hv9 ho9
            rw [putL_all _ _ (by rw [zs.out, HC18.out])] at hv9
            have V9 := Lib.hid hv9
            have B9 := Lib.hid (B2.out.trans (ho9.below (by omega) B2.out.size))
            clear hv9 ho9
            go_wp2_with (with_reducible refine stopE ?_)
            refine Lib.hid ?_
            refine bodyPost_ret (v := .tuple #[.agg C, .bool false]) (results_pair (p := 4) (u := 5) rfl _ _ (w.heap.size + 1) 34 _ (0, 0) rfl V9.out HC18.out) rfl (HF0.out _ _ false rfl B9.out)
          · cases x40
            · have hR := HR.out
              try simp [] at hR
              subst hR
              go_wp2_with (with_reducible refine stopL 34 _ rfl ?_)
              refine Lib.hid ?_
              refine wpList_load_whole uB rfl sB rfl _ rfl rfl (range_whole VB.out) HC18.out ?_
              refine wpList_store_only sB rfl _ _ rfl rfl rfl VR.out HC1.out HC18.out (by rw [zs.out]; omega) ?_
              intro w9 hv9 ho9
              rw [putL_all _ _ (by rw [zs.out, HC18.out])] at hv9
              have V9 := Lib.hid hv9
              have B9 := Lib.hid (B2.out.trans (ho9.below (by omega) B2.out.size))
              clear hv9 ho9
              go_wp2_with (with_reducible refine stopE ?_)
              refine Lib.hid ?_
              refine bodyPost_ret (v := .tuple #[.agg C, .bool false]) (results_pair (p := 4) (u := 5) rfl _ _ (w.heap.size + 1) 34 _ (0, 0) rfl V9.out HC18.out) rfl (HF0.out _ _ false rfl B9.out)
            · cases x27
              · have hR := HR.out
                try simp [] at hR
                subst hR
                go_wp2_with (with_reducible refine stopL 34 _ rfl ?_)
                refine Lib.hid ?_
                refine wpList_load_whole uB rfl sB rfl _ rfl rfl (range_whole VB.out) HC18.out ?_
                refine wpList_store_only sB rfl _ _ rfl rfl rfl VR.out HC1.out HC18.out (by rw [zs.out]; omega) ?_
                intro w9 hv9 ho9
                rw [putL_all _ _ (by rw [zs.out, HC18.out])] at hv9
                have V9 := Lib.hid hv9
                have B9 := Lib.hid (B2.out.trans (ho9.below (by omega) B2.out.size))
                clear hv9 ho9
                go_wp2_with (with_reducible refine stopE ?_)
                refine Lib.hid ?_
                refine bodyPost_ret (v := .tuple #[.agg C, .bool false]) (results_pair (p := 4) (u := 5) rfl _ _ (w.heap.size + 1) 34 _ (0, 0) rfl V9.out HC18.out) rfl (HF0.out _ _ false rfl B9.out)
              · have hR := HR.out
                try simp [] at hR
                subst hR
                go_wp2_with (with_reducible refine stopL 34 _ rfl ?_)
                refine Lib.hid ?_
                refine wpList_load_whole uB rfl sB rfl _ rfl rfl (range_whole VB.out) HC18.out ?_
                refine wpList_store_only sB rfl _ _ rfl rfl rfl VR.out HC1.out HC18.out (by rw [zs.out]; omega) ?_
                intro w9 hv9 ho9
                rw [putL_all _ _ (by rw [zs.out, HC18.out])] at hv9
                have V9 := Lib.hid hv9
                have B9 := Lib.hid (B2.out.trans (ho9.below (by omega) B2.out.size))
                clear hv9 ho9
                go_wp2_with (with_reducible refine stopE ?_)
                refine Lib.hid ?_
                refine bodyPost_ret (v := .tuple #[.agg C, .bool false]) (results_pair (p := 4) (u := 5) rfl _ _ (w.heap.size + 1) 34 _ (0, 0) rfl V9.out HC18.out) rfl (HF0.out _ _ false rfl B9.out)
        · have e3_ : (x6 == 0) = false := by simpa using q3
          have n3_ : (x6 != 0) = true := by simpa using q3
          clear q3
          have hR := HR.out
          try simp [e3_, n3_] at hR
          subst hR
          go_wp2_with (with_reducible refine stopL 34 _ rfl ?_)
          refine Lib.hid ?_
          refine wpList_load_whole uB rfl sB rfl _ rfl rfl (range_whole VB.out) HC18.out ?_
          refine wpList_store_only sB rfl _ _ rfl rfl rfl VR.out HC1.out HC18.out (by rw [zs.out]; omega) ?_
          intro w9 hv9 ho9
          rw [putL_all _ _ (by rw [zs.out, HC18.out])] at hv9
          have V9 := Lib.hid hv9
          have B9 := Lib.hid (B2.out.trans (ho9.below (by omega) B2.out.size))
          clear hv9 ho9
          go_wp2_with (with_reducible refine stopE ?_)
          refine Lib.hid ?_
          refine bodyPost_ret (v := .tuple #[.agg C, .bool false]) (results_pair (p := 4) (u := 5) rfl _ _ (w.heap.size + 1) 34 _ (0, 0) rfl V9.out HC18.out) rfl (HF0.out _ _ false rfl B9.out)
    · by_cases q2 : x6 = 0
      · subst q2
        cases x4
        · have hR := HR.out
          try simp [] at hR
          subst hR
          go_wp2_with (with_reducible refine stopL 34 _ rfl ?_)
          refine Lib.hid ?_
          refine wpList_load_whole uB rfl sB rfl _ rfl rfl (range_whole VB.out) HC18.out ?_
          refine wpList_store_only sB rfl _ _ rfl rfl rfl VR.out HC1.out HC18.out (by rw [zs.out]; omega) ?_
          intro w9 hv9 ho9
          rw [putL_all _ _ (by rw [zs.out, HC18.out])] at hv9
          have V9 := Lib.hid hv9
          have B9 := Lib.hid (B2.out.trans (ho9.below (by omega) B2.out.size))
          clear hv9 ho9
          go_wp2_with (with_reducible refine stopE ?_)
          refine Lib.hid ?_
          refine bodyPost_ret (v := .tuple #[.agg C, .bool false]) (results_pair (p := 4) (u := 5) rfl _ _ (w.heap.size + 1) 34 _ (0, 0) rfl V9.out HC18.out) rfl (HF0.out _ _ false rfl B9.out)
        · cases x40
          · have hR := HR.out
            try simp [] at hR
            subst hR
            go_wp2_with (with_reducible refine stopL 34 _ rfl ?_)
            refine Lib.hid ?_
            refine wpList_load_whole uB rfl sB rfl _ rfl rfl (range_whole VB.out) HC18.out ?_
            refine wpList_store_only sB rfl _ _ rfl rfl rfl VR.out HC1.out HC18.out (by rw [zs.out]; omega) ?_
            intro w9 hv9 ho9
            rw [putL_all _ _ (by rw [zs.out, HC18.out])] at hv9
            have V9 := Lib.hid hv9
            have B9 := Lib.hid (B2.out.trans (ho9.below (by omega) B2.out.size))
            clear hv9 ho9
            go_wp2_with (with_reducible refine stopE ?_)
            refine Lib.hid ?_
            refine bodyPost_ret (v := .tuple #[.agg C, .bool false]) (results_pair (p := 4) (u := 5) rfl _ _ (w.heap.size + 1) 34 _ (0, 0) rfl V9.out HC18.out) rfl (HF0.out _ _ false rfl B9.out)
          · cases x27
            · have hR := HR.out
              try simp [] at hR
              subst hR
              go_wp2_with (with_reducible refine stopL 34 _ rfl ?_)
              refine Lib.hid ?_
              refine wpList_load_whole uB rfl sB rfl _ rfl rfl (range_whole VB.out) HC18.out ?_
              refine wpList_store_only sB rfl _ _ rfl rfl rfl VR.out HC1.out HC18.out (by rw [zs.out]; omega) ?_
              intro w9 hv9 ho9
              rw [putL_all _ _ (by rw [zs.out, HC18.out])] at hv9
              have V9 := Lib.hid hv9
              have B9 := Lib.hid (B2.out.trans (ho9.below (by omega) B2.out.size))
              clear hv9 ho9
              go_wp2_with (with_reducible refine stopE ?_)
              refine Lib.hid ?_
              refine bodyPost_ret (v := .tuple #[.agg C, .bool false]) (results_pair (p := 4) (u := 5) rfl _ _ (w.heap.size + 1) 34 _ (0, 0) rfl V9.out HC18.out) rfl (HF0.out _ _ false rfl B9.out)
            · have hR := HR.out
              try simp [] at hR
              subst hR
              go_wp2_with (with_reducible refine stopL 34 _ rfl ?_)
              refine Lib.hid ?_
              refine wpList_load_whole uB rfl sB rfl _ rfl rfl (range_whole VB.out) HC18.out ?_
              refine wpList_store_only sB rfl _ _ rfl rfl rfl VR.out HC1.out HC18.out (by rw [zs.out]; omega) ?_
              intro w9 hv9 ho9
              rw [putL_all _ _ (by rw [zs.out, HC18.out])] at hv9
              have V9 := Lib.hid hv9
              have B9 := Lib.hid (B2.out.trans (ho9.below (by omega) B2.out.size))
              clear hv9 ho9
              go_wp2_with (with_reducible refine stopE ?_)
              refine Lib.hid ?_
              refine bodyPost_ret (v := .tuple #[.agg C, .bool false]) (results_pair (p := 4) (u := 5) rfl _ _ (w.heap.size + 1) 34 _ (0, 0) rfl V9.out HC18.out) rfl (HF0.out _ _ false rfl B9.out)
      · have e2_ : (x6 == 0) = false := by simpa using q2
        have n2_ : (x6 != 0) = true := by simpa using q2
        clear q2
        have hR := HR.out
        try simp [e2_, n2_] at hR
        subst hR
        go_wp2_with (with_reducible refine stopL 34 _ rfl ?_)
        refine Lib.hid ?_
        refine wpList_load_whole uB rfl sB rfl _ rfl rfl (range_whole VB.out) HC18.out ?_
        refine wpList_store_only sB rfl _ _ rfl rfl rfl VR.out HC1.out HC18.out (by rw [zs.out]; omega) ?_
        intro w9 hv9 ho9
        rw [putL_all _ _ (by rw [zs.out, HC18.out])] at hv9
        have V9 := Lib.hid hv9
        have B9 := Lib.hid (B2.out.trans (ho9.below (by omega) B2.out.size))
        clear hv9 ho9
        go_wp2_with (with_reducible refine stopE ?_)
        refine Lib.hid ?_
        refine bodyPost_ret (v := .tuple #[.agg C, .bool false]) (results_pair (p := 4) (u := 5) rfl _ _ (w.heap.size + 1) 34 _ (0, 0) rfl V9.out HC18.out) rfl (HF0.out _ _ false rfl B9.out)
end Go.Proofs.Ythkmhnajhhomoaa
