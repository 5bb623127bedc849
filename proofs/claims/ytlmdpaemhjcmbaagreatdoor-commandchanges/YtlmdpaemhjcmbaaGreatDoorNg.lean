/- The whole call of CommandChanges. -/
import Derived.Test.YtlmdpaemhjcmbaaGreatDoorNf
import Derived.Test.YtlmdpaemhjcmbaaGreatDoorNe
namespace Go.Proofs.YtlmdpaemhjcmbaaGreatDoor
open Go.RowKit Go.Sort

theorem wpList_load_want {T n : Nat} {d : TypeDesc} (hu : Tryz.prog.underlying T = some d) (hd : d.isRow = true) (hn : (Tryz.prog.info? T).map (·.size) = some n)
    {ops : Array Oper} {rest : List Oper} {op : Oper} {a : Act} {w : World} {Q : Exit → Act → World → Prop} (hw : Region.wanted op (yielded ops a.tmps) = true) (x : Operand) (ho : op.op = .load T x) {b o : Nat} (hx : a.eval x = .pointer (some ⟨b, o, none⟩)) {xs : Array Value}
    (hv : w.rangeAt b o xs.toList) (hz : xs.size = n) (h : wpList Tryz.prog ops Q rest (a.put op.dst (.agg xs)) w) : wpList Tryz.prog ops Q (op :: rest) a w :=
  BigFrame.wpList_want hw fun _ hK => wp_load_mid T x ho b o hx xs.toList d hv hu hd (by rw [hn]; simp [hz]) (hK _ _ (by simpa using h))
set_option maxRecDepth 20000 in
set_option maxHeartbeats 4000000 in
theorem changes_any (c : Cf) (s : Value) (n : Nat) (P : Nat → Pc) (lv : Value) (m : Nat) (L : Nat → Cd.Cm) (w : World) (he : Cd.Env w) (hx : ∀ i, c.x i < 256) (hs : QIn w s n P) (hl : LIn w lv m L) (hf : ∀ i, i < m → (L i).Fit) :
    Calls Tryz.prog 3 #[.agg (c.cells s), lv] w fun e w' => e = .returned (.bool true) ∧ Below w.heap.size w w' := by
  have C0 := Lib.hid (var_new w (c.cells s) 28)
  have HB := Lib.hid (box_below w (.cells (c.cells s) 28))
  have HE := Lib.hid (he.below HB.out)
  have HS := Lib.hid (hs.below HB.out)
  have HLi := Lib.hid (hl.below HB.out)
  obtain ⟨aS, cS, rfl, _⟩ := hs
  obtain ⟨al, cl, rfl, _⟩ := hl
  have CL := Lib.hid (Cf.size c (.slice aS n cS))
  have HX := Lib.hid hx
  have HF := Lib.hid hf
  have H14 := Lib.hid (fun (w' : World) (h : VarAt w' w.heap.size (c.cells (.slice aS n cS)) 28) => (show w'.cell? ⟨w.heap.size, 14, none⟩ = some (.slice aS n cS) from h.cell 14))
  clear he hx hf
  generalize hC : c.cells (.slice aS n cS) = C at *
  have HC := Lib.hid hC
  clear hC
  have lv1 := Cd.lives_any _ HE.out
  by_cases hn : n ≤ 20
  · by_cases hm : m ≤ 60
    · go_enter Tryz.func3, Tryz.ntmps3
      go_wp2_with fail
      generalize hWW : w.alloc (.cells C 28) = W at *
      have HW := Lib.hid (show W.heap.size = w.heap.size + 1 by rw [← hWW, alloc_size])
      clear hWW
      refine lv1.mono ?_
      rintro e w1 ⟨rfl, hb1⟩
      have HB1 := Lib.hid hb1
      have f14 := H14.out w1 (C0.out.below hb1 C0.out.lt)
      clear hb1 lv1
      go_wp2_with fail
      clear f14
      go_loopw [30] (fun i wr => ∃ k : Nat, k ≤ m ∧ i = .int .i64 k ∧ Below W.heap.size W wr ∧ ∀ j, j < k → Cd.Rt (L j)) (fun i _ => m - (intOf i).toNat)
      case atStart => exact ⟨0, Nat.zero_le _, rfl, HB1.out, fun j hj => absurd hj (by omega)⟩
      case round =>
        obtain ⟨k, hk, rfl, hb, hz⟩ := hrel
        have HBr := Lib.hid hb
        have HZ := Lib.hid hz
        clear hb hz HB1
        by_cases hlt : k < m
        · obtain ⟨a', cp, h9, hc0⟩ := HLi.out
          cases h9
          obtain ⟨b, o, rfl, hc⟩ := hc0 (by omega)
          have hix := idx29 b o m cl k hlt
          have hbl : b < W.heap.size := block_lt_of_cell (hc 0 (by omega) 0 (by omega))
          have RL := Lib.hid (show wr.rangeAt b (o + k * 10) (L k).cells.toList from range_cm fun q hq => by rw [HBr.out.cell (by exact hbl)]; exact hc k hlt q hq)
          have hR := Lib.hid (fun w' => Cd.right_any (L k) (HF.out k hlt) w')
          have hO := Lib.hid (fun w' => Cd.of_any (L k) w')
          clear hc hc0 hbl
          generalize hX : (L k).cells = X at *
          have XS := Lib.hid (show X.size = 10 by rw [← hX]; rfl)
          have XO := Lib.hid (show X.all (·.oneCell') = true by rw [← hX]; exact Cd.Cm.one (L k))
          clear hX
          go_wp2_with (with_reducible refine stopL 33 _ rfl ?_)
          refine Lib.hid ?_
          refine wpList_load_whole Cd.u26 rfl Cd.s26 rfl _ rfl rfl RL.out XS.out ?_
          go_wp2_with (with_reducible refine stopS 33 _ _ rfl ?_)
          refine Lib.hid ?_
          refine wpList_store_whole Cd.s26 rfl _ _ rfl rfl rfl (var_new wr _ 33) XO.out XS.out (by simp) ?_
          intro w6 hv6 hb6 _ _
          rw [putL_all _ _ (by rw [XS.out]; rfl)] at hv6
          have V6 := Lib.hid hv6
          have hb7 := hb6 wr.heap.size wr (Nat.le_refl _) (box_below wr _)
          have HB6 := Lib.hid (HBr.out.trans (hb7.mono HBr.out.size))
          clear hv6 hb6 hb7 RL hix HBr
          go_wp2_with (with_reducible refine stopL 33 _ rfl ?_)
          refine Lib.hid ?_
          refine wpList_load_whole Cd.u26 rfl Cd.s26 rfl _ rfl rfl (range_whole V6.out) XS.out ?_
          go_wp2_with fail
          refine (hO.out _).mono ?_
          rintro e w7 ⟨rfl, hb7⟩
          have HB7 := Lib.hid (HB6.out.trans (hb7.mono HB6.out.size))
          clear hb7 HB6 V6 hO
          go_wp2_with fail
          refine (hR.out _).mono ?_
          rintro e w8 ⟨⟨q, rfl, hq⟩, hb8⟩
          have HB8 := Lib.hid (HB7.out.trans (hb8.mono HB7.out.size))
          have HQ := Lib.hid hq
          clear hb8 HB7 hR hq
          cases q
          · go_wp2_with fail
            go_ret
            exact ⟨rfl, HB.out.trans (HB8.out.mono HB.out.size)⟩
          · go_wp2_with fail
            exact ⟨⟨k + 1, by omega, by go_num, HB8.out, fun j hj => by
              by_cases e : j = k
              · rw [e]; first | exact HQ.out.1 rfl | exact HQ.out.1 trivial
              · exact HZ.out j (by omega)⟩, by simp [intOf]; omega⟩
        · have hkm : k = m := by omega
          subst hkm
          have C1 := Lib.hid (C0.out.below HBr.out C0.out.lt)
          have HS1 := Lib.hid (HS.out.below HBr.out)
          have HL1 := Lib.hid (HLi.out.below HBr.out)
          clear C0 HS HLi H14 HE HF
          generalize hWb : W.heap.size = wb at *
          obtain ⟨w0, rfl⟩ : ∃ w0, w0 = wr := ⟨wr, rfl⟩
          have hZ := HZ.out
          have hw0 : w.heap.size < w0.heap.size := C1.out.lt
          have c1 := Lib.hid (show Calls Tryz.prog 8 #[.agg C] w0 fun e w' => ∃ s', e = .returned (.agg (c.cells s')) ∧ GS w' w0.heap.size s' n P ∧ Below w0.heap.size w0 w' from by rw [← HC.out]; exact copy_gs c _ n P w0 HS1.out hn)
          go_wp2_with (with_reducible refine stopL 28 _ rfl ?_)
          refine Lib.hid ?_
          refine wpList_load_whole uC rfl sC rfl _ rfl rfl (range_whole C1.out) CL.out ?_
          
          go_wp2_with fail
          refine c1.out.mono ?_
          rintro e w2 ⟨s1, rfl, hG, hb2⟩
          have HG2 := Lib.hid hG
          have HB2 := Lib.hid hb2
          clear hG hb2 c1
          go_wp2_with (with_reducible refine stopS 28 _ _ rfl ?_)
          refine Lib.hid ?_
          refine wpList_store_whole sC rfl _ _ rfl rfl rfl (var_new w2 zC 28) (Cf.one c HG2.out.one) (Cf.size c s1) (by simp) ?_
          intro w3 hv3 hb3 ho3 _
          rw [putL_all _ _ (by rw [Cf.size]; rfl)] at hv3
          have V3 := Lib.hid hv3
          have hb := hb3 w2.heap.size w2 (Nat.le_refl _) (box_below w2 _)
          have s2w : w0.heap.size ≤ w2.heap.size := HB2.out.size
          have HB3 := Lib.hid (HB2.out.trans (hb.mono s2w))
          have HG3 := Lib.hid (HG2.out.qin.below hb)
          clear hv3 hb3 ho3 hb HG2 HB2
          have ch := Lib.hid (Change_any c s1 n P (.slice al k cl) k L w3 HX.out HG3.out hn (HL1.out.below HB3.out) hZ (by omega))
          go_wp2_with (with_reducible refine stopL 28 _ rfl ?_)
          refine Lib.hid ?_
          refine wpList_load_whole uC rfl sC rfl _ rfl rfl (range_whole V3.out) (Cf.size c s1) ?_
          
          go_wp2_with fail
          refine ch.out.mono ?_
          rintro e w4 ⟨XX, rfl, hX0, hX1, hb4⟩
          have s3w : w2.heap.size < w3.heap.size := V3.out.lt
          have V4 := Lib.hid (V3.out.below hb4 V3.out.lt)
          have HB4 := Lib.hid (HB3.out.trans (hb4.mono HB3.out.size))
          have HG4 := Lib.hid (HG3.out.below hb4)
          obtain ⟨cX, sX, hXX, hsX, hXa, hXb⟩ : ∃ cX sX, XX = cX.cells sX ∧ sX.oneCell' = true ∧ (chE n L c P k = 0 → cX = runC n L c k ∧ QIn w4 sX n (runP n L P k)) ∧ (chE n L c P k ≠ 0 → cX = zCf ∧ sX = .slice none 0 0) := by
            by_cases h0 : chE n L c P k = 0
            · obtain ⟨s2, h2, g2⟩ := hX0 h0
              exact ⟨_, s2, h2, g2.one, fun _ => ⟨rfl, g2.qin⟩, fun h => absurd h0 h⟩
            · exact ⟨zCf, .slice none 0 0, hX1 h0, rfl, fun h => absurd h h0, fun _ => ⟨rfl, rfl⟩⟩
          subst hXX
          have HXA := Lib.hid hXa
          have HXB := Lib.hid hXb
          have HSX := Lib.hid hsX
          clear hb4 hX0 hX1 hXa hXb hsX V3 HB3 HG3 ch
          have hEE : Hid (chE n L c P k = if runE n L k = 0 then cfgE (runC n L c k) (runP n L P k) n else runE n L k) := Lib.hid rfl
          generalize chE n L c P k = E at *
          go_wp2_with (with_reducible refine stopS 28 _ _ rfl ?_)
          refine Lib.hid ?_
          refine wpList_store_whole sC rfl _ _ rfl rfl rfl (var_new w4 zC 28) (Cf.one cX HSX.out) (Cf.size cX sX) (by simp) ?_
          intro w5 hv5 hb5 ho5 _
          rw [putL_all _ _ (by rw [Cf.size]; rfl)] at hv5
          have V5 := Lib.hid hv5
          have hb := hb5 w4.heap.size w4 (Nat.le_refl _) (box_below w4 _)
          have s4w : w2.heap.size < w4.heap.size := V4.out.lt
          have O5 := Lib.hid (V4.out.below hb V4.out.lt)
          have HB5 := Lib.hid (HB4.out.trans (hb.mono HB4.out.size))
          have HG5 := Lib.hid (HG4.out.below hb)
          have HX5 := Lib.hid (fun (h : E = 0) => And.intro (HXA.out h).1 ((HXA.out h).2.below hb))
          have C5 := Lib.hid (C1.out.below HB5.out C1.out.lt)
          clear hv5 hb5 ho5 hb V4 HB4 HG4 HXA
          have c2 := Lib.hid (show Calls Tryz.prog 8 #[.agg C] w5 fun e w' => ∃ s', e = .returned (.agg (c.cells s')) ∧ GS w' w5.heap.size s' n P ∧ Below w5.heap.size w5 w' from by rw [← HC.out]; exact copy_gs c _ n P w5 (HS1.out.below HB5.out) hn)
          go_wp2_with (with_reducible refine stopL 28 _ rfl ?_)
          refine Lib.hid ?_
          refine wpList_load_whole uC rfl sC rfl _ rfl rfl (range_whole C5.out) CL.out ?_
          
          go_wp2_with fail
          refine c2.out.mono ?_
          rintro e w6 ⟨s3, rfl, hG, hb6⟩
          have HG6 := Lib.hid hG
          have HB6 := Lib.hid hb6
          have s5w : w4.heap.size < w5.heap.size := V5.out.lt
          have s6w : w5.heap.size ≤ w6.heap.size := hb6.size
          clear hG hb6 c2
          go_wp2_with (with_reducible refine stopS 28 _ _ rfl ?_)
          refine Lib.hid ?_
          refine wpList_store_whole sC rfl _ _ rfl rfl rfl (var_new w6 zC 28) (Cf.one c HG6.out.one) (Cf.size c s3) (by simp) ?_
          intro w7 hv7 hb7 ho7 _
          rw [putL_all _ _ (by rw [Cf.size]; rfl)] at hv7
          have V7 := Lib.hid hv7
          have hb := hb7 w6.heap.size w6 (Nat.le_refl _) (box_below w6 _)
          have hb57 := HB6.out.trans (hb.mono s6w)
          have HB57 := Lib.hid hb57
          have X7 := Lib.hid (V5.out.below hb57 V5.out.lt)
          have O7 := Lib.hid (O5.out.below hb57 O5.out.lt)
          have HB7 := Lib.hid (HB5.out.trans (hb57.mono HB5.out.size))
          have HQ7 := Lib.hid (HG6.out.below hb (Nat.le_refl _))
          have HN7 := Lib.hid HG6.out.off
          have hs7 : w6.heap.size < w7.heap.size := V7.out.lt
          clear hv7 hb7 ho7 hb hb57 V5 O5 HB5 HG6 HB6 C5
          go_wp2_with fail
          go_loopw [51, 11] (fun i f wr => ∃ j : Nat, j ≤ k ∧ i = .int .i64 j ∧ f = .int .i64 (runE n L j) ∧ Below w6.heap.size w7 wr ∧ ∃ s4, VarAt wr w6.heap.size ((runC n L c j).cells s4) 28 ∧ GS wr 0 s4 n (runP n L P j) ∧ ∀ g n' c', s4 = .slice (some ⟨g, 0, none⟩) n' c' → w6.heap.size ≠ g) (fun i _ _ => k - (intOf i).toNat)
          case atStart => exact ⟨0, Nat.zero_le _, rfl, rfl, Below.refl _ _, s3, V7.out, HQ7.out.weak (Nat.zero_le _), HN7.out⟩
          case round =>
            obtain ⟨j, hj, rfl, rfl, hb, s4, hv, hg, hne⟩ := hrel
            have HBq := Lib.hid hb
            have HVq := Lib.hid hv
            have HGq := Lib.hid hg
            have HNq := Lib.hid hne
            clear hb hv hg hne V7 HQ7 HN7
            have hrq : w6.heap.size < wr.heap.size := HVq.out.lt
            by_cases hlt : j < k
            · obtain ⟨a', cp, h9, hc0⟩ := HL1.out
              cases h9
              obtain ⟨b, o, rfl, hc⟩ := hc0 (by omega)
              have hix := idx29 b o k cl j hlt
              have hbl : b < w0.heap.size := block_lt_of_cell (hc 0 (by omega) 0 (by omega))
              have RL := Lib.hid (show wr.rangeAt b (o + j * 10) (L j).cells.toList from range_cm fun q hq => by rw [HBq.out.cell (show b < w6.heap.size by omega), HB7.out.cell (show b < w0.heap.size from hbl)]; exact hc j hlt q hq)
              have CH := Lib.hid (fun w' (h : GS w' 0 s4 n (runP n L P j)) => changed_any (L j) (hZ j hlt) (runC n L c j) s4 n (runP n L P j) w' h.qin hn)
              have hEk : Hid (runE n L (j + 1) = if runE n L j = 0 then stE n (L j) else runE n L j) := Lib.hid (by rw [runE])
              have hCk : Hid (runC n L c (j + 1) = if runE n L j = 0 ∧ stE n (L j) = 0 then stC (L j) (runC n L c j) else runC n L c j) := Lib.hid (by rw [runC])
              have hPk : Hid (runP n L P (j + 1) = if runE n L j = 0 ∧ stE n (L j) = 0 then stQ (L j) (runP n L P j) else runP n L P j) := Lib.hid (by rw [runP])
              clear hc hc0 hbl
              generalize stE n (L j) = S at *
              generalize hX : (L j).cells = X at *
              have XS := Lib.hid (show X.size = 10 by rw [← hX]; rfl)
              have XO := Lib.hid (show X.all (·.oneCell') = true by rw [← hX]; exact Cd.Cm.one (L j))
              clear hX
              go_wp2_with (with_reducible refine stopL 33 _ rfl ?_)
              refine Lib.hid ?_
              refine wpList_load_whole Cd.u26 rfl Cd.s26 rfl _ rfl rfl RL.out XS.out ?_
              go_wp2_with (with_reducible refine stopS 33 _ _ rfl ?_)
              refine Lib.hid ?_
              refine wpList_store_whole Cd.s26 rfl _ _ rfl rfl rfl (var_new wr _ 33) XO.out XS.out (by simp) ?_
              intro w8 hv8 hb8 _ _
              rw [putL_all _ _ (by rw [XS.out]; rfl)] at hv8
              have X8 := Lib.hid hv8
              have hb := hb8 wr.heap.size wr (Nat.le_refl _) (box_below wr _)
              have V8 := Lib.hid (HVq.out.below hb HVq.out.lt)
              have G8 := Lib.hid (HGq.out.below hb (Nat.le_refl _))
              have B8 := Lib.hid (HBq.out.trans (hb.mono (by omega)))
              clear hv8 hb8 hb HVq HGq HBq RL hix
              by_cases h0 : runE n L j = 0
              · rw [h0] at hEk hCk hPk ⊢
                simp only [if_true, true_and] at hEk hCk hPk
                generalize runC n L c j = cj at *
                generalize runP n L P j = Pj at *
                go_wp2_with (with_reducible refine stopL 28 _ rfl ?_)
                refine Lib.hid ?_
                refine wpList_load_whole uC rfl sC rfl _ rfl rfl (range_whole V8.out) (Cf.size _ s4) ?_
                refine wpList_load_whole Cd.u26 rfl Cd.s26 rfl _ rfl rfl (range_whole X8.out) XS.out ?_
                go_wp2_with fail
                refine (CH.out _ G8.out).mono ?_
                rintro e w9 ⟨s5, rfl, hg9, hb9⟩
                rw [← hCk.out, ← hPk.out, ← hEk.out] at *
                have V9 := Lib.hid (V8.out.below hb9 V8.out.lt)
                have s8w : w6.heap.size < w8.heap.size := V8.out.lt
                have B9 := Lib.hid (B8.out.trans (hb9.mono (by omega)))
                have G9 := Lib.hid hg9
                clear hb9 hg9 V8 X8 G8 B8 CH
                go_wp2_with (with_reducible refine stopS 28 _ _ rfl ?_)
                refine Lib.hid ?_
                refine wpList_store_whole sC rfl _ _ rfl rfl rfl V9.out (Cf.one _ G9.out.one) (Cf.size _ s5) (by rw [Cf.size]; omega) ?_
                intro w10 hv10 hb10 ho10 _
                rw [putL_all _ _ (by rw [Cf.size, Cf.size])] at hv10
                have V10 := Lib.hid hv10
                have B10 := Lib.hid (hb10 w6.heap.size w7 (Nat.le_refl _) B9.out)
                have N10 := Lib.hid (show ∀ g n' c', s5 = .slice (some ⟨g, 0, none⟩) n' c' → w6.heap.size ≠ g from by
                  rintro g n' c' e
                  rcases G9.out with ⟨h, _⟩ | ⟨g', c'', h, hg, _⟩
                  · rw [h] at e; cases e
                  · rw [h] at e; cases e; omega)
                have G10 := Lib.hid (show GS w10 0 s5 n _ from by
                  rcases G9.out with h | ⟨g, c, e, hg, A, hA, h1, h2⟩
                  · exact .inl h
                  · exact .inr ⟨g, c, e, by omega, A, ho10 _ _ _ (by omega) hA, h1, h2⟩)
                clear hv10 hb10 ho10 V9 B9 G9
                go_wp2_with fail
                exact ⟨⟨j + 1, by omega, by go_num, rfl, B10.out, s5, V10.out, G10.out, N10.out⟩, by simp [intOf]; omega⟩
              · rw [if_neg h0] at hEk
                rw [if_neg (fun h => h0 h.1)] at hCk hPk
                rw [← hCk.out] at V8
                rw [← hPk.out] at G8
                go_wp2_with fail
                exact ⟨⟨j + 1, by omega, by go_num, by rw [hEk.out], B8.out, s4, V8.out, G8.out, HNq.out⟩, by simp [intOf]; omega⟩
            · have hjk : j = k := by omega
              subst hjk
              have hb5r : Below w5.heap.size w5 wr := HB57.out.trans (HBq.out.mono s6w)
              have hb0r : Below w0.heap.size w0 wr := HB7.out.trans (HBq.out.mono (by omega))
              have OZ := Lib.hid (O7.out.below HBq.out (by omega))
              have XZ := Lib.hid (X7.out.below HBq.out (by omega))
              have GZ := Lib.hid (HG5.out.below hb5r)
              have HXZ := Lib.hid (fun h : E = 0 => And.intro (HX5.out h).1 ((HX5.out h).2.below hb5r))
              have CZ := Lib.hid (C1.out.below hb0r C1.out.lt)
              have SZ := Lib.hid (HS1.out.below hb0r)
              have BZ := Lib.hid (HBr.out.trans (hb0r.mono (by rw [← hWb]; exact HBr.out.size)))
              have QZ := Lib.hid HGq.out.qin
              have VZ := HVq
              clear hb5r hb0r O7 X7 HG5 HX5 HB57 HB7 HBq HGq HVq HNq HL1 HS1 C1 hZ HZ HBr
              by_cases hr : runE n L j = 0
              · rw [if_pos hr] at hEE
                have hc := checkC_any (runC n L c j) s4 n (runP n L P j) wr (by rw [runC_x]; exact HX.out) QZ.out (by omega)
                rw [← hEE.out] at hc
                rw [hr]
                go_wp2_with (with_reducible refine stopL 28 _ rfl ?_)
                refine Lib.hid ?_
                refine wpList_load_whole uC rfl sC rfl _ rfl rfl (range_whole VZ.out) (Cf.size _ s4) ?_
                
                go_wp2_with fail
                refine hc.mono ?_
                rintro e w8 ⟨rfl, hb8⟩
                have OZ' := Lib.hid (OZ.out.below hb8 OZ.out.lt)
                have XZ' := Lib.hid (XZ.out.below hb8 XZ.out.lt)
                have VZ' := Lib.hid (VZ.out.below hb8 VZ.out.lt)
                have GZ' := Lib.hid (GZ.out.below hb8)
                have HXZ' := Lib.hid (fun h : E = 0 => And.intro (HXZ.out h).1 ((HXZ.out h).2.below hb8))
                have CZ' := Lib.hid (CZ.out.below hb8 CZ.out.lt)
                have SZ' := Lib.hid (SZ.out.below hb8)
                have QZ' := Lib.hid (QZ.out.below hb8)
                have BZ' := Lib.hid (BZ.out.trans (hb8.mono (by rw [← hWb]; exact BZ.out.size)))
                clear hb8 hc OZ XZ VZ GZ HXZ CZ SZ QZ BZ
                have sm1 := Lib.hid (show Calls Tryz.prog 12 #[.agg (c.cells s1), .agg C] w8 fun e w' => e = .returned (.bool true) ∧ Below w8.heap.size w8 w' from by rw [← HC.out]; exact same_any c s1 _ n P w8 GZ'.out SZ'.out hn)
                go_wp2_with (with_reducible refine stopL 28 _ rfl ?_)
                refine Lib.hid ?_
                refine wpList_load_whole uC rfl sC rfl _ rfl rfl (range_whole OZ'.out) (Cf.size _ s1) ?_
                
                refine wpList_load_whole uC rfl sC rfl _ rfl rfl (range_whole CZ'.out) CL.out ?_
                go_wp2_with fail
                refine sm1.out.mono ?_
                rintro e w9 ⟨rfl, hb9⟩
                have X9 := Lib.hid (XZ'.out.below hb9 XZ'.out.lt)
                have V9 := Lib.hid (VZ'.out.below hb9 VZ'.out.lt)
                have Q9 := Lib.hid (QZ'.out.below hb9)
                have HX9 := Lib.hid (fun h : E = 0 => And.intro (HXZ'.out h).1 ((HXZ'.out h).2.below hb9))
                have B9 := Lib.hid (BZ'.out.trans (hb9.mono (by rw [← hWb]; exact BZ'.out.size)))
                clear hb9 sm1 OZ' XZ' GZ' HXZ' CZ' SZ' BZ' QZ' VZ'
                by_cases h0 : E = 0
                ·
                  subst h0
                  obtain ⟨hcx, hq⟩ := HX9.out rfl
                  subst hcx
                  have sm2 := Lib.hid (same_any (runC n L c j) sX s4 n (runP n L P j) w9 hq Q9.out hn)
                  clear hq
                  go_wp2_with (with_reducible refine stopL 28 _ rfl ?_)
                  refine Lib.hid ?_
                  refine wpList_load_want uC rfl sC (by rfl) _ rfl rfl (range_whole X9.out) (Cf.size _ sX) ?_
                  refine wpList_load_want uC rfl sC (by rfl) _ rfl rfl (range_whole V9.out) (Cf.size _ s4) ?_
                  go_wp2_with fail
                  refine sm2.out.mono ?_
                  rintro e w10 ⟨rfl, hb10⟩
                  have B10 := Lib.hid (B9.out.trans (hb10.mono (by rw [← hWb]; exact B9.out.size)))
                  clear hb10 sm2
                  go_wp2_with fail
                  go_ret
                  exact ⟨rfl, HB.out.trans (B10.out.mono (by have := HW.out; omega))⟩
                ·
                  obtain ⟨rfl, rfl⟩ := HXB.out h0
                  have q0 : QIn w9 (.slice none 0 0) 0 (fun _ => (⟨0, 0, false, false, 0⟩ : Pc)) := ⟨none, 0, rfl, fun _ => ⟨rfl, rfl⟩, fun h => absurd h (by omega)⟩
                  have sm3 := Lib.hid (show Calls Tryz.prog 12 #[.agg (zCf.cells (.slice none 0 0)), .agg zC] w9 fun e w' => e = .returned (.bool true) ∧ Below w9.heap.size w9 w' from same_any zCf _ _ 0 _ w9 q0 q0 (by omega))
                  clear q0
                  have hd0 : decide (E = 0) = false := decide_eq_false h0
                  have hd1 : (E == 0) = false := by simpa using h0
                  have hd2 : (E != 0) = true := by simpa using h0
                  go_wp2_with (with_reducible refine stopL 28 _ rfl ?_)
                  try simp only [hd0, hd1, hd2]
                  refine Lib.hid ?_
                  refine wpList_skip (by rfl) ?_
                  refine wpList_skip (by rfl) ?_
                  go_wp2_with (with_reducible refine stopL 28 _ rfl ?_)
                  try simp only [hd0, hd1, hd2]
                  refine Lib.hid ?_
                  refine wpList_load_want uC rfl sC (by rfl) _ rfl rfl (range_whole X9.out) (Cf.size _ _) ?_
                  go_wp2_with fail
                  refine sm3.out.mono ?_
                  rintro e w10 ⟨rfl, hb10⟩
                  have B10 := Lib.hid (B9.out.trans (hb10.mono (by rw [← hWb]; exact B9.out.size)))
                  clear hb10 sm3
                  go_wp2_with fail
                  go_ret
                  exact ⟨rfl, HB.out.trans (B10.out.mono (by have := HW.out; omega))⟩
              · rw [if_neg hr] at hEE
                rw [← hEE.out] at hr ⊢
                have h0 := hr
                have sm1 := Lib.hid (show Calls Tryz.prog 12 #[.agg (c.cells s1), .agg C] wr fun e w' => e = .returned (.bool true) ∧ Below wr.heap.size wr w' from by rw [← HC.out]; exact same_any c s1 _ n P wr GZ.out SZ.out hn)
                go_wp2_with (with_reducible refine stopL 28 _ rfl ?_)
                refine Lib.hid ?_
                refine wpList_load_whole uC rfl sC rfl _ rfl rfl (range_whole OZ.out) (Cf.size _ s1) ?_
                
                refine wpList_load_whole uC rfl sC rfl _ rfl rfl (range_whole CZ.out) CL.out ?_
                go_wp2_with fail
                refine sm1.out.mono ?_
                rintro e w9 ⟨rfl, hb9⟩
                have X9 := Lib.hid (XZ.out.below hb9 XZ.out.lt)
                have V9 := Lib.hid (VZ.out.below hb9 VZ.out.lt)
                have Q9 := Lib.hid (QZ.out.below hb9)
                have HX9 := Lib.hid (fun h : E = 0 => And.intro (HXZ.out h).1 ((HXZ.out h).2.below hb9))
                have B9 := Lib.hid (BZ.out.trans (hb9.mono (by rw [← hWb]; exact BZ.out.size)))
                clear hb9 sm1 OZ XZ GZ HXZ CZ SZ BZ QZ VZ
                obtain ⟨rfl, rfl⟩ := HXB.out h0
                have q0 : QIn w9 (.slice none 0 0) 0 (fun _ => (⟨0, 0, false, false, 0⟩ : Pc)) := ⟨none, 0, rfl, fun _ => ⟨rfl, rfl⟩, fun h => absurd h (by omega)⟩
                have sm3 := Lib.hid (show Calls Tryz.prog 12 #[.agg (zCf.cells (.slice none 0 0)), .agg zC] w9 fun e w' => e = .returned (.bool true) ∧ Below w9.heap.size w9 w' from same_any zCf _ _ 0 _ w9 q0 q0 (by omega))
                clear q0
                have hd0 : decide (E = 0) = false := decide_eq_false h0
                have hd1 : (E == 0) = false := by simpa using h0
                have hd2 : (E != 0) = true := by simpa using h0
                go_wp2_with (with_reducible refine stopL 28 _ rfl ?_)
                try simp only [hd0, hd1, hd2]
                refine Lib.hid ?_
                refine wpList_skip (by rfl) ?_
                refine wpList_skip (by rfl) ?_
                go_wp2_with (with_reducible refine stopL 28 _ rfl ?_)
                try simp only [hd0, hd1, hd2]
                refine Lib.hid ?_
                refine wpList_load_want uC rfl sC (by rfl) _ rfl rfl (range_whole X9.out) (Cf.size _ _) ?_
                go_wp2_with fail
                refine sm3.out.mono ?_
                rintro e w10 ⟨rfl, hb10⟩
                have B10 := Lib.hid (B9.out.trans (hb10.mono (by rw [← hWb]; exact B9.out.size)))
                clear hb10 sm3
                go_wp2_with fail
                go_ret
                exact ⟨rfl, HB.out.trans (B10.out.mono (by have := HW.out; omega))⟩
    · have hm' : 60 < m := by omega
      go_enter Tryz.func3, Tryz.ntmps3
      go_wp2_with fail
      generalize hWW : w.alloc (.cells C 28) = W at *
      clear hWW
      refine lv1.mono ?_
      rintro e w1 ⟨rfl, hb1⟩
      have HB1 := Lib.hid hb1
      have f14 := H14.out w1 (C0.out.below hb1 C0.out.lt)
      have lv2 := Cd.lives_any w1 (HE.out.below hb1)
      clear hb1 lv1
      go_wp2_with fail
      refine lv2.mono ?_
      rintro e w2 ⟨rfl, hb2⟩
      have HB2 := Lib.hid (HB1.out.trans (hb2.mono HB1.out.size))
      clear hb2
      go_wp2_with fail
      go_ret
      exact ⟨rfl, HB.out.trans (HB2.out.mono HB.out.size)⟩
  · have hn' : 20 < n := by omega
    go_enter Tryz.func3, Tryz.ntmps3
    go_wp2_with fail
    generalize hWW : w.alloc (.cells C 28) = W at *
    clear hWW
    refine lv1.mono ?_
    rintro e w1 ⟨rfl, hb1⟩
    have HB1 := Lib.hid hb1
    have f14 := H14.out w1 (C0.out.below hb1 C0.out.lt)
    have lv2 := Cd.lives_any w1 (HE.out.below hb1)
    clear hb1 lv1
    go_wp2_with fail
    refine lv2.mono ?_
    rintro e w2 ⟨rfl, hb2⟩
    have HB2 := Lib.hid (HB1.out.trans (hb2.mono HB1.out.size))
    clear hb2
    go_wp2_with fail
    go_ret
    exact ⟨rfl, HB.out.trans (HB2.out.mono HB.out.size)⟩
end Go.Proofs.YtlmdpaemhjcmbaaGreatDoor
