/- RolesSteps' call. -/
import Derived.Test.YtidgdanhnpfpmaaWe
namespace Go.Proofs.Ytidgdanhnpfpmaa
open Go.RowKit Go.Sort

/-- What a step makes of a bridge, and of its ports: roles selected if a port asks for them. -/
def dB (B : Bd) (X : Nat → Pd) (n : Nat) (XS : Nat → Array Value) : Bd := if anyR XS n = true then selB B X n else B
def dP (B : Bd) (X : Nat → Pd) (n : Nat) (XS : Nat → Array Value) (i : Nat) : Array Value := if anyR XS n = true then selP B X n XS i else XS i
theorem dP_typed {B : Bd} {X : Nat → Pd} {n i : Nat} {XS : Nat → Array Value} (h : Typed (XS i)) : Typed (dP B X n XS i) := by
  unfold dP; split
  · exact selP_typed h
  · exact h
theorem dP_none {B : Bd} {X : Nat → Pd} {n : Nat} {XS : Nat → Array Value} (h : ∀ i, i < n → Typed (XS i)) : anyR (dP B X n XS) n = false := by
  by_cases e : anyR XS n = true
  · exact anyR_none fun i hi => by unfold dP; rw [if_pos e]; exact selP_off (h i hi)
  · have : dP B X n XS = XS := by funext i; unfold dP; rw [if_neg e]
    rw [this]; simpa using e
theorem step_any (B : Bd) (bb pb n cap Bl : Nat) (XS : Nat → Array Value) (X : Nat → Pd) (w : World) (hB : Br w B bb pb n cap XS) (hp : ∀ i, i < n → (X i).In (XS i) ∧ Typed (XS i)) (hn : n ≤ 20) (hid : B.id < 18446744073709551616) (hB1 : Bl ≤ bb) (hB2 : Bl ≤ pb) :
    Calls Try.prog 8 #[.pointer (some ⟨bb, 0, none⟩)] w fun e w' => e = .returned (.bool (anyR XS n)) ∧ Br w' (dB B X n XS) bb pb n cap (dP B X n XS) ∧ Below Bl w w' := by
  by_cases e : anyR XS n = true
  · have h1 : dB B X n XS = selB B X n := if_pos e
    have h2 : dP B X n XS = selP B X n XS := by funext i; unfold dP; rw [if_pos e]
    rw [h1, h2, e]
    exact step_yes B bb pb n cap Bl XS X w hB hp hn hid hB1 hB2 e
  · have h1 : dB B X n XS = B := if_neg e
    have h2 : dP B X n XS = XS := by funext i; unfold dP; rw [if_neg e]
    have e0 : anyR XS n = false := by simpa using e
    rw [h1, h2, e0]
    refine (step_no B bb pb n cap XS w hB (fun i hi => (hp i hi).2) hn e0).mono ?_
    rintro x w' ⟨rfl, hb⟩
    exact ⟨rfl, hB.below hb, hb.mono (Nat.le_trans hB1 (Nat.le_of_lt hB.hb.lt))⟩
theorem roles_any (B : Bd) (qb n c : Nat) (A0 : Array Value) (XS : Nat → Array Value) (X : Nat → Pd) (w : World) (hq : VarAt w qb A0 50) (hqn : n * 90 ≤ A0.size) (hs0 : ∀ i, i < n → Sub A0 (i * 90) (XS i)) (hps : ∀ i, i < n → (X i).In (XS i) ∧ Typed (XS i)) (hn : n ≤ 20) (hid : B.id < 18446744073709551616) :
    Calls Try.prog 9 #[.agg (B.cells (.slice (some ⟨qb, 0, none⟩) n c))] w fun e w' => (∃ pb cap A, e = .returned (.tuple #[.agg ((dB B X n XS).cells (.slice (some ⟨pb, 0, none⟩) n cap)), .bool (anyR XS n)]) ∧ VarAt w' pb A 50 ∧ n * 90 ≤ A.size ∧ ∀ i, i < n → Sub A (i * 90) (dP B X n XS i)) ∧ Below w.heap.size w w' := by
  refine (refroles_any B qb n c A0 XS X w hq hs0 hps hn hid).mono ?_
  rintro e w' ⟨h1, h2, hb⟩
  refine ⟨?_, hb⟩
  by_cases e : anyR XS n = true
  · obtain ⟨pb, cap, rfl, A, a1, a2, a3, -⟩ := h2 e
    refine ⟨pb, cap, A, by rw [e, show dB B X n XS = selB B X n from if_pos e], a1, a2, fun i hi => ?_⟩
    rw [show dP B X n XS i = selP B X n XS i from if_pos e, ← selR_selP]; exact a3 i hi
  · have e0 : anyR XS n = false := by simpa using e
    refine ⟨qb, c, A0, by rw [h1 e0, e0, show dB B X n XS = B from if_neg e], hq.below hb hq.lt, hqn, fun i hi => ?_⟩
    rw [show dP B X n XS i = XS i from if_neg e]; exact hs0 i hi
theorem pin_of {w : World} {pb n cap : Nat} {XS : Nat → Array Value} (h : ∃ A, VarAt w pb A 50 ∧ n * 90 ≤ A.size ∧ ∀ i, i < n → Sub A (i * 90) (XS i)) : PIn w (.slice (some ⟨pb, 0, none⟩) n cap) n XS := by
  obtain ⟨A, hA, _, h4⟩ := h
  refine ⟨some ⟨pb, 0, none⟩, cap, rfl, fun h => (by cases h), fun _ => ⟨pb, 0, rfl, fun i hi k hk => ?_⟩⟩
  rw [hA.cell, Nat.zero_add]; exact h4 i hi k hk
set_option maxRecDepth 20000 in
set_option maxHeartbeats 8000000 in
theorem steps_any (B : Bd) (s : Value) (n : Nat) (XS : Nat → Array Value) (X : Nat → Pd) (w : World) (hs : PIn w s n XS) (hps : ∀ i, i < n → (X i).In (XS i) ∧ Typed (XS i)) (hid : B.id < 18446744073709551616) :
    Calls Try.prog 3 #[.agg (B.cells s)] w fun e w' => e = .returned (.bool true) ∧ Below w.heap.size w w' := by
  have hx : ∀ i, i < n → (XS i).size = 90 := fun i hi => (hps i hi).1.size
  have hv0 := Lib.hid (var_new w (B.cells s) 34)
  have hB0 := Lib.hid (box_below w (.cells (B.cells s) 34))
  have HX := Lib.hid hx
  have HT := Lib.hid (fun i hi => (hps i hi).2)
  have HSW := Lib.hid hs
  have HC18 := Lib.hid (show (B.cells s).size = 18 by simp)
  have kF := Lib.hid (fun w => fits_any B s n XS w)
  have kCp := Lib.hid (fun (hn : n ≤ 20) w (h : PIn w s n XS) => copy_any B s n XS w h hn (fun i hi => (hps i hi).2))
  have kSt := Lib.hid (fun (hn : n ≤ 20) bb pb cap Bl w hb h1 h2 => step_any B bb pb n cap Bl XS X w hb hps hn hid h1 h2)
  have kRo := Lib.hid (fun (hn : n ≤ 20) qb c A0 w h1 h2 h3 => roles_any B qb n c A0 XS X w h1 h2 h3 hps hn hid)
  have HD18 := Lib.hid (fun (B : Bd) s => (show (B.cells s).size = 18 by simp))
  have HD1 := Lib.hid (fun (B : Bd) s (h : s.oneCell' = true) => B.one (s := s) h)
  have HND := Lib.hid (dP_none (B := B) (X := X) (n := n) (XS := XS) (fun i hi => (hps i hi).2))
  have HTD := Lib.hid (fun i hi => dP_typed (B := B) (X := X) (n := n) (hps i hi).2)
  have kZ := Lib.hid zero34
  have zs := Lib.hid z34_size
  clear hs hps hx hid
  generalize z34 = Z at *
  generalize hCs : B.cells s = C at *
  clear hCs
  generalize dB B X n XS = DB at *
  generalize dP B X n XS = DP at *
  generalize anyR XS n = d at *
  go_enter Try.func3, Try.ntmps3
  go_wp2_with fail
  generalize w.alloc (.cells C 34) = w0 at *
  refine (lives_any _).mono ?_
  rintro e w1 ⟨rfl, hb⟩
  have V1 := Lib.hid (hv0.out.below hb hv0.out.lt)
  have B1 := Lib.hid (hB0.out.trans (hb.mono hB0.out.size))
  clear hb hv0 hB0
  go_wp2_with (with_reducible refine stopL 34 _ rfl ?_)
  refine Lib.hid ?_
  refine guarded_load (by rfl) _ rfl rfl V1.out HC18.out ?_
  go_wp2_with fail
  refine (kF.out _ (HSW.out.below HX.out B1.out) HT.out).mono ?_
  rintro e w2 ⟨⟨q, rfl, hqn⟩, hb⟩
  have V2 := Lib.hid (V1.out.below hb V1.out.lt)
  have B2 := Lib.hid (B1.out.trans (hb.mono B1.out.size))
  clear hb V1 B1 kF
  cases q
  · go_wp2_with fail
    refine (lives_any _).mono ?_
    rintro e w3 ⟨rfl, hb⟩
    have B3 := Lib.hid (B2.out.trans (hb.mono B2.out.size))
    clear hb
    go_wp2_with fail
    go_ret
    exact ⟨rfl, B3.out⟩
  · have hn := hqn rfl
    have kCp1 := Lib.hid (kCp.out hn)
    have kSt1 := Lib.hid (kSt.out hn)
    have kRo1 := Lib.hid (kRo.out hn)
    have HN20 := Lib.hid hn
    clear hqn kCp kSt kRo hn
    go_wp2_with (with_reducible refine stopL 34 _ rfl ?_)
    refine Lib.hid ?_
    refine wpList_load_whole uB rfl sB rfl _ rfl rfl (range_whole V2.out) HC18.out ?_
    go_wp2_with fail
    refine (kCp1.out _ (HSW.out.below HX.out B2.out)).mono ?_
    rintro e w3 ⟨pb, cap, rfl, ⟨A, hA, hAn, hAs, hpb⟩, hb⟩
    have V3 := Lib.hid (V2.out.below hb V2.out.lt)
    have B3 := Lib.hid (B2.out.trans (hb.mono B2.out.size))
    have hlt0 : w.heap.size < w2.heap.size := V2.out.lt
    have h32 := hb.size
    have PA := Lib.hid hA
    have PN := Lib.hid hAn
    have PS := Lib.hid hAs
    clear hb hA hAn hAs V2 B2
    have HBR := Lib.hid (fun w' bb XS' => Br.mk (w := w') (B := B) (bb := bb) (pb := pb) (n := n) (cap := cap) (XS := XS'))
    have hC1 := Lib.hid (HD18.out B (.slice (some ⟨pb, 0, none⟩) n cap))
    have hO1 := Lib.hid (HD1.out B (.slice (some ⟨pb, 0, none⟩) n cap) rfl)
    generalize B.cells (.slice (some ⟨pb, 0, none⟩) n cap) = C1 at *
    have zz := kZ.out
    go_wp2_with (with_reducible refine stopS 34 _ _ rfl ?_)
    refine Lib.hid ?_
    clear zz
    refine wpList_store_only sB rfl _ _ rfl rfl rfl (var_new w3 Z 34) hO1.out hC1.out (by rw [zs.out]; omega) ?_
    intro w4 hv ho
    simp only [Act.put]
    rw [putL_all _ _ (by rw [zs.out, hC1.out])] at hv
    have hb4 : Below w3.heap.size w3 w4 := (box_below w3 _).trans (ho.below (Nat.le_refl _) (by rw [alloc_size]; omega))
    have V4 := Lib.hid (V3.out.below hb4 V3.out.lt)
    have BR4 := Lib.hid (HBR.out w4 w3.heap.size XS hv ⟨A, PA.out.below hb4 PA.out.lt, PN.out, PS.out⟩)
    have B4 := Lib.hid (B3.out.trans (hb4.mono B3.out.size))
    clear hv ho hb4 V3 B3 PA PN PS HBR
    generalize w3.heap.size = xb at *
    have kSt2 := Lib.hid (kSt1.out xb pb cap w2.heap.size w4 BR4.out h32 hpb)
    clear kSt1
    go_wp2_with fail
    refine kSt2.out.mono ?_
    rintro e w5 ⟨rfl, hbr, hb⟩
    have V5 := Lib.hid (V4.out.below hb hlt0)
    have B5 := Lib.hid (B4.out.trans (hb.mono (Nat.le_of_lt hlt0)))
    have BR5 := Lib.hid hbr
    clear hb hbr V4 B4 BR4 kSt2
    go_wp2_with (with_reducible refine stopL 34 _ rfl ?_)
    refine Lib.hid ?_
    refine wpList_load_whole uB rfl sB rfl _ rfl rfl (range_whole V5.out) HC18.out ?_
    go_wp2_with fail
    refine (kCp1.out _ (HSW.out.below HX.out B5.out)).mono ?_
    rintro e w6 ⟨p2, cap2, rfl, ⟨A2, hA, hAn, hAs, -⟩, hb⟩
    have B6 := Lib.hid (B5.out.trans (hb.mono B5.out.size))
    have BR6 := Lib.hid (BR5.out.below hb)
    have kRo2 := Lib.hid (kRo1.out p2 cap2 A2 w6 hA hAn hAs)
    clear hb hA hAn hAs V5 B5 BR5 kRo1 kCp1
    generalize B.cells (.slice (some ⟨p2, 0, none⟩) n cap2) = C2 at *
    go_wp2_with fail
    refine kRo2.out.mono ?_
    rintro e w7 ⟨⟨p3, cap3, A3, rfl, hA, hAn, hAs⟩, hb⟩
    have B7 := Lib.hid (B6.out.trans (hb.mono B6.out.size))
    have BR7 := Lib.hid (BR6.out.below hb)
    have PI7 := Lib.hid (pin_of (cap := cap3) ⟨A3, hA, hAn, hAs⟩)
    clear hb hA hAn hAs B6 BR6 kRo2
    have hC3 := Lib.hid (HD18.out DB (.slice (some ⟨p3, 0, none⟩) n cap3))
    have hO3 := Lib.hid (HD1.out DB (.slice (some ⟨p3, 0, none⟩) n cap3) rfl)
    have kSm := Lib.hid (fun w h1 h2 => same_pin DB (.slice (some ⟨pb, 0, none⟩) n cap) (.slice (some ⟨p3, 0, none⟩) n cap3) n DP w h1 h2 HTD.out HN20.out)
    have HX18 := Lib.hid (HD18.out DB (.slice (some ⟨pb, 0, none⟩) n cap))
    have HB17 := Lib.hid (fun (w : World) (h : Br w DB xb pb n cap DP) => show VarAt w xb (DB.cells (.slice (some ⟨pb, 0, none⟩) n cap)) 34 from h.hb)
    have HC17 := Lib.hid (fun (w : World) (h : Br w DB xb pb n cap DP) => show w.cell? ⟨xb, 17, none⟩ = some (.slice (some ⟨pb, 0, none⟩) n cap) from h.hb.cell 17)
    generalize DB.cells (.slice (some ⟨p3, 0, none⟩) n cap3) = C3 at *
    generalize DB.cells (.slice (some ⟨pb, 0, none⟩) n cap) = C5 at *
    have zz := kZ.out
    go_wp2_with (with_reducible refine stopS 34 _ _ rfl ?_)
    refine Lib.hid ?_
    clear zz
    refine wpList_store_only sB rfl _ _ rfl rfl rfl (var_new w7 Z 34) hO3.out hC3.out (by rw [zs.out]; omega) ?_
    intro w8 hv ho
    simp only [Act.put]
    rw [putL_all _ _ (by rw [zs.out, hC3.out])] at hv
    have hb8 : Below w7.heap.size w7 w8 := (box_below w7 _).trans (ho.below (Nat.le_refl _) (by rw [alloc_size]; omega))
    have VY := Lib.hid hv
    have B8 := Lib.hid (B7.out.trans (hb8.mono B7.out.size))
    have BR8 := Lib.hid (BR7.out.below hb8)
    have PI8 := Lib.hid (PI7.out.below (fun i hi => (HTD.out i hi).1) hb8)
    clear hv ho hb8 B7 BR7 PI7 kZ
    generalize w7.heap.size = yb at *
    have c17 := HC17.out w8 BR8.out
    obtain ⟨A9, hA9, -, hAs9⟩ := BR8.out.ex
    have PA := Lib.hid hA9
    have PS := Lib.hid hAs9
    obtain ⟨ia, hia⟩ : ∃ i, Hid (Try.prog.info? 45 = some i ∧ i.zero = some (.int .i64 0) ∧ i.size = 1 ∧ i.bytes = 8) := (info_parts info45).imp fun _ h => Lib.hid h
    have z := zero48
    have zs48 := Lib.hid z48_size
    generalize z48 = Z48 at *
    clear hA9 hAs9
    go_wp2_with fail
    go_loopw [7, 31] (fun v c wr => ∃ k : Nat, k ≤ n ∧ c = .int .i64 k ∧ wr.ownsRow w8.heap.size 45 1 v k (rls DP k) ∧ Below w8.heap.size w8 wr) (fun _ c _ => n - (intOf c).toNat)
    case atStart => exact ⟨0, Nat.zero_le _, rfl, World.ownsRow_nil _ _ _ _, Below.refl _ _⟩
    case round =>
      obtain ⟨k, hk, rfl, hrp, hnx⟩ := hrel
      have HN := Lib.hid hnx
      have HR := Lib.hid hrp
      clear hnx hrp
      by_cases hlt : k < n
      · have i0 := idx32b pb n cap k hlt
        have hx := (HTD.out k hlt).1
        have sn := store_new (HTD.out k hlt) zs48.out
        have hv := var_new wr (DP k) 50
        have c46 : (wr.alloc (.cells (DP k) 50)).cell? ⟨wr.heap.size, 46, none⟩ = some (.int .i64 (numI (DP k) 46)) := by
          rw [hv.cell]; exact (HTD.out k hlt).num 46 rfl
        have hsz := HN.out.size
        have HB := Lib.hid (HN.out.alloc hsz (.cells (DP k) 50))
        have HR2 := Lib.hid (own_below HR.out (box_below wr (.cells (DP k) 50)))
        have HS := Lib.hid (rls_succ DP k)
        have hls := rls_len DP k
        have hn := HN20.out
        generalize hL : rls DP (k + 1) = L1 at *
        have HL := Lib.hid hL
        clear hL
        generalize rls DP k = L at *
        generalize numI (DP k) 46 = r at *
        clear hv
        go_wp2_with (with_reducible refine stopL 50 _ rfl ?_)
        refine Lib.hid ?_
        refine wpList_load_whole uP rfl sP rfl _ rfl rfl (((PS.out k hlt).pat (PA.out.below HN.out PA.out.lt)).range hx) hx ?_
        clear HN HR i0
        go_wp2_with (at_builtin; refine wpList_append_own _ rfl _ _ 42 rfl w8.heap.size 45 ia (.int .i64 0) 1 8 und42 hia.out.1 hia.out.2.1 hia.out.2.2.1 hia.out.2.2.2 rfl (by decide) _ _ _ rfl (HR2.out.alloc _) ⟨wr.heap.size + 1, 0, none⟩ 1 1 [.int .i64 r] rfl rfl ?c1 ?c2 ?c3 ?c4 ?c5 ?_)
        case c1 => have q9 := cell_one_new (wr.alloc (.cells (DP k) 50)) (.int .i64 r) 45; rw [alloc_size] at q9; exact q9
        case c2 => intro u hu; simp at hu; subst hu; rfl
        case c3 => unfold maxLen; omega
        case c4 => omega
        case c5 => simp; omega
        intro v' w9 ho hg _
        have hb3 := Lib.hid (below_app HB.out (by rw [alloc_size]; omega) (HR2.out.alloc _) hg)
        have ho3 := Lib.hid (show w9.ownsRow w8.heap.size 45 1 v' (k + 1) L1 by rw [HS.out]; exact ho)
        clear ho hg HB HR2
        go_wp2_with fail
        exact ⟨⟨k + 1, by omega, by go_num, by rw [HL.out]; exact ho3.out, hb3.out⟩, meas_next hlt⟩
      · obtain rfl : n = k := by omega
        have BR9 := Lib.hid (BR8.out.below HN.out)
        have B9 := Lib.hid (B8.out.trans (HN.out.mono B8.out.size))
        have VY9 := Lib.hid (VY.out.below HN.out VY.out.lt)
        have PI9 := Lib.hid (PI8.out.below (fun i hi => (HTD.out i hi).1) HN.out)
        have VX9 := Lib.hid (HB17.out wr BR9.out)
        have kSm9 := Lib.hid (kSm.out wr BR9.out.pin PI9.out)
        clear HN PI9 PI8 BR8 B8 VY PA PS kSm c17 z hia
        have hdd : (d == d) = true := by simp
        go_wp2_with (with_reducible refine stopL 34 _ rfl ?_)
        refine Lib.hid ?_
        refine guarded_load (by rfl) _ rfl rfl VX9.out HX18.out ?_
        refine guarded_load (by rfl) _ rfl rfl VY9.out hC3.out ?_
        go_wp2_with fail
        refine kSm9.out.mono ?_
        rintro e w10 ⟨rfl, hb⟩
        have BR10 := Lib.hid (BR9.out.below hb)
        have B10 := Lib.hid (B9.out.trans (hb.mono B9.out.size))
        have HR10 := Lib.hid (own_below HR.out hb)
        have kOf := Lib.hid (rof_any DB xb pb n cap DP w10 BR10.out HTD.out HN20.out)
        clear hb BR9 B9 HR VX9 VY9 kSm9
        go_wp2_with fail
        refine kOf.out.mono ?_
        rintro e w11 ⟨⟨v11, rfl, ho11⟩, hb⟩
        have BR11 := Lib.hid (BR10.out.below hb)
        have B11 := Lib.hid (B10.out.trans (hb.mono B10.out.size))
        have HR11 := Lib.hid (own_below HR10.out hb)
        have kEq := Lib.hid (equal_any _ _ _ _ n DP w11 ho11 HR11.out HN20.out)
        clear hb BR10 B10 HR10 kOf ho11
        go_wp2_with fail
        refine kEq.out.mono ?_
        rintro e w12 ⟨rfl, hb⟩
        have BR12 := Lib.hid (BR11.out.below hb)
        have B12 := Lib.hid (B11.out.trans (hb.mono B11.out.size))
        have kNo := Lib.hid (step_no DB xb pb n cap DP w12 BR12.out HTD.out HN20.out HND.out)
        clear hb BR11 B11 HR11 kEq
        go_wp2_with fail
        refine kNo.out.mono ?_
        rintro e w13 ⟨rfl, hb⟩
        have B13 := Lib.hid (B12.out.trans (hb.mono B12.out.size))
        clear hb BR12 B12 kNo
        go_wp2_with fail
        refine (step_nil _).mono ?_
        rintro e w14 ⟨rfl, rfl⟩
        go_wp2_with fail
        refine (rof_nil _).mono ?_
        rintro e w15 ⟨rfl, rfl⟩
        go_wp2_with fail
        go_ret
        exact ⟨rfl, B13.out⟩
end Go.Proofs.Ytidgdanhnpfpmaa
