/- ChooseRoots' call. -/
import Derived.Test.YtlddmdnlibfndaaMa
import Derived.Test.YtlddmdnlibfndaaNa
namespace Go.Proofs.Ytlddmdnlibfndaa
open Go.RowKit Go.Sort

theorem from0 (b b' : Nat) (hb : b < 18446744073709551616) (hb' : b' < 18446744073709551616) (w : World) : Calls Try.prog 12 #[vV 0 0 b 0, vV 0 0 b' 0] w fun e w' => e = .returned (.bool (eqM b b')) ∧ Below w.heap.size w w' := by
  have h := refFrom_any 0 0 b 0 0 0 b' 0 hb hb' (by omega) (by omega) w
  have e : frV b 0 b' 0 = eqM b b' := by simp [frV]
  rw [e] at h
  exact h
theorem root_info {X : Nat → Pd} {id n i : Nat} (hr : ((i : Int) == rootI X id n) = true) : (X i).info = 3 := by
  have h := rootI_is X id n
  generalize rootI X id n = r at *
  simp at hr
  subst hr
  rcases h with ⟨e, _⟩ | ⟨j, e, hj, hc, _⟩
  · omega
  · obtain rfl : i = j := by omega
    simp [cand] at hc
    exact hc.1
/-- How many root ports there are among the first k ones. -/
def rc (R : Int) (k : Nat) : Int := if 0 ≤ R ∧ R < (k : Int) then 1 else 0
theorem rc_same {R : Int} {k : Nat} (h : ((k : Int) == R) = false) : rc R (k + 1) = rc R k := by
  simp at h
  unfold rc
  by_cases h1 : 0 ≤ R ∧ R < (k : Int)
  · rw [if_pos h1, if_pos (by omega)]
  · rw [if_neg h1, if_neg (by omega)]
theorem rc_next {R : Int} {k : Nat} (h : ((k : Int) == R) = true) : rc R k = 0 ∧ rc R (k + 1) = 1 := by
  simp at h
  unfold rc
  exact ⟨if_neg (by omega), if_pos (by omega)⟩
set_option maxRecDepth 20000 in
set_option maxHeartbeats 4000000 in
theorem roots_any (B : Bd) (s : Value) (n : Nat) (XS : Nat → Array Value) (X : Nat → Pd) (w : World) (hs : PIn w s n XS) (hps : ∀ i, i < n → (X i).In (XS i) ∧ Typed (XS i)) (hid : B.id < 18446744073709551616) :
    Calls Try.prog 4 #[.agg (B.cells s)] w fun e w' => e = .returned (.bool true) ∧ Below w.heap.size w w' := by
  have hx : ∀ i, i < n → (XS i).size = 90 := fun i hi => (hps i hi).1.size
  have hv0 := Lib.hid (var_new w (B.cells s) 34)
  have hB0 := Lib.hid (box_below w (.cells (B.cells s) 34))
  have HX := Lib.hid hx
  have HP := Lib.hid hps
  have HSW := Lib.hid hs
  have HID := Lib.hid hid
  have HC0 := Lib.hid (show (B.cells s)[0]? = some (.int .u64 B.id) from rfl)
  have HC18 := Lib.hid (show (B.cells s).size = 18 by simp)
  have kF := Lib.hid (fun w => fits_any B s n XS w)
  have kCp := Lib.hid (fun w => copy_any B s n XS w)
  have kUp := Lib.hid (fun bb pb cap Bl A w => update_any B bb pb n cap Bl A XS X w)
  have kZ := Lib.hid zero34
  clear hs hx hps hid
  generalize B.cells s = C at *
  go_enter Try.func4, Try.ntmps4
  go_wp2_with fail
  generalize w.alloc (.cells (B.cells s) 34) = w0 at *
  refine (lives_any _).mono ?_
  rintro e w1 ⟨rfl, hb⟩
  have V1 := Lib.hid (hv0.out.below hb hv0.out.lt)
  have B1 := Lib.hid (hB0.out.trans (hb.mono hB0.out.size))
  clear hb hv0 hB0
  go_wp2_with (with_reducible refine stopL 34 _ rfl ?_)
  refine Lib.hid ?_
  refine guarded_load (by rfl) _ rfl rfl V1.out HC18.out ?_
  go_wp2_with fail
  refine (kF.out _ (HSW.out.below HX.out B1.out) (fun i hi => (HP.out i hi).2)).mono ?_
  rintro e w2 ⟨⟨q, rfl, hqn⟩, hb⟩
  have V2 := Lib.hid (V1.out.below hb V1.out.lt)
  have B2 := Lib.hid (B1.out.trans (hb.mono B1.out.size))
  clear hb V1 B1
  cases q
  · go_wp2_with fail
    refine (lives_any _).mono ?_
    rintro e w3 ⟨rfl, hb⟩
    have B3 := Lib.hid (B2.out.trans (hb.mono B2.out.size))
    clear hb
    go_wp2_with fail
    go_ret
    exact ⟨rfl, B3.out⟩
  · have hn := hqn rfl
    clear hqn
    go_wp2_with (with_reducible refine stopL 34 _ rfl ?_)
    refine Lib.hid ?_
    refine wpList_load_whole uB rfl sB rfl _ rfl rfl (range_whole V2.out) HC18.out ?_
    go_wp2_with fail
    refine (kCp.out _ (HSW.out.below HX.out B2.out) hn (fun i hi => (HP.out i hi).2)).mono ?_
    rintro e w3 ⟨pb, cap, rfl, ⟨A, hA, hAn, hAs, hpb⟩, hb⟩
    have V3 := Lib.hid (V2.out.below hb V2.out.lt)
    have B3 := Lib.hid (B2.out.trans (hb.mono B2.out.size))
    have hlt0 : w.heap.size < pb := Nat.lt_of_lt_of_le V2.out.lt hpb
    have PA := Lib.hid hA
    have PN := Lib.hid hAn
    have PS := Lib.hid hAs
    clear hb hA hAn hAs V2 B2 hpb
    have kU0 := kUp.out
    have hC1 := Lib.hid (show (B.cells (.slice (some ⟨pb, 0, none⟩) n cap)).size = 18 by simp)
    have hO1 := Lib.hid (B.one (s := .slice (some ⟨pb, 0, none⟩) n cap) rfl)
    have KU := Lib.hid (fun bb Bl A w => kU0 bb pb cap Bl A w)
    clear kU0
    generalize B.cells (.slice (some ⟨pb, 0, none⟩) n cap) = C1 at *
    have zz := kZ.out
    have zs := Lib.hid z34_size
    generalize z34 = Z3 at *
    go_wp2_with (with_reducible refine stopS 34 _ _ rfl ?_)
    refine Lib.hid ?_
    clear zz
    refine wpList_store_whole sB rfl _ _ rfl rfl rfl (var_new w3 Z3 34) hO1.out hC1.out (by rw [zs.out]; omega) ?_
    intro w4a hv4 hb4 ho4 hz4
    simp only [Act.put]
    rw [putL_all _ _ (by rw [zs.out, hC1.out])] at hv4
    have hl3 := V3.out.lt
    have hpl := PA.out.lt
    have hne3 : pb ≠ w3.heap.size := by omega
    have hne4 : w.heap.size ≠ w3.heap.size := by omega
    have VX := Lib.hid hv4
    have PA4 := Lib.hid (ho4 _ _ _ hne3 (PA.out.alloc (.cells Z3 34)))
    have V4 := Lib.hid (ho4 _ _ _ hne4 (V3.out.alloc (.cells Z3 34)))
    have B4 := Lib.hid (hb4 w.heap.size w B3.out.size (B3.out.alloc B3.out.size (.cells Z3 34)))
    have kU := KU.out w3.heap.size pb A w4a VX.out PA4.out (fun i hi => ⟨PS.out i hi, HP.out i hi⟩) PN.out hn HID.out hpl (Nat.le_refl _)
    clear hv4 hb4 ho4 hz4 hl3 hne3 hne4 V3 B3 KU
    generalize w3.heap.size = xb at *
    go_wp2_with fail
    refine (update_nil _).mono ?_
    rintro e w4n ⟨rfl, rfl⟩
    go_wp2_with fail
    refine kU.mono ?_
    rintro e w4 ⟨rfl, ⟨hub, A1, hua, _, hus, _⟩, hb⟩
    have V5 := Lib.hid (V4.out.below hb hlt0)
    have B5 := Lib.hid (B4.out.trans (hb.mono (Nat.le_of_lt hlt0)))
    have UB := Lib.hid hub
    have UA := Lib.hid hua
    have US := Lib.hid hus
    clear hb hub hua hus V4 B4 kU PA PN PS PA4 VX
    have hNone : rootI X B.id n = -1 → (rootB B X (rootI X B.id n)) = B.own := fun e => by rw [e]; exact rootB_none B X
    have hCase := rootI_cases X B.id n
    have hBest := fun i (hi : i < n) (h3 : (X i).info = 3) (hE : eqM (X i).vb B.id = false) => root_best hi h3 hE
    have hIs := fun (i : Nat) (hq : ((i : Int) == rootI X B.id n) = true) => root_is hq
    have hInf := fun (i : Nat) (hq : ((i : Int) == rootI X B.id n) = true) => root_info hq
    have hTwice := rootB_rootB B X (rootI X B.id n)
    have hDid := rootB_id B X (rootI X B.id n)
    have hRI : rootI X (rootB B X (rootI X B.id n)).id n = rootI X B.id n := by rw [hDid]
    generalize rootB B X (rootI X B.id n) = D at *
    generalize rootI X B.id n = R at *
    have HNone := Lib.hid hNone
    have HCase := Lib.hid hCase
    have HBest := Lib.hid hBest
    have HIs := Lib.hid hIs
    have HInf := Lib.hid hInf
    have HTwice := Lib.hid hTwice
    have HDid := Lib.hid hDid
    have HRI := Lib.hid hRI
    have z := Lib.hid zero48
    have zs8 := Lib.hid z48_size
    generalize z48 = Z at *
    have HYI := Lib.hid (fun i (hi : i < n) => newP_in (D := D) (q := ((i : Int) == R)) (HP.out i hi).1)
    have HYT := Lib.hid (fun i (hi : i < n) => newP_typed (B := D) (x := X i) (q := ((i : Int) == R)) (HP.out i hi).2)
    have HYR := Lib.hid (fun i (hi : i < n) (h3 : (X i).info = 3) => newP_role (D := D) (q := ((i : Int) == R)) (HP.out i hi).1 h3)
    have HYD := Lib.hid (fun i (hi : i < n) => newP_idem D (X i) ((i : Int) == R) (HP.out i hi).1.size)
    clear hNone hCase hBest hIs hInf hTwice hDid hRI kUp kZ zs
    have hUS : ∃ YS : Nat → Array Value, YS = fun i => newP D (X i) ((i : Int) == R) (XS i) := ⟨_, rfl⟩
    obtain ⟨YS, hYS⟩ := hUS
    have e : ∀ i, newP D (X i) ((i : Int) == R) (XS i) = YS i := fun i => by rw [hYS]
    simp only [e] at US HYI HYT HYR HYD
    clear e hYS
    have xc17 : w4.cell? ⟨xb, 17, none⟩ = some (.slice (some ⟨pb, 0, none⟩) n cap) := UB.out.cell 17
    go_wp2_with fail
    clear xc17
    go_loopw [4, 25] (fun rt i wr => ∃ k : Nat, k ≤ n ∧ i = .int .i64 k ∧ rt = .int .i64 (rc R k) ∧ VarAt wr xb (D.cells (.slice (some ⟨pb, 0, none⟩) n cap)) 34 ∧ VarAt wr pb A1 48 ∧ VarAt wr w.heap.size C 34 ∧ Below w.heap.size w wr) (fun _ i _ => n - (intOf i).toNat)
    case atStart => exact ⟨0, Nat.zero_le _, rfl, by unfold rc; rw [if_neg (by omega)], UB.out, UA.out, V5.out, B5.out⟩
    case round =>
      obtain ⟨k, hk, rfl, rfl, hvx, hva, hv0, hnx⟩ := hrel
      have VX := Lib.hid hvx
      have VA := Lib.hid hva
      have V0 := Lib.hid hv0
      have HN := Lib.hid hnx
      clear hvx hva hv0 hnx UB UA V5 B5
      by_cases hlt : k < n
      · have HXk := Lib.hid (HYI.out k hlt)
        have HTk := Lib.hid (HYT.out k hlt)
        have i0 := idx32a pb n cap k hlt
        have HRc := Lib.hid (rfl : rc R k = rc R k)
        go_wp2_with (with_reducible refine stopL 48 _ rfl ?_)
        refine Lib.hid ?_
        refine wpList_load_whole uP rfl sP rfl _ rfl rfl (range_port VA.out (US.out k hlt) HXk.out.size) HXk.out.size ?_
        have zz := z.out
        go_wp2_with (with_reducible refine stopS 48 _ _ rfl ?_)
        refine Lib.hid ?_
        clear zz i0
        refine wpList_store_whole sP rfl _ _ rfl rfl rfl (var_new wr Z 48) HTk.out.one HXk.out.size (by rw [zs8.out]; omega) ?_
        intro w5 hv5 hb5 ho5 hz5
        simp only [Act.put]
        rw [putL_all _ _ (by rw [zs8.out, HXk.out.size])] at hv5
        have VP5 := Lib.hid hv5
        have hl1 := VX.out.lt
        have hl2 := VA.out.lt
        have hl3 := V0.out.lt
        have VX5 := Lib.hid (ho5 _ _ _ (by omega) (VX.out.alloc (.cells Z 48)))
        have VA5 := Lib.hid (ho5 _ _ _ (by omega) (VA.out.alloc (.cells Z 48)))
        have V05 := Lib.hid (ho5 _ _ _ (by omega) (V0.out.alloc (.cells Z 48)))
        have B5 := Lib.hid (hb5 w.heap.size w HN.out.size (HN.out.alloc HN.out.size (.cells Z 48)))
        clear hv5 hb5 ho5 hz5 hl1 hl2 hl3 VX VA V0 HN
        generalize wr.heap.size = pv at *
        have c44 : w5.cell? ⟨pv, 44, none⟩ = some (.int .i64 (X k).info) := by rw [VP5.out.cell]; exact HXk.out.info
        by_cases h3 : (X k).info = 3
        · rw [h3] at c44
          have e1 : w5.cell? ⟨pv, 1, none⟩ = some (.int .u32 (X k).cost) := by rw [VP5.out.cell]; exact HXk.out.cost
          have e56 : w5.cell? ⟨pv, 56, none⟩ = some (.int .u64 (X k).vr) := by rw [VP5.out.cell]; exact HXk.out.vr
          have e57 : w5.cell? ⟨pv, 57, none⟩ = some (.int .u32 (X k).vc) := by rw [VP5.out.cell]; exact HXk.out.vc
          have e58 : w5.cell? ⟨pv, 58, none⟩ = some (.int .u64 (X k).vb) := by rw [VP5.out.cell]; exact HXk.out.vb
          have e59 : w5.cell? ⟨pv, 59, none⟩ = some (.int .u16 (X k).vp) := by rw [VP5.out.cell]; exact HXk.out.vp
          have kA := refAdd_any (X k).vc (X k).cost HXk.out.lvc HXk.out.lcost
          have g1 : (w5.alloc (.cells (vC (X k).vr (X k).vc (X k).vb (X k).vp) 30)).cell? ⟨pv, 1, none⟩ = some (.int .u32 (X k).cost) := cell_below (box_below w5 _) e1
          have g0 : (w5.alloc (.cells (vC (X k).vr (sat (X k).vc (X k).cost : Nat) (X k).vb (X k).vp) 30)).cell? ⟨w.heap.size, 0, none⟩ = some (.int .u64 B.id) := by rw [(V05.out.alloc _).cell]; exact HC0.out
          have kFr := Lib.hid (from0 (X k).vb B.id HXk.out.lvb HID.out)
          have kL := Lib.hid (less_any (X k).vr (sat (X k).vc (X k).cost : Nat) (X k).vb (X k).vp D.r D.c D.b D.p)
          have kO := Lib.hid (less_any (X k).vr (sat (X k).vc (X k).cost : Nat) (X k).vb (X k).vp B.id 0 B.id 0)
          have kE := Lib.hid (neqV (X k).vr (sat (X k).vc (X k).cost : Nat) (X k).vb (X k).vp D.r D.c D.b D.p)
          have hL1 := Lib.hid (fun hE => HBest.out k hlt h3 hE)
          have hI1 := Lib.hid (HIs.out k)
          have hRole := HYR.out k hlt h3
          unfold ltD at hL1
          unfold eqD at hI1
          go_wp2_with fail
          refine (kA _).mono ?_
          rintro e w7 ⟨rfl, rfl⟩
          clear c44 e1 e56 e57 e58 e59 kA h3
          go_wp2_with fail
          have VV8 := Lib.hid (var_new w5 (vC (X k).vr (sat (X k).vc (X k).cost : Nat) (X k).vb (X k).vp) 30)
          have VP8 := Lib.hid (VP5.out.alloc (.cells (vC (X k).vr (sat (X k).vc (X k).cost : Nat) (X k).vb (X k).vp) 30))
          have VX8 := Lib.hid (VX5.out.alloc (.cells (vC (X k).vr (sat (X k).vc (X k).cost : Nat) (X k).vb (X k).vp) 30))
          have VA8 := Lib.hid (VA5.out.alloc (.cells (vC (X k).vr (sat (X k).vc (X k).cost : Nat) (X k).vb (X k).vp) 30))
          have V08 := Lib.hid (V05.out.alloc (.cells (vC (X k).vr (sat (X k).vc (X k).cost : Nat) (X k).vb (X k).vp) 30))
          have B8 := Lib.hid (B5.out.alloc B5.out.size (.cells (vC (X k).vr (sat (X k).vc (X k).cost : Nat) (X k).vb (X k).vp) 30))
          clear g0 g1 VP5 VX5 VA5 V05 B5
          generalize w5.alloc (.cells (vC (X k).vr (sat (X k).vc (X k).cost : Nat) (X k).vb (X k).vp) 30) = w8 at *
          generalize w5.heap.size = vb at *
          generalize sat (X k).vc (X k).cost = SC at *
          refine (kFr.out _).mono ?_
          rintro e w9 ⟨rfl, hb⟩
          have VV9 := Lib.hid (VV8.out.below hb VV8.out.lt)
          have VP9 := Lib.hid (VP8.out.below hb VP8.out.lt)
          have VX9 := Lib.hid (VX8.out.below hb VX8.out.lt)
          have VA9 := Lib.hid (VA8.out.below hb VA8.out.lt)
          have V09 := Lib.hid (V08.out.below hb V08.out.lt)
          have B9 := Lib.hid (B8.out.trans (hb.mono B8.out.size))
          clear hb VV8 VP8 VX8 VA8 V08 B8 kFr
          cases hE : eqM (X k).vb B.id
          · have hL2 := hL1.out hE
            rw [hL2] at kL
            obtain ⟨t0, t1, t2, t3⟩ := VV9.out.v
            have r7 : w9.cell? ⟨xb, 7, none⟩ = some (.int .u64 D.r) := VX9.out.cell 7
            have r8 : w9.cell? ⟨xb, 8, none⟩ = some (.int .u32 D.c) := VX9.out.cell 8
            have r9 : w9.cell? ⟨xb, 9, none⟩ = some (.int .u64 D.b) := VX9.out.cell 9
            have r10 : w9.cell? ⟨xb, 10, none⟩ = some (.int .u16 D.p) := VX9.out.cell 10
            clear hE hL2 hL1
            go_wp2_with fail
            refine (kL.out _).mono ?_
            rintro e w10 ⟨rfl, hb⟩
            have VV0 := Lib.hid (VV9.out.below hb VV9.out.lt)
            have VP0 := Lib.hid (VP9.out.below hb VP9.out.lt)
            have VX0 := Lib.hid (VX9.out.below hb VX9.out.lt)
            have VA0 := Lib.hid (VA9.out.below hb VA9.out.lt)
            have V00 := Lib.hid (V09.out.below hb V09.out.lt)
            have B0 := Lib.hid (B9.out.trans (hb.mono B9.out.size))
            clear hb VV9 VP9 VX9 VA9 V09 B9 kL t0 t1 t2 t3 r7 r8 r9 r10
            have c47 : w10.cell? ⟨pv, 47, none⟩ = some (.int .i64 (roleOf D (X k) ((k : Int) == R))) := by rw [VP0.out.cell]; exact hRole
            cases hq : ((k : Int) == R)
            · rw [hq] at c47
              have hno := role_no D (X k)
              generalize roleOf D (X k) false = RO at *
              have HQ := Lib.hid hq
              clear hq hRole kO kE hI1
              go_wp2_with fail
              exact ⟨⟨k + 1, by omega, by go_num, by rw [rc_same HQ.out], VX0.out, VA0.out, V00.out, B0.out⟩, by simp [intOf]; omega⟩
            · rw [hq, role_yes] at c47
              obtain ⟨_, hEq, hOw, hrp, hra⟩ := hI1.out hq
              rw [hEq] at kE
              rw [hOw] at kO
              obtain ⟨rc0, rc1⟩ := rc_next hq
              have RC1 := Lib.hid rc1
              obtain ⟨t0, t1, t2, t3⟩ := VV0.out.v
              have r7 : w10.cell? ⟨xb, 7, none⟩ = some (.int .u64 D.r) := VX0.out.cell 7
              have r8 : w10.cell? ⟨xb, 8, none⟩ = some (.int .u32 D.c) := VX0.out.cell 8
              have r9 : w10.cell? ⟨xb, 9, none⟩ = some (.int .u64 D.b) := VX0.out.cell 9
              have r10 : w10.cell? ⟨xb, 10, none⟩ = some (.int .u16 D.p) := VX0.out.cell 10
              have b0 : w10.cell? ⟨w.heap.size, 0, none⟩ = some (.int .u64 B.id) := by rw [V00.out.cell]; exact HC0.out
              have kE1 := kE.out
              clear hq hRole hI1 hEq hOw rc1 kE
              rw [rc0]
              clear rc0
              go_wp2_with fail
              refine (kO.out _).mono ?_
              rintro e w11 ⟨rfl, hb⟩
              have VP1 := Lib.hid (VP0.out.below hb VP0.out.lt)
              have VX1 := Lib.hid (VX0.out.below hb VX0.out.lt)
              have VA1 := Lib.hid (VA0.out.below hb VA0.out.lt)
              have V01 := Lib.hid (V00.out.below hb V00.out.lt)
              have B1 := Lib.hid (B0.out.trans (hb.mono B0.out.size))
              clear hb VV0 VP0 VX0 VA0 V00 B0 t0 t1 t2 t3 r7 r8 r9 r10 b0 kE1 kO c47
              have p0 : w11.cell? ⟨pv, 0, none⟩ = some (.int .u16 (X k).id) := by rw [VP1.out.cell]; exact HXk.out.id
              have p68 : w11.cell? ⟨pv, 68, none⟩ = some (.int .i64 (X k).a) := by rw [VP1.out.cell]; exact HXk.out.a
              have x11 : w11.cell? ⟨xb, 11, none⟩ = some (.int .u16 (X k).id) := by rw [← hrp]; exact VX1.out.cell 11
              have x12 : w11.cell? ⟨xb, 12, none⟩ = some (.int .i64 (wrap64 ((X k).a + 1))) := by rw [← hra]; exact VX1.out.cell 12
              clear hrp hra
              go_wp2_with fail
              exact ⟨⟨k + 1, by omega, by go_num, by rw [RC1.out], VX1.out, VA1.out, V01.out, B1.out⟩, by simp [intOf]; omega⟩
          · have hq : ((k : Int) == R) = false := by
              cases h : ((k : Int) == R)
              · rfl
              · have := (hI1.out h).1
                rw [hE] at this; cases this
            have c47 : w9.cell? ⟨pv, 47, none⟩ = some (.int .i64 (roleOf D (X k) false)) := by rw [VP9.out.cell, ← hq]; exact hRole
            have hno := role_no D (X k)
            generalize roleOf D (X k) false = RO at *
            have HQ := Lib.hid hq
            clear hq hRole kO kE hI1 hL1 kL hE
            go_wp2_with fail
            exact ⟨⟨k + 1, by omega, by go_num, by rw [rc_same HQ.out], VX9.out, VA9.out, V09.out, B9.out⟩, by simp [intOf]; omega⟩
        · have hR : ((k : Int) == R) = false := by
            cases h : ((k : Int) == R)
            · rfl
            · exact (h3 (HInf.out k h)).elim
          have HR := Lib.hid hR
          clear hR
          go_wp2_with fail
          exact ⟨⟨k + 1, by omega, by go_num, by rw [rc_same HR.out], VX5.out, VA5.out, V05.out, B5.out⟩, by simp [intOf]; omega⟩
      · obtain rfl : k = n := by omega
        have HD18 := Lib.hid (show (D.cells (.slice (some ⟨pb, 0, none⟩) k cap)).size = 18 by simp)
        have kSm := Lib.hid (fun p2 c2 A2 w => same_any D pb p2 k cap c2 A1 A2 YS w)
        have kC2 := Lib.hid (copy_any D (.slice (some ⟨pb, 0, none⟩) k cap) k YS wr ⟨some ⟨pb, 0, none⟩, cap, rfl, fun h => (by cases h), fun _ => ⟨pb, 0, rfl, fun i hi q hq => by rw [VA.out.cell, Nat.zero_add]; exact US.out i hi q hq⟩⟩ hn HYT.out)
        have VXD := Lib.hid (fun (w' : World) (h : VarAt w' xb (D.cells (.slice (some ⟨pb, 0, none⟩) k cap)) 34) => cells18 h)
        generalize hDC : D.cells (.slice (some ⟨pb, 0, none⟩) k cap) = DC at *
        have HDC := Lib.hid hDC
        clear hDC
        go_wp2_with (with_reducible refine stopL 34 _ rfl ?_)
        refine Lib.hid ?_
        refine wpList_load_whole uB rfl sB rfl _ rfl rfl (range_whole VX.out) HD18.out ?_
        go_wp2_with fail
        refine kC2.out.mono ?_
        rintro e w5 ⟨p2, cap2, rfl, ⟨A2, hA2, hA2n, hA2s, hp2⟩, hb⟩
        have VX5 := Lib.hid (VX.out.below hb VX.out.lt)
        have VA5 := Lib.hid (VA.out.below hb VA.out.lt)
        have V05 := Lib.hid (V0.out.below hb V0.out.lt)
        have B5 := Lib.hid (HN.out.trans (hb.mono HN.out.size))
        have hxp : xb < p2 := Nat.lt_of_lt_of_le VX.out.lt hp2
        have hpp : pb < p2 := Nat.lt_of_lt_of_le VA.out.lt hp2
        have h0p : w.heap.size < p2 := Nat.lt_of_lt_of_le V0.out.lt hp2
        have PA := Lib.hid hA2
        have PN := Lib.hid hA2n
        have PS := Lib.hid hA2s
        clear hb hA2 hA2n hA2s hp2 VX VA V0 HN kC2
        have hE1 := Lib.hid (show (D.cells (.slice (some ⟨p2, 0, none⟩) k cap2)).size = 18 by simp)
        have hO1 := Lib.hid (Bd.one D (s := .slice (some ⟨p2, 0, none⟩) k cap2) rfl)
        have KU := Lib.hid (fun bb w => update_any D bb p2 k cap2 p2 A2 YS X w)
        generalize D.cells (.slice (some ⟨p2, 0, none⟩) k cap2) = C3 at *
        have z4 := Lib.hid zero34
        have zs4 := Lib.hid z34_size
        generalize z34 = Z4 at *
        have zz := z4.out
        go_wp2_with (with_reducible refine stopS 34 _ _ rfl ?_)
        refine Lib.hid ?_
        clear zz
        refine wpList_store_whole sB rfl _ _ rfl rfl rfl (var_new w5 Z4 34) hO1.out hE1.out (by rw [zs4.out]; omega) ?_
        intro w6 hv6 hb6 ho6 hz6
        simp only [Act.put]
        rw [putL_all _ _ (by rw [zs4.out, hE1.out])] at hv6
        have hl1 := VX5.out.lt
        have hl2 := VA5.out.lt
        have hl3 := V05.out.lt
        have hpl := PA.out.lt
        have Y6 := Lib.hid hv6
        have PA6 := Lib.hid (ho6 _ _ _ (by omega) (PA.out.alloc (.cells Z4 34)))
        have VX6 := Lib.hid (ho6 _ _ _ (by omega) (VX5.out.alloc (.cells Z4 34)))
        have VA6 := Lib.hid (ho6 _ _ _ (by omega) (VA5.out.alloc (.cells Z4 34)))
        have V06 := Lib.hid (ho6 _ _ _ (by omega) (V05.out.alloc (.cells Z4 34)))
        have B6 := Lib.hid (hb6 w.heap.size w B5.out.size (B5.out.alloc B5.out.size (.cells Z4 34)))
        have kU := Lib.hid (KU.out w5.heap.size w6 Y6.out PA6.out (fun i hi => ⟨PS.out i hi, HYI.out i hi, HYT.out i hi⟩) PN.out hn (by rw [HDid.out]; exact HID.out) hpl (Nat.le_refl _))
        clear hv6 hb6 ho6 hz6 hl1 hl2 hl3 hpl VX5 VA5 V05 B5 KU PA PN PS
        generalize w5.heap.size = yb at *
        go_wp2_with fail
        refine kU.out.mono ?_
        rintro e w7 ⟨rfl, ⟨hub2, A3, hua2, _, hus2, _⟩, hb⟩
        rw [HRI.out] at hub2 hus2
        rw [HTwice.out] at hub2 hus2
        have hus3 : ∀ i, i < k → Sub A3 (i * 90) (YS i) := fun i hi => by
          have := hus2 i hi
          rwa [HYD.out i hi] at this
        have VX7 := Lib.hid (VX6.out.below hb hxp)
        have VA7 := Lib.hid (VA6.out.below hb hpp)
        have V07 := Lib.hid (V06.out.below hb h0p)
        have B7 := Lib.hid (B6.out.trans (hb.mono (Nat.le_of_lt h0p)))
        have Y7 := Lib.hid hub2
        have kS := Lib.hid (kSm.out p2 cap2 A3 w7 VA7.out hua2 US.out hus3 HYT.out hn)
        have h7 : w7.cell? ⟨xb, 7, none⟩ = some (.int .u64 D.r) := by rw [VX7.out.cell, ← HDC.out]; rfl
        have h8 : w7.cell? ⟨xb, 8, none⟩ = some (.int .u32 D.c) := by rw [VX7.out.cell, ← HDC.out]; rfl
        have h9 : w7.cell? ⟨xb, 9, none⟩ = some (.int .u64 D.b) := by rw [VX7.out.cell, ← HDC.out]; rfl
        have h10 : w7.cell? ⟨xb, 10, none⟩ = some (.int .u16 D.p) := by rw [VX7.out.cell, ← HDC.out]; rfl
        have h11 : w7.cell? ⟨xb, 11, none⟩ = some (.int .u16 D.rp) := by rw [VX7.out.cell, ← HDC.out]; rfl
        have h00 : w7.cell? ⟨w.heap.size, 0, none⟩ = some (.int .u64 B.id) := by rw [V07.out.cell]; exact HC0.out
        have hY18 := Lib.hid (show (D.cells (.slice (some ⟨p2, 0, none⟩) k cap2)).size = 18 by simp)
        clear hb hub2 hua2 hus2 hus3 VX6 VA6 V06 B6 kU Y6 PA6 kSm
        generalize D.cells (.slice (some ⟨p2, 0, none⟩) k cap2) = C5 at *
        rcases HCase.out with hRR | ⟨jj, hjj, hRR⟩
        · have hN0 : rc R k = 0 := by unfold rc; rw [if_neg (by omega)]
          have hDD := HNone.out hRR
          have e7 : D.r = B.id := by rw [hDD]
          have e8 : D.c = 0 := by rw [hDD]
          have e9 : D.b = B.id := by rw [hDD]
          have e10 : D.p = 0 := by rw [hDD]
          have e11 : D.rp = 0 := by rw [hDD]
          rw [e7] at h7
          rw [e8] at h8
          rw [e9] at h9
          rw [e10] at h10
          rw [e11] at h11
          have kE := v_eql B.id 0 B.id 0 B.id 0 B.id 0
          rw [eqV_self] at kE
          rw [hN0]
          clear hDD hRR hN0 e7 e8 e9 e10 e11
          go_wp2_with (with_reducible refine stopL 34 _ rfl ?_)
          refine Lib.hid ?_
          refine guarded_load (by rfl) _ rfl rfl VX7.out HD18.out ?_
          go_wp2_with (with_reducible refine stopL 34 _ rfl ?_)
          refine Lib.hid ?_
          refine guarded_load (by rfl) _ rfl rfl Y7.out hY18.out ?_
          go_wp2_with fail
          refine kS.out.mono ?_
          rintro e w8 ⟨rfl, hb⟩
          have B8 := Lib.hid (B7.out.trans (hb.mono B7.out.size))
          clear hb
          go_wp2_with fail
          go_ret
          exact ⟨rfl, B8.out⟩
        · have hN1 : rc R k = 1 := by unfold rc; rw [if_pos (by omega)]
          rw [hN1]
          clear hRR hN1 hjj
          go_wp2_with (with_reducible refine stopL 34 _ rfl ?_)
          refine Lib.hid ?_
          refine guarded_load (by rfl) _ rfl rfl VX7.out HD18.out ?_
          go_wp2_with (with_reducible refine stopL 34 _ rfl ?_)
          refine Lib.hid ?_
          refine guarded_load (by rfl) _ rfl rfl Y7.out hY18.out ?_
          go_wp2_with fail
          refine kS.out.mono ?_
          rintro e w8 ⟨rfl, hb⟩
          have B8 := Lib.hid (B7.out.trans (hb.mono B7.out.size))
          clear hb
          go_wp2_with fail
          go_ret
          exact ⟨rfl, B8.out⟩
end Go.Proofs.Ytlddmdnlibfndaa


