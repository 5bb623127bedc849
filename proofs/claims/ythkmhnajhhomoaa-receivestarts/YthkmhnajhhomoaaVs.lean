/- ReceiveStarts' call. -/
import Derived.Test.YthkmhnajhhomoaaDo
import Derived.Test.YthkmhnajhhomoaaU
namespace Go.Proofs.Ythkmhnajhhomoaa
open Go.RowKit Go.Sort

theorem upd_num {xs : Array Value} (l : List (Nat × Value)) (k : Nat) (h : k < xs.size) : numI (upd xs l) k = match look l k with | some (.int _ n) => n | some _ => 0 | none => numI xs k := by
  unfold numI
  rw [upd_at l xs k h]
  cases look l k with
  | some v => cases v <;> rfl
  | none => rfl
theorem upd_bool {xs : Array Value} (l : List (Nat × Value)) (k : Nat) (h : k < xs.size) : boolI (upd xs l) k = match look l k with | some (.bool b) => b | some _ => false | none => boolI xs k := by
  unfold boolI
  rw [upd_at l xs k h]
  cases look l k with
  | some v => cases v <;> rfl
  | none => rfl
/-- Behind Start a port that is off has nothing to do but for its edge. -/
theorem start_rests (r : Bool) {xs : Array Value} (ht : Typed xs) (h2 : boolI xs 2 = false) : recvX (startX r xs) = (false, startX r xs) ∧ migX r (startX r xs) = (false, startX r xs) := by
  have hz := ht.1
  have e2 : boolI (startX r xs) 2 = false := by
    unfold startX edgeX checkX discX
    simp [upd_bool, upd_size, hz, look, h2]
  have e30 : boolI (startX r xs) 30 = false := by
    unfold startX edgeX checkX discX
    simp [upd_bool, upd_size, hz, look]
  have e6 : numI (startX r xs) 6 = 3 := by
    unfold startX edgeX checkX discX
    simp [upd_num, upd_size, hz, look]
  have e83 : numI (startX r xs) 83 = 0 := by
    unfold startX edgeX checkX discX
    simp [upd_num, upd_size, hz, look]
  have e9 : numI (startX r xs) 9 = 3 := by
    unfold startX edgeX checkX discX
    simp [upd_num, upd_size, hz, look]
  generalize startX r xs = ys at *
  exact ⟨by simp [recvX, mustX, mayX, e2, e30, e6], by simp [migX, leaveCX, e83, e9]⟩

set_option maxRecDepth 20000 in
set_option maxHeartbeats 4000000 in
theorem starts_core (B : Bd) (s : Value) (n : Nat) (i : Int) (XS YS : Nat → Array Value) (w : World) (hs : PIn w s n XS) (ht : ∀ i, i < n → Typed (XS i)) (hy : ∀ i, i < n → Typed (YS i)) (hiy : ∀ k : Nat, i = k → k < n → YS k = startX B.rs (XS k))
    (hF : ∀ bb pb cap w, Br w B bb pb n cap XS → Calls Try.prog 14 #[.pointer (some ⟨bb, 0, none⟩), .int .i64 i] w fun e w' => e = .returned (.tuple #[]) ∧ Br w' B bb pb n cap YS ∧ Only pb w w')
    (hG : n ≤ 20 → ∀ s w, PIn w s n XS → Calls Try.prog 16 #[.agg (B.cells s), .int .i64 i] w fun e w' => Ret1 B n YS w e w') :
    Calls Try.prog 5 #[.agg (B.cells s), .int .i64 i] w fun e w' => e = .returned (.bool true) ∧ Below w.heap.size w w' := by
  have hx : ∀ i, i < n → (XS i).size = 90 := fun i hi => (ht i hi).1
  have hv0 := Lib.hid (var_new w (B.cells s) 34)
  have hB0 := Lib.hid (box_below w (.cells (B.cells s) 34))
  have HX := Lib.hid hx
  have HX2 := Lib.hid (fun i hi => (hy i hi).1)
  have HT := Lib.hid ht
  have HIY := Lib.hid hiy
  have HSW := Lib.hid hs
  have HPT := Lib.hid (fun h => hs.pat h)
  have HC18 := Lib.hid (show (B.cells s).size = 18 by simp)
  have HC17 := Lib.hid (show (B.cells s)[17]? = some s by simp)
  have kF := Lib.hid (fun w => fits_any B s n XS w)
  have kCp := Lib.hid (fun w h hn => copy_any B s n XS w h hn ht)
  have kSt := Lib.hid hF
  have kG := Lib.hid hG
  have kSm := Lib.hid (fun s1 s2 w h1 h2 hn => same_pin B s1 s2 n YS w h1 h2 hy hn)
  have HD18 := Lib.hid (fun s => (show (B.cells s).size = 18 by simp))
  have HD1 := Lib.hid (fun s (h : s.oneCell' = true) => B.one (s := s) h)
  have kZ := Lib.hid zero34
  have zs := Lib.hid z34_size
  have HYT := Lib.hid hy
  clear hs ht hx hy hF hG hiy
  obtain ⟨sa, sc, rfl⟩ : ∃ a c, s = .slice a n c := by obtain ⟨a, c, rfl, _⟩ := HSW.out; exact ⟨a, c, rfl⟩
  generalize z34 = Z at *
  generalize B.cells (.slice sa n sc) = C at *
  go_enter Try.func5, Try.ntmps5
  go_wp2_with fail
  generalize w.alloc (.cells C 34) = w0 at *
  refine (lives_any _).mono ?_
  rintro e w1 ⟨rfl, hb⟩
  have V1 := Lib.hid (hv0.out.below hb hv0.out.lt)
  have B1 := Lib.hid (hB0.out.trans (hb.mono hB0.out.size))
  clear hb hv0 hB0
  go_wp2_with (with_reducible refine stopL 34 _ rfl ?_)
  refine Lib.hid ?_
  refine guarded_load (by rfl) _ rfl rfl V1.out HC18.out ?_
  go_wp2_with fail
  refine (kF.out _ (HSW.out.below HX.out B1.out) HT.out).mono ?_
  rintro e w2 ⟨⟨q, rfl, hqn⟩, hb⟩
  have V2 := Lib.hid (V1.out.below hb V1.out.lt)
  have B2 := Lib.hid (B1.out.trans (hb.mono B1.out.size))
  clear hb V1 B1
  cases q
  · go_wp2_with fail
    refine (lives_any _).mono ?_
    rintro e w3 ⟨rfl, hb⟩
    have B3 := Lib.hid (B2.out.trans (hb.mono B2.out.size))
    clear hb
    go_wp2_with fail
    go_ret
    exact ⟨rfl, B3.out⟩
  · have hn := hqn rfl
    clear hqn
    go_wp2_with (with_reducible refine stopL 34 _ rfl ?_)
    refine Lib.hid ?_
    refine wpList_load_whole uB rfl sB rfl _ rfl rfl (range_whole V2.out) HC18.out ?_
    go_wp2_with fail
    refine (kCp.out _ (HSW.out.below HX.out B2.out) hn).mono ?_
    rintro e w3 ⟨pb, cap, rfl, ⟨A, hA, hAn, hAs, hpb⟩, hb⟩
    have V3 := Lib.hid (V2.out.below hb V2.out.lt)
    have B3 := Lib.hid (B2.out.trans (hb.mono B2.out.size))
    have hlt0 : w.heap.size < pb := Nat.lt_of_lt_of_le V2.out.lt hpb
    have PA := Lib.hid hA
    have PN := Lib.hid hAn
    have PS := Lib.hid hAs
    clear hb hA hAn hAs V2 B2 hpb
    have HBR := Lib.hid (fun w' bb XS' => Br.mk (w := w') (B := B) (bb := bb) (pb := pb) (n := n) (cap := cap) (XS := XS'))
    have HBR2 := Lib.hid (fun w' bb XS' => Br.hb (w := w') (B := B) (bb := bb) (pb := pb) (n := n) (cap := cap) (XS := XS'))
    have kSm1 := Lib.hid (fun s2 w h1 h2 => kSm.out (.slice (some ⟨pb, 0, none⟩) n cap) s2 w h1 h2 hn)
    have hC1 := Lib.hid (HD18.out (.slice (some ⟨pb, 0, none⟩) n cap))
    have hO1 := Lib.hid (HD1.out (.slice (some ⟨pb, 0, none⟩) n cap) rfl)
    clear kSm
    generalize B.cells (.slice (some ⟨pb, 0, none⟩) n cap) = C1 at *
    have zz := kZ.out
    go_wp2_with (with_reducible refine stopS 34 _ _ rfl ?_)
    refine Lib.hid ?_
    clear zz
    refine wpList_store_only sB rfl _ _ rfl rfl rfl (var_new w3 Z 34) hO1.out hC1.out (by rw [zs.out]; omega) ?_
    intro w4 hv ho
    simp only [Act.put]
    rw [putL_all _ _ (by rw [zs.out, hC1.out])] at hv
    have hb4 : Below w3.heap.size w3 w4 := (box_below w3 _).trans (ho.below (Nat.le_refl _) (by rw [alloc_size]; omega))
    have V4 := Lib.hid (V3.out.below hb4 V3.out.lt)
    have BR4 := Lib.hid (HBR.out w4 w3.heap.size XS hv ⟨A, PA.out.below hb4 PA.out.lt, PN.out, PS.out⟩)
    have B4 := Lib.hid (B3.out.trans (hb4.mono B3.out.size))
    have hxw : w.heap.size < w3.heap.size := V3.out.lt
    clear hv ho hb4 V3 B3 PA PN PS
    generalize w3.heap.size = xb at *
    go_wp2_with fail
    refine (start_nil _ _).mono ?_
    rintro e w5 ⟨rfl, rfl⟩
    go_wp2_with fail
    refine (kSt.out _ _ _ _ BR4.out).mono ?_
    rintro e w5 ⟨rfl, hbr, ho⟩
    have V5 := Lib.hid (ho.var V4.out (by omega))
    have B5 := Lib.hid (B4.out.trans (ho.below (by omega) B4.out.size))
    have BR5 := Lib.hid hbr
    have VX5 := Lib.hid (HBR2.out w5 xb _ hbr)
    clear hbr ho V4 B4 BR4 kSt
    go_upto_region 6 with fail
    refine wp_region_held_drew (S := fun w' => VarAt w' xb C1 34 ∧ VarAt w' w.heap.size C 34) (by kernel_rfl) ⟨VX5.out.drew, V5.out.drew⟩ (fun hS => ?_)
    refine wpAnyH_take (i := 0) (v := .agg C1) rfl (by kernel_rfl) (by kernel_rfl) (by kernel_rfl) (fun _ _ _ h => h) (yields_br (by rfl) _ rfl rfl (fun w9 h9 => h9.1) hC1.out) hS ?_
    simp only [Act.put, List.getElem_toArray, List.getElem_cons_zero, List.getElem_cons_succ, List.setIfInBounds_toArray, List.set_cons_zero, List.set_cons_succ]
    refine wpAnyH_take (i := 1) (v := .agg C) rfl (by kernel_rfl) (by kernel_rfl) (by kernel_rfl) (fun _ _ _ h => h) (yields_br (by rfl) _ rfl rfl (fun w9 h9 => h9.2) HC18.out) hS ?_
    simp only [Act.put, List.getElem_toArray, List.getElem_cons_zero, List.getElem_cons_succ, List.setIfInBounds_toArray, List.set_cons_zero, List.set_cons_succ]
    refine wpAnyH_take (i := 3) (v := .int .i64 i) rfl (by kernel_rfl) (by kernel_rfl) (by kernel_rfl) (fun _ _ _ h => h) (Or.inl ⟨by rfl, ?_⟩) hS ?_
    · (intro w9 hS9; go_simp; try with_reducible rfl)
    simp only [Act.put, List.getElem_toArray, List.getElem_cons_zero, List.getElem_cons_succ, List.setIfInBounds_toArray, List.set_cons_zero, List.set_cons_succ]
    refine wpAnyH_ready (rs := [2]) (by kernel_rfl) (by simp) (AllReadyH.cons rfl (fun K hK => ?_) AllReadyH.nil)
    go_simp
    refine (kCp.out _ (HSW.out.below HX.out B5.out.drew) hn).mono ?_
    rintro e w6 ⟨p2, cap2, rfl, hk6, hb⟩
    have PI6 := Lib.hid (show PIn w6 (.slice (some ⟨p2, 0, none⟩) n cap2) n XS by
      obtain ⟨A2, g1, g2, g3, g4⟩ := hk6
      refine ⟨some ⟨p2, 0, none⟩, cap2, rfl, fun h => (by cases h), fun _ => ⟨p2, 0, rfl, fun i hi k hk => ?_⟩⟩
      rw [g1.cell, Nat.zero_add]; exact g3 i hi k hk)
    have B6 := Lib.hid (B5.out.drew.trans (hb.mono B5.out.size))
    have BR6 := Lib.hid (BR5.out.drew.below hb)
    have kG6 := Lib.hid (kG.out hn _ _ PI6.out)
    have hS6 : VarAt w6 xb C1 34 ∧ VarAt w6 w.heap.size C 34 := ⟨hS.1.below hb hS.1.lt, hS.2.below hb hS.2.lt⟩
    clear hb hk6 B5 V5 VX5 BR5 kG
    generalize B.cells (.slice (some ⟨p2, 0, none⟩) n cap2) = C3 at *
    refine hK _ _ hS6 (fun hS => ?_)
    clear hK K hS6
    refine wpAnyH_ready (rs := [4]) (by kernel_rfl) (by simp) (AllReadyH.cons rfl (fun K hK => ?_) AllReadyH.nil)
    go_simp
    refine kG6.out.mono ?_
    rintro e w7 ⟨s7, rfl, hp7, hb⟩
    have B7 := Lib.hid (B6.out.trans (hb.mono B6.out.size))
    have BR7 := Lib.hid (BR6.out.below hb)
    have kS7 := Lib.hid (kSm1.out s7 w7 BR7.out.pin hp7)
    have hS7 : VarAt w7 xb C1 34 ∧ VarAt w7 w.heap.size C 34 := ⟨hS.1.below hb hS.1.lt, hS.2.below hb hS.2.lt⟩
    clear hb hp7 B6 BR6 kG6 kSm1
    generalize B.cells s7 = C7 at *
    refine hK _ _ hS7 (fun hS => ?_)
    clear hK K hS7
    refine wpAnyH_ready (rs := [5]) (by kernel_rfl) (by simp) (AllReadyH.cons rfl (fun K hK => ?_) AllReadyH.nil)
    go_simp
    refine kS7.out.mono ?_
    rintro e w8 ⟨rfl, hb⟩
    have B8 := Lib.hid (B7.out.trans (hb.mono B7.out.size))
    have BR8 := Lib.hid (BR7.out.below hb)
    have hS8 : VarAt w8 xb C1 34 ∧ VarAt w8 w.heap.size C 34 := ⟨hS.1.below hb hS.1.lt, hS.2.below hb hS.2.lt⟩
    clear hb B7 BR7 kS7
    refine hK _ _ hS8 (fun hS => ?_)
    clear hK K hS8
    refine wpAnyH_take (i := 6) (v := .bool false) rfl (by kernel_rfl) (by kernel_rfl) (by kernel_rfl) (fun _ _ _ h => h) (Or.inl ⟨by rfl, ?_⟩) hS ?_
    · (intro w9 hS9; go_simp; try with_reducible rfl)
    simp only [Act.put, List.getElem_toArray, List.getElem_cons_zero, List.getElem_cons_succ, List.setIfInBounds_toArray, List.set_cons_zero, List.set_cons_succ]
    refine wpAnyH_done (by kernel_rfl) ?_ _
    have V8 := Lib.hid hS.2
    have c17 : w8.cell? ⟨w.heap.size, 17, none⟩ = some (.slice sa n sc) := by rw [hS.2.cell]; exact HC17.out
    clear hS
    by_cases h0 : i < 0
    · clear HIY
      go_wp2_with fail
      go_ret
      exact ⟨rfl, B8.out⟩
    · by_cases h1 : (n : Int) ≤ i
      · clear HIY
        go_wp2_with fail
        go_ret
        exact ⟨rfl, B8.out⟩
      · obtain ⟨k, rfl⟩ : ∃ k : Nat, i = k := ⟨i.toNat, by omega⟩
        have hk : k < n := by omega
        obtain ⟨b9, o9, c9, hs9, hp9⟩ := HPT.out (by omega)
        obtain ⟨rfl, -, rfl⟩ := (by simpa using hs9 : sa = some ⟨b9, o9, none⟩ ∧ True ∧ sc = c9)
        have i0 := idx32o b9 o9 n sc k hk
        have hyk := HIY.out k rfl hk
        have c2 := ((hp9 k hk).below (HX.out k hk) B8.out).bool (HT.out k hk) 2 rfl
        have HR := Lib.hid (start_rests B.rs (HT.out k hk))
        rw [← hyk] at HR
        have HRS := Lib.hid (receive_some B xb pb n cap k YS w8 BR8.out hk (HYT.out k hk))
        have HMG := Lib.hid (fun w9 hB => migrate_some B xb pb n cap k (at1 YS k (YS k)) w9 hB hk (by rw [at1_at]; exact HYT.out k hk))
        rw [at1_at] at HMG
        clear hp9 hs9 h0 h1 hyk HIY
        generalize boolI (XS k) 2 = x2 at *
        cases x2
        · obtain ⟨hr1, hr2⟩ := HR.out rfl
          rw [hr1] at HRS
          rw [hr2] at HMG
          clear hr1 hr2 HR
          go_wp2_with fail
          refine HRS.out.mono ?_
          rintro e w9 ⟨rfl, hm⟩
          have B9 := Lib.hid (B8.out.trans (hm.only.below (by omega) B8.out.size))
          have kM := Lib.hid (HMG.out _ (BR8.out.mv hk hm))
          clear hm HRS HMG
          go_wp2_with fail
          refine kM.out.mono ?_
          rintro e w10 ⟨rfl, hm⟩
          have B10 := Lib.hid (B9.out.trans (hm.only.below (by omega) B9.out.size))
          clear hm kM
          go_wp2_with fail
          go_ret
          exact ⟨rfl, B10.out⟩
        · clear HR HRS HMG
          go_wp2_with fail
          go_ret
          exact ⟨rfl, B8.out⟩
theorem starts_any (B : Bd) (s : Value) (n : Nat) (i : Int) (XS : Nat → Array Value) (w : World) (hs : PIn w s n XS) (ht : ∀ i, i < n → Typed (XS i)) :
    Calls Try.prog 5 #[.agg (B.cells s), .int .i64 i] w fun e w' => e = .returned (.bool true) ∧ Below w.heap.size w w' := by
  by_cases hi : 0 ≤ i ∧ i < n
  · obtain ⟨k, rfl⟩ : ∃ k : Nat, i = k := ⟨i.toNat, by omega⟩
    have hk : k < n := by omega
    refine starts_core B s n k XS (at1 XS k (startX B.rs (XS k))) w hs ht (at1_typed ht (startX_typed B.rs (ht k hk))) (fun j hj _ => by obtain rfl : k = j := (by omega); rw [at1_at]) (fun bb pb cap w1 hB => ?_) (fun hn s1 w1 h1 => ?_)
    · refine (start_some B bb pb n cap k XS w1 hB hk (ht k hk)).mono ?_
      rintro e w2 ⟨rfl, hm⟩
      exact ⟨rfl, hB.mv hk hm, hm.only⟩
    · exact refstart_some B s1 n k XS w1 h1 hk hn ht
  · have hi2 : i < 0 ∨ (n : Int) ≤ i := by omega
    refine starts_core B s n i XS XS w hs ht ht (fun k hk hkn => by omega) (fun bb pb cap w1 hB => ?_) (fun hn s1 w1 h1 => ?_)
    · refine (start_none B bb pb n cap i XS w1 hB hi2).mono ?_
      rintro e w2 ⟨rfl, rfl⟩
      exact ⟨rfl, hB, Only.refl _ _⟩
    · exact refstart_none B s1 n i XS w1 h1 hi2 ht
end Go.Proofs.Ythkmhnajhhomoaa
