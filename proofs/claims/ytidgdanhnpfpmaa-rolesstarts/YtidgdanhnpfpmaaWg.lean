/- RolesStarts' call. -/
import Derived.Test.YtidgdanhnpfpmaaTc
import Derived.Test.YtidgdanhnpfpmaaWf
namespace Go.Proofs.Ytidgdanhnpfpmaa
open Go.RowKit Go.Sort

/-- What the law makes of a port ahead of the reference's selection. -/
def yX (xs : Array Value) : Array Value := bX 29 true (dX xs)
theorem yX_typed {xs : Array Value} (h : Typed xs) : Typed (yX xs) := bX_typed (dX_typed h) 29 true rfl
theorem yX_in {x : Pd} {xs : Array Value} (h : x.In xs) : x.In (yX xs) := bX_in (dX_in h) 29 true (by omega)
theorem yX_on {xs : Array Value} (h : Typed xs) : boolI (yX xs) 29 = true := by
  have hs : (dX xs).size = 90 := (dX_typed h).1
  unfold boolI yX bX
  simp only [putL_at, hs, List.length_cons, List.length_nil]
  rfl
theorem rootB_ps (B : Bd) (X : Nat → Pd) (r : Int) : rootB { B with ps := 1 } X r = { rootB B X r with ps := 1 } := by unfold rootB; split <;> rfl
theorem starts_pos {B : Bd} {X : Nat → Pd} {n : Nat} {XS : Nat → Array Value} (hn : 0 < n) (ht : ∀ i, i < n → Typed (XS i)) :
    ({ dB B X n (fun i => yX (XS i)) with ps := 1 } : Bd) = selB B X n ∧ ∀ i, dP B X n (fun i => yX (XS i)) i = selP B X n (fun i => dX (XS i)) i := by
  have e : anyR (fun i => yX (XS i)) n = true := anyR_at hn (yX_on (ht 0 hn))
  refine ⟨by rw [show dB B X n (fun i => yX (XS i)) = selB B X n from if_pos e]; rfl, fun i => ?_⟩
  rw [show dP B X n (fun i => yX (XS i)) i = selP B X n (fun i => yX (XS i)) i from if_pos e, ← selR_selP]
  exact selR_on B X n (fun i => dX (XS i)) i
theorem starts_none {B : Bd} {X : Nat → Pd} {XS : Nat → Array Value} : ({ dB B X 0 (fun i => yX (XS i)) with ps := 1 } : Bd) = { B with ps := 1 } := by
  rw [show dB B X 0 (fun i => yX (XS i)) = B from if_neg (by simp [anyR])]
set_option maxRecDepth 20000 in
set_option maxHeartbeats 8000000 in
theorem starts_any (B : Bd) (s : Value) (n : Nat) (XS : Nat → Array Value) (X : Nat → Pd) (w : World) (hs : PIn w s n XS) (hps : ∀ i, i < n → (X i).In (XS i) ∧ Typed (XS i)) (hid : B.id < 18446744073709551616) :
    Calls Try.prog 4 #[.agg (B.cells s)] w fun e w' => e = .returned (.bool true) ∧ Below w.heap.size w w' := by
  have hx : ∀ i, i < n → (XS i).size = 90 := fun i hi => (hps i hi).1.size
  have hv0 := Lib.hid (var_new w (B.cells s) 34)
  have hB0 := Lib.hid (box_below w (.cells (B.cells s) 34))
  have HX := Lib.hid hx
  have HP := Lib.hid hps
  have HT := Lib.hid (fun i hi => (hps i hi).2)
  have HID := Lib.hid hid
  have HSW := Lib.hid hs
  have HC18 := Lib.hid (show (B.cells s).size = 18 by simp)
  have HC17 := Lib.hid (show (B.cells s)[17]? = some s by simp)
  obtain ⟨sa, sc, hse, -, -⟩ := id hs
  have HSE := Lib.hid hse
  obtain ⟨D, hD⟩ : ∃ D : Nat → Nat → Array Value, ∀ p c, D p c = B.cells (.slice (some ⟨p, 0, none⟩) n c) := ⟨_, fun _ _ => rfl⟩
  have HD := Lib.hid hD
  have HDz := Lib.hid (fun p c => show (D p c).size = 18 by rw [hD]; simp)
  have HDs := Lib.hid (fun p c => show (D p c)[17]? = some (.slice (some ⟨p, 0, none⟩) n c) by rw [hD]; simp)
  have HDo := Lib.hid (fun p c => show (D p c).all (·.oneCell') = true by rw [hD]; exact B.one rfl)
  obtain ⟨F, hF⟩ : ∃ F : Nat → Nat → Array Value, ∀ p c, F p c = (selB B X n).cells (.slice (some ⟨p, 0, none⟩) n c) := ⟨_, fun _ _ => rfl⟩
  have HF := Lib.hid hF
  have HFz := Lib.hid (fun p c => show (F p c).size = 18 by rw [hF]; simp)
  have HFo := Lib.hid (fun p c => show (F p c).all (·.oneCell') = true by rw [hF]; exact (selB B X n).one rfl)
  obtain ⟨G, hG⟩ : ∃ G : Nat → Nat → Array Value, ∀ p c, G p c = (dB B X n (fun i => yX (XS i))).cells (.slice (some ⟨p, 0, none⟩) n c) := ⟨_, fun _ _ => rfl⟩
  have HG := Lib.hid hG
  have HGz := Lib.hid (fun p c => show (G p c).size = 18 by rw [hG]; simp)
  have HGo := Lib.hid (fun p c => show (G p c).all (·.oneCell') = true by rw [hG]; exact (dB B X n (fun i => yX (XS i))).one rfl)
  have kF := Lib.hid (fun w => fits_any B s n XS w)
  have kCp := Lib.hid (fun (hn : n ≤ 20) w (h : PIn w s n XS) => show Calls Try.prog 7 #[.agg (B.cells s)] w fun e w' => ∃ pb cap, e = .returned (.agg (D pb cap)) ∧ Kept3 w w' pb n XS ∧ Below w.heap.size w w' by
    simp only [hD]; exact copy_any B s n XS w h hn (fun i hi => (hps i hi).2))
  have kSa := Lib.hid (fun (hn : n ≤ 20) bb pb cap w h => start_any B bb pb n cap XS X w h hps hn hid)
  have kSm := Lib.hid (fun (hn : n ≤ 20) (YS : Nat → Array Value) (hy : ∀ i, i < n → Typed (YS i)) p1 p2 c1 c2 w h1 h2 => show Calls Try.prog 10 #[.agg (F p1 c1), .agg (F p2 c2)] w fun e w' => e = .returned (.bool true) ∧ Below w.heap.size w w' by
    simp only [hF]; exact same_pin (selB B X n) (.slice (some ⟨p1, 0, none⟩) n c1) (.slice (some ⟨p2, 0, none⟩) n c2) n YS w h1 h2 hy hn)
  have kRo := Lib.hid (fun (hn : n ≤ 20) qb c w (h : ∃ A, VarAt w qb A 50 ∧ n * 90 ≤ A.size ∧ ∀ i, i < n → Sub A (i * 90) (yX (XS i))) => show Calls Try.prog 9 #[.agg (D qb c)] w fun e w' => (∃ pb cap A, e = .returned (.tuple #[.agg (G pb cap), .bool (anyR (fun i => yX (XS i)) n)]) ∧ VarAt w' pb A 50 ∧ n * 90 ≤ A.size ∧ ∀ i, i < n → Sub A (i * 90) (dP B X n (fun i => yX (XS i)) i)) ∧ Below w.heap.size w w' by
    simp only [hD, hG]
    obtain ⟨A, a1, a2, a3⟩ := h
    exact roles_any B qb n c A (fun i => yX (XS i)) X w a1 a2 a3 (fun i hi => ⟨yX_in (hps i hi).1, yX_typed (hps i hi).2⟩) hn hid)
  clear hs hps hx hD hF hG hid hse
  generalize B.cells s = C at *
  go_enter Try.func4, Try.ntmps4
  go_wp2_with fail
  generalize w.alloc (.cells C 34) = w0 at *
  refine (lives_any _).mono ?_
  rintro e w1 ⟨rfl, hb⟩
  have V1 := Lib.hid (hv0.out.below hb hv0.out.lt)
  have B1 := Lib.hid (hB0.out.trans (hb.mono hB0.out.size))
  clear hb hv0 hB0
  go_wp2_with (with_reducible refine stopL 34 _ rfl ?_)
  refine Lib.hid ?_
  refine guarded_load (by rfl) _ rfl rfl V1.out HC18.out ?_
  go_wp2_with fail
  refine (kF.out _ (HSW.out.below HX.out B1.out) HT.out).mono ?_
  rintro e w2 ⟨⟨q, rfl, hqn⟩, hb⟩
  have V2 := Lib.hid (V1.out.below hb V1.out.lt)
  have B2 := Lib.hid (B1.out.trans (hb.mono B1.out.size))
  clear hb V1 B1 kF
  cases q
  · go_wp2_with fail
    refine (lives_any _).mono ?_
    rintro e w3 ⟨rfl, hb⟩
    have B3 := Lib.hid (B2.out.trans (hb.mono B2.out.size))
    clear hb
    go_wp2_with fail
    go_ret
    exact ⟨rfl, B3.out⟩
  · have hn := hqn rfl
    clear hqn
    have P2 := Lib.hid (HSW.out.below HX.out B2.out)
    have kCp1 := Lib.hid (kCp.out hn)
    have kSa1 := Lib.hid (kSa.out hn)
    have kSm1 := Lib.hid (kSm.out hn)
    have kRo1 := Lib.hid (kRo.out hn)
    have HN20 := Lib.hid hn
    clear kCp kSa kSm kRo hn
    go_wp2_with fail
    have zz := zero34
    have kZ := Lib.hid zero34
    have zs := Lib.hid z34_size
    generalize z34 = Z at *
    have hst := Lib.hid (show St C Z s n w.heap.size XS w w2.drew [] none none from ⟨V2.out.drew, P2.out.below HX.out ((Below.refl _ _).drew), B2.out.drew, fun _ h => (by cases h), List.nodup_nil, fun _ h => (by cases h), fun _ h => (by cases h), fun _ h => (by cases h)⟩)
    refine wp_region_held_drew (S := fun w' => VarAt w' w.heap.size C 34) (by kernel_rfl) V2.out.drew (fun hS => ?_)
    refine wpAnyH_take (i := 0) (v := .agg C) rfl (by kernel_rfl) (by kernel_rfl) (by kernel_rfl) (fun _ _ _ h => h) (yields_br (by rfl) _ rfl rfl (fun w9 h9 => h9) HC18.out) hS ?_
    simp only [Act.put, List.getElem_toArray, List.getElem_cons_zero, List.setIfInBounds_toArray, List.set_cons_zero, List.set_cons_succ]
    refine wpAnyH_take (i := 2) (v := .agg C) rfl (by kernel_rfl) (by kernel_rfl) (by kernel_rfl) (fun _ _ _ h => h) (yields_br (by rfl) _ rfl rfl (fun w9 h9 => h9) HC18.out) hS ?_
    simp only [Act.put, List.getElem_toArray, List.getElem_cons_zero, List.getElem_cons_succ, List.setIfInBounds_toArray, List.set_cons_zero, List.set_cons_succ]
    refine st0 HX.out (Lib.hid kCp1.out) zz (Lib.hid (fun w3 p1 c1 p2 c2 ex ey hst => ?_)) _ hst.out
    clear zz
    have hx1 := (hst.ax ex rfl).2
    have hy1 := (hst.ay ey rfl).2
    have hxy : ey ≠ ex := fun e => hst.xy ex rfl (by rw [e])
    have hnd := hst.nd
    simp at hnd
    have h21 : p2 ≠ p1 := fun e => hnd e
    have hqx := (hst.ax ex rfl).1
    have hqy := (hst.ay ey rfl).1
    have hqp1 := (hst.pc p1 (by simp)).1
    have hqp2 := (hst.pc p2 (by simp)).1
    have Q1 := Lib.hid (hst.pc p1 (by simp)).2
    have Q2 := Lib.hid (hst.pc p2 (by simp)).2
    have V3 := Lib.hid hst.hb
    have B3 := Lib.hid hst.bel
    have ne1 : ∀ p e, (∃ A, VarAt w3 p A 50 ∧ n * 90 ≤ A.size ∧ ∀ i, i < n → Sub A (i * 90) (XS i)) → VarAt w3 e Z 34 → p ≠ e := fun p e ⟨A, h1, _⟩ h2 => var_ne h1 h2 (by decide)
    have n1x := ne1 p1 ex Q1.out hx1
    have n1y := ne1 p1 ey Q1.out hy1
    have n2x := ne1 p2 ex Q2.out hx1
    have n2y := ne1 p2 ey Q2.out hy1
    have VX := Lib.hid hx1
    have VY := Lib.hid hy1
    clear ne1 hnd hst hx1 hy1 V2 B2 P2
    refine wpAnyH_ready (rs := [6]) (by kernel_rfl) (by simp) (AllReadyH.cons rfl (fun K hK => ?_) AllReadyH.nil)
    rw [if_pos (by rfl)]
    refine wp_store_only sB _ _ rfl rfl rfl VX.out (HDo.out _ _) (HDz.out _ _) (by rw [zs.out]; omega) ?_
    intro w4 hv ho
    simp only [Act.put]
    rw [putL_all _ _ (by rw [zs.out, HDz.out])] at hv
    have VX' := Lib.hid hv
    have VY' := Lib.hid (ho.var VY.out (by omega))
    have Q1' := Lib.hid (show ∃ A, VarAt w4 p1 A 50 ∧ n * 90 ≤ A.size ∧ ∀ i, i < n → Sub A (i * 90) (XS i) by obtain ⟨A, a1, a2⟩ := Q1.out; exact ⟨A, ho.var a1 (by omega), a2⟩)
    have Q2' := Lib.hid (show ∃ A, VarAt w4 p2 A 50 ∧ n * 90 ≤ A.size ∧ ∀ i, i < n → Sub A (i * 90) (XS i) by obtain ⟨A, a1, a2⟩ := Q2.out; exact ⟨A, ho.var a1 (by omega), a2⟩)
    have V4 := Lib.hid (ho.var V3.out (by omega))
    have B4 := Lib.hid (B3.out.trans (ho.below (by omega) B3.out.size))
    clear VX VY Q1 Q2
    have VX := VX'
    have VY := VY'
    have Q1 := Q1'
    have Q2 := Q2'
    clear VX' VY' Q1' Q2'
    refine hK _ _ V4.out (fun hS => ?_)
    clear hK K hv ho V3 B3
    refine wpAnyH_ready (rs := [7]) (by kernel_rfl) (by simp) (AllReadyH.cons rfl (fun K hK => ?_) AllReadyH.nil)
    rw [if_pos (by rfl)]
    refine wp_store_only sB _ _ rfl rfl rfl VY.out (HDo.out _ _) (HDz.out _ _) (by rw [zs.out]; omega) ?_
    intro w5 hv ho
    simp only [Act.put]
    rw [putL_all _ _ (by rw [zs.out, HDz.out])] at hv
    have VY' := Lib.hid hv
    have VX' := Lib.hid (ho.var VX.out (by omega))
    have Q1' := Lib.hid (show ∃ A, VarAt w5 p1 A 50 ∧ n * 90 ≤ A.size ∧ ∀ i, i < n → Sub A (i * 90) (XS i) by obtain ⟨A, a1, a2⟩ := Q1.out; exact ⟨A, ho.var a1 (by omega), a2⟩)
    have Q2' := Lib.hid (show ∃ A, VarAt w5 p2 A 50 ∧ n * 90 ≤ A.size ∧ ∀ i, i < n → Sub A (i * 90) (XS i) by obtain ⟨A, a1, a2⟩ := Q2.out; exact ⟨A, ho.var a1 (by omega), a2⟩)
    have V5 := Lib.hid (ho.var V4.out (by omega))
    have B5 := Lib.hid (B4.out.trans (ho.below (by omega) B4.out.size))
    clear VX VY Q1 Q2
    have VX := VX'
    have VY := VY'
    have Q1 := Q1'
    have Q2 := Q2'
    clear VX' VY' Q1' Q2'
    refine hK _ _ V5.out (fun hS => ?_)
    clear hK K hv ho V4 B4
    refine wpAnyH_done (by kernel_rfl) ?_ _
    have BX := Lib.hid (show Br w5 B ex p1 n c1 XS from ⟨by rw [← HD.out]; exact VX.out, Q1.out⟩)
    clear VX Q1 hS
    go_wp2_with fail
    refine (start_nil _).mono ?_
    rintro e w6 ⟨rfl, rfl⟩
    have kSa2 := Lib.hid (kSa1.out ex p1 c1 w5 BX.out)
    clear kSa1
    go_wp2_with fail
    refine kSa2.out.mono ?_
    rintro e w6 ⟨rfl, hbr, hm⟩
    have VX6 := Lib.hid (show VarAt w6 ex (F p1 c1) 34 by rw [HF.out]; exact hbr.hb)
    have QX6 := Lib.hid hbr.ex
    have VY6 := Lib.hid (hm.var VY.out hxy (by omega))
    have Q6 := Lib.hid (show ∃ A, VarAt w6 p2 A 50 ∧ n * 90 ≤ A.size ∧ ∀ i, i < n → Sub A (i * 90) (XS i) by obtain ⟨A, a1, a2⟩ := Q2.out; exact ⟨A, hm.var a1 (by omega) h21, a2⟩)
    have V6 := Lib.hid (hm.var V5.out (by omega) (by omega))
    have B6 := Lib.hid (B5.out.trans (hm.below (by omega) (by omega) B5.out.size))
    clear hbr hm BX VY Q2 B5 V5 kSa2
    have BY6 := Lib.hid (show Br w6 B ey p2 n c2 XS from ⟨by rw [← HD.out]; exact VY6.out, Q6.out⟩)
    have c17 : w6.cell? ⟨ey, 17, none⟩ = some (.slice (some ⟨p2, 0, none⟩) n c2) := by rw [VY6.out.cell]; exact HDs.out _ _
    go_wp2_with fail
    clear c17
    go_loopw [25] (fun c wr => ∃ k : Nat, k ≤ n ∧ c = .int .i64 k ∧ Br wr B ey p2 n c2 (fun j => if j < k then (fun _ => yX) j (XS j) else XS j) ∧ Only p2 w6 wr) (fun c _ => n - (intOf c).toNat)
    case atStart => exact ⟨0, Nat.zero_le _, rfl, BY6.out.congr fun j _ => by rw [if_neg (by omega)], Only.refl _ _⟩
    case round =>
      obtain ⟨k, hk, rfl, hbk, hok⟩ := hrel
      have HBK := Lib.hid hbk
      have HOK := Lib.hid hok
      clear hbk hok
      by_cases hlt : k < n
      · have hVY : VarAt wr ey (D p2 c2) 34 := by rw [HD.out]; exact HBK.out.hb
        have VYr := Lib.hid hVY
        obtain ⟨A, hA, hAn, -⟩ := HBK.out.ex
        have HA := Lib.hid hA
        have HAN := Lib.hid hAn
        clear hVY hA hAn
        have i6 := idx32b p2 n c2 k hlt
        go_wp2_with fail
        refine wp_region_held_drew (S := fun w' => VarAt w' ey (D p2 c2) 34) (by kernel_rfl) VYr.out.drew (fun hS => ?_)
        refine wpAnyH_take (i := 0) (v := .pointer (some ⟨ey, 17, none⟩)) rfl (by kernel_rfl) (by kernel_rfl) (by kernel_rfl) (fun _ _ _ h => h) (Or.inl ⟨by rfl, ?_⟩) hS ?_
        · (intro w9 hS9; go_simp; try with_reducible rfl)
        simp only [Act.put, List.getElem_toArray, List.getElem_cons_zero, List.getElem_cons_succ, List.setIfInBounds_toArray, List.set_cons_zero, List.set_cons_succ]
        refine wpAnyH_take (i := 1) (v := .slice (some ⟨p2, 0, none⟩) n c2) rfl (by kernel_rfl) (by kernel_rfl) (by kernel_rfl) (fun _ _ _ h => h) (Or.inl ⟨by rfl, ?_⟩) hS ?_
        · (intro w9 hS9; have q17 : w9.cell? ⟨ey, 17, none⟩ = some (.slice (some ⟨p2, 0, none⟩) n c2) := (by rw [hS9.cell]; exact HDs.out _ _); go_simp; try with_reducible rfl)
        simp only [Act.put, List.getElem_toArray, List.getElem_cons_zero, List.getElem_cons_succ, List.setIfInBounds_toArray, List.set_cons_zero, List.set_cons_succ]
        refine wpAnyH_take (i := 2) (v := .int .i64 k) rfl (by kernel_rfl) (by kernel_rfl) (by kernel_rfl) (fun _ _ _ h => h) (Or.inl ⟨by rfl, ?_⟩) hS ?_
        · (intro w9 hS9; go_simp; try with_reducible rfl)
        simp only [Act.put, List.getElem_toArray, List.getElem_cons_zero, List.getElem_cons_succ, List.setIfInBounds_toArray, List.set_cons_zero, List.set_cons_succ]
        refine wpAnyH_take (i := 3) (v := .pointer (some ⟨ey, 17, none⟩)) rfl (by kernel_rfl) (by kernel_rfl) (by kernel_rfl) (fun _ _ _ h => h) (Or.inl ⟨by rfl, ?_⟩) hS ?_
        · (intro w9 hS9; go_simp; try with_reducible rfl)
        simp only [Act.put, List.getElem_toArray, List.getElem_cons_zero, List.getElem_cons_succ, List.setIfInBounds_toArray, List.set_cons_zero, List.set_cons_succ]
        refine wpAnyH_take (i := 4) (v := .slice (some ⟨p2, 0, none⟩) n c2) rfl (by kernel_rfl) (by kernel_rfl) (by kernel_rfl) (fun _ _ _ h => h) (Or.inl ⟨by rfl, ?_⟩) hS ?_
        · (intro w9 hS9; have q17 : w9.cell? ⟨ey, 17, none⟩ = some (.slice (some ⟨p2, 0, none⟩) n c2) := (by rw [hS9.cell]; exact HDs.out _ _); go_simp; try with_reducible rfl)
        simp only [Act.put, List.getElem_toArray, List.getElem_cons_zero, List.getElem_cons_succ, List.setIfInBounds_toArray, List.set_cons_zero, List.set_cons_succ]
        refine wpAnyH_take (i := 5) (v := .int .i64 k) rfl (by kernel_rfl) (by kernel_rfl) (by kernel_rfl) (fun _ _ _ h => h) (Or.inl ⟨by rfl, ?_⟩) hS ?_
        · (intro w9 hS9; go_simp; try with_reducible rfl)
        simp only [Act.put, List.getElem_toArray, List.getElem_cons_zero, List.getElem_cons_succ, List.setIfInBounds_toArray, List.set_cons_zero, List.set_cons_succ]
        refine wpAnyH_take (i := 6) (v := .pointer (some ⟨p2, k * 90, none⟩)) rfl (by kernel_rfl) (by kernel_rfl) (by kernel_rfl) (fun _ _ _ h => h) (Or.inl ⟨by rfl, ?_⟩) hS ?_
        · (intro w9 hS9; go_simp; try with_reducible rfl)
        simp only [Act.put, List.getElem_toArray, List.getElem_cons_zero, List.getElem_cons_succ, List.setIfInBounds_toArray, List.set_cons_zero, List.set_cons_succ]
        refine wpAnyH_take (i := 7) (v := .pointer (some ⟨p2, k * 90 + 47, none⟩)) rfl (by kernel_rfl) (by kernel_rfl) (by kernel_rfl) (fun _ _ _ h => h) (Or.inl ⟨by rfl, ?_⟩) hS ?_
        · (intro w9 hS9; go_simp; try with_reducible rfl)
        simp only [Act.put, List.getElem_toArray, List.getElem_cons_zero, List.getElem_cons_succ, List.setIfInBounds_toArray, List.set_cons_zero, List.set_cons_succ]
        have fz := HA.out.drew.frozen
        have hs1 := HA.out.drew.some (k := k * 90 + 47) (by have := HAN.out; omega)
        refine wpAnyH_ready (rs := [8]) (by kernel_rfl) (by simp) (AllReadyH.cons rfl (fun K hK => ?_) AllReadyH.nil)
        go_simp
        have M1 := Lib.hid ((((Mv.refl wr p2 (k * 90) _).set 47 (by omega) (.int .i64 0)).drew : Mv wr (wr.setCell ⟨p2, k * 90 + 47, none⟩ (.int .i64 0)).drew p2 (k * 90) ((fun j => if j < k then (fun _ => yX) j (XS j) else XS j) k) _))
        have VA1 := Lib.hid (HA.out.set (k * 90 + 47) (.int .i64 0)).drew
        have VY1 := Lib.hid (VYr.out.set_other (p := ⟨p2, k * 90 + 47, none⟩) (Ne.symm n2y) (.int .i64 0)).drew
        refine hK.out _ _ VY1.out (fun hS => ?_)
        clear hK K fz hs1
        generalize (wr.setCell ⟨p2, k * 90 + 47, none⟩ (.int .i64 0)).drew = w7 at *
        refine wpAnyH_take (i := 9) (v := .pointer (some ⟨p2, k * 90, none⟩)) rfl (by kernel_rfl) (by kernel_rfl) (by kernel_rfl) (fun _ _ _ h => h) (Or.inl ⟨by rfl, ?_⟩) hS ?_
        · (intro w9 hS9; go_simp; try with_reducible rfl)
        simp only [Act.put, List.getElem_toArray, List.getElem_cons_zero, List.getElem_cons_succ, List.setIfInBounds_toArray, List.set_cons_zero, List.set_cons_succ]
        refine wpAnyH_take (i := 10) (v := .pointer (some ⟨p2, k * 90 + 29, none⟩)) rfl (by kernel_rfl) (by kernel_rfl) (by kernel_rfl) (fun _ _ _ h => h) (Or.inl ⟨by rfl, ?_⟩) hS ?_
        · (intro w9 hS9; go_simp; try with_reducible rfl)
        simp only [Act.put, List.getElem_toArray, List.getElem_cons_zero, List.getElem_cons_succ, List.setIfInBounds_toArray, List.set_cons_zero, List.set_cons_succ]
        have fz := VA1.out.frozen
        have hs1 := VA1.out.some (k := k * 90 + 29) (by rw [Array.size_setIfInBounds]; have := HAN.out; omega)
        refine wpAnyH_ready (rs := [11]) (by kernel_rfl) (by simp) (AllReadyH.cons rfl (fun K hK => ?_) AllReadyH.nil)
        go_simp
        have M2 := Lib.hid (M1.out.set 29 (by omega) (.bool true))
        have VY2 := Lib.hid (VY1.out.set_other (p := ⟨p2, k * 90 + 29, none⟩) (Ne.symm n2y) (.bool true))
        refine hK.out _ _ VY2.out (fun hS => ?_)
        clear hK K fz hs1
        generalize w7.setCell ⟨p2, k * 90 + 29, none⟩ (.bool true) = w8 at *
        refine wpAnyH_done (by kernel_rfl) ?_ _
        have hb2 := Lib.hid (show Br w8 B ey p2 n c2 (fun j => if j < k + 1 then (fun _ => yX) j (XS j) else XS j) from
          Br.congr (HBK.out.mv hlt M2.out) fun i hi => by
            unfold at1; exact upd_step (F := fun _ => yX) (by dsimp only; rw [if_neg (by omega)]; exact rfl) i hi)
        have HO2 := Lib.hid (HOK.out.trans M2.out.only)
        clear HBK HOK M1 M2 VY1 VY2 VA1 HA hS VYr
        have hn := HN20.out
        go_wp2_with fail
        exact ⟨⟨k + 1, by omega, by go_num, hb2.out, HO2.out⟩, meas_next hlt⟩
      · obtain rfl : n = k := by omega
        have BY7 := Lib.hid (HBK.out.congr (YS := fun j => yX (XS j)) fun j hj => if_pos hj)
        have VY7 := Lib.hid (show VarAt wr ey (D p2 c2) 34 by rw [HD.out]; exact BY7.out.hb)
        have VX7 := Lib.hid (HOK.out.var VX6.out (by omega))
        have QX7 := Lib.hid (show ∃ A, VarAt wr p1 A 50 ∧ n * 90 ≤ A.size ∧ ∀ i, i < n → Sub A (i * 90) (selP B X n (fun i => dX (XS i)) i) by obtain ⟨A, a1, a2⟩ := QX6.out; exact ⟨A, HOK.out.var a1 (by omega), a2⟩)
        have V7 := Lib.hid (HOK.out.var V6.out (by omega))
        have B7 := Lib.hid (B6.out.trans (HOK.out.below (by omega) B6.out.size))
        have kRo2 := Lib.hid (kRo1.out p2 c2 wr BY7.out.ex)
        clear HBK HOK VX6 QX6 VY6 Q6 V6 B6 BY6 kRo1 hlt hk
        go_wp2_with (with_reducible refine stopL 34 _ rfl ?_)
        refine Lib.hid ?_
        refine wpList_load_whole uB rfl sB rfl _ rfl rfl (range_whole VY7.out) (HDz.out _ _) ?_
        go_wp2_with fail
        refine kRo2.out.mono ?_
        rintro e w9 ⟨⟨p3, c3, A3, rfl, hA, hAn, hAs⟩, hb⟩
        have VX9 := Lib.hid (VX7.out.below hb VX7.out.lt)
        have QX9 := Lib.hid (show ∃ A, VarAt w9 p1 A 50 ∧ n * 90 ≤ A.size ∧ ∀ i, i < n → Sub A (i * 90) (selP B X n (fun i => dX (XS i)) i) by obtain ⟨A, a1, a2⟩ := QX7.out; exact ⟨A, a1.below hb a1.lt, a2⟩)
        have V9 := Lib.hid (V7.out.below hb V7.out.lt)
        have B9 := Lib.hid (B7.out.trans (hb.mono B7.out.size))
        have PA := Lib.hid hA
        have PN := Lib.hid hAn
        have PS := Lib.hid hAs
        clear hb hA hAn hAs BY7 VY7 VX7 QX7 V7 B7 kRo2
        generalize anyR (fun i => yX (XS i)) n = d at *
        have zz := kZ.out
        go_wp2_with (with_reducible refine stopS 34 _ _ rfl ?_)
        refine Lib.hid ?_
        clear zz
        refine wpList_store_only sB rfl _ _ rfl rfl rfl (var_new w9 Z 34) (HGo.out _ _) (HGz.out _ _) (by rw [zs.out]; omega) ?_
        intro w10 hv ho
        simp only [Act.put]
        rw [putL_all _ _ (by rw [zs.out, HGz.out])] at hv
        have hb := (box_below w9 (.cells Z 34)).trans (ho.below (Nat.le_refl _) (by rw [alloc_size]; omega))
        have VX10 := Lib.hid (VX9.out.below hb VX9.out.lt)
        have QX10 := Lib.hid (show ∃ A, VarAt w10 p1 A 50 ∧ n * 90 ≤ A.size ∧ ∀ i, i < n → Sub A (i * 90) (selP B X n (fun i => dX (XS i)) i) by obtain ⟨A, a1, a2⟩ := QX9.out; exact ⟨A, a1.below hb a1.lt, a2⟩)
        have V10 := Lib.hid (V9.out.below hb V9.out.lt)
        have B10 := Lib.hid (B9.out.trans (hb.mono B9.out.size))
        have PA10 := Lib.hid (PA.out.below hb PA.out.lt)
        have VZ10 := Lib.hid hv
        have h9x : ex ≠ w9.heap.size := by have := VX9.out.lt; omega
        have h9y : w.heap.size ≠ w9.heap.size := by have := V9.out.lt; omega
        have h9z : p3 ≠ w9.heap.size := by have := PA.out.lt; omega
        have h9p : p1 ≠ w9.heap.size := by obtain ⟨A, a1, _⟩ := QX9.out; have := a1.lt; omega
        have h9q : w.heap.size < w9.heap.size := V9.out.lt
        clear hb hv ho VX9 QX9 V9 B9 PA
        generalize w9.heap.size = zb at *
        have f16 := VZ10.out.some (k := 16) (by rw [HGz.out]; omega)
        have fz := VZ10.out.frozen
        have VZ11 := Lib.hid (show VarAt (w10.setCell ⟨zb, 7 + 9, none⟩ (.int .i64 1)) zb (({ dB B X n (fun i => yX (XS i)) with ps := 1 } : Bd).cells (.slice (some ⟨p3, 0, none⟩) n c3)) 34 by
          have := VZ10.out.set 16 (.int .i64 1)
          rw [HG.out] at this; exact this)
        have VX11 := Lib.hid (VX10.out.set_other (p := ⟨zb, 16, none⟩) h9x (.int .i64 1))
        have V11 := Lib.hid (V10.out.set_other (p := ⟨zb, 16, none⟩) h9y (.int .i64 1))
        have PA11 := Lib.hid (PA10.out.set_other (p := ⟨zb, 16, none⟩) h9z (.int .i64 1))
        have QX11 := Lib.hid (show ∃ A, VarAt (w10.setCell ⟨zb, 16, none⟩ (.int .i64 1)) p1 A 50 ∧ n * 90 ≤ A.size ∧ ∀ i, i < n → Sub A (i * 90) (selP B X n (fun i => dX (XS i)) i) by obtain ⟨A, a1, a2⟩ := QX10.out; exact ⟨A, a1.set_other (p := ⟨zb, 16, none⟩) h9p _, a2⟩)
        have B11 := Lib.hid (B10.out.setCell (p := ⟨zb, 16, none⟩) (Nat.le_of_lt h9q) (.int .i64 1))
        simp only [Nat.reduceAdd] at VZ11
        clear VX10 QX10 V10 B10 PA10 VZ10 h9y h9z
        have HTS := Lib.hid (fun i (hi : i < n) => selP_typed (B := B) (X := X) (n := n) (i := i) (XS := fun i => dX (XS i)) (dX_typed (HT.out i hi)))
        go_upto_region 13 with fail
        generalize w10.setCell ⟨zb, 16, none⟩ (.int .i64 1) = w11 at *
        clear f16 fz
        have c17 : w11.cell? ⟨w.heap.size, 17, none⟩ = some (.slice sa n sc) := by rw [V11.out.cell, HC17.out, HSE.out]
        by_cases h0 : n = 0
        · subst h0
          have VZ12 := Lib.hid (show VarAt w11 zb (({ B with ps := 1 } : Bd).cells (.slice (some ⟨p3, 0, none⟩) 0 c3)) 34 by rw [← starts_none (B := B) (X := X) (XS := XS)]; exact VZ11.out)
          have kU := Lib.hid (refUpdate_any { B with ps := 1 } p3 0 c3 A3 XS X w11 PA11.out (fun i hi => absurd hi (by omega)) (fun i hi => absurd hi (by omega)) (by omega) HID.out)
          have hC1 := Lib.hid (show (({ B with ps := 1 } : Bd).cells (.slice (some ⟨p3, 0, none⟩) 0 c3)).size = 18 by simp)
          have HFE := Lib.hid (fun p c => show (rootB { B with ps := 1 } X (rootI X ({ B with ps := 1 } : Bd).id 0)).cells (.slice (some ⟨p, 0, none⟩) 0 c) = F p c by rw [rootB_ps, HF.out]; rfl)
          clear VZ11
          generalize ({ B with ps := 1 } : Bd).cells (.slice (some ⟨p3, 0, none⟩) 0 c3) = C9 at *
          go_wp2_with (with_reducible refine stopL 34 _ rfl ?_)
          refine Lib.hid ?_
          refine wpList_load_whole uB rfl sB rfl _ rfl rfl (range_whole VZ12.out) hC1.out ?_
          go_wp2_with fail
          refine kU.out.mono ?_
          rintro e w12 ⟨p4, c4, rfl, ⟨A4, hA4, hA4n, hA4s, -⟩, hb⟩
          rw [HFE.out]
          have VX12 := Lib.hid (VX11.out.below hb VX11.out.lt)
          have VZ13 := Lib.hid (VZ12.out.below hb VZ12.out.lt)
          have QX12 := Lib.hid (show ∃ A, VarAt w12 p1 A 50 ∧ 0 * 90 ≤ A.size ∧ ∀ i, i < 0 → Sub A (i * 90) (selP B X 0 (fun i => dX (XS i)) i) by obtain ⟨A, a1, a2⟩ := QX11.out; exact ⟨A, a1.below hb a1.lt, a2⟩)
          have B12 := Lib.hid (B11.out.trans (hb.mono B11.out.size))
          have PA4 := Lib.hid hA4
          clear hb hA4 VX11 QX11 B11 VZ12 kU V11 c17
          go_wp2_with (with_reducible refine stopS 34 _ _ rfl ?_)
          refine Lib.hid ?_
          refine wpList_store_only sB rfl _ _ rfl rfl rfl VZ13.out (HFo.out _ _) (HFz.out _ _) (by rw [hC1.out]; omega) ?_
          intro w13 hv ho
          simp only [Act.put]
          rw [putL_all _ _ (by rw [hC1.out, HFz.out])] at hv
          have VZ14 := Lib.hid hv
          have VX14 := Lib.hid (ho.var VX12.out h9x)
          have P1 := Lib.hid (pin_of (cap := c1) (show ∃ A, VarAt w13 p1 A 50 ∧ 0 * 90 ≤ A.size ∧ ∀ i, i < 0 → Sub A (i * 90) (selP B X 0 (fun i => dX (XS i)) i) by obtain ⟨A, a1, a2⟩ := QX12.out; exact ⟨A, ho.var a1 h9p, a2⟩))
          have P4 := Lib.hid (pin_of (cap := c4) (XS := selP B X 0 (fun i => dX (XS i))) ⟨A4, ho.var PA4.out (var_ne PA4.out VZ13.out (by decide)), hA4n, fun i hi => absurd hi (by omega)⟩)
          have B14 := Lib.hid (B12.out.trans (ho.below (by omega) B12.out.size))
          have kS := Lib.hid (kSm1.out (selP B X 0 (fun i => dX (XS i))) HTS.out p1 p4 c1 c4 w13 P1.out P4.out)
          clear hv ho VX12 QX12 VZ13 B12 PA4 P1 P4 hA4n hA4s
          go_wp2_with (with_reducible refine stopL 34 _ rfl ?_)
          refine Lib.hid ?_
          refine wpList_load_whole uB rfl sB rfl _ rfl rfl (range_whole VX14.out) (HFz.out _ _) ?_
          refine wpList_load_whole uB rfl sB rfl _ rfl rfl (range_whole VZ14.out) (HFz.out _ _) ?_
          go_wp2_with fail
          refine kS.out.mono ?_
          rintro e w14 ⟨rfl, hb⟩
          have B15 := Lib.hid (B14.out.trans (hb.mono B14.out.size))
          clear hb
          go_wp2_with fail
          go_ret
          exact ⟨rfl, B15.out⟩
        · have hpos : 0 < n := by omega
          have hsp := starts_pos (B := B) (X := X) (XS := XS) hpos HT.out
          have VZ12 := Lib.hid (show VarAt w11 zb (F p3 c3) 34 by rw [HF.out, ← hsp.1]; exact VZ11.out)
          have P1 := Lib.hid (pin_of (cap := c1) QX11.out)
          have P4 := Lib.hid (pin_of (cap := c3) (XS := selP B X n (fun i => dX (XS i))) ⟨A3, PA11.out, PN.out, fun i hi => by rw [← hsp.2 i]; exact PS.out i hi⟩)
          have kS := Lib.hid (kSm1.out (selP B X n (fun i => dX (XS i))) HTS.out p1 p3 c1 c3 w11 P1.out P4.out)
          clear hsp VZ11 P1 P4 QX11 PA11 PN PS
          go_wp2_with (with_reducible refine stopL 34 _ rfl ?_)
          refine Lib.hid ?_
          refine wpList_load_whole uB rfl sB rfl _ rfl rfl (range_whole VX11.out) (HFz.out _ _) ?_
          refine wpList_load_whole uB rfl sB rfl _ rfl rfl (range_whole VZ12.out) (HFz.out _ _) ?_
          go_wp2_with fail
          refine kS.out.mono ?_
          rintro e w14 ⟨rfl, hb⟩
          have B15 := Lib.hid (B11.out.trans (hb.mono B11.out.size))
          clear hb
          go_wp2_with fail
          go_ret
          exact ⟨rfl, B15.out⟩
end Go.Proofs.Ytidgdanhnpfpmaa
