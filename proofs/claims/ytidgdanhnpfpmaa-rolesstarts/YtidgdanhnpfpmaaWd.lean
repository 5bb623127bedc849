/- Contract of the reference's Roles; that it says of the ports what selectRoles makes of them. -/
import Derived.Test.YtidgdanhnpfpmaaWc
import Derived.Test.YtidgdanhnpfpmaaNa
import Derived.Deep.DeepCutAuto
namespace Go.Proofs.Ytidgdanhnpfpmaa
open Go.RowKit Go.Sort

theorem results_pair {fn : Func} {p u : Tmp} (h : fn.results = #[.cell p 34, .tmp u]) (tmps : Array Value) (w : World) (g : Nat) (t : TypeId) (cs : Array Value) (fr : Nat × Nat)
    (hp : tmps.getD p undef = .pointer (some ⟨g, 0, none⟩)) (hg : w.heap[g]? = some (.cells cs t fr)) (hz : cs.size = 18) :
    (results fn tmps).run Try.prog w = .ok (.tuple #[.agg cs, tmps.getD u undef]) w := by
  rw [results_cell_tmp h, hp]
  simp [asAddr, run_loadVar_row w g t 34 cs fr _ hg uB rfl (by rw [sB, hz])]
/-- What becomes of the ports as the reference selects roles. -/
def selR (B : Bd) (X : Nat → Pd) (n : Nat) (XS : Nat → Array Value) (i : Nat) : Array Value :=
  bX 39 true (bX 29 false (newP (rootB B X (rootI X B.id n)) (X i) ((i : Int) == rootI X B.id n) (XS i)))
theorem putL_comm (xs : Array Value) (j o : Nat) (v : Value) (l : List Value) (h : j < o ∨ o + l.length ≤ j) : putL (putL xs j [v]) o l = putL (putL xs o l) j [v] := by
  apply Array.ext_getElem?
  intro i
  simp only [putL_at, putL_size, List.length_cons, List.length_nil]
  by_cases h1 : o ≤ i ∧ i < o + l.length ∧ i < xs.size
  · rw [if_pos h1, if_neg (by omega), if_pos h1]
  · rw [if_neg h1, if_neg h1]
theorem newP_bX (D : Bd) (x : Pd) (q b : Bool) (xs : Array Value) : newP D x q (bX 29 b xs) = bX 29 b (newP D x q xs) := by
  have hd : desA D x.id (bX 29 b xs) 0 = bX 29 b (desA D x.id xs 0) := by
    unfold desA bX
    simp only [Nat.zero_add]
    rw [putL_comm xs 29 48 _ _ (.inl (by omega)), putL_comm _ 29 60 _ _ (.inl (by omega)), putL_comm _ 29 62 _ _ (.inl (by omega))]
  unfold newP
  rw [hd]
  generalize desA D x.id xs 0 = ys
  unfold rolA bX
  simp only [Nat.zero_add]
  have e47 : ∀ v, putL (putL ys 29 [.bool b]) 47 [v] = putL (putL ys 47 [v]) 29 [.bool b] := fun v => putL_comm _ 29 47 _ _ (.inl (by omega))
  have e43 : ∀ zs v, putL (putL zs 29 [.bool b]) 43 [v] = putL (putL zs 43 [v]) 29 [.bool b] := fun zs v => putL_comm _ 29 43 _ _ (.inl (by omega))
  simp only [e47, e43]
  (repeat' split) <;> rfl
theorem bX_bX (b c : Bool) (xs : Array Value) : bX 29 b (bX 29 c xs) = bX 29 b xs := by
  apply Array.ext_getElem?
  intro i
  unfold bX
  simp only [putL_at, putL_size, List.length_cons, List.length_nil]
  split <;> rfl
theorem selR_selP (B : Bd) (X : Nat → Pd) (n : Nat) (XS : Nat → Array Value) (i : Nat) : selR B X n XS i = selP B X n XS i := by
  unfold selR selP; rw [newP_bX]
theorem selR_on (B : Bd) (X : Nat → Pd) (n : Nat) (XS : Nat → Array Value) (i : Nat) : selR B X n (fun i => bX 29 true (XS i)) i = selP B X n XS i := by
  unfold selR selP; rw [newP_bX, newP_bX, bX_bX]
theorem selP_off {B : Bd} {X : Nat → Pd} {n : Nat} {XS : Nat → Array Value} {i : Nat} (h : Typed (XS i)) : boolI (selP B X n XS i) 29 = false := by
  unfold selP
  rw [newP_bX]
  have hs : (newP (rootB B X (rootI X B.id n)) (X i) ((i : Int) == rootI X B.id n) (XS i)).size = 90 := by rw [newP_size]; exact h.1
  unfold boolI bX
  simp only [putL_at, putL_size, hs, List.length_cons, List.length_nil]
  rfl
set_option maxRecDepth 20000 in
set_option maxHeartbeats 4000000 in
theorem refroles_any (B : Bd) (qb n c : Nat) (A0 : Array Value) (XS : Nat → Array Value) (X : Nat → Pd) (w : World) (hq : VarAt w qb A0 50) (hs0 : ∀ i, i < n → Sub A0 (i * 90) (XS i)) (hps : ∀ i, i < n → (X i).In (XS i) ∧ Typed (XS i)) (hn : n ≤ 20) (hid : B.id < 18446744073709551616) :
    Calls Try.prog 9 #[.agg (B.cells (.slice (some ⟨qb, 0, none⟩) n c))] w fun e w' => (anyR XS n = false → e = .returned (.tuple #[.agg (B.cells (.slice (some ⟨qb, 0, none⟩) n c)), .bool false])) ∧
      (anyR XS n = true → ∃ pb cap, e = .returned (.tuple #[.agg ((selB B X n).cells (.slice (some ⟨pb, 0, none⟩) n cap)), .bool true]) ∧ Kept3 w w' pb n (selR B X n XS)) ∧ Below w.heap.size w w' := by
  have V1 := Lib.hid ((var_new w (B.cells (.slice (some ⟨qb, 0, none⟩) n c)) 34).alloc (.cells z34 34))
  have V2 := Lib.hid (show VarAt ((w.alloc (.cells (B.cells (.slice (some ⟨qb, 0, none⟩) n c)) 34)).alloc (.cells z34 34)) (w.heap.size + 1) z34 34 by
    have := var_new (w.alloc (.cells (B.cells (.slice (some ⟨qb, 0, none⟩) n c)) 34)) z34 34
    rwa [alloc_size] at this)
  have B1 := Lib.hid (show Below w.heap.size w ((w.alloc (.cells (B.cells (.slice (some ⟨qb, 0, none⟩) n c)) 34)).alloc (.cells z34 34)) from ((Below.refl w.heap.size w).alloc (Nat.le_refl _) _).alloc (by rw [alloc_size]; omega) _)
  have QV := Lib.hid (hq.below B1.out hq.lt)
  have PS := Lib.hid hs0
  have HP := Lib.hid hps
  have kU := Lib.hid (fun w' (hb : Below w.heap.size w w') => refUpdate_any B qb n c A0 XS X w' (hq.below hb hq.lt) hs0 hps hn hid)
  have HC18 := Lib.hid (show (B.cells (.slice (some ⟨qb, 0, none⟩) n c)).size = 18 by simp)
  have HC17 := Lib.hid (show (B.cells (.slice (some ⟨qb, 0, none⟩) n c))[17]? = some (.slice (some ⟨qb, 0, none⟩) n c) by simp)
  have HC1 := Lib.hid (B.one (s := .slice (some ⟨qb, 0, none⟩) n c) rfl)
  have HSB := Lib.hid (show ∀ s, (selB B X n).cells s = ({ rootB B X (rootI X B.id n) with ps := 1 } : Bd).cells s from fun _ => rfl)
  have HSR := Lib.hid (show ∀ i, selR B X n XS i = bX 39 true (bX 29 false (newP (rootB B X (rootI X B.id n)) (X i) ((i : Int) == rootI X B.id n) (XS i))) from fun _ => rfl)
  have HL := Lib.hid (show w.heap.size ≤ w.heap.size from Nat.le_refl _)
  clear hq hs0 hps hid
  generalize selR B X n XS = SR at *
  generalize selB B X n = SB at *
  generalize B.cells (.slice (some ⟨qb, 0, none⟩) n c) = C at *
  have zz := zero34
  have zs := Lib.hid z34_size
  generalize z34 = Z at *
  go_enter Try.func9, Try.ntmps9
  go_upto_region 1 with fail
  clear zz
  generalize (w.alloc (.cells C 34)).alloc (.cells Z 34) = w0 at *
  go_wp2_with fail
  go_loopw [4, 5] (fun q i wr => ∃ k : Nat, k ≤ n ∧ q = .bool (anyR XS k) ∧ i = .int .i64 k ∧ Below w0.heap.size w0 wr) (fun _ i _ => n - (intOf i).toNat)
  case atStart => exact ⟨0, Nat.zero_le _, rfl, rfl, Below.refl _ _⟩
  case round =>
    obtain ⟨k, hk, rfl, rfl, hnx⟩ := hrel
    have HN := Lib.hid hnx
    have W1 := Lib.hid (V1.out.below hnx V1.out.lt)
    have c17 : wr.cell? ⟨w.heap.size, 17, none⟩ = some (.slice (some ⟨qb, 0, none⟩) n c) := by rw [W1.out.cell]; exact HC17.out
    by_cases hlt : k < n
    · have c29 : wr.cell? ⟨qb, k * 90 + 29, none⟩ = some (.bool (boolI (XS k) 29)) := by
        rw [(QV.out.below hnx QV.out.lt).cell, PS.out k hlt 29 (by omega)]; exact (HP.out k hlt).2.bool 29 rfl
      have i0 := idx32b qb n c k hlt
      have HA := Lib.hid (show anyR XS (k + 1) = (anyR XS k || boolI (XS k) 29) from rfl)
      clear hnx
      generalize hA1 : anyR XS (k + 1) = q1 at *
      have HA1 := Lib.hid hA1
      clear hA1
      generalize boolI (XS k) 29 = r at *
      generalize anyR XS k = q at *
      cases q
      · go_wp2_with fail
        exact ⟨⟨k + 1, by omega, by rw [HA1.out, HA.out]; rfl, by go_num, HN.out⟩, meas_next hlt⟩
      · go_wp2_with fail
        exact ⟨⟨k + 1, by omega, by rw [HA1.out, HA.out]; rfl, by go_num, HN.out⟩, meas_next hlt⟩
    · obtain rfl : n = k := by omega
      have W2 := Lib.hid (V2.out.below hnx V2.out.lt)
      have B2 := Lib.hid (B1.out.trans (hnx.mono B1.out.size))
      clear hnx
      cases hq : anyR XS n
      · go_wp2_with (with_reducible refine stopL 34 _ rfl ?_)
        refine Lib.hid ?_
        refine wpList_load_whole uB rfl sB rfl _ rfl rfl (range_whole W1.out) HC18.out ?_
        refine wpList_store_only sB rfl _ _ rfl rfl rfl W2.out HC1.out HC18.out (by rw [zs.out]; omega) ?_
        intro w9 hv9 ho9
        rw [putL_all _ _ (by rw [zs.out, HC18.out])] at hv9
        have V9 := Lib.hid hv9
        have B9 := Lib.hid (B2.out.trans (ho9.below (by omega) B2.out.size))
        clear hv9 ho9
        go_wp2_with (with_reducible refine stopE ?_)
        refine Lib.hid ?_
        exact bodyPost_ret (v := .tuple #[.agg C, .bool false]) (results_pair (p := 2) (u := 3) rfl _ _ (w.heap.size + 1) 34 _ (0, 0) rfl V9.out HC18.out) rfl ⟨fun _ => rfl, fun h => (by rw [hq] at h; cases h), B9.out⟩
      · go_wp2_with (with_reducible refine stopL 34 _ rfl ?_)
        refine Lib.hid ?_
        refine wpList_load_whole uB rfl sB rfl _ rfl rfl (range_whole W1.out) HC18.out ?_
        go_wp2_with fail
        refine (kU.out wr B2.out).mono ?_
        rintro e w2 ⟨pb, cap, rfl, ⟨A1, hA1, hAn, hAs, hpb⟩, hb⟩
        have W1b := Lib.hid (W1.out.below hb W1.out.lt)
        have W2b := Lib.hid (W2.out.below hb W2.out.lt)
        have B3 := Lib.hid (B2.out.trans (hb.mono B2.out.size))
        have HPB := Lib.hid (Nat.le_trans B2.out.size hpb)
        have PA := Lib.hid hA1
        have PN := Lib.hid hAn
        obtain ⟨NS, hNS⟩ : ∃ NS : Nat → Array Value, ∀ i, newP (rootB B X (rootI X B.id n)) (X i) ((i : Int) == rootI X B.id n) (XS i) = NS i := ⟨_, fun _ => rfl⟩
        have HSR2 := Lib.hid (show ∀ i, SR i = bX 39 true (bX 29 false (NS i)) from fun i => by rw [← hNS]; exact HSR.out i)
        have HNZ := Lib.hid (show ∀ i, i < n → (NS i).size = 90 from fun i hi => by rw [← hNS, newP_size]; exact (HP.out i hi).2.1)
        have PNS := Lib.hid (show ∀ i, i < n → Sub A1 (i * 90) (NS i) from fun i hi => by rw [← hNS]; exact hAs i hi)
        clear hNS hb hA1 hAn hAs hpb W1 W2 B2 HSR kU QV V1 V2 B1 HN
        generalize rootB B X (rootI X B.id n) = D at *
        have HD18 := Lib.hid (show (D.cells (.slice (some ⟨pb, 0, none⟩) n cap)).size = 18 by simp)
        have HD1 := Lib.hid (D.one (s := .slice (some ⟨pb, 0, none⟩) n cap) rfl)
        have HBR := Lib.hid (fun w' h1 h2 => Br.mk (w := w') (B := D) (bb := w.heap.size) (pb := pb) (n := n) (cap := cap) (XS := NS) h1 h2)
        have HBH := Lib.hid (fun w' YS (h : Br w' D w.heap.size pb n cap YS) => h.hb)
        generalize D.cells (.slice (some ⟨pb, 0, none⟩) n cap) = C2 at *
        go_wp2_with (with_reducible refine stopS 34 _ _ rfl ?_)
        refine Lib.hid ?_
        refine wpList_store_only sB rfl _ _ rfl rfl rfl W1b.out HD1.out HD18.out (by rw [HC18.out]; omega) ?_
        intro w3 hv3 ho3
        rw [putL_all _ _ (by rw [HD18.out, HC18.out])] at hv3
        have hne : pb ≠ w.heap.size := var_ne PA.out W1b.out (by decide)
        have PB := Lib.hid (HBR.out w3 hv3 ⟨A1, ho3.var PA.out hne, PN.out, PNS.out⟩)
        have W2c := Lib.hid (ho3.var W2b.out (by omega))
        have B4 := Lib.hid (B3.out.trans (ho3.below (Nat.le_refl _) (by exact B3.out.size)))
        clear hv3 ho3 W1b W2b B3 PA PN PNS HBR HD1
        go_wp2_with fail
        go_loopw [6] (fun i wr => ∃ k : Nat, k ≤ n ∧ i = .int .i64 k ∧ Br wr D w.heap.size pb n cap (fun j => if j < k then (fun _ ys => bX 39 true (bX 29 false ys)) j (NS j) else NS j) ∧ Only pb w3 wr) (fun i _ => n - (intOf i).toNat)
        case atStart => exact ⟨0, Nat.zero_le _, rfl, PB.out.congr fun j _ => by rw [if_neg (by omega)], Only.refl _ _⟩
        case round =>
          obtain ⟨k, hk, rfl, hbk, hok⟩ := hrel
          have HBK := Lib.hid hbk
          have HOK := Lib.hid hok
          clear hok
          by_cases hlt : k < n
          · have c17k : wr.cell? ⟨w.heap.size, 17, none⟩ = some (.slice (some ⟨pb, 0, none⟩) n cap) := hbk.hb.cell 17
            obtain ⟨A, hA, hAn, -⟩ := hbk.ex
            have i0 := idx32b pb n cap k hlt
            have fz := hA.frozen
            have hs1 := hA.some (k := k * 90 + 29) (by omega)
            have hs2 := hA.some (k := k * 90 + 39) (by omega)
            clear hA hAn hbk
            have hb2 := Lib.hid (show Br ((wr.setCell ⟨pb, k * 90 + 29, none⟩ (.bool false)).setCell ⟨pb, k * 90 + 39, none⟩ (.bool true)) D w.heap.size pb n cap (fun j => if j < k + 1 then (fun _ ys => bX 39 true (bX 29 false ys)) j (NS j) else NS j) from
              Br.congr (HBK.out.mv hlt (((Mv.refl wr pb (k * 90) _).set 29 (by omega) (.bool false)).set 39 (by omega) (.bool true))) fun i hi => by
                unfold at1; exact upd_step (F := fun _ ys => bX 39 true (bX 29 false ys)) (by rw [if_neg (by omega)]; exact rfl) i hi)
            clear HBK
            go_wp2_with fail
            exact ⟨⟨k + 1, by omega, by go_num, hb2.out, (HOK.out.set _ _).set _ _⟩, meas_next hlt⟩
          · obtain rfl : n = k := by omega
            have c17k : wr.cell? ⟨w.heap.size, 17, none⟩ = some (.slice (some ⟨pb, 0, none⟩) n cap) := hbk.hb.cell 17
            have f16 := hbk.hb.some (k := 16) (by simp)
            have fz := hbk.hb.frozen
            have hF := Lib.hid (show VarAt (wr.setCell ⟨w.heap.size, 16, none⟩ (.int .i64 1)) w.heap.size (SB.cells (.slice (some ⟨pb, 0, none⟩) n cap)) 34 from by
              rw [HSB.out]; exact hbk.hb.set 16 _)
            have hG := Lib.hid (show ∃ A, VarAt (wr.setCell ⟨w.heap.size, 16, none⟩ (.int .i64 1)) pb A 50 ∧ n * 90 ≤ A.size ∧ ∀ i, i < n → Sub A (i * 90) (SR i) from by
              obtain ⟨A, hA, hAn, hAs⟩ := hbk.ex
              exact ⟨A, hA.set_other (p := ⟨w.heap.size, 16, none⟩) hne _, hAn, fun i hi => by rw [HSR2.out i]; have := hAs i hi; rw [if_pos hi] at this; exact this⟩)
            have hW := Lib.hid (show VarAt (wr.setCell ⟨w.heap.size, 16, none⟩ (.int .i64 1)) (w.heap.size + 1) Z 34 from
              (HOK.out.var W2c.out (fun h => by obtain ⟨A, hA, _⟩ := PB.out.ex; exact var_ne hA W2c.out (by decide) h.symm)).set_other (p := ⟨w.heap.size, 16, none⟩) (by simp) _)
            have hH := Lib.hid (show Below w.heap.size w (wr.setCell ⟨w.heap.size, 16, none⟩ (.int .i64 1)) from (B4.out.trans (HOK.out.below HPB.out B4.out.size)).setCell (p := ⟨w.heap.size, 16, none⟩) (Nat.le_refl _) _)
            clear HBK HOK hbk
            have HE18 := Lib.hid (show (SB.cells (.slice (some ⟨pb, 0, none⟩) n cap)).size = 18 by simp)
            have HE1 := Lib.hid (SB.one (s := .slice (some ⟨pb, 0, none⟩) n cap) rfl)
            go_upto_region 15 with fail
            generalize wr.setCell ⟨w.heap.size, 16, none⟩ (.int .i64 1) = w5 at *
            go_wp2_with (with_reducible refine stopL 34 _ rfl ?_)
            refine Lib.hid ?_
            refine wpList_load_whole uB rfl sB rfl _ rfl rfl (range_whole hF.out) HE18.out ?_
            refine wpList_store_only sB rfl _ _ rfl rfl rfl hW.out HE1.out HE18.out (by rw [zs.out]; omega) ?_
            intro w9 hv9 ho9
            rw [putL_all _ _ (by rw [zs.out, HE18.out])] at hv9
            have V9 := Lib.hid hv9
            have B9 := Lib.hid (hH.out.trans (ho9.below (by omega) hH.out.size))
            have G9 := Lib.hid (show ∃ A, VarAt w9 pb A 50 ∧ n * 90 ≤ A.size ∧ (∀ i, i < n → Sub A (i * 90) (SR i)) ∧ w.heap.size ≤ pb from by
              obtain ⟨A, a1, a2, a3⟩ := hG.out
              exact ⟨A, ho9.var a1 (var_ne a1 hW.out (by decide)), a2, a3, HPB.out⟩)
            clear hv9 ho9 hF hG hH hW
            go_wp2_with (with_reducible refine stopE ?_)
            refine Lib.hid ?_
            exact bodyPost_ret (v := .tuple #[.agg (SB.cells (.slice (some ⟨pb, 0, none⟩) n cap)), .bool true]) (results_pair (p := 2) (u := 3) rfl _ _ (w.heap.size + 1) 34 _ (0, 0) rfl V9.out HE18.out) rfl ⟨fun h => (by rw [hq] at h; cases h), fun _ => ⟨pb, cap, rfl, G9.out⟩, B9.out⟩
end Go.Proofs.Ytidgdanhnpfpmaa
