/- Contracts of selectRoles, Start and Step. -/
import Derived.Test.YtidgdanhnpfpmaaWa
import Derived.Test.YtidgdanhnpfpmaaZ
import Derived.Test.YtidgdanhnpfpmaaRa
namespace Go.Proofs.Ytidgdanhnpfpmaa
open Go.RowKit Go.Sort

/-- A Bool of a port is set or cleared. -/
def bX (j : Nat) (b : Bool) (xs : Array Value) : Array Value := putL xs j [.bool b]
/-- A port's selected role is Disabled. -/
def dX (xs : Array Value) : Array Value := putL xs 47 [.int .i64 0]
theorem bX_typed {xs : Array Value} (h : Typed xs) (j : Nat) (b : Bool) (hj : kinds[j]? = some none) : Typed (bX j b xs) := by
  refine h.put j _ fun k q x hq hx => ?_
  have hk : k = 0 := by have := (List.getElem?_eq_some_iff.1 hx).1; simpa using this
  subst hk
  rw [Nat.add_zero, hj] at hq
  cases hq
  simp at hx
  exact ⟨b, hx.symm⟩
theorem dX_typed {xs : Array Value} (h : Typed xs) : Typed (dX xs) := by
  refine h.put 47 _ fun k q x hq hx => ?_
  have hk : k = 0 := by have := (List.getElem?_eq_some_iff.1 hx).1; simpa using this
  subst hk
  rw [Nat.add_zero, show kinds[47]? = some (some .i64) from rfl] at hq
  cases hq
  simp at hx
  exact ⟨0, hx.symm⟩
theorem put1_at (xs : Array Value) (j : Nat) (v : Value) (k : Nat) (h : k ≠ j) : (putL xs j [v])[k]? = xs[k]? := by
  rw [putL_at, if_neg (by simp; omega)]
theorem put1_in {x : Pd} {xs : Array Value} (h : x.In xs) (j : Nat) (v : Value) (hj : j ≠ 0 ∧ j ≠ 1 ∧ j ≠ 44 ∧ (j < 56 ∨ 59 < j) ∧ (j < 68 ∨ 71 < j)) : x.In (putL xs j [v]) := by
  have e : ∀ k, k ≠ j → (putL xs j [v])[k]? = xs[k]? := put1_at xs j v
  exact ⟨by rw [putL_size]; exact h.size, by rw [e 0 (by omega)]; exact h.id, by rw [e 1 (by omega)]; exact h.cost, by rw [e 44 (by omega)]; exact h.info,
    by rw [e 56 (by omega)]; exact h.vr, by rw [e 57 (by omega)]; exact h.vc, by rw [e 58 (by omega)]; exact h.vb, by rw [e 59 (by omega)]; exact h.vp,
    by rw [e 68 (by omega)]; exact h.a, by rw [e 69 (by omega)]; exact h.m, by rw [e 70 (by omega)]; exact h.h, by rw [e 71 (by omega)]; exact h.d,
    h.lid, h.lcost, h.lvr, h.lvc, h.lvb, h.lvp⟩
theorem bX_in {x : Pd} {xs : Array Value} (h : x.In xs) (j : Nat) (b : Bool) (hj : j ≠ 0 ∧ j ≠ 1 ∧ j ≠ 44 ∧ (j < 56 ∨ 59 < j) ∧ (j < 68 ∨ 71 < j)) : x.In (bX j b xs) := put1_in h j _ hj
theorem dX_in {x : Pd} {xs : Array Value} (h : x.In xs) : x.In (dX xs) := put1_in h 47 _ (by omega)
theorem upd_step {n k : Nat} {F : Nat → Array Value → Array Value} {XS : Nat → Array Value} {ys : Array Value} (hy : ys = F k (XS k)) (i : Nat) (_ : i < n) : (if i = k then ys else if i < k then F i (XS i) else XS i) = if i < k + 1 then F i (XS i) else XS i := by
  by_cases e : i = k
  · subst e; rw [if_pos rfl, if_pos (by omega), hy]
  · rw [if_neg e]
    by_cases e2 : i < k
    · rw [if_pos e2, if_pos (by omega)]
    · rw [if_neg e2, if_neg (by omega)]
/-- What becomes of a bridge, and of its ports, as roles are selected. -/
def selB (B : Bd) (X : Nat → Pd) (n : Nat) : Bd := { rootB B X (rootI X B.id n) with ps := 1 }
def selP (B : Bd) (X : Nat → Pd) (n : Nat) (XS : Nat → Array Value) (i : Nat) : Array Value :=
  bX 39 true (newP (rootB B X (rootI X B.id n)) (X i) ((i : Int) == rootI X B.id n) (bX 29 false (XS i)))
theorem selP_typed {B : Bd} {X : Nat → Pd} {n : Nat} {XS : Nat → Array Value} {i : Nat} (h : Typed (XS i)) : Typed (selP B X n XS i) :=
  bX_typed (newP_typed (bX_typed h 29 false rfl)) 39 true rfl
set_option maxRecDepth 20000 in
set_option maxHeartbeats 2000000 in
theorem select_any (B : Bd) (bb pb n cap : Nat) (XS : Nat → Array Value) (X : Nat → Pd) (w : World) (hB : Br w B bb pb n cap XS) (hp : ∀ i, i < n → (X i).In (XS i) ∧ Typed (XS i)) (hn : n ≤ 20) (hid : B.id < 18446744073709551616) :
    Calls Try.prog 20 #[.pointer (some ⟨bb, 0, none⟩)] w fun e w' => e = .returned (.tuple #[]) ∧ Br w' (selB B X n) bb pb n cap (selP B X n XS) ∧ Only2 bb pb w w' := by
  have c17 : w.cell? ⟨bb, 17, none⟩ = some (.slice (some ⟨pb, 0, none⟩) n cap) := hB.hb.cell 17
  have HB := Lib.hid hB
  have HP := Lib.hid hp
  have HID := Lib.hid hid
  have HSP := Lib.hid (show ∀ i, selP B X n XS i = bX 39 true (newP (rootB B X (rootI X B.id n)) (X i) ((i : Int) == rootI X B.id n) (bX 29 false (XS i))) from fun _ => rfl)
  have HSB := Lib.hid (show selB B X n = { rootB B X (rootI X B.id n) with ps := 1 } from rfl)
  generalize selB B X n = SB at *
  generalize selP B X n XS = SP at *
  clear hB hp hid
  go_enter Try.func20, Try.ntmps20
  go_wp2_with fail
  go_loopw [9] (fun c wr => ∃ k : Nat, k ≤ n ∧ c = .int .i64 k ∧ Br wr B bb pb n cap (fun j => if j < k then (fun _ => bX 29 false) j (XS j) else XS j) ∧ Only pb w wr) (fun c _ => n - (intOf c).toNat)
  case atStart => exact ⟨0, Nat.zero_le _, rfl, HB.out.congr fun j _ => by rw [if_neg (by omega)], Only.refl _ _⟩
  case round =>
    obtain ⟨k, hk, rfl, hbk, hok⟩ := hrel
    by_cases hlt : k < n
    · have c17k : wr.cell? ⟨bb, 17, none⟩ = some (.slice (some ⟨pb, 0, none⟩) n cap) := hbk.hb.cell 17
      obtain ⟨A, hA, hAn, hAs⟩ := hbk.ex
      have i0 := idx32b pb n cap k hlt
      have fz := hA.frozen
      have hx := (fun i hi => (HP.out i hi).2.1) k hlt
      have hs1 := hA.some (k := k * 90 + 29) (by omega)
      have HBK := Lib.hid hbk
      have HOK := Lib.hid hok
      have HS := Lib.hid (subs_put (j := 29) (l := [.bool false]) hAs hAn hlt (by rw [if_neg (by omega)]; exact hx) (by simp))
      have HAN := Lib.hid hAn
      have HA := Lib.hid hA
      clear hA hAn hAs hbk hok hx
      have hb2 := Lib.hid (show Br (wr.setCell ⟨pb, k * 90 + 29, none⟩ (.bool false)) B bb pb n cap (fun j => if j < k + 1 then (fun _ => bX 29 false) j (XS j) else XS j) from
        Br.congr ⟨(((Only.refl pb wr).set _ _).var HBK.out.hb HBK.out.ne), _, HA.out.set _ _, by rw [Array.size_setIfInBounds]; exact HAN.out, HS.out⟩ (upd_step (F := (fun _ => bX 29 false)) (by rw [if_neg (by omega)]; exact rfl)))
      clear HS HBK HA
      go_wp2_with fail
      exact ⟨⟨k + 1, by omega, by go_num, hb2.out, HOK.out.set _ _⟩, meas_next hlt⟩
    · obtain rfl : n = k := by omega
      have HBK := Lib.hid (hbk.congr (YS := fun j => bX 29 false (XS j)) fun j hj => if_pos hj)
      have HOK := Lib.hid hok
      clear hbk hok
      obtain ⟨A, hA, hAn, hAs⟩ := HBK.out.ex
      have kU := Lib.hid (update_any B bb pb n cap A (fun i => bX 29 false (XS i)) X wr HBK.out.hb hA (fun i hi => ⟨hAs i hi, bX_in (HP.out i hi).1 29 false (by omega), bX_typed (HP.out i hi).2 29 false rfl⟩) hAn hn HID.out)
      clear hA hAs
      go_wp2_with fail
      refine kU.out.mono ?_
      rintro e w2 ⟨rfl, ⟨hub, A1, hua, hsz, hus, _⟩, hb⟩
      have hBr : Br w2 (rootB B X (rootI X B.id n)) bb pb n cap (fun i => newP (rootB B X (rootI X B.id n)) (X i) ((i : Int) == rootI X B.id n) (bX 29 false (XS i))) := ⟨hub, A1, hua, by rw [hsz]; exact hAn, hus⟩
      have HW2 := Lib.hid ((HOK.out.right bb).trans hb)
      clear hub hua hsz hus hb hAn HBK HOK HID HB kU
      obtain ⟨NS, hNS⟩ : ∃ NS : Nat → Array Value, ∀ i, newP (rootB B X (rootI X B.id n)) (X i) ((i : Int) == rootI X B.id n) (bX 29 false (XS i)) = NS i := ⟨_, fun _ => rfl⟩
      have HSP2 := Lib.hid (show ∀ i, SP i = bX 39 true (NS i) from fun i => by rw [← hNS]; exact HSP.out i)
      have HNZ := Lib.hid (show ∀ i, i < n → (NS i).size = 90 from fun i hi => by rw [← hNS, newP_size]; exact (bX_typed (HP.out i hi).2 29 false rfl).1)
      have hBr2 : Br w2 (rootB B X (rootI X B.id n)) bb pb n cap NS := hBr.congr fun i _ => hNS i
      clear hNS hBr HP HSP
      generalize rootB B X (rootI X B.id n) = D at *
      have c17b : w2.cell? ⟨bb, 17, none⟩ = some (.slice (some ⟨pb, 0, none⟩) n cap) := hBr2.hb.cell 17
      have HB := Lib.hid hBr2
      clear hBr2
      go_wp2_with fail
      go_loopw [27] (fun c wr => ∃ k : Nat, k ≤ n ∧ c = .int .i64 k ∧ Br wr D bb pb n cap (fun j => if j < k then (fun _ => bX 39 true) j (NS j) else NS j) ∧ Only pb w2 wr) (fun c _ => n - (intOf c).toNat)
      case atStart => exact ⟨0, Nat.zero_le _, rfl, HB.out.congr fun j _ => by rw [if_neg (by omega)], Only.refl _ _⟩
      case round =>
        obtain ⟨k, hk, rfl, hbk, hok⟩ := hrel
        by_cases hlt : k < n
        · have c17k : wr.cell? ⟨bb, 17, none⟩ = some (.slice (some ⟨pb, 0, none⟩) n cap) := hbk.hb.cell 17
          obtain ⟨A, hA, hAn, hAs⟩ := hbk.ex
          have i0 := idx32b pb n cap k hlt
          have fz := hA.frozen
          have hx := HNZ.out k hlt
          have hs1 := hA.some (k := k * 90 + 39) (by omega)
          have HBK := Lib.hid hbk
          have HOK := Lib.hid hok
          have HS := Lib.hid (subs_put (j := 39) (l := [.bool true]) hAs hAn hlt (by rw [if_neg (by omega)]; exact hx) (by simp))
          have HAN := Lib.hid hAn
          have HA := Lib.hid hA
          clear hA hAn hAs hbk hok hx
          have hb2 := Lib.hid (show Br (wr.setCell ⟨pb, k * 90 + 39, none⟩ (.bool true)) D bb pb n cap (fun j => if j < k + 1 then (fun _ => bX 39 true) j (NS j) else NS j) from
            Br.congr ⟨(((Only.refl pb wr).set _ _).var HBK.out.hb HBK.out.ne), _, HA.out.set _ _, by rw [Array.size_setIfInBounds]; exact HAN.out, HS.out⟩ (upd_step (F := (fun _ => bX 39 true)) (by rw [if_neg (by omega)]; exact rfl)))
          clear HS HBK HA
          go_wp2_with fail
          exact ⟨⟨k + 1, by omega, by go_num, hb2.out, HOK.out.set _ _⟩, meas_next hlt⟩
        · obtain rfl : n = k := by omega
          have HBK := Lib.hid (hbk.congr (YS := fun j => bX 39 true (NS j)) fun j hj => if_pos hj)
          have HOK := Lib.hid hok
          clear hbk hok
          have f16 := HBK.out.hb.some (k := 16) (by simp)
          have fz := HBK.out.hb.frozen
          have hF := Lib.hid (show Br (wr.setCell ⟨bb, 16, none⟩ (.int .i64 1)) SB bb pb n cap SP from by
            obtain ⟨A, hA, hAn, hAs⟩ := HBK.out.ex
            rw [HSB.out]
            exact ⟨HBK.out.hb.set 16 _, A, hA.set_other (p := ⟨bb, 16, none⟩) (Ne.symm HBK.out.ne) _, hAn, fun i hi => by rw [HSP2.out i]; exact hAs i hi⟩)
          have hG := Lib.hid (show Only2 bb pb w (wr.setCell ⟨bb, 16, none⟩ (.int .i64 1)) from HW2.out.trans ((HOK.out.right bb).trans (((Only.refl bb wr).set 16 _).left pb)))
          clear HBK HOK
          go_wp2_with fail
          go_end0
          exact ⟨rfl, hF.out, hG.out⟩
theorem start_nil (w : World) : Calls Try.prog 13 #[.pointer none] w fun e w' => e = .returned (.tuple #[]) ∧ w = w' := by
  go_enter Try.func13, Try.ntmps13
  go_wp2_with fail
  exact bodyPost_ret (v := .tuple #[]) (by simp [results, Try.results13, go_sem]) rfl ⟨rfl, rfl⟩
theorem step_nil (w : World) : Calls Try.prog 8 #[.pointer none] w fun e w' => e = .returned (.bool false) ∧ w = w' := by
  go_enter Try.func8, Try.ntmps8
  go_wp2_with fail
  go_ret
  exact ⟨rfl, rfl⟩
set_option maxRecDepth 20000 in
set_option maxHeartbeats 2000000 in
theorem start_any (B : Bd) (bb pb n cap : Nat) (XS : Nat → Array Value) (X : Nat → Pd) (w : World) (hB : Br w B bb pb n cap XS) (hp : ∀ i, i < n → (X i).In (XS i) ∧ Typed (XS i)) (hn : n ≤ 20) (hid : B.id < 18446744073709551616) :
    Calls Try.prog 13 #[.pointer (some ⟨bb, 0, none⟩)] w fun e w' => e = .returned (.tuple #[]) ∧ Br w' (selB B X n) bb pb n cap (selP B X n (fun i => dX (XS i))) ∧ Only2 bb pb w w' := by
  have c17 : w.cell? ⟨bb, 17, none⟩ = some (.slice (some ⟨pb, 0, none⟩) n cap) := hB.hb.cell 17
  have HB := Lib.hid hB
  have HP := Lib.hid hp
  have HID := Lib.hid hid
  clear hB hp hid
  go_enter Try.func13, Try.ntmps13
  go_wp2_with fail
  go_loopw [10] (fun c wr => ∃ k : Nat, k ≤ n ∧ c = .int .i64 k ∧ Br wr B bb pb n cap (fun j => if j < k then (fun _ => dX) j (XS j) else XS j) ∧ Only pb w wr) (fun c _ => n - (intOf c).toNat)
  case atStart => exact ⟨0, Nat.zero_le _, rfl, HB.out.congr fun j _ => by rw [if_neg (by omega)], Only.refl _ _⟩
  case round =>
    obtain ⟨k, hk, rfl, hbk, hok⟩ := hrel
    by_cases hlt : k < n
    · have c17k : wr.cell? ⟨bb, 17, none⟩ = some (.slice (some ⟨pb, 0, none⟩) n cap) := hbk.hb.cell 17
      obtain ⟨A, hA, hAn, hAs⟩ := hbk.ex
      have i0 := idx32b pb n cap k hlt
      have fz := hA.frozen
      have hx := (fun i hi => (HP.out i hi).2.1) k hlt
      have hs1 := hA.some (k := k * 90 + 47) (by omega)
      have HBK := Lib.hid hbk
      have HOK := Lib.hid hok
      have HS := Lib.hid (subs_put (j := 47) (l := [.int .i64 0]) hAs hAn hlt (by rw [if_neg (by omega)]; exact hx) (by simp))
      have HAN := Lib.hid hAn
      have HA := Lib.hid hA
      clear hA hAn hAs hbk hok hx
      have hb2 := Lib.hid (show Br (wr.setCell ⟨pb, k * 90 + 47, none⟩ (.int .i64 0)) B bb pb n cap (fun j => if j < k + 1 then (fun _ => dX) j (XS j) else XS j) from
        Br.congr ⟨(((Only.refl pb wr).set _ _).var HBK.out.hb HBK.out.ne), _, HA.out.set _ _, by rw [Array.size_setIfInBounds]; exact HAN.out, HS.out⟩ (upd_step (F := (fun _ => dX)) (by rw [if_neg (by omega)]; exact rfl)))
      clear HS HBK HA
      go_wp2_with fail
      exact ⟨⟨k + 1, by omega, by go_num, hb2.out, HOK.out.set _ _⟩, meas_next hlt⟩
    · obtain rfl : n = k := by omega
      have HBK := Lib.hid (hbk.congr (YS := fun j => dX (XS j)) fun j hj => if_pos hj)
      have HOK := Lib.hid hok
      clear hbk hok
      have kS := Lib.hid (select_any B bb pb n cap (fun i => dX (XS i)) X wr HBK.out (fun i hi => ⟨dX_in (HP.out i hi).1, dX_typed (HP.out i hi).2⟩) hn HID.out)
      go_wp2_with fail
      refine kS.out.mono ?_
      rintro e w2 ⟨rfl, hbr, hb⟩
      have HR := Lib.hid hbr
      have HW := Lib.hid ((HOK.out.right bb).trans hb)
      clear hbr hb kS HBK
      go_wp2_with fail
      go_end0
      exact ⟨rfl, HR.out, HW.out⟩
theorem step_no (B : Bd) (bb pb n cap : Nat) (XS : Nat → Array Value) (w : World) (hB : Br w B bb pb n cap XS) (ht : ∀ i, i < n → Typed (XS i)) (hn : n ≤ 20) (h : anyR XS n = false) :
    Calls Try.prog 8 #[.pointer (some ⟨bb, 0, none⟩)] w fun e w' => e = .returned (.bool false) ∧ Below w.heap.size w w' := by
  have c17 : w.cell? ⟨bb, 17, none⟩ = some (.slice (some ⟨pb, 0, none⟩) n cap) := hB.hb.cell 17
  obtain ⟨A, hA, hAn, hAs⟩ := hB.ex
  have kC := contains_any pb n cap A XS w hA hAs ht hn
  rw [h] at kC
  have KC := Lib.hid kC
  clear kC hA hAs hAn hB h
  go_enter Try.func8, Try.ntmps8
  go_wp2_with fail
  refine KC.out.mono ?_
  rintro e w1 ⟨rfl, hb⟩
  have HW := Lib.hid hb
  clear hb KC
  go_wp2_with fail
  go_ret
  exact ⟨rfl, HW.out⟩
theorem step_yes (B : Bd) (bb pb n cap Bl : Nat) (XS : Nat → Array Value) (X : Nat → Pd) (w : World) (hB : Br w B bb pb n cap XS) (hp : ∀ i, i < n → (X i).In (XS i) ∧ Typed (XS i)) (hn : n ≤ 20) (hid : B.id < 18446744073709551616) (hB1 : Bl ≤ bb) (hB2 : Bl ≤ pb) (h : anyR XS n = true) :
    Calls Try.prog 8 #[.pointer (some ⟨bb, 0, none⟩)] w fun e w' => e = .returned (.bool true) ∧ Br w' (selB B X n) bb pb n cap (selP B X n XS) ∧ Below Bl w w' := by
  have c17 : w.cell? ⟨bb, 17, none⟩ = some (.slice (some ⟨pb, 0, none⟩) n cap) := hB.hb.cell 17
  obtain ⟨A, hA, hAn, hAs⟩ := hB.ex
  have kC := contains_any pb n cap A XS w hA hAs (fun i hi => (hp i hi).2) hn
  rw [h] at kC
  have KC := Lib.hid kC
  have hl := hB.hb.lt
  have HL0 := Lib.hid (Nat.le_trans hB1 (Nat.le_of_lt hl))
  have HB := Lib.hid hB
  have kS := Lib.hid (fun w' hb' => select_any B bb pb n cap XS X w' hb' hp hn hid)
  clear kC hA hAs hAn hB h hl hp hid
  go_enter Try.func8, Try.ntmps8
  go_wp2_with fail
  refine KC.out.mono ?_
  rintro e w1 ⟨rfl, hb⟩
  have kS1 := Lib.hid (kS.out w1 (HB.out.below hb))
  have HW := Lib.hid (hb.mono HL0.out)
  clear hb KC kS
  go_wp2_with fail
  refine kS1.out.mono ?_
  rintro e w2 ⟨rfl, hbr, hb⟩
  have HR := Lib.hid hbr
  have HW2 := Lib.hid (HW.out.trans (hb.below hB1 hB2 (Nat.le_trans HL0.out HW.out.size)))
  clear hbr hb kS1
  go_wp2_with fail
  go_ret
  exact ⟨rfl, HR.out, HW2.out⟩
end Go.Proofs.Ytidgdanhnpfpmaa
