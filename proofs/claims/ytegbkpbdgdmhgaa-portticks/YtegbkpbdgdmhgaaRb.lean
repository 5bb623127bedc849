/- Contracts of the reference's Synced; of ReRooted, the program's and the reference's. -/
import Derived.Test.YtegbkpbdgdmhgaaR
namespace Go.Proofs.Ytegbkpbdgdmhgaa
open Go.RowKit Go.Sort

set_option maxHeartbeats 2000000 in
theorem refsynced_any (B : Bd) (s : Value) (n : Nat) (XS : Nat → Array Value) (w : World) (hs : PIn w s n XS) (ht : ∀ i, i < n → Typed (XS i)) (hn : n ≤ 20) :
    Calls Try.prog 16 #[.agg (B.cells s)] w fun e w' => e = .returned (.bool (allP (fun i => synX (XS i)) n)) ∧ Below w.heap.size w w' := by
  have hb := var_new w (B.cells s) 34
  have B0 := Lib.hid (box_below w (.cells (B.cells s) 34))
  have HT := Lib.hid ht
  have HP := Lib.hid (fun h => hs.pat h)
  obtain ⟨a, c, rfl, -, -⟩ := hs
  have HF := Lib.hid (fun k (hk : k < n) (h : synX (XS k) = false) => allP_false (f := fun i => synX (XS i)) hk h)
  have HS := Lib.hid (fun k => allP_succ (fun i => synX (XS i)) k)
  have HZ := Lib.hid (allP_zero (fun i => synX (XS i)))
  have HB := Lib.hid hb
  clear hb ht
  generalize allP (fun i => synX (XS i)) = AL at *
  go_enter Try.func16, Try.ntmps16
  go_wp2_with fail
  generalize w.alloc (.cells (B.cells (.slice a n c)) 34) = w0 at *
  go_loopw [3] (fun i wr => ∃ k : Nat, k ≤ n ∧ i = .int .i64 k ∧ AL k = true ∧ Below w0.heap.size w0 wr) (fun i _ => n - (intOf i).toNat)
  case atStart => exact ⟨0, Nat.zero_le _, rfl, HZ.out, Below.refl _ _⟩
  case round =>
    obtain ⟨k, hk, rfl, hal, hbw⟩ := hrel
    have HAL := Lib.hid hal
    have HBW := Lib.hid hbw
    have HBV := Lib.hid (HB.out.below HBW.out HB.out.lt)
    have HBB := Lib.hid (B0.out.trans (HBW.out.mono B0.out.size))
    have c17k : wr.cell? ⟨w.heap.size, 17, none⟩ = some (.slice a n c) := HBV.out.cell 17
    clear hal hbw
    by_cases hlt : k < n
    · obtain ⟨b, o, c', hsl, hpt⟩ := HP.out (by omega)
      obtain ⟨rfl, -, rfl⟩ := (by simpa using hsl : a = some ⟨b, o, none⟩ ∧ True ∧ c = c')
      have i0 := idx32o b o n c k hlt
      have hty := HT.out k hlt
      have hp := (hpt k hlt).below hty.1 HBB.out
      have hse := Lib.hid (show synX (XS k) = ((boolI (XS k) 39 && !boolI (XS k) 43 && (numI (XS k) 46 == numI (XS k) 47)) && ((numI (XS k) 46 == 1) || boolI (XS k) 42)) from rfl)
      have HST := Lib.hid (HS.out k)
      have HFF := Lib.hid (HF.out k hlt)
      have e39 := hty.bool 39 rfl
      have e43 := hty.bool 43 rfl
      have e42 := hty.bool 42 rfl
      have e46 := hty.num 46 rfl
      have e47 := hty.num 47 rfl
      have zp := zero48
      have zps := Lib.hid z48_size
      have HTY := Lib.hid hty
      have HXK := Lib.hid (hp.range hty.1)
      have hx := hty.1
      clear hpt hp hty
      generalize z48 = ZP at *
      go_wp2_with (with_reducible refine stopL 49 _ rfl ?_)
      refine Lib.hid ?_
      refine wpList_load_whole uP rfl sP rfl _ rfl rfl HXK.out hx ?_
      go_wp2_with (with_reducible refine stopS 49 _ _ rfl ?_)
      refine Lib.hid ?_
      clear zp
      refine wpList_store_only sP rfl _ _ rfl rfl rfl (var_new wr ZP 49) HTY.out.one hx (by rw [zps.out]; omega) ?_
      intro w4 hv4 ho4
      simp only [Act.put]
      rw [putL_all _ _ (by rw [zps.out, hx])] at hv4
      have hb4 : Below wr.heap.size wr w4 := (box_below wr _).trans (ho4.below (Nat.le_refl _) (by rw [alloc_size]; omega))
      have HB4 := Lib.hid (HBW.out.trans (hb4.mono HBW.out.size))
      have HBB4 := Lib.hid (HBB.out.trans (hb4.mono HBB.out.size))
      have c39 := hv4.cell 39
      rw [e39] at c39
      have c43 := hv4.cell 43
      rw [e43] at c43
      have c42 := hv4.cell 42
      rw [e42] at c42
      have c46 := hv4.cell 46
      rw [e46] at c46
      have c47 := hv4.cell 47
      rw [e47] at c47
      clear e39 e43 e42 e46 e47 hv4 ho4 hb4 HXK HTY hx c17k i0 HBW HBB HBV
      generalize synX (XS k) = SY at *
      generalize boolI (XS k) 39 = x39 at *
      generalize boolI (XS k) 43 = x43 at *
      generalize boolI (XS k) 42 = x42 at *
      generalize numI (XS k) 46 = x46 at *
      generalize numI (XS k) 47 = x47 at *
      cases x39
      · go_wp2_with fail
        go_ret
        exact ⟨ret_bool (HFF.out (by rw [hse.out]; rfl)).symm, HBB4.out⟩
      · cases x43
        · by_cases h2 : x46 = x47
          · subst h2
            have hd0 : (x46 != x46) = false := by simp
            by_cases h1 : x46 = 1
            · have hd : (x46 != 1) = false := by simp [h1]
              have HH1 := Lib.hid h1
              clear h1
              go_wp2_with fail
              exact ⟨⟨k + 1, by omega, by go_num, by rw [HST.out, HAL.out, hse.out, HH1.out]; rfl, HB4.out⟩, meas_next hlt⟩
            · have hd : (x46 != 1) = true := by simpa using h1
              have hd2 := Lib.hid (show (x46 == 1) = false by simpa using h1)
              clear h1
              cases x42
              · go_wp2_with fail
                go_ret
                exact ⟨ret_bool (HFF.out (by rw [hse.out, hd2.out]; simp)).symm, HBB4.out⟩
              · go_wp2_with fail
                exact ⟨⟨k + 1, by omega, by go_num, by rw [HST.out, HAL.out, hse.out, hd2.out]; simp, HB4.out⟩, meas_next hlt⟩
          · have hd0 : (x46 != x47) = true := by simpa using h2
            have hd3 := Lib.hid (show (x46 == x47) = false by simpa using h2)
            clear h2
            go_wp2_with fail
            go_ret
            exact ⟨ret_bool (HFF.out (by rw [hse.out, hd3.out]; rfl)).symm, HBB4.out⟩
        · go_wp2_with fail
          go_ret
          exact ⟨ret_bool (HFF.out (by rw [hse.out]; rfl)).symm, HBB4.out⟩
    · obtain rfl : k = n := by omega
      go_wp2_with fail
      go_ret
      exact ⟨ret_bool HAL.out.symm, HBB.out⟩
set_option maxHeartbeats 1000000 in
theorem rerooted_any (i : Int) (B : Bd) (s : Value) (bb n : Nat) (XS : Nat → Array Value) (w : World) (hb : VarAt w bb (B.cells s) 34) (hs : PIn w s n XS) (ht : ∀ i, i < n → Typed (XS i)) (hn : n ≤ 20) :
    Calls Try.prog 17 #[.pointer (some ⟨bb, 0, none⟩), .int .i64 i] w fun e w' => e = .returned (.bool (allP (fun k => rrX i k (XS k)) n)) ∧ w = w' := by
  have c17 : w.cell? ⟨bb, 17, none⟩ = some s := hb.cell 17
  have HT := Lib.hid ht
  have HP := Lib.hid (fun h => hs.pat h)
  obtain ⟨a, c, rfl, -, -⟩ := hs
  have HF := Lib.hid (fun k (hk : k < n) (h : rrX i k (XS k) = false) => allP_false (f := fun k => rrX i k (XS k)) hk h)
  have HS := Lib.hid (fun k => allP_succ (fun k => rrX i k (XS k)) k)
  have HZ := Lib.hid (allP_zero (fun k => rrX i k (XS k)))
  clear hb ht
  generalize allP (fun k => rrX i k (XS k)) = AL at *
  go_enter Try.func17, Try.ntmps17
  go_wp2_with fail
  go_loop [13] (fun i => ∃ k : Nat, k ≤ n ∧ i = .int .i64 k ∧ AL k = true) (fun i => n - (intOf i).toNat)
  case atStart => exact ⟨0, Nat.zero_le _, rfl, HZ.out⟩
  case round =>
    obtain ⟨k, hk, rfl, hal⟩ := hrel
    have HAL := Lib.hid hal
    clear hal
    by_cases hlt : k < n
    · obtain ⟨b, o, c', hsl, hpt⟩ := HP.out (by omega)
      obtain ⟨rfl, -, rfl⟩ := (by simpa using hsl : a = some ⟨b, o, none⟩ ∧ True ∧ c = c')
      have i0 := idx32o b o n c k hlt
      have hty := HT.out k hlt
      have c12 := hpt k hlt 12 (by omega)
      rw [hty.num 12 rfl] at c12
      have hse := Lib.hid (show rrX i k (XS k) = (((k : Int) == i) || (numI (XS k) 12 == 0)) from rfl)
      have HST := Lib.hid (HS.out k)
      have HFF := Lib.hid (HF.out k hlt)
      clear hpt hty
      generalize rrX i k (XS k) = SY at *
      generalize numI (XS k) 12 = x12 at *
      by_cases h2 : (k : Int) = i
      · have hd : ((k : Int) != i) = false := by simp [h2]
        have hd2 := Lib.hid (show ((k : Int) == i) = true by simp [h2])
        clear h2
        go_wp2_with fail
        exact ⟨⟨k + 1, by omega, by go_num, by rw [HST.out, HAL.out, hse.out, hd2.out]; rfl⟩, meas_next hlt⟩
      · have hd : ((k : Int) != i) = true := by simpa using h2
        have hd2 := Lib.hid (show ((k : Int) == i) = false by simpa using h2)
        clear h2
        by_cases h1 : x12 = 0
        · have hd3 : (x12 != 0) = false := by simp [h1]
          have hd4 := Lib.hid (show (x12 == 0) = true by simp [h1])
          clear h1
          go_wp2_with fail
          exact ⟨⟨k + 1, by omega, by go_num, by rw [HST.out, HAL.out, hse.out, hd2.out, hd4.out]; rfl⟩, meas_next hlt⟩
        · have hd3 : (x12 != 0) = true := by simpa using h1
          have hd4 := Lib.hid (show (x12 == 0) = false by simpa using h1)
          clear h1
          go_wp2_with fail
          go_ret
          exact ⟨ret_bool (HFF.out (by rw [hse.out, hd2.out, hd4.out]; rfl)).symm, rfl⟩
    · obtain rfl : k = n := by omega
      go_wp2_with fail
      go_ret
      exact ⟨ret_bool HAL.out.symm, rfl⟩
set_option maxHeartbeats 1000000 in
theorem refrerooted_any (i : Int) (B : Bd) (s : Value) (n : Nat) (XS : Nat → Array Value) (w : World) (hs : PIn w s n XS) (ht : ∀ i, i < n → Typed (XS i)) (hn : n ≤ 20) :
    Calls Try.prog 18 #[.agg (B.cells s), .int .i64 i] w fun e w' => e = .returned (.bool (allP (fun k => rrX i k (XS k)) n)) ∧ Below w.heap.size w w' := by
  have hx : ∀ i, i < n → (XS i).size = 90 := fun i hi => (ht i hi).1
  have c17 : (w.alloc (.cells (B.cells s) 34)).cell? ⟨w.heap.size, 17, none⟩ = some s := (var_new w (B.cells s) 34).cell 17
  have B0 := Lib.hid (box_below w (.cells (B.cells s) 34))
  have HT := Lib.hid ht
  have HP := Lib.hid (fun h => (hs.below hx B0.out).pat h)
  obtain ⟨a, c, rfl, -, -⟩ := hs
  have HF := Lib.hid (fun k (hk : k < n) (h : rrX i k (XS k) = false) => allP_false (f := fun k => rrX i k (XS k)) hk h)
  have HS := Lib.hid (fun k => allP_succ (fun k => rrX i k (XS k)) k)
  have HZ := Lib.hid (allP_zero (fun k => rrX i k (XS k)))
  clear ht hx
  generalize allP (fun k => rrX i k (XS k)) = AL at *
  go_enter Try.func18, Try.ntmps18
  go_wp2_with fail
  generalize w.alloc (.cells (B.cells (.slice a n c)) 34) = w0 at *
  go_loop [5] (fun i => ∃ k : Nat, k ≤ n ∧ i = .int .i64 k ∧ AL k = true) (fun i => n - (intOf i).toNat)
  case atStart => exact ⟨0, Nat.zero_le _, rfl, HZ.out⟩
  case round =>
    obtain ⟨k, hk, rfl, hal⟩ := hrel
    have HAL := Lib.hid hal
    clear hal
    by_cases hlt : k < n
    · obtain ⟨b, o, c', hsl, hpt⟩ := HP.out (by omega)
      obtain ⟨rfl, -, rfl⟩ := (by simpa using hsl : a = some ⟨b, o, none⟩ ∧ True ∧ c = c')
      have i0 := idx32o b o n c k hlt
      have hty := HT.out k hlt
      have c12 := hpt k hlt 12 (by omega)
      rw [hty.num 12 rfl] at c12
      have hse := Lib.hid (show rrX i k (XS k) = (((k : Int) == i) || (numI (XS k) 12 == 0)) from rfl)
      have HST := Lib.hid (HS.out k)
      have HFF := Lib.hid (HF.out k hlt)
      clear hpt hty
      generalize rrX i k (XS k) = SY at *
      generalize numI (XS k) 12 = x12 at *
      by_cases h2 : (k : Int) = i
      · have hd : ((k : Int) != i) = false := by simp [h2]
        have hd2 := Lib.hid (show ((k : Int) == i) = true by simp [h2])
        clear h2
        go_wp2_with fail
        exact ⟨⟨k + 1, by omega, by go_num, by rw [HST.out, HAL.out, hse.out, hd2.out]; rfl⟩, meas_next hlt⟩
      · have hd : ((k : Int) != i) = true := by simpa using h2
        have hd2 := Lib.hid (show ((k : Int) == i) = false by simpa using h2)
        clear h2
        by_cases h1 : x12 = 0
        · have hd3 : (x12 != 0) = false := by simp [h1]
          have hd4 := Lib.hid (show (x12 == 0) = true by simp [h1])
          clear h1
          go_wp2_with fail
          exact ⟨⟨k + 1, by omega, by go_num, by rw [HST.out, HAL.out, hse.out, hd2.out, hd4.out]; rfl⟩, meas_next hlt⟩
        · have hd3 : (x12 != 0) = true := by simpa using h1
          have hd4 := Lib.hid (show (x12 == 0) = false by simpa using h1)
          clear h1
          go_wp2_with fail
          go_ret
          exact ⟨ret_bool (HFF.out (by rw [hse.out, hd2.out, hd4.out]; rfl)).symm, B0.out⟩
    · obtain rfl : k = n := by omega
      go_wp2_with fail
      go_ret
      exact ⟨ret_bool HAL.out.symm, B0.out⟩
end Go.Proofs.Ytegbkpbdgdmhgaa
