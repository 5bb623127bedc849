/- Contracts of Synced and ReRooted, the program's and the reference's. -/
import Derived.Test.YtegbkpbdgdmhgaaP
namespace Go.Proofs.Ytegbkpbdgdmhgaa
open Go.RowKit Go.Sort

/-- A Bool among a port's cells. -/
def boolI (xs : Array Value) (k : Nat) : Bool := match xs[k]? with | some (.bool b) => b | _ => false
theorem Typed.bool {xs : Array Value} (h : Typed xs) (k : Nat) (hk : kinds[k]? = some none) : xs[k]? = some (.bool (boolI xs k)) := by
  have hlt : k < xs.size := by rw [h.1, ← kinds_len]; exact (List.getElem?_eq_some_iff.1 hk).1
  obtain ⟨n, hn⟩ := h.2 k _ xs[k] hk (Array.getElem?_eq_getElem hlt)
  unfold boolI
  rw [Array.getElem?_eq_getElem hlt, hn]
/-- Has a port the role that it should have? -/
def setX (xs : Array Value) : Bool := boolI xs 39 && !boolI xs 43 && (numI xs 46 == numI xs 47)
/-- .. and is it the root port, or synced? -/
def synX (xs : Array Value) : Bool := setX xs && ((numI xs 46 == 1) || boolI xs 42)
/-- All of the first n. -/
def allP (f : Nat → Bool) (n : Nat) : Bool := (List.range n).all f
theorem allP_zero (f : Nat → Bool) : allP f 0 = true := rfl
theorem allP_succ (f : Nat → Bool) (n : Nat) : allP f (n + 1) = (allP f n && f n) := by simp [allP, List.range_succ]
theorem allP_false {f : Nat → Bool} {k n : Nat} (hk : k < n) (h : f k = false) : allP f n = false := by
  simp only [allP, List.all_eq_false, List.mem_range]
  exact ⟨k, hk, by simp [h]⟩
/-- Was a port, but for one, not the root lately? -/
def rrX (i : Int) (k : Nat) (xs : Array Value) : Bool := ((k : Int) == i) || (numI xs 12 == 0)

/-- A port lies in memory from a place on. -/
def PAt (w : World) (b o : Nat) (xs : Array Value) : Prop := ∀ k, k < 90 → w.cell? ⟨b, o + k, none⟩ = xs[k]?
theorem PAt.drewN {w : World} {b o : Nat} {xs : Array Value} (h : PAt w b o xs) (n : Nat) : PAt (w.drewN n) b o xs := h
theorem PAt.below {w w' : World} {b o : Nat} {xs : Array Value} (h : PAt w b o xs) (hx : xs.size = 90) (hb : Below w.heap.size w w') : PAt w' b o xs := fun k hk => by
  have h0 := h k hk
  rw [Array.getElem?_eq_getElem (by omega)] at h0 ⊢
  exact cell_below hb h0
theorem PAt.range {w : World} {b o : Nat} {xs : Array Value} (h : PAt w b o xs) (hx : xs.size = 90) : w.rangeAt b o xs.toList := fun j v hj => by
  have hj' : j < 90 := by rw [← hx]; simpa using (List.getElem?_eq_some_iff.1 hj).1
  rw [h j hj']; simpa using hj
theorem Sub.pat {w : World} {b o : Nat} {A xs : Array Value} {t : TypeId} (hs : Sub A o xs) (hA : VarAt w b A t) : PAt w b o xs := fun k hk => by rw [hA.cell]; exact hs k hk
theorem PIn.pat {w : World} {s : Value} {n : Nat} {XS : Nat → Array Value} (h : PIn w s n XS) (hn : 0 < n) : ∃ b o c, s = .slice (some ⟨b, o, none⟩) n c ∧ ∀ i, i < n → PAt w b (o + i * 90) (XS i) := by
  obtain ⟨a, c, rfl, _, h1⟩ := h
  obtain ⟨b, o, rfl, hc⟩ := h1 hn
  exact ⟨b, o, c, rfl, hc⟩
theorem below_dn (B : Nat) (w : World) (n : Nat) : Below B w (w.drewN n) := ⟨rfl, rfl, rfl, Nat.le_refl _, fun _ _ => rfl⟩

set_option maxHeartbeats 1000000 in
theorem settled_any (pb o : Nat) (xs : Array Value) (w : World) (hp : PAt w pb o xs) (ht : Typed xs) : Calls Try.prog 29 #[.pointer (some ⟨pb, o, none⟩)] w fun e w' => e = .returned (.bool (setX xs)) ∧ Below w.heap.size w w' := by
  have e39 := ht.bool 39 rfl
  have e43 := ht.bool 43 rfl
  have e46 := ht.num 46 rfl
  have e47 := ht.num 47 rfl
  have c39 : ∀ n, (w.drewN n).cell? ⟨pb, o + 39, none⟩ = some (.bool (boolI xs 39)) := fun n => by rw [hp.drewN n 39 (by omega), e39]
  have c43 : ∀ n, (w.drewN n).cell? ⟨pb, o + 43, none⟩ = some (.bool (boolI xs 43)) := fun n => by rw [hp.drewN n 43 (by omega), e43]
  have c46 : ∀ n, (w.drewN n).cell? ⟨pb, o + 46, none⟩ = some (.int .i64 (numI xs 46)) := fun n => by rw [hp.drewN n 46 (by omega), e46]
  have c47 : ∀ n, (w.drewN n).cell? ⟨pb, o + 47, none⟩ = some (.int .i64 (numI xs 47)) := fun n => by rw [hp.drewN n 47 (by omega), e47]
  unfold setX
  clear hp ht e39 e43 e46 e47
  generalize boolI xs 39 = x39 at *
  generalize boolI xs 43 = x43 at *
  generalize numI xs 46 = x46 at *
  generalize numI xs 47 = x47 at *
  cases x39
  · go_enter Try.func29, Try.ntmps29
    go_wp2_with fail
    go_quiet (fail)
    go_wp2
    go_ret
    exact ⟨rfl, below_dn _ _ _⟩
  · cases x43
    · go_enter Try.func29, Try.ntmps29
      go_wp2_with fail
      go_quiet (fail)
      go_wp2
      go_ret
      exact ⟨by simp, below_dn _ _ _⟩
    · go_enter Try.func29, Try.ntmps29
      go_wp2_with fail
      go_quiet (fail)
      go_wp2
      go_ret
      exact ⟨by simp, below_dn _ _ _⟩
theorem idx32o (b o n c k : Nat) (h : k < n) (w : World) : (Instr.indexAt 32 (.slice (some ⟨b, o, none⟩) n c) (.int .i64 k)).run Try.prog w = .ok (.pointer (some ⟨b, o + k * 90, none⟩)) w := idx32 b o n c k h w
set_option maxHeartbeats 1000000 in
theorem synced_any (B : Bd) (s : Value) (bb n : Nat) (XS : Nat → Array Value) (w : World) (hb : VarAt w bb (B.cells s) 34) (hs : PIn w s n XS) (ht : ∀ i, i < n → Typed (XS i)) (hn : n ≤ 20) :
    Calls Try.prog 15 #[.pointer (some ⟨bb, 0, none⟩)] w fun e w' => e = .returned (.bool (allP (fun i => synX (XS i)) n)) ∧ Below w.heap.size w w' := by
  have c17 : w.cell? ⟨bb, 17, none⟩ = some s := hb.cell 17
  have HB := Lib.hid hb
  have HT := Lib.hid ht
  have HP := Lib.hid (fun h => hs.pat h)
  obtain ⟨a, c, rfl, -, -⟩ := hs
  have HF := Lib.hid (fun k (hk : k < n) (h : synX (XS k) = false) => allP_false (f := fun i => synX (XS i)) hk h)
  have HS := Lib.hid (fun k => allP_succ (fun i => synX (XS i)) k)
  have HZ := Lib.hid (allP_zero (fun i => synX (XS i)))
  clear hb ht
  generalize allP (fun i => synX (XS i)) = AL at *
  go_enter Try.func15, Try.ntmps15
  go_wp2_with fail
  go_loopw [12] (fun i wr => ∃ k : Nat, k ≤ n ∧ i = .int .i64 k ∧ AL k = true ∧ Below w.heap.size w wr) (fun i _ => n - (intOf i).toNat)
  case atStart => exact ⟨0, Nat.zero_le _, rfl, HZ.out, Below.refl _ _⟩
  case round =>
    obtain ⟨k, hk, rfl, hal, hbw⟩ := hrel
    have HAL := Lib.hid hal
    have HBW := Lib.hid hbw
    clear hal hbw
    by_cases hlt : k < n
    · obtain ⟨b, o, c', hsl, hpt⟩ := HP.out (by omega)
      obtain ⟨rfl, -, rfl⟩ := (by simpa using hsl : a = some ⟨b, o, none⟩ ∧ True ∧ c = c')
      have c17k : wr.cell? ⟨bb, 17, none⟩ = some (.slice (some ⟨b, o, none⟩) n c) := (HB.out.below HBW.out HB.out.lt).cell 17
      have i0 := idx32o b o n c k hlt
      have hty := HT.out k hlt
      have hp := (hpt k hlt).below hty.1 HBW.out
      have kc := Lib.hid (settled_any b (o + k * 90) (XS k) wr hp hty)
      have hse := Lib.hid (show synX (XS k) = (setX (XS k) && ((numI (XS k) 46 == 1) || boolI (XS k) 42)) from rfl)
      have hst := HS.out k
      have hff := HF.out k hlt
      have e46 := hty.num 46 rfl
      have e42 := hty.bool 42 rfl
      have HPA := Lib.hid (fun w1 (hb1 : Below wr.heap.size wr w1) => (⟨by rw [hp.below hty.1 hb1 46 (by omega), e46], by rw [hp.below hty.1 hb1 42 (by omega), e42]⟩ : w1.cell? ⟨b, o + k * 90 + 46, none⟩ = some (.int .i64 (numI (XS k) 46)) ∧ w1.cell? ⟨b, o + k * 90 + 42, none⟩ = some (.bool (boolI (XS k) 42))))
      have HST := Lib.hid hst
      have HFF := Lib.hid hff
      clear hp hty e46 e42 hpt hst hff
      generalize synX (XS k) = SY at *
      generalize setX (XS k) = ST at *
      generalize numI (XS k) 46 = x46 at *
      generalize boolI (XS k) 42 = x42 at *
      go_wp2_with fail
      refine kc.out.mono ?_
      rintro e w1 ⟨rfl, hb1⟩
      obtain ⟨g46, g42⟩ := HPA.out w1 hb1
      have HB1 := Lib.hid (HBW.out.trans (hb1.mono HBW.out.size))
      clear hb1 kc HPA c17k i0
      cases ST
      · go_wp2_with fail
        go_ret
        exact ⟨ret_bool (HFF.out (by rw [hse.out]; rfl)).symm, HB1.out⟩
      · by_cases h1 : x46 = 1
        · have hd : (x46 != 1) = false := by simp [h1]
          have HH1 := Lib.hid h1
          clear h1
          go_wp2_with fail
          exact ⟨⟨k + 1, by omega, by go_num, by rw [HST.out, HAL.out, hse.out, HH1.out]; rfl, HB1.out⟩, meas_next hlt⟩
        · have hd : (x46 != 1) = true := by simpa using h1
          have hd2 := Lib.hid (show (x46 == 1) = false by simpa using h1)
          clear h1
          cases x42
          · go_wp2_with fail
            go_ret
            exact ⟨ret_bool (HFF.out (by rw [hse.out, hd2.out]; rfl)).symm, HB1.out⟩
          · go_wp2_with fail
            exact ⟨⟨k + 1, by omega, by go_num, by rw [HST.out, HAL.out, hse.out, hd2.out]; rfl, HB1.out⟩, meas_next hlt⟩
    · obtain rfl : k = n := by omega
      go_wp2_with fail
      go_ret
      exact ⟨ret_bool HAL.out.symm, HBW.out⟩
end Go.Proofs.Ytegbkpbdgdmhgaa
