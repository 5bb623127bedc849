/- Contract of port.Tick. -/
import Derived.Test.YtegbkpbdgdmhgaaH
import Derived.Test.YtegbkpbdgdmhgaaSa
namespace Go.Proofs.Ytegbkpbdgdmhgaa
open Go.RowKit Go.Sort

/-- A number among a port's cells. -/
def numI (xs : Array Value) (k : Nat) : Int := match xs[k]? with | some (.int _ n) => n | _ => 0
theorem Typed.num {xs : Array Value} (h : Typed xs) (k : Nat) (hk : kinds[k]? = some (some .i64)) : xs[k]? = some (.int .i64 (numI xs k)) := by
  have hlt : k < xs.size := by rw [h.1, ← kinds_len]; exact (List.getElem?_eq_some_iff.1 hk).1
  obtain ⟨n, hn⟩ := h.2 k _ xs[k] hk (Array.getElem?_eq_getElem hlt)
  unfold numI
  rw [Array.getElem?_eq_getElem hlt, hn]
/-- What becomes of a port within a second. -/
def tkX (xs : Array Value) : Array Value := putL xs 6 (tks (fun k => numI xs (6 + k)) 9)
theorem tkX_typed {xs : Array Value} (h : Typed xs) : Typed (tkX xs) := by
  refine h.put 6 _ fun j q x hq hx => ?_
  have hj : j < 9 := by have := (List.getElem?_eq_some_iff.1 hx).1; rwa [tks_len] at this
  simp [tks, hj] at hx
  subst hx
  have : q = some .i64 := by
    match j, hj with
    | 0, _ | 1, _ | 2, _ | 3, _ | 4, _ | 5, _ | 6, _ | 7, _ | 8, _ => simp [kinds] at hq; exact hq.symm
  subst this
  exact ⟨_, rfl⟩
/-- The pointers to nine numbers of a port. -/
abbrev ptr9 (pb o : Nat) : Array Value := #[.pointer (some ⟨pb, o + 6, none⟩), .pointer (some ⟨pb, o + 7, none⟩), .pointer (some ⟨pb, o + 8, none⟩), .pointer (some ⟨pb, o + 9, none⟩), .pointer (some ⟨pb, o + 10, none⟩), .pointer (some ⟨pb, o + 11, none⟩), .pointer (some ⟨pb, o + 12, none⟩), .pointer (some ⟨pb, o + 13, none⟩), .pointer (some ⟨pb, o + 14, none⟩)]
theorem count9 (pb o : Nat) (xs A : Array Value) (W : World) (hv : VarAt W pb A 49) (hs : Sub A o xs) (ht : Typed xs) :
    Calls Try.prog 27 #[.slice (some ⟨W.heap.size, 0, none⟩) 9 9] (W.alloc (.cells (ptr9 pb o) 62)).drew fun e w' => e = .returned (.tuple #[]) ∧ VarAt w' pb (putL A (o + 6) (tks (fun k => numI xs (6 + k)) 9)) 49 ∧ Only pb W w' := by
  refine (count_any W.heap.size 9 pb (o + 6) (fun k => numI xs (6 + k)) A _ (fun k hk => ?_) (hv.alloc _).drew (fun k hk => ?_) (by have := hv.lt; omega) (by omega)).mono fun e w' ⟨h1, h2, h3⟩ => ⟨h1, h2, (((Only.refl pb W).alloc _).drew).trans h3⟩
  · have := (var_new W (ptr9 pb o) 62).drew.cell k
    rw [this]
    match k, hk with
    | 0, _ | 1, _ | 2, _ | 3, _ | 4, _ | 5, _ | 6, _ | 7, _ | 8, _ => rfl
  · have h0 := hs (6 + k) (by omega)
    rw [show o + 6 + k = o + (6 + k) by omega, h0]
    refine ht.num _ ?_
    match k, hk with
    | 0, _ | 1, _ | 2, _ | 3, _ | 4, _ | 5, _ | 6, _ | 7, _ | 8, _ => rfl
theorem tickNil (w : World) : Calls Try.prog 8 #[.pointer none] w fun e w' => e = .returned (.tuple #[]) ∧ w = w' := by
  go_enter Try.func8, Try.ntmps8
  go_wp2_with fail
  exact bodyPost_ret (v := .tuple #[]) (by simp [results, Try.results8, go_sem]) rfl ⟨rfl, rfl⟩
set_option maxHeartbeats 1000000 in
theorem tick_any (B : Bd) (bb pb n cap : Nat) (XS : Nat → Array Value) (w : World) (hB : Br w B bb pb n cap XS) (ht : ∀ i, i < n → Typed (XS i)) (hn : n ≤ 20) :
    Calls Try.prog 8 #[.pointer (some ⟨bb, 0, none⟩)] w fun e w' => e = .returned (.tuple #[]) ∧ Br w' B bb pb n cap (fun i => tkX (XS i)) ∧ Only pb w w' := by
  have c17 : w.cell? ⟨bb, 17, none⟩ = some (.slice (some ⟨pb, 0, none⟩) n cap) := hB.hb.cell 17
  have HB := Lib.hid hB
  have HT := Lib.hid ht
  clear hB ht
  go_enter Try.func8, Try.ntmps8
  go_wp2_with fail
  go_loopw [11] (fun i wr => ∃ k : Nat, k ≤ n ∧ i = .int .i64 k ∧ Br wr B bb pb n cap (fun i => if i < k then tkX (XS i) else XS i) ∧ Only pb w wr) (fun i _ => n - (intOf i).toNat)
  case atStart => exact ⟨0, Nat.zero_le _, rfl, HB.out.congr fun i _ => by rw [if_neg (by omega)], Only.refl _ _⟩
  case round =>
    obtain ⟨k, hk, rfl, hbk, hok⟩ := hrel
    by_cases hlt : k < n
    · have c17k : wr.cell? ⟨bb, 17, none⟩ = some (.slice (some ⟨pb, 0, none⟩) n cap) := hbk.hb.cell 17
      obtain ⟨A, hA, hAn, hAs⟩ := hbk.ex
      have i0 := idx32b pb n cap k hlt
      have kc := Lib.hid (count9 pb (k * 90) (XS k) A wr hA (by have := hAs k hlt; rwa [if_neg (by omega)] at this) (HT.out k hlt))
      have HBK := Lib.hid hbk.hb
      have HNE := Lib.hid hbk.ne
      have HOK := Lib.hid hok
      have HS := Lib.hid (subs_put (j := 6) (l := tks (fun j => numI (XS k) (6 + j)) 9) hAs hAn hlt (by rw [if_neg (by omega)]; exact (HT.out k hlt).1) (by rw [tks_len]; omega))
      have HAN := Lib.hid hAn
      clear hA hAn hAs hbk hok
      go_wp2_with fail
      go_region_held (fun _ => True) (go_keep) (first | (go_at_call 27; refine kc.out.mono ?_; rintro e w1 ⟨rfl, h1, h2⟩))
      have hb2 := Lib.hid (show Br w1 B bb pb n cap (fun i => if i < k + 1 then tkX (XS i) else XS i) from
        Br.congr (XS := fun i => if i = k then putL (if k < k then tkX (XS k) else XS k) 6 (tks (fun j => numI (XS k) (6 + j)) 9) else if i < k then tkX (XS i) else XS i) ⟨h2.var HBK.out HNE.out, _, h1, by rw [putL_size]; exact HAN.out, HS.out⟩ fun i _ => by
          by_cases e : i = k
          · subst e; rw [if_pos rfl, if_neg (by omega), if_pos (by omega)]; rfl
          · rw [if_neg e]
            by_cases e2 : i < k
            · rw [if_pos e2, if_pos (by omega)]
            · rw [if_neg e2, if_neg (by omega)])
      have ho2 := Lib.hid (HOK.out.trans h2)
      clear h1 h2 kc HS HBK HOK c17k i0
      go_wp2_with fail
      exact ⟨⟨k + 1, by omega, by go_num, hb2.out, ho2.out⟩, meas_next hlt⟩
    · obtain rfl : k = n := by omega
      have HBK := Lib.hid hbk
      clear hbk
      go_wp2_with fail
      go_end0
      exact ⟨rfl, HBK.out.congr fun i hi => if_pos hi, hok⟩
end Go.Proofs.Ytegbkpbdgdmhgaa
