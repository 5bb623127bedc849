/- Contracts of Sync, ReRoot, Prop. -/
import Derived.Test.YtegbkpbdgdmhgaaJ
namespace Go.Proofs.Ytegbkpbdgdmhgaa
open Go.RowKit Go.Sort

/-- A Bool of a port is set. -/
def onX (j : Nat) (xs : Array Value) : Array Value := putL xs j [.bool true]
theorem onX_typed {xs : Array Value} (h : Typed xs) (j : Nat) (hj : kinds[j]? = some none) : Typed (onX j xs) := by
  refine h.put j _ fun k q x hq hx => ?_
  have hk : k = 0 := by have := (List.getElem?_eq_some_iff.1 hx).1; simpa using this
  subst hk
  rw [Nat.add_zero, hj] at hq
  cases hq
  simp at hx
  exact ⟨true, hx.symm⟩
/-- .. of all ports but one. -/
def propX (i : Int) (k : Nat) (xs : Array Value) : Array Value := if (k : Int) = i then xs else onX 38 xs
theorem propX_typed {xs : Array Value} (h : Typed xs) (i : Int) (k : Nat) : Typed (propX i k xs) := by
  unfold propX
  split
  · exact h
  · exact onX_typed h 38 rfl
theorem upd_step {n k : Nat} {F : Nat → Array Value → Array Value} {XS : Nat → Array Value} {ys : Array Value} (hy : ys = F k (XS k)) (i : Nat) (_ : i < n) : (if i = k then ys else if i < k then F i (XS i) else XS i) = if i < k + 1 then F i (XS i) else XS i := by
  by_cases e : i = k
  · subst e; rw [if_pos rfl, if_pos (by omega), hy]
  · rw [if_neg e]
    by_cases e2 : i < k
    · rw [if_pos e2, if_pos (by omega)]
    · rw [if_neg e2, if_neg (by omega)]
theorem syncnil (w : World) : Calls Try.prog 12 #[.pointer none] w fun e w' => e = .returned (.tuple #[]) ∧ w = w' := by
  go_enter Try.func12, Try.ntmps12
  go_wp2_with fail
  exact bodyPost_ret (v := .tuple #[]) (by simp [results, Try.results12, go_sem]) rfl ⟨rfl, rfl⟩
theorem sync_any (B : Bd) (bb pb n cap : Nat) (XS : Nat → Array Value) (w : World) (hB : Br w B bb pb n cap XS) (ht : ∀ i, i < n → Typed (XS i)) (hn : n ≤ 20) :
    Calls Try.prog 12 #[.pointer (some ⟨bb, 0, none⟩)] w fun e w' => e = .returned (.tuple #[]) ∧ Br w' B bb pb n cap (fun j => (fun _ => onX 41) j (XS j)) ∧ Only pb w w' := by
  have c17 : w.cell? ⟨bb, 17, none⟩ = some (.slice (some ⟨pb, 0, none⟩) n cap) := hB.hb.cell 17
  have HB := Lib.hid hB
  have HT := Lib.hid ht
  clear hB ht
  go_enter Try.func12, Try.ntmps12
  go_wp2_with fail
  go_loopw [10] (fun c wr => ∃ k : Nat, k ≤ n ∧ c = .int .i64 k ∧ Br wr B bb pb n cap (fun j => if j < k then (fun _ => onX 41) j (XS j) else XS j) ∧ Only pb w wr) (fun c _ => n - (intOf c).toNat)
  case atStart => exact ⟨0, Nat.zero_le _, rfl, HB.out.congr fun j _ => by rw [if_neg (by omega)], Only.refl _ _⟩
  case round =>
    obtain ⟨k, hk, rfl, hbk, hok⟩ := hrel
    by_cases hlt : k < n
    · have c17k : wr.cell? ⟨bb, 17, none⟩ = some (.slice (some ⟨pb, 0, none⟩) n cap) := hbk.hb.cell 17
      obtain ⟨A, hA, hAn, hAs⟩ := hbk.ex
      have i0 := idx32b pb n cap k hlt
      have fz := hA.frozen
      have hx := (HT.out k hlt).1
      have hs1 := hA.some (k := k * 90 + 41) (by omega)
      have HBK := Lib.hid hbk
      have HOK := Lib.hid hok
      have HS := Lib.hid (subs_put (j := 41) (l := [.bool true]) hAs hAn hlt (by rw [if_neg (by omega)]; exact hx) (by simp))
      have HAN := Lib.hid hAn
      have HA := Lib.hid hA
      clear hA hAn hAs hbk hok hx
      have hb2 := Lib.hid (show Br (wr.setCell ⟨pb, k * 90 + 41, none⟩ (.bool true)) B bb pb n cap (fun j => if j < k + 1 then (fun _ => onX 41) j (XS j) else XS j) from
        Br.congr ⟨(((Only.refl pb wr).set _ _).var HBK.out.hb HBK.out.ne), _, HA.out.set _ _, by rw [Array.size_setIfInBounds]; exact HAN.out, HS.out⟩ (upd_step (F := (fun _ => onX 41)) (by rw [if_neg (by omega)]; exact rfl)))
      clear HS HBK HA
      go_wp2_with fail
      exact ⟨⟨k + 1, by omega, by go_num, hb2.out, HOK.out.set _ _⟩, meas_next hlt⟩
    · obtain rfl : k = n := by omega
      have HBK := Lib.hid hbk
      clear hbk
      go_wp2_with fail
      go_end0
      exact ⟨rfl, HBK.out.congr fun j hj => if_pos hj, hok⟩
theorem rerootnil (w : World) : Calls Try.prog 13 #[.pointer none] w fun e w' => e = .returned (.tuple #[]) ∧ w = w' := by
  go_enter Try.func13, Try.ntmps13
  go_wp2_with fail
  exact bodyPost_ret (v := .tuple #[]) (by simp [results, Try.results13, go_sem]) rfl ⟨rfl, rfl⟩
theorem reroot_any (B : Bd) (bb pb n cap : Nat) (XS : Nat → Array Value) (w : World) (hB : Br w B bb pb n cap XS) (ht : ∀ i, i < n → Typed (XS i)) (hn : n ≤ 20) :
    Calls Try.prog 13 #[.pointer (some ⟨bb, 0, none⟩)] w fun e w' => e = .returned (.tuple #[]) ∧ Br w' B bb pb n cap (fun j => (fun _ => onX 28) j (XS j)) ∧ Only pb w w' := by
  have c17 : w.cell? ⟨bb, 17, none⟩ = some (.slice (some ⟨pb, 0, none⟩) n cap) := hB.hb.cell 17
  have HB := Lib.hid hB
  have HT := Lib.hid ht
  clear hB ht
  go_enter Try.func13, Try.ntmps13
  go_wp2_with fail
  go_loopw [10] (fun c wr => ∃ k : Nat, k ≤ n ∧ c = .int .i64 k ∧ Br wr B bb pb n cap (fun j => if j < k then (fun _ => onX 28) j (XS j) else XS j) ∧ Only pb w wr) (fun c _ => n - (intOf c).toNat)
  case atStart => exact ⟨0, Nat.zero_le _, rfl, HB.out.congr fun j _ => by rw [if_neg (by omega)], Only.refl _ _⟩
  case round =>
    obtain ⟨k, hk, rfl, hbk, hok⟩ := hrel
    by_cases hlt : k < n
    · have c17k : wr.cell? ⟨bb, 17, none⟩ = some (.slice (some ⟨pb, 0, none⟩) n cap) := hbk.hb.cell 17
      obtain ⟨A, hA, hAn, hAs⟩ := hbk.ex
      have i0 := idx32b pb n cap k hlt
      have fz := hA.frozen
      have hx := (HT.out k hlt).1
      have hs1 := hA.some (k := k * 90 + 28) (by omega)
      have HBK := Lib.hid hbk
      have HOK := Lib.hid hok
      have HS := Lib.hid (subs_put (j := 28) (l := [.bool true]) hAs hAn hlt (by rw [if_neg (by omega)]; exact hx) (by simp))
      have HAN := Lib.hid hAn
      have HA := Lib.hid hA
      clear hA hAn hAs hbk hok hx
      have hb2 := Lib.hid (show Br (wr.setCell ⟨pb, k * 90 + 28, none⟩ (.bool true)) B bb pb n cap (fun j => if j < k + 1 then (fun _ => onX 28) j (XS j) else XS j) from
        Br.congr ⟨(((Only.refl pb wr).set _ _).var HBK.out.hb HBK.out.ne), _, HA.out.set _ _, by rw [Array.size_setIfInBounds]; exact HAN.out, HS.out⟩ (upd_step (F := (fun _ => onX 28)) (by rw [if_neg (by omega)]; exact rfl)))
      clear HS HBK HA
      go_wp2_with fail
      exact ⟨⟨k + 1, by omega, by go_num, hb2.out, HOK.out.set _ _⟩, meas_next hlt⟩
    · obtain rfl : k = n := by omega
      have HBK := Lib.hid hbk
      clear hbk
      go_wp2_with fail
      go_end0
      exact ⟨rfl, HBK.out.congr fun j hj => if_pos hj, hok⟩
theorem propnil (i : Int) (w : World) : Calls Try.prog 14 #[.pointer none, .int .i64 i] w fun e w' => e = .returned (.tuple #[]) ∧ w = w' := by
  go_enter Try.func14, Try.ntmps14
  go_wp2_with fail
  exact bodyPost_ret (v := .tuple #[]) (by simp [results, Try.results14, go_sem]) rfl ⟨rfl, rfl⟩
theorem prop_any (i : Int) (B : Bd) (bb pb n cap : Nat) (XS : Nat → Array Value) (w : World) (hB : Br w B bb pb n cap XS) (ht : ∀ i, i < n → Typed (XS i)) (hn : n ≤ 20) :
    Calls Try.prog 14 #[.pointer (some ⟨bb, 0, none⟩), .int .i64 i] w fun e w' => e = .returned (.tuple #[]) ∧ Br w' B bb pb n cap (fun j => (propX i) j (XS j)) ∧ Only pb w w' := by
  have c17 : w.cell? ⟨bb, 17, none⟩ = some (.slice (some ⟨pb, 0, none⟩) n cap) := hB.hb.cell 17
  have HB := Lib.hid hB
  have HT := Lib.hid ht
  clear hB ht
  go_enter Try.func14, Try.ntmps14
  go_wp2_with fail
  go_loopw [12] (fun c wr => ∃ k : Nat, k ≤ n ∧ c = .int .i64 k ∧ Br wr B bb pb n cap (fun j => if j < k then (propX i) j (XS j) else XS j) ∧ Only pb w wr) (fun c _ => n - (intOf c).toNat)
  case atStart => exact ⟨0, Nat.zero_le _, rfl, HB.out.congr fun j _ => by rw [if_neg (by omega)], Only.refl _ _⟩
  case round =>
    obtain ⟨k, hk, rfl, hbk, hok⟩ := hrel
    by_cases hlt : k < n
    · have c17k : wr.cell? ⟨bb, 17, none⟩ = some (.slice (some ⟨pb, 0, none⟩) n cap) := hbk.hb.cell 17
      obtain ⟨A, hA, hAn, hAs⟩ := hbk.ex
      have i0 := idx32b pb n cap k hlt
      have fz := hA.frozen
      have hx := (HT.out k hlt).1
      have hs1 := hA.some (k := k * 90 + 38) (by omega)
      have HBK := Lib.hid hbk
      have HOK := Lib.hid hok
      have HS := Lib.hid (subs_put (j := 38) (l := [.bool true]) hAs hAn hlt (by rw [if_neg (by omega)]; exact hx) (by simp))
      have HAN := Lib.hid hAn
      have HA := Lib.hid hA
      clear hA hAn hAs hbk hok hx
      by_cases hki : (k : Int) = i
      · have hd : ((k : Int) != i) = false := by rw [hki]; simp
        have hb2 := Lib.hid (show Br wr B bb pb n cap (fun j => if j < k + 1 then (propX i) j (XS j) else XS j) from
          Br.congr (XS := fun j => if j = k then XS k else if j < k then (propX i) j (XS j) else XS j) (HBK.out.congr fun j _ => by
            by_cases e : j = k
            · subst e; rw [if_pos rfl, if_neg (by omega)]
            · rw [if_neg e]) (upd_step (F := (propX i)) (by unfold propX; rw [if_pos hki])))
        have hki2 := Lib.hid hki
        clear HS HBK HA hki
        go_wp2_with fail
        exact ⟨⟨k + 1, by omega, by go_num, hb2.out, HOK.out⟩, meas_next hlt⟩
      · have hd : ((k : Int) != i) = true := by simpa using hki
        have hb2 := Lib.hid (show Br (wr.setCell ⟨pb, k * 90 + 38, none⟩ (.bool true)) B bb pb n cap (fun j => if j < k + 1 then (propX i) j (XS j) else XS j) from
          Br.congr ⟨(((Only.refl pb wr).set _ _).var HBK.out.hb HBK.out.ne), _, HA.out.set _ _, by rw [Array.size_setIfInBounds]; exact HAN.out, HS.out⟩ (upd_step (F := (propX i)) (by rw [if_neg (by omega)]; exact (if_neg hki).symm)))
        clear HS HBK HA hki
        go_wp2_with fail
        exact ⟨⟨k + 1, by omega, by go_num, hb2.out, HOK.out.set _ _⟩, meas_next hlt⟩
    · obtain rfl : k = n := by omega
      have HBK := Lib.hid hbk
      clear hbk
      go_wp2_with fail
      go_end0
      exact ⟨rfl, HBK.out.congr fun j hj => if_pos hj, hok⟩
end Go.Proofs.Ytegbkpbdgdmhgaa
