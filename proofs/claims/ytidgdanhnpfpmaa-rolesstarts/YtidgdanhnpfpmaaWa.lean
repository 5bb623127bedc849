/- Does a port ask for roles: contracts of wantsRoles, slices.IndexFunc, slices.ContainsFunc. -/
import Derived.Test.YtidgdanhnpfpmaaSb
namespace Go.Proofs.Ytidgdanhnpfpmaa
open Go.RowKit Go.Sort

/-- Is Reselect set of one of the first ports? -/
def anyR (XS : Nat → Array Value) : Nat → Bool
  | 0 => false
  | k + 1 => anyR XS k || boolI (XS k) 29
theorem anyR_at {XS : Nat → Array Value} {n k : Nat} (hk : k < n) (h : boolI (XS k) 29 = true) : anyR XS n = true := by
  induction n with
  | zero => omega
  | succ n ih =>
    unfold anyR
    by_cases e : k = n
    · subst e; rw [h]; simp
    · rw [ih (by omega)]; rfl
theorem anyR_none {XS : Nat → Array Value} {n : Nat} (h : ∀ i, i < n → boolI (XS i) 29 = false) : anyR XS n = false := by
  induction n with
  | zero => rfl
  | succ n ih =>
    unfold anyR
    rw [ih (fun i hi => h i (by omega)), h n (by omega)]; rfl
theorem wants_any (xs : Array Value) (ht : Typed xs) (w : World) : Calls Try.prog 19 #[.agg xs] w fun e w' => e = .returned (.bool (boolI xs 29)) ∧ Below w.heap.size w w' := by
  have c29 : (w.alloc (.cells xs 50)).cell? ⟨w.heap.size, 29, none⟩ = some (.bool (boolI xs 29)) := by
    rw [(var_new w xs 50).cell]; exact ht.bool 29 rfl
  have hB := box_below w (.cells xs 50)
  generalize boolI xs 29 = q at *
  go_enter Try.func19, Try.ntmps19
  go_wp2_with fail
  go_ret
  exact ⟨rfl, hB⟩
set_option maxRecDepth 20000 in
theorem index_any (pb n cap : Nat) (A : Array Value) (XS : Nat → Array Value) (w : World) (hA : VarAt w pb A 50) (hs : ∀ i, i < n → Sub A (i * 90) (XS i)) (ht : ∀ i, i < n → Typed (XS i)) (hn : n ≤ 20) :
    Calls Try.prog 25 #[.slice (some ⟨pb, 0, none⟩) n cap, .func (.func 19) #[] #[]] w fun e w' => (∃ r : Int, e = .returned (.int .i64 r) ∧ decide (0 ≤ r) = anyR XS n) ∧ Below w.heap.size w w' := by
  have HV := Lib.hid hA
  have HS := Lib.hid hs
  have HT := Lib.hid ht
  clear hA hs ht
  have cF : ∀ args w, (callFunc 19 args).run Try.prog w = .ok (.enter 19 args) w := fun args w => by kernel_rfl
  have CF := Lib.hid cF
  clear cF
  go_enter Try.func25, Try.ntmps25
  go_wp2_with fail
  go_loopw [8] (fun c wr => ∃ k : Nat, k ≤ n ∧ c = .int .i64 k ∧ anyR XS k = false ∧ Below w.heap.size w wr) (fun c _ => n - (intOf c).toNat)
  case atStart => exact ⟨0, Nat.zero_le _, rfl, rfl, Below.refl _ _⟩
  case round =>
    obtain ⟨k, hk, rfl, hno, hnx⟩ := hrel
    have HN := Lib.hid hnx
    have HNO := Lib.hid hno
    clear hnx hno
    by_cases hlt : k < n
    · have i0 := idx32b pb n cap k hlt
      go_wp2_with (with_reducible refine stopL 50 _ rfl ?_)
      refine Lib.hid ?_
      refine wpList_load_whole uP rfl sP rfl _ rfl rfl (((HS.out k hlt).pat (HV.out.below HN.out HV.out.lt)).range (HT.out k hlt).1) (HT.out k hlt).1 ?_
      have cF := CF.out
      go_wp2_with fail
      clear cF
      refine (wants_any (XS k) (HT.out k hlt) _).mono ?_
      rintro e w1 ⟨rfl, hb⟩
      have HN1 := Lib.hid (HN.out.trans (hb.mono HN.out.size))
      clear hb
      cases hq : boolI (XS k) 29
      · have HQ := Lib.hid (show anyR XS (k + 1) = false by unfold anyR; rw [HNO.out, hq]; rfl)
        go_wp2_with fail
        exact ⟨⟨k + 1, by omega, by go_num, HQ.out, HN1.out⟩, meas_next hlt⟩
      · have HQ := Lib.hid (anyR_at hlt hq)
        go_wp2_with fail
        go_ret
        exact ⟨⟨k, rfl, by rw [HQ.out]; simp⟩, HN1.out⟩
    · obtain rfl : k = n := by omega
      go_wp2_with fail
      go_ret
      exact ⟨⟨-1, rfl, by rw [HNO.out]; rfl⟩, HN.out⟩
theorem contains_any (pb n cap : Nat) (A : Array Value) (XS : Nat → Array Value) (w : World) (hA : VarAt w pb A 50) (hs : ∀ i, i < n → Sub A (i * 90) (XS i)) (ht : ∀ i, i < n → Typed (XS i)) (hn : n ≤ 20) :
    Calls Try.prog 18 #[.slice (some ⟨pb, 0, none⟩) n cap, .func (.func 19) #[] #[]] w fun e w' => e = .returned (.bool (anyR XS n)) ∧ Below w.heap.size w w' := by
  have kI := Lib.hid (index_any pb n cap A XS w hA hs ht hn)
  clear hA hs ht
  generalize anyR XS n = q at *
  go_enter Try.func18, Try.ntmps18
  go_wp2_with fail
  refine kI.out.mono ?_
  rintro e w1 ⟨⟨r, rfl, hr⟩, hb⟩
  go_wp2_with fail
  go_ret
  exact ⟨by rw [← hr]; rfl, hb⟩
end Go.Proofs.Ytidgdanhnpfpmaa
