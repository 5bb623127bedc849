/- Contracts of the program's BetterOrSame, Lives. -/
import Derived.Test.YtjfdochceejegaaDoorIg
namespace Go.Proofs.YtjfdochceejegaaDoor
open Go.RowKit Go.Sort

def bosX2 (xs : Array Value) : Bool := (numI xs 44 == 2) && !ltV (numI xs 56) (numI xs 57) (numI xs 58) (numI xs 59) (numI xs 48) (numI xs 49) (numI xs 50) (numI xs 51)
set_option maxHeartbeats 1000000 in
theorem bos2_any (pb o : Nat) (xs : Array Value) (w : World) (hp : Pt w pb o xs) (ht : Typed xs) : Calls Tryd.prog 42 #[.pointer (some ⟨pb, o, none⟩), .int .i64 2] w fun e w' => e = .returned (.bool (bosX2 xs)) ∧ Below w.heap.size w w' := by
  have kB := Lib.hid (fun w => better_any (numI xs 56) (numI xs 57) (numI xs 58) (numI xs 59) (numI xs 48) (numI xs 49) (numI xs 50) (numI xs 51) w)
  have j1 := eqSome pb o
  have c44 := hp.numk ht 44 .i64 rfl
  have PG := Lib.hid (fun d os => hp.grown d os)
  have HT := Lib.hid ht
  unfold bosX2
  clear hp ht
  generalize numI xs 44 = x44 at *
  generalize ltV (numI xs 56) (numI xs 57) (numI xs 58) (numI xs 59) (numI xs 48) (numI xs 49) (numI xs 50) (numI xs 51) = B at *
  by_cases q : x44 = 2
  · subst q
    have cB := fun d os => Calls.regrown_of (w := w) (d := d) (os := os) (kB.out _)
    have g56 := fun d os => (PG.out d os).numk HT.out 56 .u64 rfl
    have g57 := fun d os => (PG.out d os).numk HT.out 57 .u32 rfl
    have g58 := fun d os => (PG.out d os).numk HT.out 58 .u64 rfl
    have g59 := fun d os => (PG.out d os).numk HT.out 59 .u16 rfl
    have g48 := fun d os => (PG.out d os).numk HT.out 48 .u64 rfl
    have g49 := fun d os => (PG.out d os).numk HT.out 49 .u32 rfl
    have g50 := fun d os => (PG.out d os).numk HT.out 50 .u64 rfl
    have g51 := fun d os => (PG.out d os).numk HT.out 51 .u16 rfl
    go_enter Tryd.func42, Tryd.ntmps42
    go_wp2_with fail
    refine wp_region_quiet_below (by kernel_rfl) (by kernel_rfl) ?_
    repeat (go_big_quiet_step (first | with_reducible exact cB _ _))
    refine wpQuiet_nil ?_
    intro _ hw'
    obtain ⟨⟨dq, osq⟩, hw''⟩ := hw'
    subst hw''
    have HB2 := Lib.hid (below_regrown w dq osq)
    clear g56 g57 g58 g59 g48 g49 g50 g51 PG cB
    generalize grow (redrawn w dq) osq = W2 at *
    go_wp2
    go_ret
    exact ⟨rfl, HB2.out⟩
  · have e1 : (2 != x44) = true := by simpa using fun h => q h.symm
    have e2 : (x44 == 2) = false := by simpa using q
    rw [e2]
    clear q
    go_enter Tryd.func42, Tryd.ntmps42
    go_wp2
    go_ret
    exact ⟨rfl, Below.refl _ _⟩
def bosX3 (xs : Array Value) : Bool := (numI xs 44 == 3) && !ltV (numI xs 56) (numI xs 57) (numI xs 58) (numI xs 59) (numI xs 52) (numI xs 53) (numI xs 54) (numI xs 55)
set_option maxHeartbeats 1000000 in
theorem bos3_any (pb o : Nat) (xs : Array Value) (w : World) (hp : Pt w pb o xs) (ht : Typed xs) : Calls Tryd.prog 42 #[.pointer (some ⟨pb, o, none⟩), .int .i64 3] w fun e w' => e = .returned (.bool (bosX3 xs)) ∧ Below w.heap.size w w' := by
  have kB := Lib.hid (fun w => better_any (numI xs 56) (numI xs 57) (numI xs 58) (numI xs 59) (numI xs 52) (numI xs 53) (numI xs 54) (numI xs 55) w)
  have j1 := eqSome pb o
  have c44 := hp.numk ht 44 .i64 rfl
  have PG := Lib.hid (fun d os => hp.grown d os)
  have HT := Lib.hid ht
  unfold bosX3
  clear hp ht
  generalize numI xs 44 = x44 at *
  generalize ltV (numI xs 56) (numI xs 57) (numI xs 58) (numI xs 59) (numI xs 52) (numI xs 53) (numI xs 54) (numI xs 55) = B at *
  by_cases q : x44 = 3
  · subst q
    have cB := fun d os => Calls.regrown_of (w := w) (d := d) (os := os) (kB.out _)
    have g56 := fun d os => (PG.out d os).numk HT.out 56 .u64 rfl
    have g57 := fun d os => (PG.out d os).numk HT.out 57 .u32 rfl
    have g58 := fun d os => (PG.out d os).numk HT.out 58 .u64 rfl
    have g59 := fun d os => (PG.out d os).numk HT.out 59 .u16 rfl
    have g52 := fun d os => (PG.out d os).numk HT.out 52 .u64 rfl
    have g53 := fun d os => (PG.out d os).numk HT.out 53 .u32 rfl
    have g54 := fun d os => (PG.out d os).numk HT.out 54 .u64 rfl
    have g55 := fun d os => (PG.out d os).numk HT.out 55 .u16 rfl
    go_enter Tryd.func42, Tryd.ntmps42
    go_wp2_with fail
    refine wp_region_quiet_below (by kernel_rfl) (by kernel_rfl) ?_
    repeat (go_big_quiet_step (first | with_reducible exact cB _ _))
    refine wpQuiet_nil ?_
    intro _ hw'
    obtain ⟨⟨dq, osq⟩, hw''⟩ := hw'
    subst hw''
    have HB2 := Lib.hid (below_regrown w dq osq)
    clear g56 g57 g58 g59 g52 g53 g54 g55 PG cB
    generalize grow (redrawn w dq) osq = W2 at *
    go_wp2
    go_ret
    exact ⟨rfl, HB2.out⟩
  · have e1 : (3 != x44) = true := by simpa using fun h => q h.symm
    have e2 : (x44 == 3) = false := by simpa using q
    rw [e2]
    clear q
    go_enter Tryd.func42, Tryd.ntmps42
    go_wp2
    go_ret
    exact ⟨rfl, Below.refl _ _⟩
theorem Pt.drew {w : World} {pb o : Nat} {xs : Array Value} (h : Pt w pb o xs) : Pt w.drew pb o xs := by
  obtain ⟨A, hv, hA, hs⟩ := h.ex
  exact ⟨A, hv, hA, hs⟩
/-- For how long what came counts is set anew. -/
def lvX (xs : Array Value) : Array Value := upd xs [(11, .int .i64 (lvV (numI xs 68) (numI xs 69) (numI xs 70)))]
theorem lvX_typed {xs : Array Value} (h : Typed xs) : Typed (lvX xs) := upd_typed _ h (by
  simp only [List.mem_cons, List.not_mem_nil, or_false]
  rintro p rfl
  exact isK rfl _)
/-- Some of a port's cells lie where they did. -/
def Cl (w : World) (pb o : Nat) (xs : Array Value) (lo hi : Nat) : Prop := ∀ k, lo ≤ k → k < hi → w.cell? ⟨pb, o + k, none⟩ = xs[k]?
theorem Pt.cl {w : World} {pb o lo hi : Nat} {xs ys : Array Value} (h : Pt w pb o ys) (hh : hi ≤ 90) (e : ∀ k, lo ≤ k → k < hi → ys[k]? = xs[k]?) : Cl w pb o xs lo hi := fun k h1 h2 => by rw [h.pat k (by omega), e k h1 h2]
theorem upd_rng {xs : Array Value} {l : List (Nat × Value)} {lo hi : Nat} (hx : xs.size = 90) (hh : hi ≤ 90) (h : (l.all fun p => decide (p.1 < lo) || decide (hi ≤ p.1)) = true) : ∀ k, lo ≤ k → k < hi → (upd xs l)[k]? = xs[k]? := by
  intro k h1 h2
  rw [upd_at l xs k (by omega), look_none]
  · rfl
  · rw [List.all_eq_true] at h ⊢
    intro p hp
    have := h p hp
    simp at this ⊢
    omega
theorem Cl.numk {w : World} {pb o lo hi : Nat} {xs : Array Value} (h : Cl w pb o xs lo hi) (ht : Typed xs) (k : Nat) (q : IntKind) (h0 : lo ≤ k) (h1 : k < hi) (hk : kinds[k]? = some (some q)) : w.cell? ⟨pb, o + k, none⟩ = some (.int q (numI xs k)) := by rw [h k h0 h1, ht.numk k q hk]
theorem Cl.times {w : World} {b o lo hi : Nat} {xs : Array Value} (h : Cl w b o xs lo hi) (ht : Typed xs) (k : Nat) (g0 : lo ≤ k) (g1 : k + 4 ≤ hi) (h0 : kinds[k]? = some (some .i64)) (h1 : kinds[k + 1]? = some (some .i64)) (h2 : kinds[k + 2]? = some (some .i64)) (h3 : kinds[k + 3]? = some (some .i64)) :
    w.rangeAt b (o + k) (tmC (numI xs k) (numI xs (k + 1)) (numI xs (k + 2)) (numI xs (k + 3))).toList := by
  intro j v hj
  match j, hj with
  | 0, hj => cases hj; exact h.numk ht k .i64 (by omega) (by omega) h0
  | 1, hj => cases hj; exact h.numk ht (k + 1) .i64 (by omega) (by omega) h1
  | 2, hj => cases hj; exact h.numk ht (k + 2) .i64 (by omega) (by omega) h2
  | 3, hj => cases hj; exact h.numk ht (k + 3) .i64 (by omega) (by omega) h3
  | j + 4, hj => simp at hj
theorem Cl.vec {w : World} {b o lo hi : Nat} {xs : Array Value} (h : Cl w b o xs lo hi) (ht : Typed xs) (k : Nat) (g0 : lo ≤ k) (g1 : k + 4 ≤ hi) (h0 : kinds[k]? = some (some .u64)) (h1 : kinds[k + 1]? = some (some .u32)) (h2 : kinds[k + 2]? = some (some .u64)) (h3 : kinds[k + 3]? = some (some .u16)) :
    w.rangeAt b (o + k) (vC (numI xs k) (numI xs (k + 1)) (numI xs (k + 2)) (numI xs (k + 3))).toList := by
  intro j v hj
  match j, hj with
  | 0, hj => cases hj; exact h.numk ht k .u64 (by omega) (by omega) h0
  | 1, hj => cases hj; exact h.numk ht (k + 1) .u32 (by omega) (by omega) h1
  | 2, hj => cases hj; exact h.numk ht (k + 2) .u64 (by omega) (by omega) h2
  | 3, hj => cases hj; exact h.numk ht (k + 3) .u16 (by omega) (by omega) h3
  | j + 4, hj => simp at hj
theorem Cl.msg {w : World} {b o lo hi : Nat} {xs : Array Value} (h : Cl w b o xs lo hi) (ht : Typed xs) (g0 : lo ≤ 72) (g1 : 82 ≤ hi) : w.rangeAt b (o + 72) (msgC xs).toList := by
  intro j v hj
  match j, hj with
  | 0, hj => cases hj; exact h.numk ht 72 .i64 (by omega) (by omega) rfl
  | 1, hj => cases hj; exact h.numk ht 73 .u8 (by omega) (by omega) rfl
  | 2, hj => cases hj; exact h.numk ht 74 .u64 (by omega) (by omega) rfl
  | 3, hj => cases hj; exact h.numk ht 75 .u32 (by omega) (by omega) rfl
  | 4, hj => cases hj; exact h.numk ht 76 .u64 (by omega) (by omega) rfl
  | 5, hj => cases hj; exact h.numk ht 77 .u16 (by omega) (by omega) rfl
  | 6, hj => cases hj; exact h.numk ht 78 .u16 (by omega) (by omega) rfl
  | 7, hj => cases hj; exact h.numk ht 79 .u16 (by omega) (by omega) rfl
  | 8, hj => cases hj; exact h.numk ht 80 .u16 (by omega) (by omega) rfl
  | 9, hj => cases hj; exact h.numk ht 81 .u16 (by omega) (by omega) rfl
  | j + 10, hj => simp [msgC] at hj
set_option maxHeartbeats 1000000 in
theorem lives_any (pb o : Nat) (xs : Array Value) (w : World) (hp : Pt w pb o xs) (ht : Typed xs) : Calls Tryd.prog 46 #[.pointer (some ⟨pb, o, none⟩)] w fun e w' => e = .returned (.tuple #[]) ∧ Mv w w' pb o xs (lvX xs) := by
  have kL := Lib.hid (fun w => lives6_any (numI xs 68) (numI xs 69) (numI xs 70) (numI xs 71) (numI xs 70) w)
  have j1 := eqSome pb o
  have HP := Lib.hid hp
  have HT := Lib.hid ht
  have HX := Lib.hid (show Mv w _ pb o xs (lvX xs) from (Mv.refl w pb o xs).set 11 (by omega) (.int .i64 (lvV (numI xs 68) (numI xs 69) (numI xs 70))))
  unfold lvX at *
  clear hp ht
  go_enter Tryd.func46, Tryd.ntmps46
  go_wp2_with fail
  refine wp_region_held_drew (S := fun w' => Cl w' pb o xs 68 72) (by kernel_rfl) (HP.out.drew.cl (by omega) (fun _ _ _ => rfl)) (fun hS => ?_)
  refine wpAnyH_take (i := 0) (v := .pointer (some ⟨pb, o, none⟩)) rfl (by kernel_rfl) (by kernel_rfl) (by kernel_rfl) (fun _ _ _ h => h) (Or.inl ⟨by rfl, ?_⟩) hS ?_
  · (intro w9 hS9; go_simp; try with_reducible rfl)
  simp only [Act.put, List.getElem_toArray, List.getElem_cons_zero, List.setIfInBounds_toArray, List.set_cons_zero, List.set_cons_succ]
  refine wpAnyH_take (i := 1) (v := .pointer (some ⟨pb, o, none⟩)) rfl (by kernel_rfl) (by kernel_rfl) (by kernel_rfl) (fun _ _ _ h => h) (Or.inl ⟨by rfl, ?_⟩) hS ?_
  · (intro w9 hS9; go_simp; try with_reducible rfl)
  simp only [Act.put, List.getElem_toArray, List.getElem_cons_zero, List.getElem_cons_succ, List.setIfInBounds_toArray, List.set_cons_zero, List.set_cons_succ]
  refine wpAnyH_take (i := 2) (v := .pointer (some ⟨pb, o, none⟩)) rfl (by kernel_rfl) (by kernel_rfl) (by kernel_rfl) (fun _ _ _ h => h) (Or.inl ⟨by rfl, ?_⟩) hS ?_
  · (intro w9 hS9; go_simp; try with_reducible rfl)
  simp only [Act.put, List.getElem_toArray, List.getElem_cons_zero, List.getElem_cons_succ, List.setIfInBounds_toArray, List.set_cons_zero, List.set_cons_succ]
  refine wpAnyH_take (i := 3) (v := .pointer (some ⟨pb, o + 68, none⟩)) rfl (by kernel_rfl) (by kernel_rfl) (by kernel_rfl) (fun _ _ _ h => h) (Or.inl ⟨by rfl, ?_⟩) hS ?_
  · (intro w9 hS9; go_simp; try with_reducible rfl)
  simp only [Act.put, List.getElem_toArray, List.getElem_cons_zero, List.getElem_cons_succ, List.setIfInBounds_toArray, List.set_cons_zero, List.set_cons_succ]
  refine wpAnyH_take (i := 4) (v := tmV (numI xs 68) (numI xs 69) (numI xs 70) (numI xs 71)) rfl (by kernel_rfl) (by kernel_rfl) (by kernel_rfl) (fun _ _ _ h => h) (yields_T uT rfl s25 (by rfl) _ rfl rfl (fun w9 h9 => h9.times HT.out 68 (by omega) (by omega) rfl rfl rfl rfl) rfl) hS ?_
  simp only [Act.put, List.getElem_toArray, List.getElem_cons_zero, List.getElem_cons_succ, List.setIfInBounds_toArray, List.set_cons_zero, List.set_cons_succ]
  refine wpAnyH_take (i := 5) (v := .pointer (some ⟨pb, o, none⟩)) rfl (by kernel_rfl) (by kernel_rfl) (by kernel_rfl) (fun _ _ _ h => h) (Or.inl ⟨by rfl, ?_⟩) hS ?_
  · (intro w9 hS9; go_simp; try with_reducible rfl)
  simp only [Act.put, List.getElem_toArray, List.getElem_cons_zero, List.getElem_cons_succ, List.setIfInBounds_toArray, List.set_cons_zero, List.set_cons_succ]
  refine wpAnyH_take (i := 6) (v := .pointer (some ⟨pb, o, none⟩)) rfl (by kernel_rfl) (by kernel_rfl) (by kernel_rfl) (fun _ _ _ h => h) (Or.inl ⟨by rfl, ?_⟩) hS ?_
  · (intro w9 hS9; go_simp; try with_reducible rfl)
  simp only [Act.put, List.getElem_toArray, List.getElem_cons_zero, List.getElem_cons_succ, List.setIfInBounds_toArray, List.set_cons_zero, List.set_cons_succ]
  refine wpAnyH_take (i := 7) (v := .pointer (some ⟨pb, o + 68, none⟩)) rfl (by kernel_rfl) (by kernel_rfl) (by kernel_rfl) (fun _ _ _ h => h) (Or.inl ⟨by rfl, ?_⟩) hS ?_
  · (intro w9 hS9; go_simp; try with_reducible rfl)
  simp only [Act.put, List.getElem_toArray, List.getElem_cons_zero, List.getElem_cons_succ, List.setIfInBounds_toArray, List.set_cons_zero, List.set_cons_succ]
  refine wpAnyH_take (i := 8) (v := .pointer (some ⟨pb, o + 70, none⟩)) rfl (by kernel_rfl) (by kernel_rfl) (by kernel_rfl) (fun _ _ _ h => h) (Or.inl ⟨by rfl, ?_⟩) hS ?_
  · (intro w9 hS9; go_simp; try with_reducible rfl)
  simp only [Act.put, List.getElem_toArray, List.getElem_cons_zero, List.getElem_cons_succ, List.setIfInBounds_toArray, List.set_cons_zero, List.set_cons_succ]
  refine wpAnyH_take (i := 9) (v := .int .i64 (numI xs 70)) rfl (by kernel_rfl) (by kernel_rfl) (by kernel_rfl) (fun _ _ _ h => h) (Or.inl ⟨by rfl, ?_⟩) hS ?_
  · (intro w9 hS9; have q := hS9.numk HT.out 70 .i64 (by omega) (by omega) rfl; go_simp; try with_reducible rfl)
  simp only [Act.put, List.getElem_toArray, List.getElem_cons_zero, List.getElem_cons_succ, List.setIfInBounds_toArray, List.set_cons_zero, List.set_cons_succ]
  refine wpAnyH_ready (rs := [10]) (by kernel_rfl) (by simp) (AllReadyH.cons rfl (fun K hK => ?_) AllReadyH.nil)
  go_simp
  refine (kL.out _).mono ?_
  rintro e w3 ⟨rfl, hb⟩
  have MB := Lib.hid ((Mv.refl w pb o xs).drew.trans (Mv.of_below pb o xs hb))
  have P3 := Lib.hid (HP.out.drew.below hb)
  refine hK _ _ (P3.out.cl (by omega) (fun _ _ _ => rfl)) (fun hS => ?_)
  clear hK K hb
  refine wpAnyH_take (i := 11) (v := .pointer (some ⟨pb, o, none⟩)) rfl (by kernel_rfl) (by kernel_rfl) (by kernel_rfl) (fun _ _ _ h => h) (Or.inl ⟨by rfl, ?_⟩) hS ?_
  · (intro w9 hS9; go_simp; try with_reducible rfl)
  simp only [Act.put, List.getElem_toArray, List.getElem_cons_zero, List.getElem_cons_succ, List.setIfInBounds_toArray, List.set_cons_zero, List.set_cons_succ]
  refine wpAnyH_take (i := 12) (v := .pointer (some ⟨pb, o + 11, none⟩)) rfl (by kernel_rfl) (by kernel_rfl) (by kernel_rfl) (fun _ _ _ h => h) (Or.inl ⟨by rfl, ?_⟩) hS ?_
  · (intro w9 hS9; go_simp; try with_reducible rfl)
  simp only [Act.put, List.getElem_toArray, List.getElem_cons_zero, List.getElem_cons_succ, List.setIfInBounds_toArray, List.set_cons_zero, List.set_cons_succ]
  refine wpAnyH_ready (rs := [13]) (by kernel_rfl) (by simp) (AllReadyH.cons rfl (fun K hK => ?_) AllReadyH.nil)
  have s11 := P3.out.numk HT.out 11 .i64 rfl
  have fz := P3.out.frozen
  have MS := (Mv.refl w3 pb o xs).set 11 (by omega) (.int .i64 (lvV (numI xs 68) (numI xs 69) (numI xs 70)))
  have M1 := Lib.hid (show Mv w _ pb o xs (upd xs [(11, .int .i64 (lvV (numI xs 68) (numI xs 69) (numI xs 70)))]) from MB.out.trans MS)
  have S1 := Lib.hid ((P3.out.mv MS).cl (xs := xs) (lo := 68) (hi := 72) (by omega) (upd_rng (l := [(11, .int .i64 (lvV (numI xs 68) (numI xs 69) (numI xs 70)))]) HT.out.1 (by omega) rfl))
  clear MS
  go_simp
  refine hK _ _ S1.out (fun hS => ?_)
  clear hK K
  refine wpAnyH_done (by kernel_rfl) ?_ _
  go_wp2_with fail
  go_end0
  exact ⟨rfl, M1.out⟩
end Go.Proofs.YtjfdochceejegaaDoor
