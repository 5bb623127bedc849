/- Contracts of the program's update, hearSuperior, hearNotDesignated. -/
import Derived.Test.YtjfdochceejegaaDoorIh
namespace Go.Proofs.YtjfdochceejegaaDoor
open Go.RowKit Go.Sort

theorem sV : (Tryd.prog.info? 31).map (·.size) = some 4 := s30
/-- The vector and the times become others that the port has. -/
def mvU (X : Array Value) : Array Value := upd X [(56, .int .u64 (numI X 48)), (57, .int .u32 (numI X 49)), (58, .int .u64 (numI X 50)), (59, .int .u16 (numI X 51)), (68, .int .i64 (numI X 60)), (69, .int .i64 (numI X 61)), (70, .int .i64 (numI X 62)), (71, .int .i64 (numI X 63))]
theorem mvU_typed {xs : Array Value} (h : Typed xs) : Typed (mvU xs) := upd_typed _ h (by
  simp only [List.mem_cons, List.not_mem_nil, or_false]
  rintro p (rfl | rfl | rfl | rfl | rfl | rfl | rfl | rfl)
  · exact isK rfl _
  · exact isK rfl _
  · exact isK rfl _
  · exact isK rfl _
  · exact isK rfl _
  · exact isK rfl _
  · exact isK rfl _
  · exact isK rfl _)
def mvS (X : Array Value) : Array Value := upd X [(56, .int .u64 (numI X 52)), (57, .int .u32 (numI X 53)), (58, .int .u64 (numI X 54)), (59, .int .u16 (numI X 55)), (68, .int .i64 (numI X 64)), (69, .int .i64 (numI X 65)), (70, .int .i64 (numI X 66)), (71, .int .i64 (numI X 67))]
theorem mvS_typed {xs : Array Value} (h : Typed xs) : Typed (mvS xs) := upd_typed _ h (by
  simp only [List.mem_cons, List.not_mem_nil, or_false]
  rintro p (rfl | rfl | rfl | rfl | rfl | rfl | rfl | rfl)
  · exact isK rfl _
  · exact isK rfl _
  · exact isK rfl _
  · exact isK rfl _
  · exact isK rfl _
  · exact isK rfl _
  · exact isK rfl _
  · exact isK rfl _)
def updA (xs : Array Value) : Array Value := upd xs [(27, .bool false), (26, .bool false), (16, .bool (boolI xs 16 && bosX2 xs)), (42, .bool (boolI xs 42 && (boolI xs 16 && bosX2 xs)))]
theorem updA_typed {xs : Array Value} (h : Typed xs) : Typed (updA xs) := upd_typed _ h (by
  simp only [List.mem_cons, List.not_mem_nil, or_false]
  rintro p (rfl | rfl | rfl | rfl)
  · exact isB rfl _
  · exact isB rfl _
  · exact isB rfl _
  · exact isB rfl _)
def updX (xs : Array Value) : Array Value := upd (mvU (updA xs)) [(43, .bool false), (44, .int .i64 2), (24, .bool true), (86, .int .i64 2)]
theorem updX_typed {xs : Array Value} (h : Typed xs) : Typed (updX xs) := upd_typed _ (mvU_typed (updA_typed h)) (by
  simp only [List.mem_cons, List.not_mem_nil, or_false]
  rintro p (rfl | rfl | rfl | rfl)
  · exact isB rfl _
  · exact isK rfl _
  · exact isB rfl _
  · exact isK rfl _)
theorem bosX2_upd {xs : Array Value} {l : List (Nat × Value)} (hx : xs.size = 90) (hl : (l.all fun p => decide (p.1 < 44)) = true) : bosX2 (upd xs l) = bosX2 xs := by
  have e := fun k (hk : k < 90) (ho : 44 ≤ k) => num_out (k := k) hx hk (List.all_eq_true.2 fun p hp => by have := List.all_eq_true.1 hl p hp; simp at this ⊢; omega)
  unfold bosX2
  rw [e 44 (by omega) (by omega), e 56 (by omega) (by omega), e 57 (by omega) (by omega), e 58 (by omega) (by omega), e 59 (by omega) (by omega), e 48 (by omega) (by omega), e 49 (by omega) (by omega), e 50 (by omega) (by omega), e 51 (by omega) (by omega)]
set_option maxHeartbeats 2000000 in
theorem update_any (pb o : Nat) (xs : Array Value) (w : World) (hp : Pt w pb o xs) (ht : Typed xs) : Calls Tryd.prog 33 #[.pointer (some ⟨pb, o, none⟩)] w fun e w' => e = .returned (.tuple #[]) ∧ Mv w w' pb o xs (updX xs) := by
  have hp0 := Lib.hid hp
  have HFIN := Lib.hid (fun w' (h : Mv w w' pb o xs (upd (mvU (updA xs)) [(43, .bool false), (44, .int .i64 2), (24, .bool true), (86, .int .i64 2)])) => (show Mv w w' pb o xs (updX xs) from h))
  have kB := Lib.hid (fun w hp ht => bos2_any pb o (upd xs [(27, .bool false), (26, .bool false)]) w hp ht)
  rw [bosX2_upd ht.1 rfl] at kB
  have P0 := Lib.hid hp
  have T0 := Lib.hid ht
  have M0 := Lib.hid (Mv.refl w pb o xs)
  clear hp ht
  have HU := Lib.hid (updA_typed T0.out)
  have HT0 := Lib.hid T0.out
  have HD := Lib.hid (show updA xs = upd xs [(27, .bool false), (26, .bool false), (16, .bool (boolI xs 16 && bosX2 xs)), (42, .bool (boolI xs 42 && (boolI xs 16 && bosX2 xs)))] from rfl)
  generalize updX xs = UX at *
  have e16 := P0.out.bool T0.out 16 rfl
  have e42 := P0.out.bool T0.out 42 rfl
  generalize updA xs = Z at *
  generalize hb16 : boolI xs 16 = x16 at *
  generalize hb42 : boolI xs 42 = x42 at *
  generalize bosX2 xs = g at *
  have HB16 := Lib.hid hb16
  have HB42 := Lib.hid hb42
  clear hb16 hb42
  cases x16
  · cases x42
    · have s16 := P0.out.bool T0.out 16 rfl
      have s26 := P0.out.bool T0.out 26 rfl
      have s27 := P0.out.bool T0.out 27 rfl
      have s42 := P0.out.bool T0.out 42 rfl
      have fz := P0.out.frozen
      have M1 := Lib.hid (show Mv w _ pb o xs (upd xs [(27, .bool false), (26, .bool false), (16, .bool false), (42, .bool false)]) from ((((M0.out.set 27 (by omega) (.bool false)).set 26 (by omega) (.bool false)).set 16 (by omega) (.bool false)).set 42 (by omega) (.bool false)))
      have T1 := Lib.hid (show Typed (upd xs [(27, .bool false), (26, .bool false), (16, .bool false), (42, .bool false)]) from upd_typed _ T0.out (by
        simp only [List.mem_cons, List.not_mem_nil, or_false]
        rintro p (rfl | rfl | rfl | rfl)
        · exact isB rfl _
        · exact isB rfl _
        · exact isB rfl _
        · exact isB rfl _))
      have P1 := Lib.hid (show Pt _ pb o (upd xs [(27, .bool false), (26, .bool false), (16, .bool false), (42, .bool false)]) from P0.out.mv (((((Mv.refl w pb o (xs)).set 27 (by omega) (.bool false)).set 26 (by omega) (.bool false)).set 16 (by omega) (.bool false)).set 42 (by omega) (.bool false)))
      rw [HB16.out] at s16
      rw [HB42.out] at s42
      clear e16 e42
      go_enter Tryd.func33, Tryd.ntmps33
      go_wp2_with fail
      clear fz s27 s26 s16 s42 P1 T1 M0 P0
      generalize ((((w.setCell ⟨pb, o + 27, none⟩ (.bool false)).setCell ⟨pb, o + 26, none⟩ (.bool false)).setCell ⟨pb, o + 16, none⟩ (.bool false)).setCell ⟨pb, o + 42, none⟩ (.bool false)) = w1 at *
      have MA := Lib.hid (show Mv w w1 pb o xs Z from (by rw [HD.out]; exact M1.out))
      have PA := Lib.hid (hp0.out.mv MA.out)
      refine wp_region_held_drew (S := fun w' => Cl w' pb o Z 48 52 ∧ Cl w' pb o Z 60 64) (by kernel_rfl) ⟨PA.out.drew.cl (by omega) (fun _ _ _ => rfl), PA.out.drew.cl (by omega) (fun _ _ _ => rfl)⟩ (fun hS => ?_)
      refine wpAnyH_take (i := 0) (v := .pointer (some ⟨pb, o, none⟩)) rfl (by kernel_rfl) (by kernel_rfl) (by kernel_rfl) (fun _ _ _ h => h) (Or.inl ⟨by rfl, ?_⟩) hS ?_
      · (intro w9 hS9; go_simp; try with_reducible rfl)
      simp only [Act.put, List.getElem_toArray, List.getElem_cons_zero, List.setIfInBounds_toArray, List.set_cons_zero, List.set_cons_succ]
      refine wpAnyH_take (i := 1) (v := .pointer (some ⟨pb, o, none⟩)) rfl (by kernel_rfl) (by kernel_rfl) (by kernel_rfl) (fun _ _ _ h => h) (Or.inl ⟨by rfl, ?_⟩) hS ?_
      · (intro w9 hS9; go_simp; try with_reducible rfl)
      simp only [Act.put, List.getElem_toArray, List.getElem_cons_zero, List.getElem_cons_succ, List.setIfInBounds_toArray, List.set_cons_zero, List.set_cons_succ]
      refine wpAnyH_take (i := 2) (v := .pointer (some ⟨pb, o, none⟩)) rfl (by kernel_rfl) (by kernel_rfl) (by kernel_rfl) (fun _ _ _ h => h) (Or.inl ⟨by rfl, ?_⟩) hS ?_
      · (intro w9 hS9; go_simp; try with_reducible rfl)
      simp only [Act.put, List.getElem_toArray, List.getElem_cons_zero, List.getElem_cons_succ, List.setIfInBounds_toArray, List.set_cons_zero, List.set_cons_succ]
      refine wpAnyH_take (i := 3) (v := .pointer (some ⟨pb, o, none⟩)) rfl (by kernel_rfl) (by kernel_rfl) (by kernel_rfl) (fun _ _ _ h => h) (Or.inl ⟨by rfl, ?_⟩) hS ?_
      · (intro w9 hS9; go_simp; try with_reducible rfl)
      simp only [Act.put, List.getElem_toArray, List.getElem_cons_zero, List.getElem_cons_succ, List.setIfInBounds_toArray, List.set_cons_zero, List.set_cons_succ]
      refine wpAnyH_take (i := 4) (v := .pointer (some ⟨pb, o + 48, none⟩)) rfl (by kernel_rfl) (by kernel_rfl) (by kernel_rfl) (fun _ _ _ h => h) (Or.inl ⟨by rfl, ?_⟩) hS ?_
      · (intro w9 hS9; go_simp; try with_reducible rfl)
      simp only [Act.put, List.getElem_toArray, List.getElem_cons_zero, List.getElem_cons_succ, List.setIfInBounds_toArray, List.set_cons_zero, List.set_cons_succ]
      refine wpAnyH_take (i := 5) (v := vV (numI Z 48) (numI Z 49) (numI Z 50) (numI Z 51)) rfl (by kernel_rfl) (by kernel_rfl) (by kernel_rfl) (fun _ _ _ h => h) (yields_T uV rfl s30 (by rfl) _ rfl rfl (fun w9 h9 => h9.1.vec HU.out 48 (by omega) (by omega) rfl rfl rfl rfl) rfl) hS ?_
      simp only [Act.put, List.getElem_toArray, List.getElem_cons_zero, List.getElem_cons_succ, List.setIfInBounds_toArray, List.set_cons_zero, List.set_cons_succ]
      refine wpAnyH_take (i := 6) (v := .pointer (some ⟨pb, o, none⟩)) rfl (by kernel_rfl) (by kernel_rfl) (by kernel_rfl) (fun _ _ _ h => h) (Or.inl ⟨by rfl, ?_⟩) hS ?_
      · (intro w9 hS9; go_simp; try with_reducible rfl)
      simp only [Act.put, List.getElem_toArray, List.getElem_cons_zero, List.getElem_cons_succ, List.setIfInBounds_toArray, List.set_cons_zero, List.set_cons_succ]
      refine wpAnyH_take (i := 7) (v := .pointer (some ⟨pb, o, none⟩)) rfl (by kernel_rfl) (by kernel_rfl) (by kernel_rfl) (fun _ _ _ h => h) (Or.inl ⟨by rfl, ?_⟩) hS ?_
      · (intro w9 hS9; go_simp; try with_reducible rfl)
      simp only [Act.put, List.getElem_toArray, List.getElem_cons_zero, List.getElem_cons_succ, List.setIfInBounds_toArray, List.set_cons_zero, List.set_cons_succ]
      refine wpAnyH_take (i := 8) (v := .pointer (some ⟨pb, o + 60, none⟩)) rfl (by kernel_rfl) (by kernel_rfl) (by kernel_rfl) (fun _ _ _ h => h) (Or.inl ⟨by rfl, ?_⟩) hS ?_
      · (intro w9 hS9; go_simp; try with_reducible rfl)
      simp only [Act.put, List.getElem_toArray, List.getElem_cons_zero, List.getElem_cons_succ, List.setIfInBounds_toArray, List.set_cons_zero, List.set_cons_succ]
      refine wpAnyH_take (i := 9) (v := tmV (numI Z 60) (numI Z 61) (numI Z 62) (numI Z 63)) rfl (by kernel_rfl) (by kernel_rfl) (by kernel_rfl) (fun _ _ _ h => h) (yields_T uT rfl s25 (by rfl) _ rfl rfl (fun w9 h9 => h9.2.times HU.out 60 (by omega) (by omega) rfl rfl rfl rfl) rfl) hS ?_
      simp only [Act.put, List.getElem_toArray, List.getElem_cons_zero, List.getElem_cons_succ, List.setIfInBounds_toArray, List.set_cons_zero, List.set_cons_succ]
      refine wpAnyH_take (i := 10) (v := .pointer (some ⟨pb, o, none⟩)) rfl (by kernel_rfl) (by kernel_rfl) (by kernel_rfl) (fun _ _ _ h => h) (Or.inl ⟨by rfl, ?_⟩) hS ?_
      · (intro w9 hS9; go_simp; try with_reducible rfl)
      simp only [Act.put, List.getElem_toArray, List.getElem_cons_zero, List.getElem_cons_succ, List.setIfInBounds_toArray, List.set_cons_zero, List.set_cons_succ]
      refine wpAnyH_take (i := 11) (v := .pointer (some ⟨pb, o + 56, none⟩)) rfl (by kernel_rfl) (by kernel_rfl) (by kernel_rfl) (fun _ _ _ h => h) (Or.inl ⟨by rfl, ?_⟩) hS ?_
      · (intro w9 hS9; go_simp; try with_reducible rfl)
      simp only [Act.put, List.getElem_toArray, List.getElem_cons_zero, List.getElem_cons_succ, List.setIfInBounds_toArray, List.set_cons_zero, List.set_cons_succ]
      refine wpAnyH_ready (rs := [12]) (by kernel_rfl) (by simp) (AllReadyH.cons rfl (fun K hK => ?_) AllReadyH.nil)
      rw [if_pos (by rfl)]
      refine wp_store_mv sV _ _ rfl 56 rfl rfl PA.out.drew (by simp [Value.oneCell']) rfl (by omega) ?_
      intro w4 hm
      simp only [Act.put]
      have M4 := Lib.hid (show Mv w w4 pb o xs (upd Z [(56, .int .u64 (numI Z 48)), (57, .int .u32 (numI Z 49)), (58, .int .u64 (numI Z 50)), (59, .int .u16 (numI Z 51))]) from MA.out.drew.trans hm)
      have P4 := Lib.hid (show Pt w4 pb o (upd Z [(56, .int .u64 (numI Z 48)), (57, .int .u32 (numI Z 49)), (58, .int .u64 (numI Z 50)), (59, .int .u16 (numI Z 51))]) from PA.out.drew.mv hm)
      clear hm
      refine hK _ _ ⟨P4.out.cl (by omega) (upd_rng HU.out.1 (by omega) rfl), P4.out.cl (by omega) (upd_rng HU.out.1 (by omega) rfl)⟩ (fun hS => ?_)
      clear hK K
      refine wpAnyH_take (i := 13) (v := .pointer (some ⟨pb, o, none⟩)) rfl (by kernel_rfl) (by kernel_rfl) (by kernel_rfl) (fun _ _ _ h => h) (Or.inl ⟨by rfl, ?_⟩) hS ?_
      · (intro w9 hS9; go_simp; try with_reducible rfl)
      simp only [Act.put, List.getElem_toArray, List.getElem_cons_zero, List.getElem_cons_succ, List.setIfInBounds_toArray, List.set_cons_zero, List.set_cons_succ]
      refine wpAnyH_take (i := 14) (v := .pointer (some ⟨pb, o + 68, none⟩)) rfl (by kernel_rfl) (by kernel_rfl) (by kernel_rfl) (fun _ _ _ h => h) (Or.inl ⟨by rfl, ?_⟩) hS ?_
      · (intro w9 hS9; go_simp; try with_reducible rfl)
      simp only [Act.put, List.getElem_toArray, List.getElem_cons_zero, List.getElem_cons_succ, List.setIfInBounds_toArray, List.set_cons_zero, List.set_cons_succ]
      refine wpAnyH_ready (rs := [15]) (by kernel_rfl) (by simp) (AllReadyH.cons rfl (fun K hK => ?_) AllReadyH.nil)
      rw [if_pos (by rfl)]
      refine wp_store_mv s25 _ _ rfl 68 rfl rfl P4.out (by simp [Value.oneCell']) rfl (by omega) ?_
      intro w5 hm
      simp only [Act.put]
      have M5 := Lib.hid (show Mv w w5 pb o xs (mvU Z) from M4.out.trans hm)
      have P5 := Lib.hid (show Pt w5 pb o (mvU Z) from P4.out.mv hm)
      have T5 := Lib.hid (show Typed (mvU Z) from mvU_typed HU.out)
      have C5 := Lib.hid (And.intro (P5.out.cl (xs := Z) (lo := 48) (hi := 52) (by omega) (upd_rng HU.out.1 (by omega) rfl)) (P5.out.cl (xs := Z) (lo := 60) (hi := 64) (by omega) (upd_rng HU.out.1 (by omega) rfl)))
      clear hm
      refine hK _ _ C5.out (fun hS => ?_)
      clear hK K hS C5 M4 P4
      refine wpAnyH_done (by kernel_rfl) ?_ _
      have s24 := P5.out.bool T5.out 24 rfl
      have s43 := P5.out.bool T5.out 43 rfl
      have s44 := P5.out.numk T5.out 44 .i64 rfl
      have s86 := P5.out.numk T5.out 86 .i64 rfl
      have fz := P5.out.frozen
      have M6 := Lib.hid (show Mv w _ pb o xs (upd (mvU Z) [(43, .bool false), (44, .int .i64 2), (24, .bool true), (86, .int .i64 2)]) from ((((M5.out.set 43 (by omega) (.bool false)).set 44 (by omega) (.int .i64 2)).set 24 (by omega) (.bool true)).set 86 (by omega) (.int .i64 2)))
      have T6 := Lib.hid (show Typed (upd (mvU Z) [(43, .bool false), (44, .int .i64 2), (24, .bool true), (86, .int .i64 2)]) from upd_typed _ T5.out (by
        simp only [List.mem_cons, List.not_mem_nil, or_false]
        rintro p (rfl | rfl | rfl | rfl)
        · exact isB rfl _
        · exact isK rfl _
        · exact isB rfl _
        · exact isK rfl _))
      have P6 := Lib.hid (show Pt _ pb o (upd (mvU Z) [(43, .bool false), (44, .int .i64 2), (24, .bool true), (86, .int .i64 2)]) from P5.out.mv (((((Mv.refl w5 pb o (mvU Z)).set 43 (by omega) (.bool false)).set 44 (by omega) (.int .i64 2)).set 24 (by omega) (.bool true)).set 86 (by omega) (.int .i64 2)))
      go_wp2_with fail
      go_end0
      exact ⟨rfl, HFIN.out _ M6.out⟩
    · have s16 := P0.out.bool T0.out 16 rfl
      have s26 := P0.out.bool T0.out 26 rfl
      have s27 := P0.out.bool T0.out 27 rfl
      have s42 := P0.out.bool T0.out 42 rfl
      have fz := P0.out.frozen
      have M1 := Lib.hid (show Mv w _ pb o xs (upd xs [(27, .bool false), (26, .bool false), (16, .bool false), (42, .bool false)]) from ((((M0.out.set 27 (by omega) (.bool false)).set 26 (by omega) (.bool false)).set 16 (by omega) (.bool false)).set 42 (by omega) (.bool false)))
      have T1 := Lib.hid (show Typed (upd xs [(27, .bool false), (26, .bool false), (16, .bool false), (42, .bool false)]) from upd_typed _ T0.out (by
        simp only [List.mem_cons, List.not_mem_nil, or_false]
        rintro p (rfl | rfl | rfl | rfl)
        · exact isB rfl _
        · exact isB rfl _
        · exact isB rfl _
        · exact isB rfl _))
      have P1 := Lib.hid (show Pt _ pb o (upd xs [(27, .bool false), (26, .bool false), (16, .bool false), (42, .bool false)]) from P0.out.mv (((((Mv.refl w pb o (xs)).set 27 (by omega) (.bool false)).set 26 (by omega) (.bool false)).set 16 (by omega) (.bool false)).set 42 (by omega) (.bool false)))
      rw [HB16.out] at s16
      rw [HB42.out] at s42
      clear e16 e42
      go_enter Tryd.func33, Tryd.ntmps33
      go_wp2_with fail
      clear fz s27 s26 s16 s42 P1 T1 M0 P0
      generalize ((((w.setCell ⟨pb, o + 27, none⟩ (.bool false)).setCell ⟨pb, o + 26, none⟩ (.bool false)).setCell ⟨pb, o + 16, none⟩ (.bool false)).setCell ⟨pb, o + 42, none⟩ (.bool false)) = w1 at *
      have MA := Lib.hid (show Mv w w1 pb o xs Z from (by rw [HD.out]; exact M1.out))
      have PA := Lib.hid (hp0.out.mv MA.out)
      refine wp_region_held_drew (S := fun w' => Cl w' pb o Z 48 52 ∧ Cl w' pb o Z 60 64) (by kernel_rfl) ⟨PA.out.drew.cl (by omega) (fun _ _ _ => rfl), PA.out.drew.cl (by omega) (fun _ _ _ => rfl)⟩ (fun hS => ?_)
      refine wpAnyH_take (i := 0) (v := .pointer (some ⟨pb, o, none⟩)) rfl (by kernel_rfl) (by kernel_rfl) (by kernel_rfl) (fun _ _ _ h => h) (Or.inl ⟨by rfl, ?_⟩) hS ?_
      · (intro w9 hS9; go_simp; try with_reducible rfl)
      simp only [Act.put, List.getElem_toArray, List.getElem_cons_zero, List.setIfInBounds_toArray, List.set_cons_zero, List.set_cons_succ]
      refine wpAnyH_take (i := 1) (v := .pointer (some ⟨pb, o, none⟩)) rfl (by kernel_rfl) (by kernel_rfl) (by kernel_rfl) (fun _ _ _ h => h) (Or.inl ⟨by rfl, ?_⟩) hS ?_
      · (intro w9 hS9; go_simp; try with_reducible rfl)
      simp only [Act.put, List.getElem_toArray, List.getElem_cons_zero, List.getElem_cons_succ, List.setIfInBounds_toArray, List.set_cons_zero, List.set_cons_succ]
      refine wpAnyH_take (i := 2) (v := .pointer (some ⟨pb, o, none⟩)) rfl (by kernel_rfl) (by kernel_rfl) (by kernel_rfl) (fun _ _ _ h => h) (Or.inl ⟨by rfl, ?_⟩) hS ?_
      · (intro w9 hS9; go_simp; try with_reducible rfl)
      simp only [Act.put, List.getElem_toArray, List.getElem_cons_zero, List.getElem_cons_succ, List.setIfInBounds_toArray, List.set_cons_zero, List.set_cons_succ]
      refine wpAnyH_take (i := 3) (v := .pointer (some ⟨pb, o, none⟩)) rfl (by kernel_rfl) (by kernel_rfl) (by kernel_rfl) (fun _ _ _ h => h) (Or.inl ⟨by rfl, ?_⟩) hS ?_
      · (intro w9 hS9; go_simp; try with_reducible rfl)
      simp only [Act.put, List.getElem_toArray, List.getElem_cons_zero, List.getElem_cons_succ, List.setIfInBounds_toArray, List.set_cons_zero, List.set_cons_succ]
      refine wpAnyH_take (i := 4) (v := .pointer (some ⟨pb, o + 48, none⟩)) rfl (by kernel_rfl) (by kernel_rfl) (by kernel_rfl) (fun _ _ _ h => h) (Or.inl ⟨by rfl, ?_⟩) hS ?_
      · (intro w9 hS9; go_simp; try with_reducible rfl)
      simp only [Act.put, List.getElem_toArray, List.getElem_cons_zero, List.getElem_cons_succ, List.setIfInBounds_toArray, List.set_cons_zero, List.set_cons_succ]
      refine wpAnyH_take (i := 5) (v := vV (numI Z 48) (numI Z 49) (numI Z 50) (numI Z 51)) rfl (by kernel_rfl) (by kernel_rfl) (by kernel_rfl) (fun _ _ _ h => h) (yields_T uV rfl s30 (by rfl) _ rfl rfl (fun w9 h9 => h9.1.vec HU.out 48 (by omega) (by omega) rfl rfl rfl rfl) rfl) hS ?_
      simp only [Act.put, List.getElem_toArray, List.getElem_cons_zero, List.getElem_cons_succ, List.setIfInBounds_toArray, List.set_cons_zero, List.set_cons_succ]
      refine wpAnyH_take (i := 6) (v := .pointer (some ⟨pb, o, none⟩)) rfl (by kernel_rfl) (by kernel_rfl) (by kernel_rfl) (fun _ _ _ h => h) (Or.inl ⟨by rfl, ?_⟩) hS ?_
      · (intro w9 hS9; go_simp; try with_reducible rfl)
      simp only [Act.put, List.getElem_toArray, List.getElem_cons_zero, List.getElem_cons_succ, List.setIfInBounds_toArray, List.set_cons_zero, List.set_cons_succ]
      refine wpAnyH_take (i := 7) (v := .pointer (some ⟨pb, o, none⟩)) rfl (by kernel_rfl) (by kernel_rfl) (by kernel_rfl) (fun _ _ _ h => h) (Or.inl ⟨by rfl, ?_⟩) hS ?_
      · (intro w9 hS9; go_simp; try with_reducible rfl)
      simp only [Act.put, List.getElem_toArray, List.getElem_cons_zero, List.getElem_cons_succ, List.setIfInBounds_toArray, List.set_cons_zero, List.set_cons_succ]
      refine wpAnyH_take (i := 8) (v := .pointer (some ⟨pb, o + 60, none⟩)) rfl (by kernel_rfl) (by kernel_rfl) (by kernel_rfl) (fun _ _ _ h => h) (Or.inl ⟨by rfl, ?_⟩) hS ?_
      · (intro w9 hS9; go_simp; try with_reducible rfl)
      simp only [Act.put, List.getElem_toArray, List.getElem_cons_zero, List.getElem_cons_succ, List.setIfInBounds_toArray, List.set_cons_zero, List.set_cons_succ]
      refine wpAnyH_take (i := 9) (v := tmV (numI Z 60) (numI Z 61) (numI Z 62) (numI Z 63)) rfl (by kernel_rfl) (by kernel_rfl) (by kernel_rfl) (fun _ _ _ h => h) (yields_T uT rfl s25 (by rfl) _ rfl rfl (fun w9 h9 => h9.2.times HU.out 60 (by omega) (by omega) rfl rfl rfl rfl) rfl) hS ?_
      simp only [Act.put, List.getElem_toArray, List.getElem_cons_zero, List.getElem_cons_succ, List.setIfInBounds_toArray, List.set_cons_zero, List.set_cons_succ]
      refine wpAnyH_take (i := 10) (v := .pointer (some ⟨pb, o, none⟩)) rfl (by kernel_rfl) (by kernel_rfl) (by kernel_rfl) (fun _ _ _ h => h) (Or.inl ⟨by rfl, ?_⟩) hS ?_
      · (intro w9 hS9; go_simp; try with_reducible rfl)
      simp only [Act.put, List.getElem_toArray, List.getElem_cons_zero, List.getElem_cons_succ, List.setIfInBounds_toArray, List.set_cons_zero, List.set_cons_succ]
      refine wpAnyH_take (i := 11) (v := .pointer (some ⟨pb, o + 56, none⟩)) rfl (by kernel_rfl) (by kernel_rfl) (by kernel_rfl) (fun _ _ _ h => h) (Or.inl ⟨by rfl, ?_⟩) hS ?_
      · (intro w9 hS9; go_simp; try with_reducible rfl)
      simp only [Act.put, List.getElem_toArray, List.getElem_cons_zero, List.getElem_cons_succ, List.setIfInBounds_toArray, List.set_cons_zero, List.set_cons_succ]
      refine wpAnyH_ready (rs := [12]) (by kernel_rfl) (by simp) (AllReadyH.cons rfl (fun K hK => ?_) AllReadyH.nil)
      rw [if_pos (by rfl)]
      refine wp_store_mv sV _ _ rfl 56 rfl rfl PA.out.drew (by simp [Value.oneCell']) rfl (by omega) ?_
      intro w4 hm
      simp only [Act.put]
      have M4 := Lib.hid (show Mv w w4 pb o xs (upd Z [(56, .int .u64 (numI Z 48)), (57, .int .u32 (numI Z 49)), (58, .int .u64 (numI Z 50)), (59, .int .u16 (numI Z 51))]) from MA.out.drew.trans hm)
      have P4 := Lib.hid (show Pt w4 pb o (upd Z [(56, .int .u64 (numI Z 48)), (57, .int .u32 (numI Z 49)), (58, .int .u64 (numI Z 50)), (59, .int .u16 (numI Z 51))]) from PA.out.drew.mv hm)
      clear hm
      refine hK _ _ ⟨P4.out.cl (by omega) (upd_rng HU.out.1 (by omega) rfl), P4.out.cl (by omega) (upd_rng HU.out.1 (by omega) rfl)⟩ (fun hS => ?_)
      clear hK K
      refine wpAnyH_take (i := 13) (v := .pointer (some ⟨pb, o, none⟩)) rfl (by kernel_rfl) (by kernel_rfl) (by kernel_rfl) (fun _ _ _ h => h) (Or.inl ⟨by rfl, ?_⟩) hS ?_
      · (intro w9 hS9; go_simp; try with_reducible rfl)
      simp only [Act.put, List.getElem_toArray, List.getElem_cons_zero, List.getElem_cons_succ, List.setIfInBounds_toArray, List.set_cons_zero, List.set_cons_succ]
      refine wpAnyH_take (i := 14) (v := .pointer (some ⟨pb, o + 68, none⟩)) rfl (by kernel_rfl) (by kernel_rfl) (by kernel_rfl) (fun _ _ _ h => h) (Or.inl ⟨by rfl, ?_⟩) hS ?_
      · (intro w9 hS9; go_simp; try with_reducible rfl)
      simp only [Act.put, List.getElem_toArray, List.getElem_cons_zero, List.getElem_cons_succ, List.setIfInBounds_toArray, List.set_cons_zero, List.set_cons_succ]
      refine wpAnyH_ready (rs := [15]) (by kernel_rfl) (by simp) (AllReadyH.cons rfl (fun K hK => ?_) AllReadyH.nil)
      rw [if_pos (by rfl)]
      refine wp_store_mv s25 _ _ rfl 68 rfl rfl P4.out (by simp [Value.oneCell']) rfl (by omega) ?_
      intro w5 hm
      simp only [Act.put]
      have M5 := Lib.hid (show Mv w w5 pb o xs (mvU Z) from M4.out.trans hm)
      have P5 := Lib.hid (show Pt w5 pb o (mvU Z) from P4.out.mv hm)
      have T5 := Lib.hid (show Typed (mvU Z) from mvU_typed HU.out)
      have C5 := Lib.hid (And.intro (P5.out.cl (xs := Z) (lo := 48) (hi := 52) (by omega) (upd_rng HU.out.1 (by omega) rfl)) (P5.out.cl (xs := Z) (lo := 60) (hi := 64) (by omega) (upd_rng HU.out.1 (by omega) rfl)))
      clear hm
      refine hK _ _ C5.out (fun hS => ?_)
      clear hK K hS C5 M4 P4
      refine wpAnyH_done (by kernel_rfl) ?_ _
      have s24 := P5.out.bool T5.out 24 rfl
      have s43 := P5.out.bool T5.out 43 rfl
      have s44 := P5.out.numk T5.out 44 .i64 rfl
      have s86 := P5.out.numk T5.out 86 .i64 rfl
      have fz := P5.out.frozen
      have M6 := Lib.hid (show Mv w _ pb o xs (upd (mvU Z) [(43, .bool false), (44, .int .i64 2), (24, .bool true), (86, .int .i64 2)]) from ((((M5.out.set 43 (by omega) (.bool false)).set 44 (by omega) (.int .i64 2)).set 24 (by omega) (.bool true)).set 86 (by omega) (.int .i64 2)))
      have T6 := Lib.hid (show Typed (upd (mvU Z) [(43, .bool false), (44, .int .i64 2), (24, .bool true), (86, .int .i64 2)]) from upd_typed _ T5.out (by
        simp only [List.mem_cons, List.not_mem_nil, or_false]
        rintro p (rfl | rfl | rfl | rfl)
        · exact isB rfl _
        · exact isK rfl _
        · exact isB rfl _
        · exact isK rfl _))
      have P6 := Lib.hid (show Pt _ pb o (upd (mvU Z) [(43, .bool false), (44, .int .i64 2), (24, .bool true), (86, .int .i64 2)]) from P5.out.mv (((((Mv.refl w5 pb o (mvU Z)).set 43 (by omega) (.bool false)).set 44 (by omega) (.int .i64 2)).set 24 (by omega) (.bool true)).set 86 (by omega) (.int .i64 2)))
      go_wp2_with fail
      go_end0
      exact ⟨rfl, HFIN.out _ M6.out⟩
  · cases x42
    · have s26 := P0.out.bool T0.out 26 rfl
      have s27 := P0.out.bool T0.out 27 rfl
      have fz := P0.out.frozen
      have M1 := Lib.hid (show Mv w _ pb o xs (upd xs [(27, .bool false), (26, .bool false)]) from ((M0.out.set 27 (by omega) (.bool false)).set 26 (by omega) (.bool false)))
      have T1 := Lib.hid (show Typed (upd xs [(27, .bool false), (26, .bool false)]) from upd_typed _ T0.out (by
        simp only [List.mem_cons, List.not_mem_nil, or_false]
        rintro p (rfl | rfl)
        · exact isB rfl _
        · exact isB rfl _))
      have P1 := Lib.hid (show Pt _ pb o (upd xs [(27, .bool false), (26, .bool false)]) from P0.out.mv (((Mv.refl w pb o (xs)).set 27 (by omega) (.bool false)).set 26 (by omega) (.bool false)))
      clear e42
      go_enter Tryd.func33, Tryd.ntmps33
      go_wp2_with fail
      clear e16
      clear fz s26 s27 M0 T0 P0
      generalize ((w.setCell ⟨pb, o + 27, none⟩ (.bool false)).setCell ⟨pb, o + 26, none⟩ (.bool false)) = w1 at *
      refine (kB.out _ P1.out T1.out).mono ?_
      rintro e w2 ⟨rfl, hb⟩
      have M2 := Lib.hid (M1.out.trans (Mv.of_below pb o _ hb))
      have P2 := Lib.hid (P1.out.below hb)
      clear hb P1 M1
      have f42 := P2.out.bool T1.out 42 rfl
      rw [bool_out HT0.out.1 (by omega) rfl, HB42.out] at f42
      have s16 := P2.out.bool T1.out 16 rfl
      have s42 := P2.out.bool T1.out 42 rfl
      have fz := P2.out.frozen
      have M3 := Lib.hid (show Mv w _ pb o xs (upd (upd xs [(27, .bool false), (26, .bool false)]) [(16, .bool g), (42, .bool false)]) from ((M2.out.set 16 (by omega) (.bool g)).set 42 (by omega) (.bool false)))
      have T3 := Lib.hid (show Typed (upd (upd xs [(27, .bool false), (26, .bool false)]) [(16, .bool g), (42, .bool false)]) from upd_typed _ T1.out (by
        simp only [List.mem_cons, List.not_mem_nil, or_false]
        rintro p (rfl | rfl)
        · exact isB rfl _
        · exact isB rfl _))
      have P3 := Lib.hid (show Pt _ pb o (upd (upd xs [(27, .bool false), (26, .bool false)]) [(16, .bool g), (42, .bool false)]) from P2.out.mv (((Mv.refl w2 pb o (upd xs [(27, .bool false), (26, .bool false)])).set 16 (by omega) (.bool g)).set 42 (by omega) (.bool false)))
      rw [bool_out HT0.out.1 (by omega) rfl, HB42.out] at s42
      clear f42
      go_wp2_with fail
      clear fz s16 s42 P3 T3 M2 P2 T1
      generalize ((w2.setCell ⟨pb, o + 16, none⟩ (.bool g)).setCell ⟨pb, o + 42, none⟩ (.bool false)) = w3 at *
      have MA := Lib.hid (show Mv w w3 pb o xs Z from (by rw [HD.out]; exact M3.out))
      have PA := Lib.hid (hp0.out.mv MA.out)
      refine wp_region_held_drew (S := fun w' => Cl w' pb o Z 48 52 ∧ Cl w' pb o Z 60 64) (by kernel_rfl) ⟨PA.out.drew.cl (by omega) (fun _ _ _ => rfl), PA.out.drew.cl (by omega) (fun _ _ _ => rfl)⟩ (fun hS => ?_)
      refine wpAnyH_take (i := 0) (v := .pointer (some ⟨pb, o, none⟩)) rfl (by kernel_rfl) (by kernel_rfl) (by kernel_rfl) (fun _ _ _ h => h) (Or.inl ⟨by rfl, ?_⟩) hS ?_
      · (intro w9 hS9; go_simp; try with_reducible rfl)
      simp only [Act.put, List.getElem_toArray, List.getElem_cons_zero, List.setIfInBounds_toArray, List.set_cons_zero, List.set_cons_succ]
      refine wpAnyH_take (i := 1) (v := .pointer (some ⟨pb, o, none⟩)) rfl (by kernel_rfl) (by kernel_rfl) (by kernel_rfl) (fun _ _ _ h => h) (Or.inl ⟨by rfl, ?_⟩) hS ?_
      · (intro w9 hS9; go_simp; try with_reducible rfl)
      simp only [Act.put, List.getElem_toArray, List.getElem_cons_zero, List.getElem_cons_succ, List.setIfInBounds_toArray, List.set_cons_zero, List.set_cons_succ]
      refine wpAnyH_take (i := 2) (v := .pointer (some ⟨pb, o, none⟩)) rfl (by kernel_rfl) (by kernel_rfl) (by kernel_rfl) (fun _ _ _ h => h) (Or.inl ⟨by rfl, ?_⟩) hS ?_
      · (intro w9 hS9; go_simp; try with_reducible rfl)
      simp only [Act.put, List.getElem_toArray, List.getElem_cons_zero, List.getElem_cons_succ, List.setIfInBounds_toArray, List.set_cons_zero, List.set_cons_succ]
      refine wpAnyH_take (i := 3) (v := .pointer (some ⟨pb, o, none⟩)) rfl (by kernel_rfl) (by kernel_rfl) (by kernel_rfl) (fun _ _ _ h => h) (Or.inl ⟨by rfl, ?_⟩) hS ?_
      · (intro w9 hS9; go_simp; try with_reducible rfl)
      simp only [Act.put, List.getElem_toArray, List.getElem_cons_zero, List.getElem_cons_succ, List.setIfInBounds_toArray, List.set_cons_zero, List.set_cons_succ]
      refine wpAnyH_take (i := 4) (v := .pointer (some ⟨pb, o + 48, none⟩)) rfl (by kernel_rfl) (by kernel_rfl) (by kernel_rfl) (fun _ _ _ h => h) (Or.inl ⟨by rfl, ?_⟩) hS ?_
      · (intro w9 hS9; go_simp; try with_reducible rfl)
      simp only [Act.put, List.getElem_toArray, List.getElem_cons_zero, List.getElem_cons_succ, List.setIfInBounds_toArray, List.set_cons_zero, List.set_cons_succ]
      refine wpAnyH_take (i := 5) (v := vV (numI Z 48) (numI Z 49) (numI Z 50) (numI Z 51)) rfl (by kernel_rfl) (by kernel_rfl) (by kernel_rfl) (fun _ _ _ h => h) (yields_T uV rfl s30 (by rfl) _ rfl rfl (fun w9 h9 => h9.1.vec HU.out 48 (by omega) (by omega) rfl rfl rfl rfl) rfl) hS ?_
      simp only [Act.put, List.getElem_toArray, List.getElem_cons_zero, List.getElem_cons_succ, List.setIfInBounds_toArray, List.set_cons_zero, List.set_cons_succ]
      refine wpAnyH_take (i := 6) (v := .pointer (some ⟨pb, o, none⟩)) rfl (by kernel_rfl) (by kernel_rfl) (by kernel_rfl) (fun _ _ _ h => h) (Or.inl ⟨by rfl, ?_⟩) hS ?_
      · (intro w9 hS9; go_simp; try with_reducible rfl)
      simp only [Act.put, List.getElem_toArray, List.getElem_cons_zero, List.getElem_cons_succ, List.setIfInBounds_toArray, List.set_cons_zero, List.set_cons_succ]
      refine wpAnyH_take (i := 7) (v := .pointer (some ⟨pb, o, none⟩)) rfl (by kernel_rfl) (by kernel_rfl) (by kernel_rfl) (fun _ _ _ h => h) (Or.inl ⟨by rfl, ?_⟩) hS ?_
      · (intro w9 hS9; go_simp; try with_reducible rfl)
      simp only [Act.put, List.getElem_toArray, List.getElem_cons_zero, List.getElem_cons_succ, List.setIfInBounds_toArray, List.set_cons_zero, List.set_cons_succ]
      refine wpAnyH_take (i := 8) (v := .pointer (some ⟨pb, o + 60, none⟩)) rfl (by kernel_rfl) (by kernel_rfl) (by kernel_rfl) (fun _ _ _ h => h) (Or.inl ⟨by rfl, ?_⟩) hS ?_
      · (intro w9 hS9; go_simp; try with_reducible rfl)
      simp only [Act.put, List.getElem_toArray, List.getElem_cons_zero, List.getElem_cons_succ, List.setIfInBounds_toArray, List.set_cons_zero, List.set_cons_succ]
      refine wpAnyH_take (i := 9) (v := tmV (numI Z 60) (numI Z 61) (numI Z 62) (numI Z 63)) rfl (by kernel_rfl) (by kernel_rfl) (by kernel_rfl) (fun _ _ _ h => h) (yields_T uT rfl s25 (by rfl) _ rfl rfl (fun w9 h9 => h9.2.times HU.out 60 (by omega) (by omega) rfl rfl rfl rfl) rfl) hS ?_
      simp only [Act.put, List.getElem_toArray, List.getElem_cons_zero, List.getElem_cons_succ, List.setIfInBounds_toArray, List.set_cons_zero, List.set_cons_succ]
      refine wpAnyH_take (i := 10) (v := .pointer (some ⟨pb, o, none⟩)) rfl (by kernel_rfl) (by kernel_rfl) (by kernel_rfl) (fun _ _ _ h => h) (Or.inl ⟨by rfl, ?_⟩) hS ?_
      · (intro w9 hS9; go_simp; try with_reducible rfl)
      simp only [Act.put, List.getElem_toArray, List.getElem_cons_zero, List.getElem_cons_succ, List.setIfInBounds_toArray, List.set_cons_zero, List.set_cons_succ]
      refine wpAnyH_take (i := 11) (v := .pointer (some ⟨pb, o + 56, none⟩)) rfl (by kernel_rfl) (by kernel_rfl) (by kernel_rfl) (fun _ _ _ h => h) (Or.inl ⟨by rfl, ?_⟩) hS ?_
      · (intro w9 hS9; go_simp; try with_reducible rfl)
      simp only [Act.put, List.getElem_toArray, List.getElem_cons_zero, List.getElem_cons_succ, List.setIfInBounds_toArray, List.set_cons_zero, List.set_cons_succ]
      refine wpAnyH_ready (rs := [12]) (by kernel_rfl) (by simp) (AllReadyH.cons rfl (fun K hK => ?_) AllReadyH.nil)
      rw [if_pos (by rfl)]
      refine wp_store_mv sV _ _ rfl 56 rfl rfl PA.out.drew (by simp [Value.oneCell']) rfl (by omega) ?_
      intro w4 hm
      simp only [Act.put]
      have M4 := Lib.hid (show Mv w w4 pb o xs (upd Z [(56, .int .u64 (numI Z 48)), (57, .int .u32 (numI Z 49)), (58, .int .u64 (numI Z 50)), (59, .int .u16 (numI Z 51))]) from MA.out.drew.trans hm)
      have P4 := Lib.hid (show Pt w4 pb o (upd Z [(56, .int .u64 (numI Z 48)), (57, .int .u32 (numI Z 49)), (58, .int .u64 (numI Z 50)), (59, .int .u16 (numI Z 51))]) from PA.out.drew.mv hm)
      clear hm
      refine hK _ _ ⟨P4.out.cl (by omega) (upd_rng HU.out.1 (by omega) rfl), P4.out.cl (by omega) (upd_rng HU.out.1 (by omega) rfl)⟩ (fun hS => ?_)
      clear hK K
      refine wpAnyH_take (i := 13) (v := .pointer (some ⟨pb, o, none⟩)) rfl (by kernel_rfl) (by kernel_rfl) (by kernel_rfl) (fun _ _ _ h => h) (Or.inl ⟨by rfl, ?_⟩) hS ?_
      · (intro w9 hS9; go_simp; try with_reducible rfl)
      simp only [Act.put, List.getElem_toArray, List.getElem_cons_zero, List.getElem_cons_succ, List.setIfInBounds_toArray, List.set_cons_zero, List.set_cons_succ]
      refine wpAnyH_take (i := 14) (v := .pointer (some ⟨pb, o + 68, none⟩)) rfl (by kernel_rfl) (by kernel_rfl) (by kernel_rfl) (fun _ _ _ h => h) (Or.inl ⟨by rfl, ?_⟩) hS ?_
      · (intro w9 hS9; go_simp; try with_reducible rfl)
      simp only [Act.put, List.getElem_toArray, List.getElem_cons_zero, List.getElem_cons_succ, List.setIfInBounds_toArray, List.set_cons_zero, List.set_cons_succ]
      refine wpAnyH_ready (rs := [15]) (by kernel_rfl) (by simp) (AllReadyH.cons rfl (fun K hK => ?_) AllReadyH.nil)
      rw [if_pos (by rfl)]
      refine wp_store_mv s25 _ _ rfl 68 rfl rfl P4.out (by simp [Value.oneCell']) rfl (by omega) ?_
      intro w5 hm
      simp only [Act.put]
      have M5 := Lib.hid (show Mv w w5 pb o xs (mvU Z) from M4.out.trans hm)
      have P5 := Lib.hid (show Pt w5 pb o (mvU Z) from P4.out.mv hm)
      have T5 := Lib.hid (show Typed (mvU Z) from mvU_typed HU.out)
      have C5 := Lib.hid (And.intro (P5.out.cl (xs := Z) (lo := 48) (hi := 52) (by omega) (upd_rng HU.out.1 (by omega) rfl)) (P5.out.cl (xs := Z) (lo := 60) (hi := 64) (by omega) (upd_rng HU.out.1 (by omega) rfl)))
      clear hm
      refine hK _ _ C5.out (fun hS => ?_)
      clear hK K hS C5 M4 P4
      refine wpAnyH_done (by kernel_rfl) ?_ _
      have s24 := P5.out.bool T5.out 24 rfl
      have s43 := P5.out.bool T5.out 43 rfl
      have s44 := P5.out.numk T5.out 44 .i64 rfl
      have s86 := P5.out.numk T5.out 86 .i64 rfl
      have fz := P5.out.frozen
      have M6 := Lib.hid (show Mv w _ pb o xs (upd (mvU Z) [(43, .bool false), (44, .int .i64 2), (24, .bool true), (86, .int .i64 2)]) from ((((M5.out.set 43 (by omega) (.bool false)).set 44 (by omega) (.int .i64 2)).set 24 (by omega) (.bool true)).set 86 (by omega) (.int .i64 2)))
      have T6 := Lib.hid (show Typed (upd (mvU Z) [(43, .bool false), (44, .int .i64 2), (24, .bool true), (86, .int .i64 2)]) from upd_typed _ T5.out (by
        simp only [List.mem_cons, List.not_mem_nil, or_false]
        rintro p (rfl | rfl | rfl | rfl)
        · exact isB rfl _
        · exact isK rfl _
        · exact isB rfl _
        · exact isK rfl _))
      have P6 := Lib.hid (show Pt _ pb o (upd (mvU Z) [(43, .bool false), (44, .int .i64 2), (24, .bool true), (86, .int .i64 2)]) from P5.out.mv (((((Mv.refl w5 pb o (mvU Z)).set 43 (by omega) (.bool false)).set 44 (by omega) (.int .i64 2)).set 24 (by omega) (.bool true)).set 86 (by omega) (.int .i64 2)))
      go_wp2_with fail
      go_end0
      exact ⟨rfl, HFIN.out _ M6.out⟩
    · have s26 := P0.out.bool T0.out 26 rfl
      have s27 := P0.out.bool T0.out 27 rfl
      have fz := P0.out.frozen
      have M1 := Lib.hid (show Mv w _ pb o xs (upd xs [(27, .bool false), (26, .bool false)]) from ((M0.out.set 27 (by omega) (.bool false)).set 26 (by omega) (.bool false)))
      have T1 := Lib.hid (show Typed (upd xs [(27, .bool false), (26, .bool false)]) from upd_typed _ T0.out (by
        simp only [List.mem_cons, List.not_mem_nil, or_false]
        rintro p (rfl | rfl)
        · exact isB rfl _
        · exact isB rfl _))
      have P1 := Lib.hid (show Pt _ pb o (upd xs [(27, .bool false), (26, .bool false)]) from P0.out.mv (((Mv.refl w pb o (xs)).set 27 (by omega) (.bool false)).set 26 (by omega) (.bool false)))
      clear e42
      go_enter Tryd.func33, Tryd.ntmps33
      go_wp2_with fail
      clear e16
      clear fz s26 s27 M0 T0 P0
      generalize ((w.setCell ⟨pb, o + 27, none⟩ (.bool false)).setCell ⟨pb, o + 26, none⟩ (.bool false)) = w1 at *
      refine (kB.out _ P1.out T1.out).mono ?_
      rintro e w2 ⟨rfl, hb⟩
      have M2 := Lib.hid (M1.out.trans (Mv.of_below pb o _ hb))
      have P2 := Lib.hid (P1.out.below hb)
      clear hb P1 M1
      have f42 := P2.out.bool T1.out 42 rfl
      rw [bool_out HT0.out.1 (by omega) rfl, HB42.out] at f42
      have s16 := P2.out.bool T1.out 16 rfl
      have s42 := P2.out.bool T1.out 42 rfl
      have fz := P2.out.frozen
      have M3 := Lib.hid (show Mv w _ pb o xs (upd (upd xs [(27, .bool false), (26, .bool false)]) [(16, .bool g), (42, .bool g)]) from ((M2.out.set 16 (by omega) (.bool g)).set 42 (by omega) (.bool g)))
      have T3 := Lib.hid (show Typed (upd (upd xs [(27, .bool false), (26, .bool false)]) [(16, .bool g), (42, .bool g)]) from upd_typed _ T1.out (by
        simp only [List.mem_cons, List.not_mem_nil, or_false]
        rintro p (rfl | rfl)
        · exact isB rfl _
        · exact isB rfl _))
      have P3 := Lib.hid (show Pt _ pb o (upd (upd xs [(27, .bool false), (26, .bool false)]) [(16, .bool g), (42, .bool g)]) from P2.out.mv (((Mv.refl w2 pb o (upd xs [(27, .bool false), (26, .bool false)])).set 16 (by omega) (.bool g)).set 42 (by omega) (.bool g)))
      rw [bool_out HT0.out.1 (by omega) rfl, HB42.out] at s42
      clear f42
      go_wp2_with fail
      clear fz s16 s42 P3 T3 M2 P2 T1
      generalize ((w2.setCell ⟨pb, o + 16, none⟩ (.bool g)).setCell ⟨pb, o + 42, none⟩ (.bool g)) = w3 at *
      have MA := Lib.hid (show Mv w w3 pb o xs Z from (by rw [HD.out]; exact M3.out))
      have PA := Lib.hid (hp0.out.mv MA.out)
      refine wp_region_held_drew (S := fun w' => Cl w' pb o Z 48 52 ∧ Cl w' pb o Z 60 64) (by kernel_rfl) ⟨PA.out.drew.cl (by omega) (fun _ _ _ => rfl), PA.out.drew.cl (by omega) (fun _ _ _ => rfl)⟩ (fun hS => ?_)
      refine wpAnyH_take (i := 0) (v := .pointer (some ⟨pb, o, none⟩)) rfl (by kernel_rfl) (by kernel_rfl) (by kernel_rfl) (fun _ _ _ h => h) (Or.inl ⟨by rfl, ?_⟩) hS ?_
      · (intro w9 hS9; go_simp; try with_reducible rfl)
      simp only [Act.put, List.getElem_toArray, List.getElem_cons_zero, List.setIfInBounds_toArray, List.set_cons_zero, List.set_cons_succ]
      refine wpAnyH_take (i := 1) (v := .pointer (some ⟨pb, o, none⟩)) rfl (by kernel_rfl) (by kernel_rfl) (by kernel_rfl) (fun _ _ _ h => h) (Or.inl ⟨by rfl, ?_⟩) hS ?_
      · (intro w9 hS9; go_simp; try with_reducible rfl)
      simp only [Act.put, List.getElem_toArray, List.getElem_cons_zero, List.getElem_cons_succ, List.setIfInBounds_toArray, List.set_cons_zero, List.set_cons_succ]
      refine wpAnyH_take (i := 2) (v := .pointer (some ⟨pb, o, none⟩)) rfl (by kernel_rfl) (by kernel_rfl) (by kernel_rfl) (fun _ _ _ h => h) (Or.inl ⟨by rfl, ?_⟩) hS ?_
      · (intro w9 hS9; go_simp; try with_reducible rfl)
      simp only [Act.put, List.getElem_toArray, List.getElem_cons_zero, List.getElem_cons_succ, List.setIfInBounds_toArray, List.set_cons_zero, List.set_cons_succ]
      refine wpAnyH_take (i := 3) (v := .pointer (some ⟨pb, o, none⟩)) rfl (by kernel_rfl) (by kernel_rfl) (by kernel_rfl) (fun _ _ _ h => h) (Or.inl ⟨by rfl, ?_⟩) hS ?_
      · (intro w9 hS9; go_simp; try with_reducible rfl)
      simp only [Act.put, List.getElem_toArray, List.getElem_cons_zero, List.getElem_cons_succ, List.setIfInBounds_toArray, List.set_cons_zero, List.set_cons_succ]
      refine wpAnyH_take (i := 4) (v := .pointer (some ⟨pb, o + 48, none⟩)) rfl (by kernel_rfl) (by kernel_rfl) (by kernel_rfl) (fun _ _ _ h => h) (Or.inl ⟨by rfl, ?_⟩) hS ?_
      · (intro w9 hS9; go_simp; try with_reducible rfl)
      simp only [Act.put, List.getElem_toArray, List.getElem_cons_zero, List.getElem_cons_succ, List.setIfInBounds_toArray, List.set_cons_zero, List.set_cons_succ]
      refine wpAnyH_take (i := 5) (v := vV (numI Z 48) (numI Z 49) (numI Z 50) (numI Z 51)) rfl (by kernel_rfl) (by kernel_rfl) (by kernel_rfl) (fun _ _ _ h => h) (yields_T uV rfl s30 (by rfl) _ rfl rfl (fun w9 h9 => h9.1.vec HU.out 48 (by omega) (by omega) rfl rfl rfl rfl) rfl) hS ?_
      simp only [Act.put, List.getElem_toArray, List.getElem_cons_zero, List.getElem_cons_succ, List.setIfInBounds_toArray, List.set_cons_zero, List.set_cons_succ]
      refine wpAnyH_take (i := 6) (v := .pointer (some ⟨pb, o, none⟩)) rfl (by kernel_rfl) (by kernel_rfl) (by kernel_rfl) (fun _ _ _ h => h) (Or.inl ⟨by rfl, ?_⟩) hS ?_
      · (intro w9 hS9; go_simp; try with_reducible rfl)
      simp only [Act.put, List.getElem_toArray, List.getElem_cons_zero, List.getElem_cons_succ, List.setIfInBounds_toArray, List.set_cons_zero, List.set_cons_succ]
      refine wpAnyH_take (i := 7) (v := .pointer (some ⟨pb, o, none⟩)) rfl (by kernel_rfl) (by kernel_rfl) (by kernel_rfl) (fun _ _ _ h => h) (Or.inl ⟨by rfl, ?_⟩) hS ?_
      · (intro w9 hS9; go_simp; try with_reducible rfl)
      simp only [Act.put, List.getElem_toArray, List.getElem_cons_zero, List.getElem_cons_succ, List.setIfInBounds_toArray, List.set_cons_zero, List.set_cons_succ]
      refine wpAnyH_take (i := 8) (v := .pointer (some ⟨pb, o + 60, none⟩)) rfl (by kernel_rfl) (by kernel_rfl) (by kernel_rfl) (fun _ _ _ h => h) (Or.inl ⟨by rfl, ?_⟩) hS ?_
      · (intro w9 hS9; go_simp; try with_reducible rfl)
      simp only [Act.put, List.getElem_toArray, List.getElem_cons_zero, List.getElem_cons_succ, List.setIfInBounds_toArray, List.set_cons_zero, List.set_cons_succ]
      refine wpAnyH_take (i := 9) (v := tmV (numI Z 60) (numI Z 61) (numI Z 62) (numI Z 63)) rfl (by kernel_rfl) (by kernel_rfl) (by kernel_rfl) (fun _ _ _ h => h) (yields_T uT rfl s25 (by rfl) _ rfl rfl (fun w9 h9 => h9.2.times HU.out 60 (by omega) (by omega) rfl rfl rfl rfl) rfl) hS ?_
      simp only [Act.put, List.getElem_toArray, List.getElem_cons_zero, List.getElem_cons_succ, List.setIfInBounds_toArray, List.set_cons_zero, List.set_cons_succ]
      refine wpAnyH_take (i := 10) (v := .pointer (some ⟨pb, o, none⟩)) rfl (by kernel_rfl) (by kernel_rfl) (by kernel_rfl) (fun _ _ _ h => h) (Or.inl ⟨by rfl, ?_⟩) hS ?_
      · (intro w9 hS9; go_simp; try with_reducible rfl)
      simp only [Act.put, List.getElem_toArray, List.getElem_cons_zero, List.getElem_cons_succ, List.setIfInBounds_toArray, List.set_cons_zero, List.set_cons_succ]
      refine wpAnyH_take (i := 11) (v := .pointer (some ⟨pb, o + 56, none⟩)) rfl (by kernel_rfl) (by kernel_rfl) (by kernel_rfl) (fun _ _ _ h => h) (Or.inl ⟨by rfl, ?_⟩) hS ?_
      · (intro w9 hS9; go_simp; try with_reducible rfl)
      simp only [Act.put, List.getElem_toArray, List.getElem_cons_zero, List.getElem_cons_succ, List.setIfInBounds_toArray, List.set_cons_zero, List.set_cons_succ]
      refine wpAnyH_ready (rs := [12]) (by kernel_rfl) (by simp) (AllReadyH.cons rfl (fun K hK => ?_) AllReadyH.nil)
      rw [if_pos (by rfl)]
      refine wp_store_mv sV _ _ rfl 56 rfl rfl PA.out.drew (by simp [Value.oneCell']) rfl (by omega) ?_
      intro w4 hm
      simp only [Act.put]
      have M4 := Lib.hid (show Mv w w4 pb o xs (upd Z [(56, .int .u64 (numI Z 48)), (57, .int .u32 (numI Z 49)), (58, .int .u64 (numI Z 50)), (59, .int .u16 (numI Z 51))]) from MA.out.drew.trans hm)
      have P4 := Lib.hid (show Pt w4 pb o (upd Z [(56, .int .u64 (numI Z 48)), (57, .int .u32 (numI Z 49)), (58, .int .u64 (numI Z 50)), (59, .int .u16 (numI Z 51))]) from PA.out.drew.mv hm)
      clear hm
      refine hK _ _ ⟨P4.out.cl (by omega) (upd_rng HU.out.1 (by omega) rfl), P4.out.cl (by omega) (upd_rng HU.out.1 (by omega) rfl)⟩ (fun hS => ?_)
      clear hK K
      refine wpAnyH_take (i := 13) (v := .pointer (some ⟨pb, o, none⟩)) rfl (by kernel_rfl) (by kernel_rfl) (by kernel_rfl) (fun _ _ _ h => h) (Or.inl ⟨by rfl, ?_⟩) hS ?_
      · (intro w9 hS9; go_simp; try with_reducible rfl)
      simp only [Act.put, List.getElem_toArray, List.getElem_cons_zero, List.getElem_cons_succ, List.setIfInBounds_toArray, List.set_cons_zero, List.set_cons_succ]
      refine wpAnyH_take (i := 14) (v := .pointer (some ⟨pb, o + 68, none⟩)) rfl (by kernel_rfl) (by kernel_rfl) (by kernel_rfl) (fun _ _ _ h => h) (Or.inl ⟨by rfl, ?_⟩) hS ?_
      · (intro w9 hS9; go_simp; try with_reducible rfl)
      simp only [Act.put, List.getElem_toArray, List.getElem_cons_zero, List.getElem_cons_succ, List.setIfInBounds_toArray, List.set_cons_zero, List.set_cons_succ]
      refine wpAnyH_ready (rs := [15]) (by kernel_rfl) (by simp) (AllReadyH.cons rfl (fun K hK => ?_) AllReadyH.nil)
      rw [if_pos (by rfl)]
      refine wp_store_mv s25 _ _ rfl 68 rfl rfl P4.out (by simp [Value.oneCell']) rfl (by omega) ?_
      intro w5 hm
      simp only [Act.put]
      have M5 := Lib.hid (show Mv w w5 pb o xs (mvU Z) from M4.out.trans hm)
      have P5 := Lib.hid (show Pt w5 pb o (mvU Z) from P4.out.mv hm)
      have T5 := Lib.hid (show Typed (mvU Z) from mvU_typed HU.out)
      have C5 := Lib.hid (And.intro (P5.out.cl (xs := Z) (lo := 48) (hi := 52) (by omega) (upd_rng HU.out.1 (by omega) rfl)) (P5.out.cl (xs := Z) (lo := 60) (hi := 64) (by omega) (upd_rng HU.out.1 (by omega) rfl)))
      clear hm
      refine hK _ _ C5.out (fun hS => ?_)
      clear hK K hS C5 M4 P4
      refine wpAnyH_done (by kernel_rfl) ?_ _
      have s24 := P5.out.bool T5.out 24 rfl
      have s43 := P5.out.bool T5.out 43 rfl
      have s44 := P5.out.numk T5.out 44 .i64 rfl
      have s86 := P5.out.numk T5.out 86 .i64 rfl
      have fz := P5.out.frozen
      have M6 := Lib.hid (show Mv w _ pb o xs (upd (mvU Z) [(43, .bool false), (44, .int .i64 2), (24, .bool true), (86, .int .i64 2)]) from ((((M5.out.set 43 (by omega) (.bool false)).set 44 (by omega) (.int .i64 2)).set 24 (by omega) (.bool true)).set 86 (by omega) (.int .i64 2)))
      have T6 := Lib.hid (show Typed (upd (mvU Z) [(43, .bool false), (44, .int .i64 2), (24, .bool true), (86, .int .i64 2)]) from upd_typed _ T5.out (by
        simp only [List.mem_cons, List.not_mem_nil, or_false]
        rintro p (rfl | rfl | rfl | rfl)
        · exact isB rfl _
        · exact isK rfl _
        · exact isB rfl _
        · exact isK rfl _))
      have P6 := Lib.hid (show Pt _ pb o (upd (mvU Z) [(43, .bool false), (44, .int .i64 2), (24, .bool true), (86, .int .i64 2)]) from P5.out.mv (((((Mv.refl w5 pb o (mvU Z)).set 43 (by omega) (.bool false)).set 44 (by omega) (.int .i64 2)).set 24 (by omega) (.bool true)).set 86 (by omega) (.int .i64 2)))
      go_wp2_with fail
      go_end0
      exact ⟨rfl, HFIN.out _ M6.out⟩
end Go.Proofs.YtjfdochceejegaaDoor
