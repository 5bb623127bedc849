/- The reference's split: words between blanks. -/
import Derived.Test.YtlmdpaemhjcmbaaDoorRa
import Derived.Deep.AppendLies
import Derived.Laws.AppendOwnNone
import Derived.Maps.AppendAt
namespace Go.Proofs.YtlmdpaemhjcmbaaDoor
open Go.RowKit Go.Sort Go.Lib

theorem info9 : (Tryd.prog.info? 9).map (fun i => (i.zero, i.size, i.bytes)) = some (some (.string ByteArray.empty), 1, 16) := by kernel_rfl
theorem und41 : Tryd.prog.underlying 41 = some (.slice 9) := by kernel_rfl
/-- A slice of words that this call has made. -/
abbrev Own (w : World) (B : Nat) (v : Value) (l : List (List UInt8)) : Prop := w.ownsRow B 9 1 v l.length (l.map strV)
theorem Own.slice {w : World} {B : Nat} {v : Value} {l : List (List UInt8)} (h : Own w B v l) (h0 : l ≠ []) : ∃ g cap, v = .slice (some ⟨g, 0, none⟩) l.length cap ∧ B ≤ g ∧ ∃ A, CA w g A 9 ∧ A.size = cap ∧ l.length ≤ cap ∧ cap ≤ maxLen ∧ A.toList.take l.length = l.map strV := by
  rcases h with ⟨_, ⟨_, h1⟩ | ⟨g, cap, cur, rfl, hb, hg, h2, h3, h4, ht⟩⟩
  · exact absurd (List.length_eq_zero_iff.1 h1) h0
  · exact ⟨g, cap, rfl, hb, cur, hg, by omega, h2, h3, by simpa using ht⟩
theorem own_mk {w : World} {B g cap : Nat} {l : List (List UInt8)} {A : Array Value} (hB : B ≤ g) (hg : CA w g A 9) (hs : A.size = cap) (hl : l.length ≤ cap) (hm : cap ≤ maxLen) (ht : A.toList.take l.length = l.map strV) : Own w B (.slice (some ⟨g, 0, none⟩) l.length cap) l :=
  ⟨by simp, Or.inr ⟨g, cap, A, rfl, hB, hg, hl, hm, by omega, by simpa using ht⟩⟩
theorem own_at {A : Array Value} {l : List (List UInt8)} (ht : A.toList.take l.length = l.map strV) {j : Nat} {x : List UInt8} (hj : l[j]? = some x) : A[j]? = some (strV x) := by
  have hl : j < l.length := (List.getElem?_eq_some_iff.1 hj).1
  have h1 : (l.map strV)[j]? = some (strV x) := by rw [List.getElem?_map, hj]; rfl
  rw [← ht, List.getElem?_take, if_pos hl] at h1
  simpa using h1
theorem own_put {A : Array Value} {l : List (List UInt8)} (ht : A.toList.take l.length = l.map strV) (hs : l.length ≤ A.size) (j : Nat) (y : List UInt8) : (A.setIfInBounds j (strV y)).toList.take (l.set j y).length = (l.set j y).map strV := by
  apply List.ext_getElem?
  intro i
  rw [List.getElem?_take, List.getElem?_map, List.getElem?_set]
  simp only [List.length_set]
  by_cases hi : i < l.length
  · rw [if_pos hi]
    have h2 : A[i]? = (l.map strV)[i]? := by
      rw [← ht, List.getElem?_take, if_pos hi]; simp
    simp only [Array.getElem?_toList, Array.getElem?_setIfInBounds]
    by_cases e : j = i
    · subst e
      rw [if_pos rfl, if_pos rfl, if_pos (by omega), if_pos hi]; rfl
    · rw [if_neg e, if_neg e, h2, List.getElem?_map]
  · rw [if_neg hi]
    by_cases e : j = i
    · subst e; rw [if_pos rfl, if_neg hi]; rfl
    · rw [if_neg e, List.getElem?_eq_none (by omega)]; rfl
theorem cut_one {s : List UInt8} {k : Nat} {c : UInt8} (h : s[k]? = some c) : (⟨⟨s⟩⟩ : ByteArray).extract k (k + 1) = ⟨⟨[c]⟩⟩ := by
  apply ByteArray.ext
  apply Array.toList_inj.1
  rw [extract_data]
  obtain ⟨hl, he⟩ := List.getElem?_eq_some_iff.1 h
  show (s.drop k).take (k + 1 - k) = [c]
  rw [List.drop_eq_getElem_cons hl, he, show k + 1 - k = 1 by omega]; rfl
theorem last_at {l : List (List UInt8)} {m : Nat} (h : l.length = m + 1) : l[m]? = some (l.getLastD []) := by
  have hne : l ≠ [] := fun e => by rw [e] at h; simp at h
  rw [List.getLastD_eq_getLast?, List.getLast?_eq_getElem?, h, Nat.add_sub_cancel]
  obtain ⟨x, hx⟩ : ∃ x, l[m]? = some x := ⟨_, List.getElem?_eq_getElem (by omega)⟩
  rw [hx]; rfl
theorem last_set {l : List (List UInt8)} {m : Nat} (h : l.length = m + 1) (y : List UInt8) : l.set m y = l.dropLast ++ [y] := by
  have hne : l ≠ [] := fun e => by rw [e] at h; simp at h
  conv => lhs; rw [← List.dropLast_concat_getLast hne]
  rw [List.set_append_right _ _ (by simp [h])]
  simp [h]
set_option maxHeartbeats 2000000 in
theorem rsplit_any (s : List UInt8) (hs : s.length ≤ 1000) (w : World) :
    Calls Tryd.prog 13 #[strV s] w fun e w' => (∃ g cap, e = .returned (.slice (some ⟨g, 0, none⟩) (sp s).length cap) ∧ w.heap.size ≤ g ∧ WIn w' g (sp s)) ∧ Below w.heap.size w w' := by
  obtain ⟨i0, hi, hz0, hz1, hz2⟩ := info_parts info9
  have o0 : Own (w.alloc (.cells #[strV []] 9)) w.heap.size (.slice (some ⟨w.heap.size, 0, none⟩) 1 1) (sp []) := own_mk (l := [[]]) (Nat.le_refl _) (var_new w _ 9) rfl (Nat.le_refl _) (by unfold maxLen; omega) rfl
  have O0 := Lib.hid o0
  have b0 := Lib.hid (box_below w (.cells #[strV []] 9))
  clear o0
  go_enter Tryd.func13, Tryd.ntmps13
  go_wp2
  go_loopw [3, 4] (fun v i wr => ∃ k : Nat, k ≤ s.length ∧ i = .int .i64 k ∧ Own wr w.heap.size v (sp (s.take k)) ∧ Below w.heap.size w wr) (fun _ i _ => s.length - (RowKit.intOf i).toNat)
  case atStart => exact ⟨0, Nat.zero_le _, rfl, O0.out, b0.out⟩
  case round =>
    obtain ⟨k, hk, rfl, hown, hnx⟩ := hrel
    have hsl := sp_len (s.take k)
    have hs2 := hnx.size
    have HO := Lib.hid hown
    have HN := Lib.hid hnx
    clear hown hnx
    by_cases hlt : k < s.length
    · obtain ⟨c, hc⟩ : ∃ c, s[k]? = some c := ⟨_, List.getElem?_eq_getElem hlt⟩
      have hst : s.take (k + 1) = s.take k ++ [c] := by rw [List.take_add_one, hc]; rfl
      have i1 : ∀ w, (Instr.index 9 (strV s) (.int .i64 k)).run Tryd.prog w = .ok (.int .u8 (c.toNat : Nat)) w := lat hc
      have hl1 : (sp (s.take k)).length ≤ 1001 := Nat.le_trans hsl.1 (by rw [List.length_take]; omega)
      by_cases h32 : c = 32
      · have HS : Hid (sp (s.take (k + 1)) = sp (s.take k) ++ [[]]) := Lib.hid (by rw [hst, sp_snoc, if_pos h32])
        have h32' : ((c.toNat : Int) == 32) = true := by rw [h32]; rfl
        clear hst hc hsl
        generalize sp (s.take k) = l at *
        go_wp2_with (at_builtin; refine wpList_append_own _ rfl _ _ 41 rfl w.heap.size 9 i0 (.string ByteArray.empty) 1 16 und41 hi hz0 hz1 hz2 rfl (by decide) _ _ _ rfl (HO.out.alloc _) ⟨wr.heap.size, 0, none⟩ 1 1 [strV []] rfl rfl ?c1 ?c2 ?c3 ?c4 ?c5 ?_)
        case c1 =>
          intro j u hj
          match j, hj with
          | 0, hj => cases hj; exact (var_new wr #[strV []] 9).cell 0
          | j + 1, hj => simp at hj
        case c2 => intro u hu; simp at hu; subst hu; rfl
        case c3 => unfold maxLen; omega
        case c4 => omega
        case c5 => simp; omega
        intro v' w2 hown' hgrow _
        have R1 := Lib.hid (show Own w2 w.heap.size v' (sp (s.take (k + 1))) by rw [HS.out]; unfold Own; rw [List.length_append, List.map_append]; exact hown')
        have R2 := Lib.hid ((HN.out.alloc (by omega) _).grown hgrow (by simp; omega) (fun j hj => (HO.out.lt j hj).1))
        clear hown' hgrow HN HO
        go_wp2
        refine ⟨⟨k + 1, by omega, by go_num, R1.out, R2.out⟩, meas_next hlt⟩
      · have h32' : ((c.toNat : Int) == 32) = false := by
          rw [beq_eq_false_iff_ne]; intro e; exact h32 (UInt8.toNat_inj.1 (by show c.toNat = 32; omega))
        have HS : Hid (sp (s.take (k + 1)) = (sp (s.take k)).dropLast ++ [(sp (s.take k)).getLastD [] ++ [c]]) := Lib.hid (by rw [hst, sp_snoc, if_neg h32])
        have HCU := Lib.hid (cut_one hc)
        have hne := sp_ne (s.take k)
        have hx : ((sp (s.take k)).getLastD []).length ≤ 1000 := by
          rw [List.getLastD_eq_getLast?, List.getLast?_eq_getElem?]
          cases hq : (sp (s.take k))[(sp (s.take k)).length - 1]? with
          | none => simp
          | some y => exact Nat.le_trans (hsl.2 y (List.mem_of_getElem? hq)) (by rw [List.length_take]; omega)
        clear hst hc hsl h32
        generalize sp (s.take k) = l at *
        obtain ⟨m, hm⟩ : ∃ m, l.length = m + 1 := ⟨l.length - 1, by have := List.length_pos_iff.2 hne; omega⟩
        obtain ⟨g, cap, rfl, hg, A, hA, hAs, hlc, hcm, hAt⟩ := HO.out.slice hne
        have HLA := Lib.hid (own_at hAt (last_at hm))
        have HSE := Lib.hid (last_set hm (l.getLastD [] ++ [c]))
        have HPU := Lib.hid (own_put hAt (by omega) m (l.getLastD [] ++ [c]))
        have HA := Lib.hid hA
        have HG := Lib.hid hg
        have HAS := Lib.hid hAs
        have HLC := Lib.hid hlc
        have HCM := Lib.hid hcm
        have i2 := idx41 g (m + 1) cap m (by omega)
        have HM := Lib.hid hm
        have EW1 : Hid (IntKind.i64.wrap (m : Int) = m) := Lib.hid (by simp only [IntKind.wrap, IntKind.bits, IntKind.signed]; simp; omega)
        have EW2 : Hid (IntKind.i64.wrap ((k : Int) + 1) = (k : Int) + 1) := Lib.hid (by simp only [IntKind.wrap, IntKind.bits, IntKind.signed]; simp; omega)
        rw [hm]
        clear hA hAs hlc hcm hAt HO hne hm hg
        generalize l.getLastD [] = x at *
        go_wp2_with fail
        refine wp_region_any (by kernel_rfl) ?_
        change wpAny _ _ _ _ _ _ _ (World.drew _)
        refine wpAny_take (i := 0) (v := ?_) rfl (by kernel_rfl) (by kernel_rfl) (by kernel_rfl) (fun _ _ _ h => h) (Or.inl ⟨by rfl, ?_⟩) ?_
        rotate_left
        · (intro w9; go_simp; try with_reducible rfl)
        try simp only [Act.put, List.getElem_toArray, List.getElem_cons_zero, List.getElem_cons_succ, List.setIfInBounds_toArray, List.set_cons_zero, List.set_cons_succ, EW1.out, EW2.out]
        refine wpAny_take (i := 1) (v := ?_) rfl (by kernel_rfl) (by kernel_rfl) (by kernel_rfl) (fun _ _ _ h => h) (Or.inl ⟨by rfl, ?_⟩) ?_
        rotate_left
        · (intro w9; go_simp; try with_reducible rfl)
        try simp only [Act.put, List.getElem_toArray, List.getElem_cons_zero, List.getElem_cons_succ, List.setIfInBounds_toArray, List.set_cons_zero, List.set_cons_succ, EW1.out, EW2.out]
        refine wpAny_take (i := 2) (v := ?_) rfl (by kernel_rfl) (by kernel_rfl) (by kernel_rfl) (fun _ _ _ h => h) (Or.inl ⟨by rfl, ?_⟩) ?_
        rotate_left
        · (intro w9; go_simp; try with_reducible rfl)
        try simp only [Act.put, List.getElem_toArray, List.getElem_cons_zero, List.getElem_cons_succ, List.setIfInBounds_toArray, List.set_cons_zero, List.set_cons_succ, EW1.out, EW2.out]
        refine wpAny_take (i := 3) (v := ?_) rfl (by kernel_rfl) (by kernel_rfl) (by kernel_rfl) (fun _ _ _ h => h) (Or.inl ⟨by rfl, ?_⟩) ?_
        rotate_left
        · (intro w9; go_simp; try with_reducible rfl)
        try simp only [Act.put, List.getElem_toArray, List.getElem_cons_zero, List.getElem_cons_succ, List.setIfInBounds_toArray, List.set_cons_zero, List.set_cons_succ, EW1.out, EW2.out]
        refine wpAny_take (i := 4) (v := ?_) rfl (by kernel_rfl) (by kernel_rfl) (by kernel_rfl) (fun _ _ _ h => h) (Or.inl ⟨by rfl, ?_⟩) ?_
        rotate_left
        · (intro w9; go_simp; try with_reducible rfl)
        try simp only [Act.put, List.getElem_toArray, List.getElem_cons_zero, List.getElem_cons_succ, List.setIfInBounds_toArray, List.set_cons_zero, List.set_cons_succ, EW1.out, EW2.out]
        refine wpAny_take (i := 5) (v := ?_) rfl (by kernel_rfl) (by kernel_rfl) (by kernel_rfl) (fun _ _ _ h => h) (Or.inl ⟨by rfl, ?_⟩) ?_
        rotate_left
        · (intro w9; go_simp; try with_reducible rfl)
        try simp only [Act.put, List.getElem_toArray, List.getElem_cons_zero, List.getElem_cons_succ, List.setIfInBounds_toArray, List.set_cons_zero, List.set_cons_succ, EW1.out, EW2.out]
        refine wpAny_take (i := 6) (v := ?_) rfl (by kernel_rfl) (by kernel_rfl) (by kernel_rfl) (fun _ _ _ h => h) (Or.inl ⟨by rfl, ?_⟩) ?_
        rotate_left
        · (intro w9; go_simp; try with_reducible rfl)
        try simp only [Act.put, List.getElem_toArray, List.getElem_cons_zero, List.getElem_cons_succ, List.setIfInBounds_toArray, List.set_cons_zero, List.set_cons_succ, EW1.out, EW2.out]
        refine wpAny_take (i := 7) (v := ?_) rfl (by kernel_rfl) (by kernel_rfl) (by kernel_rfl) (fun _ _ _ h => h) (Or.inl ⟨by rfl, ?_⟩) ?_
        rotate_left
        · (intro w9; go_simp; try with_reducible rfl)
        try simp only [Act.put, List.getElem_toArray, List.getElem_cons_zero, List.getElem_cons_succ, List.setIfInBounds_toArray, List.set_cons_zero, List.set_cons_succ, EW1.out, EW2.out]
        refine wpAny_take (i := 8) (v := ?_) rfl (by kernel_rfl) (by kernel_rfl) (by kernel_rfl) (fun _ _ _ h => h) (Or.inl ⟨by rfl, ?_⟩) ?_
        rotate_left
        · (intro w9; go_simp; try with_reducible rfl)
        try simp only [Act.put, List.getElem_toArray, List.getElem_cons_zero, List.getElem_cons_succ, List.setIfInBounds_toArray, List.set_cons_zero, List.set_cons_succ, EW1.out, EW2.out]
        refine wpAny_take (i := 10) (v := ?_) rfl (by kernel_rfl) (by kernel_rfl) (by kernel_rfl) (fun _ _ _ h => h) (Or.inl ⟨by rfl, ?_⟩) ?_
        rotate_left
        · (intro w9; go_simp; try with_reducible rfl)
        try simp only [Act.put, List.getElem_toArray, List.getElem_cons_zero, List.getElem_cons_succ, List.setIfInBounds_toArray, List.set_cons_zero, List.set_cons_succ, EW1.out, EW2.out]
        refine wpAny_take (i := 11) (v := ?_) rfl (by kernel_rfl) (by kernel_rfl) (by kernel_rfl) (fun _ _ _ h => h) (Or.inl ⟨by rfl, ?_⟩) ?_
        rotate_left
        · (intro w9; go_simp; try with_reducible rfl)
        try simp only [Act.put, List.getElem_toArray, List.getElem_cons_zero, List.getElem_cons_succ, List.setIfInBounds_toArray, List.set_cons_zero, List.set_cons_succ, EW1.out, EW2.out]
        refine wpAny_take (i := 12) (v := ?_) rfl (by kernel_rfl) (by kernel_rfl) (by kernel_rfl) (fun _ _ _ h => h) (Or.inl ⟨by rfl, ?_⟩) ?_
        rotate_left
        · (intro w9; go_simp; try with_reducible rfl)
        try simp only [Act.put, List.getElem_toArray, List.getElem_cons_zero, List.getElem_cons_succ, List.setIfInBounds_toArray, List.set_cons_zero, List.set_cons_succ, EW1.out, EW2.out]
        refine wpAny_take (i := 13) (v := ?_) rfl (by kernel_rfl) (by kernel_rfl) (by kernel_rfl) (fun _ _ _ h => h) (Or.inl ⟨by rfl, ?_⟩) ?_
        rotate_left
        · (intro w9; go_simp; try with_reducible rfl)
        try simp only [Act.put, List.getElem_toArray, List.getElem_cons_zero, List.getElem_cons_succ, List.setIfInBounds_toArray, List.set_cons_zero, List.set_cons_succ, EW1.out, EW2.out]
        refine wpAny_take (i := 14) (v := strV [c]) rfl (by kernel_rfl) (by kernel_rfl) (by kernel_rfl) (fun _ _ _ h => h) (Or.inl ⟨by rfl, ?_⟩) ?_
        · (intro w9; go_simp; rw [if_pos ⟨by omega, by omega⟩, if_pos (by omega), HCU.out])
        try simp only [Act.put, List.getElem_toArray, List.getElem_cons_zero, List.getElem_cons_succ, List.setIfInBounds_toArray, List.set_cons_zero, List.set_cons_succ, EW1.out, EW2.out]
        have k1 : wr.cell? ⟨g, m, none⟩ = some (strV x) := (HA.out.cell m).trans HLA.out
        have k2 := HA.out.frozen
        refine wpAny_ready (rs := [9]) (by kernel_rfl) (by simp) (AllReady.cons rfl (fun K hK => ?_) AllReady.nil)
        go_simp
        refine hK _ _ ?_
        clear hK K
        refine wpAny_take (i := 15) (v := strV (x ++ [c])) rfl (by kernel_rfl) (by kernel_rfl) (by kernel_rfl) (fun _ _ _ h => h) (Or.inl ⟨by rfl, ?_⟩) ?_
        · (intro w9; go_simp; rw [if_neg (by omega), cat_data])
        try simp only [Act.put, List.getElem_toArray, List.getElem_cons_zero, List.getElem_cons_succ, List.setIfInBounds_toArray, List.set_cons_zero, List.set_cons_succ, EW1.out, EW2.out]
        refine wpAny_take (i := 16) (v := ?_) rfl (by kernel_rfl) (by kernel_rfl) (by kernel_rfl) (fun _ _ _ h => h) (Or.inl ⟨by rfl, ?_⟩) ?_
        rotate_left
        · (intro w9; go_simp; try with_reducible rfl)
        try simp only [Act.put, List.getElem_toArray, List.getElem_cons_zero, List.getElem_cons_succ, List.setIfInBounds_toArray, List.set_cons_zero, List.set_cons_succ, EW1.out, EW2.out]
        refine wpAny_ready (rs := [17]) (by kernel_rfl) (by simp) (AllReady.cons rfl (fun K hK => ?_) AllReady.nil)
        go_simp
        refine hK _ _ ?_
        clear hK K
        refine wpAny_done (by kernel_rfl) ?_ _
        have R1 := Lib.hid (show Own ((wr.setCell ⟨g, m, none⟩ (strV (x ++ [c]))).drew) w.heap.size (.slice (some ⟨g, 0, none⟩) (m + 1) cap) (sp (s.take (k + 1))) by
          have hv : CA ((wr.setCell ⟨g, m, none⟩ (strV (x ++ [c]))).drew) g (A.setIfInBounds m (strV (x ++ [c]))) 9 := (HA.out.set m _).drew
          have hh := own_mk (l := l.set m (x ++ [c])) HG.out hv (by rw [Array.size_setIfInBounds]; exact HAS.out) (by rw [List.length_set]; exact HLC.out) HCM.out HPU.out
          rw [HS.out, ← HSE.out]
          rw [List.length_set, HM.out] at hh
          exact hh)
        have R2 := Lib.hid (show Below w.heap.size w ((wr.setCell ⟨g, m, none⟩ (strV (x ++ [c]))).drew) from (HN.out.setCell HG.out _).drew)
        generalize (wr.setCell ⟨g, m, none⟩ (strV (x ++ [c]))).drew = w9 at *
        clear k1 k2 HA HPU HSE HLA HN
        go_wp2_with fail
        refine ⟨⟨k + 1, by omega, by go_num, R1.out, R2.out⟩, meas_next hlt⟩
    · have hks : s.take k = s := List.take_of_length_le (by omega)
      rw [hks] at HO
      obtain ⟨g, cap, rfl, hg, A, hA, _, _, _, hAt⟩ := HO.out.slice (sp_ne s)
      have HW := Lib.hid (show WIn wr g (sp s) from ⟨hA.lt, fun j x hj => (hA.cell j).trans (own_at hAt hj)⟩)
      clear hA hAt HO hks hsl
      go_wp2_with fail
      go_ret
      exact ⟨⟨g, cap, rfl, hg, HW.out⟩, HN.out⟩
end Go.Proofs.YtlmdpaemhjcmbaaDoor
