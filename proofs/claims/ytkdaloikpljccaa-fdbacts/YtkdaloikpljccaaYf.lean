/- The model's act: a call to Older. -/
import Derived.Test.YtkdaloikpljccaaYf0
namespace Go.Proofs.Ytkdaloikpljccaa
open Go.RowKit Go.Sort Go.Maps
variable {w : World} {tb b mb B : Nat} {most : Int} {E : Nat → Option Ent} {v : Value} {l : List Ent}
set_option maxHeartbeats 1000000 in
set_option maxRecDepth 20000 in
theorem act_older (h : Duo w tb b mb B most E v l l) (k n : Nat) (N : Int) (hk : k < 256 ∧ k % 6 = 4) (hn : n < 281474976710656) :
    Calls Try.prog 7 #[.pointer (some ⟨mb, 0, none⟩), .pointer (some ⟨tb, 0, none⟩), actV k n N] w fun r w' => r = .returned (.bool true) ∧ (∃ E' v' l', Duo w' tb b mb B most E' v' l' l') ∧ Below B w w' := by
  obtain ⟨hK0, hK1⟩ := hk
  have hb := box_below w (.cells (actC k n N) 33)
  have hv := var_new w (actC k n N) 33
  have h1 := h.below hb
  have hN : ∀ w', Calls Try.prog 18 #[macN n] w' fun r w'' => r = .returned (.int .u64 (n : Nat)) ∧ Below w'.heap.size w' w'' := fun w' => by
    have := refNumber_any (ofN n) (ofN_lt n) w'
    rw [mac_num hn] at this
    exact this
  have HB := Lib.hid hb
  have HV := Lib.hid hv
  have H1 := Lib.hid h1
  have HH := Lib.hid h
  have HN := Lib.hid hn
  have hws : w.heap.size < (w.alloc (.cells (actC k n N) 33)).heap.size := by rw [alloc_size]; omega
  have F1 : ∀ w', Below (w.alloc (.cells (actC k n N) 33)).heap.size (w.alloc (.cells (actC k n N) 33)) w' → _ := fun w' hw => actCells (hv.below hw hv.lt)
  have HF1 := Lib.hid F1
  have HN18 := Lib.hid hN
  clear hb hv h1 h F1 hN hn
  go_enter Try.func7, Try.ntmps7
  go_upto_region 1 with fail
  go_cut [7, 8] from 15 to 20 (fun x c wx => ∃ c8 : Nat, x = .int .u64 (n : Nat) ∧ c = .pointer (some ⟨c8, 0, none⟩) ∧ VarAt wx c8 #[.int .i64 (N.tmod 50)] 3 ∧ Below (w.alloc (.cells (actC k n N) 33)).heap.size (w.alloc (.cells (actC k n N) 33)) wx ∧ (w.alloc (.cells (actC k n N) 33)).heap.size ≤ c8)
  case first =>
    rename_i J K9 hJ hK9
    refine wp_region_held_drew (S := fun w' => Below (w.alloc (.cells (actC k n N) 33)).heap.size (w.alloc (.cells (actC k n N) 33)) w') (by kernel_rfl) (Below.refl _ _).drew (fun hS => ?_)
    refine wpAnyH_take (i := 0) (v := ?_) rfl (by kernel_rfl) (by kernel_rfl) (by kernel_rfl) (fun _ _ _ h => h) (Or.inl ⟨by rfl, ?_⟩) hS ?_
    rotate_left
    · (intro w9 hS9; go_simp; try with_reducible rfl)
    refine wpAnyH_take (i := 1) (v := ?_) rfl (by kernel_rfl) (by kernel_rfl) (by kernel_rfl) (fun _ _ _ h => h) (Or.inl ⟨by rfl, ?_⟩) hS ?_
    rotate_left
    · (intro w9 hS9; obtain ⟨q0, q1, q2, q3, q4, q5, q6, q7⟩ := HF1.out w9 hS9; go_simp; try with_reducible rfl)
    refine wpAnyH_take (i := 3) (v := ?_) rfl (by kernel_rfl) (by kernel_rfl) (by kernel_rfl) (fun _ _ _ h => h) (Or.inl ⟨by rfl, ?_⟩) hS ?_
    rotate_left
    · (intro w9 hS9; go_simp; try with_reducible rfl)
    refine wpAnyH_take (i := 4) (v := ?_) rfl (by kernel_rfl) (by kernel_rfl) (by kernel_rfl) (fun _ _ _ h => h) (Or.inl ⟨by rfl, ?_⟩) hS ?_
    rotate_left
    · (intro w9 hS9; obtain ⟨q0, q1, q2, q3, q4, q5, q6, q7⟩ := HF1.out w9 hS9; go_simp; try with_reducible rfl)
    refine wpAnyH_take (i := 5) (v := ?_) rfl (by kernel_rfl) (by kernel_rfl) (by kernel_rfl) (fun _ _ _ h => h) (Or.inl ⟨by rfl, ?_⟩) hS ?_
    rotate_left
    · (intro w9 hS9; go_simp; try with_reducible rfl)
    simp only [Act.put, List.getElem_toArray, List.getElem_cons_zero, List.getElem_cons_succ, List.setIfInBounds_toArray, List.set_cons_zero, List.set_cons_succ]
    refine wpAnyH_ready (rs := [2, 6]) (by kernel_rfl) (by simp) (AllReadyH.cons rfl (fun K hK => ?_) (AllReadyH.cons rfl (fun K hK => ?_) AllReadyH.nil))
    · go_simp
      refine (HN18.out _).mono ?_
      rintro r w1 ⟨rfl, hb1⟩
      refine hK.out _ _ (hS.trans (hb1.mono hS.size)) (fun hS => ?_)
      clear hK K hb1
      refine wpAnyH_ready (rs := [6]) (by kernel_rfl) (by simp) (AllReadyH.cons rfl (fun K hK => ?_) AllReadyH.nil)
      go_simp
      have hS1 := hS
      refine hK.out _ _ (hS.alloc hS.size (.cells #[.int .i64 0] 3)) (fun hS => ?_)
      clear hK K
      refine wpAnyH_take (i := 7) (v := ?_) rfl (by kernel_rfl) (by kernel_rfl) (by kernel_rfl) (fun _ _ _ h => h) (Or.inl ⟨by rfl, ?_⟩) hS ?_
      rotate_left
      · (intro w9 hS9; go_simp; try with_reducible rfl)
      refine wpAnyH_ready (rs := [8]) (by kernel_rfl) (by simp) (AllReadyH.cons rfl (fun K hK => ?_) AllReadyH.nil)
      go_simp
      refine hK.out _ _ (hS1.alloc hS1.size (.cells #[.int .i64 (N.tmod 50)] 3)) (fun hS => ?_)
      clear hK K
      refine wpAnyH_done (by kernel_rfl) ?_ _
      refine hK9 _ _ (Met.intro (hJ _ _ ?_))
      (repeat apply Exists.intro)
      refine ⟨?_, rfl⟩
      exact ⟨w1.heap.size, rfl, rfl, var_new _ _ _, hS, hS1.size⟩
    · go_simp
      refine hK.out _ _ (hS.alloc hS.size (.cells #[.int .i64 0] 3)) (fun hS => ?_)
      clear hK K
      refine wpAnyH_ready (rs := [2]) (by kernel_rfl) (by simp) (AllReadyH.cons rfl (fun K hK => ?_) AllReadyH.nil)
      go_simp
      refine (HN18.out _).mono ?_
      rintro r w1 ⟨rfl, hb1⟩
      refine hK.out _ _ (hS.trans (hb1.mono hS.size)) (fun hS => ?_)
      have hv9 := (var_new (w.alloc (.cells (actC k n N) 33)) #[.int .i64 0] 3).drew.below hb1 (var_new (w.alloc (.cells (actC k n N) 33)) #[.int .i64 0] 3).drew.lt
      clear hK K
      refine wpAnyH_take (i := 7) (v := ?_) rfl (by kernel_rfl) (by kernel_rfl) (by kernel_rfl) (fun _ _ _ h => h) (Or.inl ⟨by rfl, ?_⟩) hS ?_
      rotate_left
      · (intro w9 hS9; go_simp; try with_reducible rfl)
      refine wpAnyH_ready (rs := [8]) (by kernel_rfl) (by simp) (AllReadyH.cons rfl (fun K hK => ?_) AllReadyH.nil)
      have z9 := hv9.cell 0
      have f9 := hv9.frozen 0
      simp at z9 f9
      go_simp
      refine hK.out _ _ (hS.setCell (p := ⟨w.heap.size + 1, 0, none⟩) (by rw [alloc_size]; exact Nat.le_refl _) (.int .i64 (N.tmod 50))) (fun hS => ?_)
      clear hK K
      refine wpAnyH_done (by kernel_rfl) ?_ _
      refine hK9 _ _ (Met.intro (hJ _ _ ?_))
      (repeat apply Exists.intro)
      refine ⟨?_, rfl⟩
      exact ⟨w.heap.size + 1, rfl, rfl, by simpa using hv9.set 0 (.int .i64 (N.tmod 50)), hS, by rw [alloc_size]; exact Nat.le_refl _⟩
  case rest =>
    obtain ⟨c8, rfl, rfl, hv8, hb8, hc8⟩ := hcut
    have D0 := H1.out.below hb8
    have A0 := HV.out.below hb8 HV.out.lt
    obtain ⟨a0, a1, a2, a3, a4, a5, a6, a7⟩ := actCells A0
    have z8 := hv8.cell 0
    simp at z8
    have hki : (k : Int) % 6 = 4 := by omega
    have B0 := HB.out.trans (hb8.mono (Nat.le_of_lt hws))
    have hBw := HH.out.size
    have HD0 := Lib.hid D0
    have HA0 := Lib.hid A0
    have HV8 := Lib.hid hv8
    have HB0 := Lib.hid (B0.mono hBw)
    clear D0 A0 B0 hb8 hv8
    go_wp2_with fail
    refine (at_any HD0.out.mdl HN.out).mono ?_
    rintro r w3 ⟨rfl, hb3⟩
    have D3 := HD0.out.below hb3
    have A3 := HA0.out.below hb3 HA0.out.lt
    have V3 := HV8.out.below hb3 HV8.out.lt
    obtain ⟨b0, b1, b2, b3, b4, b5, b6, b7⟩ := actCells A3
    have z3 := V3.cell 0
    simp at z3
    have HD3 := Lib.hid D3
    have HA3 := Lib.hid A3
    have HV3 := Lib.hid V3
    have HB3 := Lib.hid (HB0.out.trans (hb3.mono HD0.out.size))
    clear D3 A3 V3 hb3 a0 a1 a2 a3 a4 a5 a6 a7 z8
    obtain ⟨⟨p, cap, hve⟩, _⟩ := HD3.out.mdl.slice
    subst hve
    have q0 := HD3.out.mdl.row.cell 0
    simp at q0
    clear b1 b2 b3 b4 b5 b6 b7 z3
    have hfew := HD3.out.mdl.few
    go_wp2
    go_loopw [119] (fun i wr => ∃ j : Nat, j ≤ l.length ∧ i = .int .i64 j ∧ Duo wr tb b mb B most E (.slice p l.length cap) l (agedL l j) ∧ VarAt wr w.heap.size (actC k n N) 33 ∧ VarAt wr c8 #[.int .i64 (N.tmod 50)] 3 ∧ Below B w wr ∧ w3.heap.size ≤ wr.heap.size) (fun i _ => l.length - (intOf i).toNat)
    case atStart => exact ⟨0, Nat.zero_le _, rfl, by rw [agedL_zero]; exact HD3.out, HA3.out, HV3.out, HB3.out, Nat.le_refl _⟩
    case round =>
      obtain ⟨j, hj, rfl, hD, hA, hV, hBw', hsz⟩ := hrel
      have r0 := hD.mdl.row.cell 0
      simp at r0
      by_cases hlt : j < l.length
      · obtain ⟨e, he⟩ : ∃ e, l[j]? = some e := ⟨_, List.getElem?_eq_getElem hlt⟩
        rcases hD.mdl.slice.2 with hnil | ⟨g, cap', hve, hrow, _, _, _, hfz⟩
        · have := agedL_len l j
          rw [hnil] at this
          simp at this
          omega
        simp only [Value.slice.injEq] at hve
        obtain ⟨rfl, _, _⟩ := hve
        obtain ⟨_, _, _, _, _, _, _, _, q8, q9⟩ := hrow.cells (agedL_at he)
        have i0 := idx29 g 0 l.length cap j hlt
        simp only [Nat.zero_add] at i0
        have f8 := hfz (j * 10 + 8)
        clear hrow hfz
        cases hs : e.st <;> rw [hs] at q9
        · have hst := hD.mdl.agedStep he hs
          have hD2 := hD.mstep hst.1 (fun k hk => Or.inl hk) hst.2
          have hA2 := hD.keepM hst.2 hA (by decide) (by decide)
          have hV2 := hD.keepM hst.2 hV (by decide) (by decide)
          have HD9 := Lib.hid hD2
          have HA9 := Lib.hid hA2
          have HV9 := Lib.hid hV2
          have HB9 := Lib.hid (hBw'.trans hD2.2)
          have HS9 := Lib.hid (Nat.le_trans hsz hst.2.size)
          clear hst hD2 hA2 hV2 hD hA hV hBw' hsz he
          go_wp2
          go_roundw
          case rel => exact ⟨j + 1, hlt, by go_num, HD9.out.1, HA9.out, HV9.out, HB9.out, HS9.out⟩
          case measure => simp [intOf]; omega
        · have hst := agedL_static he hs
          have HD9 := Lib.hid hD
          have HA9 := Lib.hid hA
          have HV9 := Lib.hid hV
          have HB9 := Lib.hid hBw'
          have HS9 := Lib.hid hsz
          have HST := Lib.hid hst
          clear hD hA hV hBw' hsz he hst
          go_wp2
          go_roundw
          case rel => exact ⟨j + 1, hlt, by go_num, by rw [HST.out]; exact HD9.out, HA9.out, HV9.out, HB9.out, HS9.out⟩
          case measure => simp [intOf]; omega
      · have hjl : j = l.length := by omega
        subst hjl
        rw [agedL_all] at hD
        have z4 := hV.cell 0
        simp at z4
        have HD4 := Lib.hid hD
        have HA4 := Lib.hid hA
        have HV4 := Lib.hid hV
        have HB4 := Lib.hid hBw'
        clear hD hA hV hBw'
        generalize N.tmod 50 = M at *
        go_wp2_with fail
        refine (older_any HD4.out.tab M).mono ?_
        rintro r w5 ⟨rfl, ⟨E', ht, hg⟩, ho⟩
        have D5a := HD4.out.tstep ht hg ho
        have A5 := HD4.out.keepT ho HA4.out (by decide)
        have V5 := HD4.out.keepT ho HV4.out (by decide)
        obtain ⟨c0, c1, c2, c3, c4, c5, c6, c7⟩ := actCells A5
        have z5 := V5.cell 0
        simp at z5
        have HD5 := Lib.hid D5a.1
        have HA5 := Lib.hid A5
        have HV5 := Lib.hid V5
        have HB5 := Lib.hid (HB4.out.trans D5a.2)
        clear D5a A5 V5 ht hg ho
        clear c0 c1 c2 c3 c4 c5 c6 c7 z5
        unfold cntR
        go_wp2_with fail
        refine (drop_any HD5.out.mdl HD5.out.size (rmv fun e => decide (M ≤ e.age)) 24 #[.pointer (some ⟨c8, 0, none⟩)] e24 (fun W e _ hW => cl_age e W c8 M (((HV5.out.below hW HV5.out.lt).cell 0).trans rfl))).mono ?_
        rintro r w6 ⟨rfl, ⟨v', hm, hvv'⟩, ho⟩
        have ho := mbM ho (.slice p l.length cap)
        have hvv : ∀ k, v'.ownBlock = some k → (Value.slice p l.length cap).ownBlock = some k ∨ w5.heap.size ≤ k := fun k hk => Or.inr (hvv' k hk)
        have D6a := HD5.out.mstep hm hvv ho
        have A6 := HD5.out.keepM ho HA5.out (by decide) (by decide)
        have V6 := HD5.out.keepM ho HV5.out (by decide) (by decide)
        obtain ⟨d0, d1, d2, d3, d4, d5, d6, d7⟩ := actCells A6
        have z6 := V6.cell 0
        simp at z6
        have HD6 := Lib.hid D6a.1
        have HA6 := Lib.hid A6
        have HV6 := Lib.hid V6
        have HB6 := Lib.hid (HB5.out.trans D6a.2)
        clear D6a A6 V6 hm hvv ho
        clear hvv' d0 d1 d2 d3 d4 d5 d6 d7 z6
        go_wp2
        go_ret
        exact ⟨by simp, ⟨E', v', _, HD6.out⟩, HB6.out⟩
end Go.Proofs.Ytkdaloikpljccaa
