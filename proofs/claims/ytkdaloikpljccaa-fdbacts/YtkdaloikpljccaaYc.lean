/- The model's act: a call to Forget. -/
import Derived.Test.YtkdaloikpljccaaY
namespace Go.Proofs.Ytkdaloikpljccaa
open Go.RowKit Go.Sort Go.Maps
variable {w : World} {tb b mb B : Nat} {most : Int} {E : Nat → Option Ent} {v : Value} {l : List Ent}
set_option maxHeartbeats 1000000 in
set_option maxRecDepth 20000 in
theorem act_forget (h : Duo w tb b mb B most E v l l) (k n : Nat) (N : Int) (hk : k < 256 ∧ k % 6 = 2) (hn : n < 281474976710656) :
    Calls Try.prog 7 #[.pointer (some ⟨mb, 0, none⟩), .pointer (some ⟨tb, 0, none⟩), actV k n N] w fun r w' => r = .returned (.bool true) ∧ (∃ E' v' l', Duo w' tb b mb B most E' v' l' l') ∧ Below B w w' := by
  obtain ⟨hK0, hK1⟩ := hk
  have hb := box_below w (.cells (actC k n N) 33)
  have hv := var_new w (actC k n N) 33
  have h1 := h.below hb
  have hN : ∀ w', Calls Try.prog 18 #[macN n] w' fun r w'' => r = .returned (.int .u64 (n : Nat)) ∧ Below w'.heap.size w' w'' := fun w' => by
    have := refNumber_any (ofN n) (ofN_lt n) w'
    rw [mac_num hn] at this
    exact this
  have HB := Lib.hid hb
  have HV := Lib.hid hv
  have H1 := Lib.hid h1
  have HH := Lib.hid h
  have HN := Lib.hid hn
  have hws : w.heap.size < (w.alloc (.cells (actC k n N) 33)).heap.size := by rw [alloc_size]; omega
  have F1 : ∀ w', Below (w.alloc (.cells (actC k n N) 33)).heap.size (w.alloc (.cells (actC k n N) 33)) w' → _ := fun w' hw => actCells (hv.below hw hv.lt)
  have HF1 := Lib.hid F1
  have HN18 := Lib.hid hN
  clear hb hv h1 h F1 hN hn
  go_enter Try.func7, Try.ntmps7
  go_upto_region 1 with fail
  go_cut [7, 8] from 15 to 20 (fun x c wx => ∃ c8 : Nat, x = .int .u64 (n : Nat) ∧ c = .pointer (some ⟨c8, 0, none⟩) ∧ VarAt wx c8 #[.int .i64 (N.tmod 50)] 3 ∧ Below (w.alloc (.cells (actC k n N) 33)).heap.size (w.alloc (.cells (actC k n N) 33)) wx ∧ (w.alloc (.cells (actC k n N) 33)).heap.size ≤ c8)
  case first =>
    rename_i J K9 hJ hK9
    refine wp_region_held_drew (S := fun w' => Below (w.alloc (.cells (actC k n N) 33)).heap.size (w.alloc (.cells (actC k n N) 33)) w') (by kernel_rfl) (Below.refl _ _).drew (fun hS => ?_)
    refine wpAnyH_take (i := 0) (v := ?_) rfl (by kernel_rfl) (by kernel_rfl) (by kernel_rfl) (fun _ _ _ h => h) (Or.inl ⟨by rfl, ?_⟩) hS ?_
    rotate_left
    · (intro w9 hS9; go_simp; try with_reducible rfl)
    refine wpAnyH_take (i := 1) (v := ?_) rfl (by kernel_rfl) (by kernel_rfl) (by kernel_rfl) (fun _ _ _ h => h) (Or.inl ⟨by rfl, ?_⟩) hS ?_
    rotate_left
    · (intro w9 hS9; obtain ⟨q0, q1, q2, q3, q4, q5, q6, q7⟩ := HF1.out w9 hS9; go_simp; try with_reducible rfl)
    refine wpAnyH_take (i := 3) (v := ?_) rfl (by kernel_rfl) (by kernel_rfl) (by kernel_rfl) (fun _ _ _ h => h) (Or.inl ⟨by rfl, ?_⟩) hS ?_
    rotate_left
    · (intro w9 hS9; go_simp; try with_reducible rfl)
    refine wpAnyH_take (i := 4) (v := ?_) rfl (by kernel_rfl) (by kernel_rfl) (by kernel_rfl) (fun _ _ _ h => h) (Or.inl ⟨by rfl, ?_⟩) hS ?_
    rotate_left
    · (intro w9 hS9; obtain ⟨q0, q1, q2, q3, q4, q5, q6, q7⟩ := HF1.out w9 hS9; go_simp; try with_reducible rfl)
    refine wpAnyH_take (i := 5) (v := ?_) rfl (by kernel_rfl) (by kernel_rfl) (by kernel_rfl) (fun _ _ _ h => h) (Or.inl ⟨by rfl, ?_⟩) hS ?_
    rotate_left
    · (intro w9 hS9; go_simp; try with_reducible rfl)
    simp only [Act.put, List.getElem_toArray, List.getElem_cons_zero, List.getElem_cons_succ, List.setIfInBounds_toArray, List.set_cons_zero, List.set_cons_succ]
    refine wpAnyH_ready (rs := [2, 6]) (by kernel_rfl) (by simp) (AllReadyH.cons rfl (fun K hK => ?_) (AllReadyH.cons rfl (fun K hK => ?_) AllReadyH.nil))
    · go_simp
      refine (HN18.out _).mono ?_
      rintro r w1 ⟨rfl, hb1⟩
      refine hK.out _ _ (hS.trans (hb1.mono hS.size)) (fun hS => ?_)
      clear hK K hb1
      refine wpAnyH_ready (rs := [6]) (by kernel_rfl) (by simp) (AllReadyH.cons rfl (fun K hK => ?_) AllReadyH.nil)
      go_simp
      have hS1 := hS
      refine hK.out _ _ (hS.alloc hS.size (.cells #[.int .i64 0] 3)) (fun hS => ?_)
      clear hK K
      refine wpAnyH_take (i := 7) (v := ?_) rfl (by kernel_rfl) (by kernel_rfl) (by kernel_rfl) (fun _ _ _ h => h) (Or.inl ⟨by rfl, ?_⟩) hS ?_
      rotate_left
      · (intro w9 hS9; go_simp; try with_reducible rfl)
      refine wpAnyH_ready (rs := [8]) (by kernel_rfl) (by simp) (AllReadyH.cons rfl (fun K hK => ?_) AllReadyH.nil)
      go_simp
      refine hK.out _ _ (hS1.alloc hS1.size (.cells #[.int .i64 (N.tmod 50)] 3)) (fun hS => ?_)
      clear hK K
      refine wpAnyH_done (by kernel_rfl) ?_ _
      refine hK9 _ _ (Met.intro (hJ _ _ ?_))
      (repeat apply Exists.intro)
      refine ⟨?_, rfl⟩
      exact ⟨w1.heap.size, rfl, rfl, var_new _ _ _, hS, hS1.size⟩
    · go_simp
      refine hK.out _ _ (hS.alloc hS.size (.cells #[.int .i64 0] 3)) (fun hS => ?_)
      clear hK K
      refine wpAnyH_ready (rs := [2]) (by kernel_rfl) (by simp) (AllReadyH.cons rfl (fun K hK => ?_) AllReadyH.nil)
      go_simp
      refine (HN18.out _).mono ?_
      rintro r w1 ⟨rfl, hb1⟩
      refine hK.out _ _ (hS.trans (hb1.mono hS.size)) (fun hS => ?_)
      have hv9 := (var_new (w.alloc (.cells (actC k n N) 33)) #[.int .i64 0] 3).drew.below hb1 (var_new (w.alloc (.cells (actC k n N) 33)) #[.int .i64 0] 3).drew.lt
      clear hK K
      refine wpAnyH_take (i := 7) (v := ?_) rfl (by kernel_rfl) (by kernel_rfl) (by kernel_rfl) (fun _ _ _ h => h) (Or.inl ⟨by rfl, ?_⟩) hS ?_
      rotate_left
      · (intro w9 hS9; go_simp; try with_reducible rfl)
      refine wpAnyH_ready (rs := [8]) (by kernel_rfl) (by simp) (AllReadyH.cons rfl (fun K hK => ?_) AllReadyH.nil)
      have z9 := hv9.cell 0
      have f9 := hv9.frozen 0
      simp at z9 f9
      go_simp
      refine hK.out _ _ (hS.setCell (p := ⟨w.heap.size + 1, 0, none⟩) (by rw [alloc_size]; exact Nat.le_refl _) (.int .i64 (N.tmod 50))) (fun hS => ?_)
      clear hK K
      refine wpAnyH_done (by kernel_rfl) ?_ _
      refine hK9 _ _ (Met.intro (hJ _ _ ?_))
      (repeat apply Exists.intro)
      refine ⟨?_, rfl⟩
      exact ⟨w.heap.size + 1, rfl, rfl, by simpa using hv9.set 0 (.int .i64 (N.tmod 50)), hS, by rw [alloc_size]; exact Nat.le_refl _⟩
  case rest =>
    obtain ⟨c8, rfl, rfl, hv8, hb8, hc8⟩ := hcut
    have D0 := H1.out.below hb8
    have A0 := HV.out.below hb8 HV.out.lt
    obtain ⟨a0, a1, a2, a3, a4, a5, a6, a7⟩ := actCells A0
    have z8 := hv8.cell 0
    simp at z8
    have hki : (k : Int) % 6 = 2 := by omega
    have B0 := HB.out.trans (hb8.mono (Nat.le_of_lt hws))
    have hBw := HH.out.size
    have HD0 := Lib.hid D0
    have HA0 := Lib.hid A0
    have HV8 := Lib.hid hv8
    have HB0 := Lib.hid (B0.mono hBw)
    clear D0 A0 B0 hb8 hv8
    go_wp2_with fail
    refine (at_any HD0.out.mdl HN.out).mono ?_
    rintro r w3 ⟨rfl, hb3⟩
    have D3 := HD0.out.below hb3
    have A3 := HA0.out.below hb3 HA0.out.lt
    have V3 := HV8.out.below hb3 HV8.out.lt
    obtain ⟨b0, b1, b2, b3, b4, b5, b6, b7⟩ := actCells A3
    have z3 := V3.cell 0
    simp at z3
    have HD3 := Lib.hid D3
    have HA3 := Lib.hid A3
    have HV3 := Lib.hid V3
    have HB3 := Lib.hid (HB0.out.trans (hb3.mono HD0.out.size))
    clear D3 A3 V3 hb3 a0 a1 a2 a3 a4 a5 a6 a7 z8
    have HP := fun (W : World) (e : Ent) (he : e ∈ l) (hW : Below w3.heap.size w3 W) => cl_mac e (HD3.out.mdl.up.lt e he) W w.heap.size k n HN.out N (HA3.out.below hW HA3.out.lt)
    have hdrop := drop_any HD3.out.mdl HD3.out.size (fun e => e.n == n) 22 #[.pointer (some ⟨w.heap.size, 0, none⟩)] e22 HP
    have HDROP := Lib.hid hdrop
    clear hdrop HP b1 b2 b3 b4 b5 b6 b7 z3
    cases hh : has l n
    · have hdrop := HDROP.out
      rw [cnt_none hh] at hdrop
      go_wp2_with fail
      refine hdrop.mono ?_
      rintro r w4 ⟨rfl, ⟨v', hm, hvv'⟩, ho⟩
      have ho := mbM ho v
      have hvv : ∀ k, v'.ownBlock = some k → v.ownBlock = some k ∨ w3.heap.size ≤ k := fun k hk => Or.inr (hvv' k hk)
      have D4a := HD3.out.mstep hm hvv ho
      have A4 := HD3.out.keepM ho HA3.out (by decide) (by decide)
      have V4 := HD3.out.keepM ho HV3.out (by decide) (by decide)
      obtain ⟨c0, c1, c2, c3, c4, c5, c6, c7⟩ := actCells A4
      have z4 := V4.cell 0
      simp at z4
      have HD4 := Lib.hid D4a.1
      have HA4 := Lib.hid A4
      have HV4 := Lib.hid V4
      have HB4 := Lib.hid (HB3.out.trans D4a.2)
      clear D4a A4 V4 hm hvv ho
      clear hvv' hdrop c0 c7 z4
      have hfg := forget_any HD4.out.tab HN.out
      rw [hh] at hfg
      simp only [if_false, Bool.false_eq_true] at hfg
      go_wp2_with fail
      refine hfg.mono ?_
      rintro r w5 ⟨rfl, ht, ho⟩
      have ho := tbF ho E
      have hg := Grew.refl w4 E
      have D5a := HD4.out.tstep ht hg ho
      have A5 := HD4.out.keepT ho HA4.out (by decide)
      have V5 := HD4.out.keepT ho HV4.out (by decide)
      obtain ⟨d0, d1, d2, d3, d4, d5, d6, d7⟩ := actCells A5
      have z5 := V5.cell 0
      simp at z5
      have HD5 := Lib.hid D5a.1
      have HA5 := Lib.hid A5
      have HV5 := Lib.hid V5
      have HB5 := Lib.hid (HB4.out.trans D5a.2)
      clear D5a A5 V5 ht hg ho
      clear hfg d0 d1 d2 d3 d4 d5 d6 d7 z5 c1 c2 c3 c4 c5 c6
      go_wp2
      go_ret
      exact ⟨rfl, ⟨E, v', _, HD5.out⟩, HB5.out⟩
    · have hdrop := HDROP.out
      obtain ⟨C, hC, hC0, hC1⟩ := cnt_some HD3.out.mdl.up hh
      rw [hC] at hdrop
      clear hC
      go_wp2_with fail
      refine hdrop.mono ?_
      rintro r w4 ⟨rfl, ⟨v', hm, hvv'⟩, ho⟩
      have ho := mbM ho v
      have hvv : ∀ k, v'.ownBlock = some k → v.ownBlock = some k ∨ w3.heap.size ≤ k := fun k hk => Or.inr (hvv' k hk)
      have D4a := HD3.out.mstep hm hvv ho
      have A4 := HD3.out.keepM ho HA3.out (by decide) (by decide)
      have V4 := HD3.out.keepM ho HV3.out (by decide) (by decide)
      obtain ⟨c0, c1, c2, c3, c4, c5, c6, c7⟩ := actCells A4
      have z4 := V4.cell 0
      simp at z4
      have HD4 := Lib.hid D4a.1
      have HA4 := Lib.hid A4
      have HV4 := Lib.hid V4
      have HB4 := Lib.hid (HB3.out.trans D4a.2)
      clear D4a A4 V4 hm hvv ho
      clear hvv' hdrop c0 c7 z4
      have hfg := forget_any HD4.out.tab HN.out
      rw [hh] at hfg
      simp only [if_true] at hfg
      go_wp2_with fail
      refine hfg.mono ?_
      rintro r w5 ⟨rfl, ht, ho⟩
      have ho := tbF ho E
      have hg := Grew.refl w4 E
      have D5a := HD4.out.tstep ht hg ho
      have A5 := HD4.out.keepT ho HA4.out (by decide)
      have V5 := HD4.out.keepT ho HV4.out (by decide)
      obtain ⟨d0, d1, d2, d3, d4, d5, d6, d7⟩ := actCells A5
      have z5 := V5.cell 0
      simp at z5
      have HD5 := Lib.hid D5a.1
      have HA5 := Lib.hid A5
      have HV5 := Lib.hid V5
      have HB5 := Lib.hid (HB4.out.trans D5a.2)
      clear D5a A5 V5 ht hg ho
      clear hfg d0 d1 d2 d3 d4 d5 d6 d7 z5 c1 c2 c3 c4 c5 c6
      go_wp2
      go_ret
      exact ⟨rfl, ⟨E, v', _, HD5.out⟩, HB5.out⟩
end Go.Proofs.Ytkdaloikpljccaa
