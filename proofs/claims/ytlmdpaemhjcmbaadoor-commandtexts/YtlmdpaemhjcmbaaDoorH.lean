/- The reference's Parse: the bytes of a text that is an address's, or that it is none's. -/
import Derived.Test.YtlmdpaemhjcmbaaDoorG
namespace Go.Proofs.YtlmdpaemhjcmbaaDoor
open Go.RowKit Go.Sort

/-- A sign of a text may stand where it stands. -/
def chOk (s : ByteArray) (i : Nat) : Bool := if i % 3 = 2 then decide (bt s i = 58) else (dval (bt s i)).isSome
theorem okTxt_iff (s : ByteArray) : okTxt s ↔ s.size = 17 ∧ ∀ i, i < 17 → chOk s i = true := by
  constructor
  · rintro ⟨h, hk⟩
    refine ⟨h, fun i hi => ?_⟩
    unfold chOk
    by_cases h2 : i % 3 = 2
    · rw [if_pos h2]
      have := (hk (i / 3 + 1) (by omega)).1 (by omega)
      rw [show 3 * (i / 3 + 1) - 1 = i from by omega] at this
      simp [this]
    · rw [if_neg h2]
      by_cases h0 : i % 3 = 0
      · have := (hk (i / 3) (by omega)).2.1
        rwa [show 3 * (i / 3) = i from by omega] at this
      · have := (hk (i / 3) (by omega)).2.2
        rwa [show 3 * (i / 3) + 1 = i from by omega] at this
  · rintro ⟨h, hk⟩
    refine ⟨h, fun i hi => ⟨fun h0 => ?_, ?_, ?_⟩⟩
    · have := hk (3 * i - 1) (by omega)
      unfold chOk at this
      rw [if_pos (by omega)] at this
      simpa using this
    · have := hk (3 * i) (by omega)
      unfold chOk at this
      rwa [if_neg (by omega)] at this
    · have := hk (3 * i + 1) (by omega)
      unfold chOk at this
      rwa [if_neg (by omega)] at this
open Classical in
noncomputable def refEnd (s : ByteArray) : Ending := if okTxt s then .returned (.tuple #[macV (macOf s), .bool true]) else .returned (.tuple #[macV zeroX, .bool false])
theorem refEnd_bad {s : ByteArray} (h : ¬ okTxt s) : refEnd s = .returned (.tuple #[macV zeroX, .bool false]) := by unfold refEnd; rw [if_neg h]
theorem refEnd_good {s : ByteArray} (h : okTxt s) : refEnd s = .returned (.tuple #[macV (macOf s), .bool true]) := by unfold refEnd; rw [if_pos h]
theorem value_some {c v : Nat} (hc : c < 256) (h : dval c = some v) (w : World) : Calls Tryd.prog 40 #[.int .u8 c] w fun e w' => e = .returned (.int .i64 v) ∧ w = w' := by
  have := value_any c hc w
  rwa [value_dval h] at this
theorem value_none {c : Nat} (hc : c < 256) (h : dval c = none) (w : World) : Calls Tryd.prog 40 #[.int .u8 c] w fun e w' => e = .returned (.int .i64 (-1)) ∧ w = w' := by
  have := value_any c hc w
  unfold valI at this
  rwa [h] at this

theorem part_next22 {w : World} {b : Nat} {s : ByteArray} {k n : Nat} (hn : macOf s k = n) (h : VarAt w b (upd (part s k) k n) 23) : VarAt w b (part s (k + 1)) 23 := by
  have e : upd (part s k) k n = part s (k + 1) := by
    funext i
    unfold upd part
    by_cases h1 : i = k
    · subst h1; simp [hn]
    · by_cases h2 : i < k
      · rw [if_neg h1, if_pos h2, if_pos (by omega)]
      · rw [if_neg h1, if_neg h2, if_neg (by omega)]
  rwa [e] at h
theorem ch_next {s : ByteArray} {k : Nat} (h : ∀ j, j < k → chOk s j = true) (hk : chOk s k = true) : ∀ j, j < k + 1 → chOk s j = true := fun j hj => by
  rcases Nat.lt_or_ge j k with h1 | h1
  · exact h j h1
  · obtain rfl : j = k := by omega
    exact hk

set_option maxHeartbeats 1000000 in
theorem refParse_any (s : ByteArray) (w : World) :
    Calls Tryd.prog 24 #[.string s] w fun e w' => e = refEnd s ∧ Below w.heap.size w w' := by
  go_enter Tryd.func24, Tryd.ntmps24
  by_cases h17 : s.size = 17
  · go_wp2
    go_loop [5] (fun i => ∃ k : Nat, k ≤ 17 ∧ i = .int .i64 k ∧ ∀ j, j < k → chOk s j = true) (fun i => 17 - (intOf i).toNat)
    case atStart => exact ⟨0, Nat.zero_le _, rfl, fun j hj => absurd hj (by omega)⟩
    case round =>
      obtain ⟨k, hk, rfl, hok⟩ := hrel
      have HK := Lib.hid hok
      clear hok
      by_cases hlt : k < 17
      · have i1 := str_at s (k : Int) k rfl (by omega)
        have hbt := bt_lt s k
        by_cases h2 : k % 3 = 2
        · have m1 : ((k : Int) % 3 == 2) = true := by simp; omega
          have m2 : ((k : Int) % 3 != 2) = false := by simp; omega
          by_cases hs : bt s k = 58
          · have n1 : ((bt s k : Int) != 58) = false := by simp; omega
            have hg : chOk s k = true := by unfold chOk; rw [if_pos h2]; simp [hs]
            have HG := Lib.hid hg
            clear hg hs
            go_wp2
            exact ⟨⟨k + 1, by omega, by go_num, ch_next HK.out HG.out⟩, by simp [intOf]; omega⟩
          · have n1 : ((bt s k : Int) != 58) = true := by simp; omega
            have hbad : ¬ ∀ i, i < 17 → chOk s i = true := fun h => by have := h k hlt; unfold chOk at this; rw [if_pos h2] at this; simp at this; exact hs this
            have HBAD := Lib.hid hbad
            clear hbad hs
            go_wp2
            exact bodyPost_ret (v := .tuple #[macV zeroX, .bool false]) (by simp [results, Tryd.results24, go_sem, zeroX]) rfl ⟨(refEnd_bad (fun h => HBAD.out ((okTxt_iff s).1 h).2)).symm, (box_below _ _).alloc (by simp) _⟩
        · have m1 : ((k : Int) % 3 == 2) = false := by simp; omega
          have m2 : ((k : Int) % 3 != 2) = true := by simp; omega
          cases hv : dval (bt s k) with
          | none =>
            have c := fun w => value_none hbt hv w
            have hbad : ¬ ∀ i, i < 17 → chOk s i = true := fun h => by have := h k hlt; unfold chOk at this; rw [if_neg h2, hv] at this; cases this
            have HBAD := Lib.hid hbad
            clear hbad hv
            go_wp2_with fail
            refine (c _).mono ?_
            rintro e w' ⟨rfl, rfl⟩
            go_wp2
            exact bodyPost_ret (v := .tuple #[macV zeroX, .bool false]) (by simp [results, Tryd.results24, go_sem, zeroX]) rfl ⟨(refEnd_bad (fun h => HBAD.out ((okTxt_iff s).1 h).2)).symm, (box_below _ _).alloc (by simp) _⟩
          | some d =>
            have c := fun w => value_some hbt hv w
            have hd := dval_lt hv
            have hg : chOk s k = true := by unfold chOk; rw [if_neg h2, hv]; rfl
            have HG := Lib.hid hg
            clear hg hv
            go_wp2_with fail
            refine (c _).mono ?_
            rintro e w' ⟨rfl, rfl⟩
            go_wp2
            exact ⟨⟨k + 1, by omega, by go_num, ch_next HK.out HG.out⟩, by simp [intOf]; omega⟩
      · have : k = 17 := by omega
        subst this
        go_wp2
        have hall : okTxt s := (okTxt_iff s).2 ⟨h17, HK.out⟩
        have HALL := Lib.hid hall
        obtain ⟨v0, v1⟩ := var2 w zeroX (part s 0) 23 23
        have hb := (box2_at w zeroX (part s 0) 23 23).2.2
        have e : ((w.alloc (.cells #[.int .u8 0, .int .u8 0, .int .u8 0, .int .u8 0, .int .u8 0, .int .u8 0] 23)).alloc (.cells #[.int .u8 0, .int .u8 0, .int .u8 0, .int .u8 0, .int .u8 0, .int .u8 0] 23)) = (w.alloc (macO zeroX 23)).alloc (macO (part s 0) 23) := rfl
        rw [e]
        clear e hall
        clear HK
        generalize (w.alloc (macO zeroX 23)).alloc (macO (part s 0) 23) = W at *
        have V0 := Lib.hid v0
        have V1 := Lib.hid v1
        have HB := Lib.hid hb
        clear v0 v1 hb
        go_loopw [6] (fun i wr => ∃ k : Nat, k ≤ 6 ∧ i = .int .i64 k ∧ VarAt wr w.heap.size zeroX 23 ∧ VarAt wr (w.heap.size + 1) (part s k) 23 ∧ Below w.heap.size w wr) (fun i _ => 6 - (intOf i).toNat)
        case atStart => exact ⟨0, Nat.zero_le _, rfl, V0.out, V1.out, HB.out⟩
        case round =>
          obtain ⟨k, hk, rfl, v0, v1, hb⟩ := hrel
          have V0 := Lib.hid v0
          have V1 := Lib.hid v1
          have HB := Lib.hid hb
          by_cases hlt : k < 6
          · have hw1 : IntKind.i64.wrap (3 * (k : Int) + 1) = 3 * (k : Int) + 1 := by rw [IntKind.wrap_i64]; omega
            have hw0 : IntKind.i64.wrap (3 * (k : Int)) = 3 * (k : Int) := by rw [IntKind.wrap_i64]; omega
            have i1 := str_at s (3 * (k : Int)) (3 * k) (by omega) (by omega)
            have i2 := str_at s (3 * (k : Int) + 1) (3 * k + 1) (by omega) (by omega)
            have hc := v1.at k hlt
            have hf := v1.frozen k
            clear v0 v1 hb
            obtain ⟨d1, hv1⟩ := Option.isSome_iff_exists.1 ((HALL.out.2 k hlt).2.1)
            obtain ⟨d2, hv2⟩ := Option.isSome_iff_exists.1 ((HALL.out.2 k hlt).2.2)
            have c1 := fun w => value_some (bt_lt s (3 * k)) hv1 w
            have c2 := fun w => value_some (bt_lt s (3 * k + 1)) hv2 w
            have e1 := dval_lt hv1
            have e2 := dval_lt hv2
            have hw2 : IntKind.i64.wrap (16 * (d1 : Int)) = 16 * (d1 : Int) := by rw [IntKind.wrap_i64]; omega
            have hw3 : IntKind.i64.wrap (16 * (d1 : Int) + d2) = 16 * (d1 : Int) + d2 := by rw [IntKind.wrap_i64]; omega
            have hw4 : IntKind.u8.wrap (16 * (d1 : Int) + d2) = ((d1 * 16 + d2 : Nat) : Int) := by rw [IntKind.wrap_u8']; omega
            have hval : macOf s k = d1 * 16 + d2 := by unfold macOf; rw [hv1, hv2]; rfl
            have HVAL := Lib.hid hval
            clear hv1 hv2 hval
            go_wp2
            refine wp_region_any (by kernel_rfl) ?_
            change wpAny _ _ _ _ _ _ _ (World.drew _)
            refine wpAny_take (i := 0) (v := ?_) rfl (by kernel_rfl) (by kernel_rfl) (by kernel_rfl) (fun _ _ _ h => h) (Or.inl ⟨by rfl, ?_⟩) ?_
            rotate_left
            · (intro w9; go_simp; try with_reducible rfl)
            refine wpAny_take (i := 1) (v := ?_) rfl (by kernel_rfl) (by kernel_rfl) (by kernel_rfl) (fun _ _ _ h => h) (Or.inl ⟨by rfl, ?_⟩) ?_
            rotate_left
            · (intro w9; go_simp; try with_reducible rfl)
            refine wpAny_take (i := 2) (v := ?_) rfl (by kernel_rfl) (by kernel_rfl) (by kernel_rfl) (fun _ _ _ h => h) (Or.inl ⟨by rfl, ?_⟩) ?_
            rotate_left
            · (intro w9; go_simp; try with_reducible rfl)
            refine wpAny_take (i := 3) (v := ?_) rfl (by kernel_rfl) (by kernel_rfl) (by kernel_rfl) (fun _ _ _ h => h) (Or.inl ⟨by rfl, ?_⟩) ?_
            rotate_left
            · (intro w9; go_simp; try with_reducible rfl)
            refine wpAny_take (i := 4) (v := ?_) rfl (by kernel_rfl) (by kernel_rfl) (by kernel_rfl) (fun _ _ _ h => h) (Or.inl ⟨by rfl, ?_⟩) ?_
            rotate_left
            · (intro w9; go_simp; try with_reducible rfl)
            refine wpAny_take (i := 7) (v := ?_) rfl (by kernel_rfl) (by kernel_rfl) (by kernel_rfl) (fun _ _ _ h => h) (Or.inl ⟨by rfl, ?_⟩) ?_
            rotate_left
            · (intro w9; go_simp; try with_reducible rfl)
            refine wpAny_take (i := 8) (v := ?_) rfl (by kernel_rfl) (by kernel_rfl) (by kernel_rfl) (fun _ _ _ h => h) (Or.inl ⟨by rfl, ?_⟩) ?_
            rotate_left
            · (intro w9; go_simp; try with_reducible rfl)
            refine wpAny_take (i := 9) (v := ?_) rfl (by kernel_rfl) (by kernel_rfl) (by kernel_rfl) (fun _ _ _ h => h) (Or.inl ⟨by rfl, ?_⟩) ?_
            rotate_left
            · (intro w9; go_simp; try with_reducible rfl)
            refine wpAny_take (i := 10) (v := ?_) rfl (by kernel_rfl) (by kernel_rfl) (by kernel_rfl) (fun _ _ _ h => h) (Or.inl ⟨by rfl, ?_⟩) ?_
            rotate_left
            · (intro w9; go_simp; try with_reducible rfl)
            refine wpAny_take (i := 11) (v := ?_) rfl (by kernel_rfl) (by kernel_rfl) (by kernel_rfl) (fun _ _ _ h => h) (Or.inl ⟨by rfl, ?_⟩) ?_
            rotate_left
            · (intro w9; go_simp; try with_reducible rfl)
            refine wpAny_ready (rs := [5]) (by kernel_rfl) (by simp) (AllReady.cons rfl (fun K hK => ?_) AllReady.nil)
            go_simp
            refine (c1 _).mono ?_
            rintro e w' ⟨rfl, rfl⟩
            refine hK _ _ ?_
            clear hK K
            refine wpAny_take (i := 6) (v := ?_) rfl (by kernel_rfl) (by kernel_rfl) (by kernel_rfl) (fun _ _ _ h => h) (Or.inl ⟨by rfl, ?_⟩) ?_
            rotate_left
            · (intro w9; go_simp; try with_reducible rfl)
            refine wpAny_ready (rs := [12]) (by kernel_rfl) (by simp) (AllReady.cons rfl (fun K hK => ?_) AllReady.nil)
            go_simp
            refine (c2 _).mono ?_
            rintro e w' ⟨rfl, rfl⟩
            refine hK _ _ ?_
            clear hK K
            refine wpAny_take (i := 13) (v := ?_) rfl (by kernel_rfl) (by kernel_rfl) (by kernel_rfl) (fun _ _ _ h => h) (Or.inl ⟨by rfl, ?_⟩) ?_
            rotate_left
            · (intro w9; go_simp; try with_reducible rfl)
            refine wpAny_take (i := 14) (v := ?_) rfl (by kernel_rfl) (by kernel_rfl) (by kernel_rfl) (fun _ _ _ h => h) (Or.inl ⟨by rfl, ?_⟩) ?_
            rotate_left
            · (intro w9; go_simp; try with_reducible rfl)
            refine wpAny_take (i := 15) (v := ?_) rfl (by kernel_rfl) (by kernel_rfl) (by kernel_rfl) (fun _ _ _ h => h) (Or.inl ⟨by rfl, ?_⟩) ?_
            rotate_left
            · (intro w9; go_simp; try with_reducible rfl)
            refine wpAny_ready (rs := [16]) (by kernel_rfl) (by simp) (AllReady.cons rfl (fun K hK => ?_) AllReady.nil)
            go_simp
            refine hK _ _ ?_
            clear hK K
            refine wpAny_done (by kernel_rfl) ?_ _
            go_wp2
            exact ⟨⟨k + 1, by omega, by go_num, (V0.out.set_other (by simp) _).drew, part_next22 HVAL.out (V1.out.set k (d1 * 16 + d2) hlt).drew, (HB.out.setCell (by simp) _).drew⟩, by simp [intOf]; omega⟩
          · have : k = 6 := by omega
            subst this
            have a0 := v1.at 0 (by omega)
            have a1 := v1.at 1 (by omega)
            have a2 := v1.at 2 (by omega)
            have a3 := v1.at 3 (by omega)
            have a4 := v1.at 4 (by omega)
            have a5 := v1.at 5 (by omega)
            have b0 := v0.at 0 (by omega)
            have b1 := v0.at 1 (by omega)
            have b2 := v0.at 2 (by omega)
            have b3 := v0.at 3 (by omega)
            have b4 := v0.at 4 (by omega)
            have b5 := v0.at 5 (by omega)
            have f0 := v0.frozen
            clear v0 v1 hb
            go_wp2
            obtain ⟨v', _, hB'⟩ := store6 (part s 6) V0.out HB.out
            clear a0 a1 a2 a3 a4 a5 b0 b1 b2 b3 b4 b5 f0
            revert v' hB'
            generalize (((((wr.setCell ⟨w.heap.size, 0, none⟩ (.int .u8 (part s 6 0))).setCell ⟨w.heap.size, 1, none⟩ (.int .u8 (part s 6 1))).setCell ⟨w.heap.size, 2, none⟩ (.int .u8 (part s 6 2))).setCell ⟨w.heap.size, 3, none⟩ (.int .u8 (part s 6 3))).setCell ⟨w.heap.size, 4, none⟩ (.int .u8 (part s 6 4))).setCell ⟨w.heap.size, 5, none⟩ (.int .u8 (part s 6 5)) = W'
            intro v' hB'
            have r0 : W'.cell? ⟨w.heap.size, 0, none⟩ = some (.int .u8 (macOf s 0)) := v'.at 0 (by omega)
            have r1 : W'.cell? ⟨w.heap.size, 1, none⟩ = some (.int .u8 (macOf s 1)) := v'.at 1 (by omega)
            have r2 : W'.cell? ⟨w.heap.size, 2, none⟩ = some (.int .u8 (macOf s 2)) := v'.at 2 (by omega)
            have r3 : W'.cell? ⟨w.heap.size, 3, none⟩ = some (.int .u8 (macOf s 3)) := v'.at 3 (by omega)
            have r4 : W'.cell? ⟨w.heap.size, 4, none⟩ = some (.int .u8 (macOf s 4)) := v'.at 4 (by omega)
            have r5 : W'.cell? ⟨w.heap.size, 5, none⟩ = some (.int .u8 (macOf s 5)) := v'.at 5 (by omega)
            exact bodyPost_ret (v := .tuple #[macV (macOf s), .bool true]) (by simp [results, Tryd.results24, go_sem, r0, r1, r2, r3, r4, r5]) rfl ⟨(refEnd_good HALL.out).symm, hB'⟩
  · have h17' : ¬ (s.size : Int) = 17 := by omega
    go_wp2
    exact bodyPost_ret (v := .tuple #[macV zeroX, .bool false]) (by simp [results, Tryd.results24, go_sem, zeroX]) rfl ⟨(refEnd_bad (fun h => h17 h.1)).symm, (box_below _ _).alloc (by simp) _⟩
end Go.Proofs.YtlmdpaemhjcmbaaDoor
