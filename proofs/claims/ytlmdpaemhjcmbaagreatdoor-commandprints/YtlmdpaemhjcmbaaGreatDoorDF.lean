/- Texts that are an address's, and the contract of addr.parseText: it returns the address, or gives up by panic. -/
import Derived.Test.YtlmdpaemhjcmbaaGreatDoorDE
import Derived.Deep.RegionWith
namespace Go.Proofs.YtlmdpaemhjcmbaaGreatDoor.Cd
open Go.RowKit Go.Sort

/-- A text's byte. -/
def bt (s : ByteArray) (j : Nat) : Nat := (s.data.toList.getD j 0).toNat
theorem bt_lt (s : ByteArray) (j : Nat) : bt s j < 256 := UInt8.toNat_lt _
/-- The byte number i of an address can be read. -/
def okAt (s : ByteArray) (i : Nat) : Prop := (0 < i → bt s (3 * i - 1) = 58) ∧ (dval (bt s (3 * i))).isSome = true ∧ (dval (bt s (3 * i + 1))).isSome = true
def okTxt (s : ByteArray) : Prop := s.size = 17 ∧ ∀ i, i < 6 → okAt s i
def macOf (s : ByteArray) (i : Nat) : Nat := (dval (bt s (3 * i))).getD 0 * 16 + (dval (bt s (3 * i + 1))).getD 0
open Classical in
noncomputable def endOf (s : ByteArray) : Ending := if okTxt s then .returned (macV (macOf s)) else gaveUp
theorem endOf_bad {s : ByteArray} (h : ¬ okTxt s) : endOf s = gaveUp := by unfold endOf; rw [if_neg h]
theorem endOf_good {s : ByteArray} (h : okTxt s) : endOf s = .returned (macV (macOf s)) := by unfold endOf; rw [if_pos h]

theorem str_index (s : ByteArray) (j : Nat) (hj : j < s.size) (w : World) : (Instr.index 9 (.string s) (.int .i64 j)).run Tryz.prog w = .ok (.int .u8 (bt s j)) w := by
  simp [go_sem]
  rw [dif_pos hj]
  unfold bt
  rw [List.getD_eq_getElem?_getD, List.getElem?_eq_getElem (by simpa using hj)]
  rfl
theorem str_at (s : ByteArray) (i : Int) (j : Nat) (hi : i = j) (hj : j < s.size) (w : World) : (Instr.index 9 (.string s) (.int .i64 i)).run Tryz.prog w = .ok (.int .u8 (bt s j)) w := by
  rw [hi]; exact str_index s j hj w

/-- An address's variable, known whole. -/
def VarAt (w : World) (b : Nat) (x : Nat → Nat) (t : TypeId) : Prop := w.heap[b]? = some (macO x t)
theorem VarAt.drew {w : World} {b : Nat} {x : Nat → Nat} {t : TypeId} (h : VarAt w b x t) : VarAt w.drew b x t := h
theorem VarAt.at {w : World} {b : Nat} {x : Nat → Nat} {t : TypeId} (h : VarAt w b x t) : At w b x := by
  have hc := cell_of_row w b
  intro k hk
  rw [hc k _ t (0, 0) h]
  match k, hk with
  | 0, _ => rfl
  | 1, _ => rfl
  | 2, _ => rfl
  | 3, _ => rfl
  | 4, _ => rfl
  | 5, _ => rfl
theorem VarAt.frozen {w : World} {b : Nat} {x : Nat → Nat} {t : TypeId} (h : VarAt w b x t) (k : Nat) : w.frozen? ⟨b, k, none⟩ = false := by
  unfold World.frozen?
  simp only []
  rw [show w.heap[b]? = _ from h]
  simp
def upd (x : Nat → Nat) (k n : Nat) (i : Nat) : Nat := if i = k then n else x i
theorem VarAt.set {w : World} {b : Nat} {x : Nat → Nat} {t : TypeId} (h : VarAt w b x t) (k n : Nat) (hk : k < 6) : VarAt (w.setCell ⟨b, k, none⟩ (.int .u8 n)) b (upd x k n) t := by
  unfold VarAt World.setCell
  simp only [Array.getElem?_modify, if_true]
  rw [show w.heap[b]? = _ from h]
  match k, hk with
  | 0, _ => rfl
  | 1, _ => rfl
  | 2, _ => rfl
  | 3, _ => rfl
  | 4, _ => rfl
  | 5, _ => rfl
theorem VarAt.set_other {w : World} {b : Nat} {x : Nat → Nat} {t : TypeId} (h : VarAt w b x t) {a : Addr} (ha : b ≠ a.block) (v : Value) : VarAt (w.setCell a v) b x t := by
  unfold VarAt
  rw [Below.heap_setCell _ _ _ _ ha]
  exact h
theorem VarAt.below {w w' : World} {b B : Nat} {x : Nat → Nat} {t : TypeId} (h : VarAt w b x t) (hb : Below B w w') (hB : b < B) : VarAt w' b x t := (hb.block b hB).trans h

def part (s : ByteArray) (k i : Nat) : Nat := if i < k then macOf s i else 0
theorem var2 (w : World) (x y : Nat → Nat) (s t : TypeId) : VarAt ((w.alloc (macO x s)).alloc (macO y t)) w.heap.size x s ∧ VarAt ((w.alloc (macO x s)).alloc (macO y t)) (w.heap.size + 1) y t := by
  constructor
  · unfold VarAt
    rw [Below.heap_alloc _ _ _ (by simp)]
    exact (MapKept.heap_alloc w _).1
  · have := (MapKept.heap_alloc (w.alloc (macO x s)) (macO y t)).1
    rwa [alloc_size] at this
def zeroX : Nat → Nat := fun _ => 0

theorem or16_all : ∀ a b : Fin 16, bits BinOp.or IntKind.u8 (IntKind.u8.wrap ((a.val : Int) * 16)) (b.val : Int) = ((a.val * 16 + b.val : Nat) : Int) := by decide +kernel
theorem or16 {a b : Nat} (ha : a < 16) (hb : b < 16) : bits BinOp.or IntKind.u8 (IntKind.u8.wrap ((a : Int) * 16)) (b : Int) = ((a * 16 + b : Nat) : Int) := or16_all ⟨a, ha⟩ ⟨b, hb⟩
theorem part_next {w : World} {b : Nat} {s : ByteArray} {k n : Nat} (hn : macOf s k = n) (h : VarAt w b (upd (part s k) k n) 23) : VarAt w b (part s (k + 1)) 23 := by
  have e : upd (part s k) k n = part s (k + 1) := by
    funext i
    unfold upd part
    by_cases h1 : i = k
    · subst h1; simp [hn]
    · by_cases h2 : i < k
      · rw [if_neg h1, if_pos h2, if_pos (by omega)]
      · rw [if_neg h1, if_neg h2, if_neg (by omega)]
  rwa [e] at h
theorem ok_next {s : ByteArray} {k : Nat} (h : ∀ j, j < k → okAt s j) (hk : okAt s k) : ∀ j, j < k + 1 → okAt s j := fun j hj => by
  rcases Nat.lt_or_ge j k with h1 | h1
  · exact h j h1
  · obtain rfl : j = k := by omega
    exact hk

set_option maxHeartbeats 1000000 in
theorem parseText_any (s : ByteArray) (w : World) :
    Calls Tryz.prog 83 #[.string s] w fun e w' => e = endOf s ∧ Below w.heap.size w w' := by
  go_enter Tryz.func83, Tryz.ntmps83
  by_cases h17 : s.size = 17
  · go_wp2
    obtain ⟨v0, v1⟩ := var2 w zeroX (part s 0) 23 23
    have hb := (box2_at w zeroX (part s 0) 23 23).2.2
    have e : ((w.alloc (.cells #[.int .u8 0, .int .u8 0, .int .u8 0, .int .u8 0, .int .u8 0, .int .u8 0] 23)).alloc (.cells #[.int .u8 0, .int .u8 0, .int .u8 0, .int .u8 0, .int .u8 0, .int .u8 0] 23)) = (w.alloc (macO zeroX 23)).alloc (macO (part s 0) 23) := rfl
    rw [e]
    clear e
    generalize (w.alloc (macO zeroX 23)).alloc (macO (part s 0) 23) = W at *
    have V0 := Lib.hid v0
    have V1 := Lib.hid v1
    have HB := Lib.hid hb
    clear v0 v1 hb
    go_loopw [4, 5, 10] (fun _ _ i wr => ∃ k : Nat, k ≤ 6 ∧ i = .int .i64 k ∧ VarAt wr w.heap.size zeroX 23 ∧ VarAt wr (w.heap.size + 1) (part s k) 23 ∧ Below w.heap.size w wr ∧ ∀ j, j < k → okAt s j) (fun _ _ i _ => 6 - (intOf i).toNat)
    case atStart => exact ⟨0, Nat.zero_le _, rfl, V0.out, V1.out, HB.out, fun j hj => absurd hj (by omega)⟩
    case round =>
      obtain ⟨k, hk, rfl, v0, v1, hb, hok⟩ := hrel
      have V0 := Lib.hid v0
      have V1 := Lib.hid v1
      have HB := Lib.hid hb
      have HK := Lib.hid hok
      by_cases hlt : k < 6
      · have i0 : 0 < k → ∀ w, (Instr.index 9 (.string s) (.int .i64 (3 * (k : Int) - 1))).run Tryz.prog w = .ok (.int .u8 (bt s (3 * k - 1))) w := fun h => str_at s _ _ (by omega) (by omega)
        have i1 := str_at s (3 * (k : Int)) (3 * k) (by omega) (by omega)
        have i2 := str_at s (3 * (k : Int) + 1) (3 * k + 1) (by omega) (by omega)
        have hc := v1.at k hlt
        have hf := v1.frozen k
        clear v0 v1 hb hok
        by_cases h0 : 0 < k
        · have i0 := i0 h0
          by_cases hsep : bt s (3 * k - 1) = 58
          · have hsep' : ((bt s (3 * k - 1) : Int) != 58) = false := by simp; omega
            have HS := Lib.hid hsep
            clear hsep
            have hw1 : IntKind.i64.wrap (3 * (k : Int) + 1) = 3 * (k : Int) + 1 := by rw [IntKind.wrap_i64]; omega
            cases hv1 : dval (bt s (3 * k)) with
            | none =>
              have c1 := fun w => parseDigit_none (bt s (3 * k)) (bt_lt _ _) hv1 w
              have hbad : gaveUp = endOf s := (endOf_bad (fun h => by have := (h.2 k hlt).2.1; rw [hv1] at this; cases this)).symm
              have HBAD := Lib.hid hbad
              clear hbad hv1
              go_wp2
              refine wp_region_any (by kernel_rfl) ?_
              change wpAny _ _ _ _ _ _ _ (World.drew _)
              refine wpAny_take (i := 0) (v := ?_) rfl (by kernel_rfl) (by kernel_rfl) (by kernel_rfl) (fun _ _ _ h => h) (Or.inl ⟨by rfl, ?_⟩) ?_
              rotate_left
              · (intro w9; go_simp; try with_reducible rfl)
              refine wpAny_take (i := 1) (v := ?_) rfl (by kernel_rfl) (by kernel_rfl) (by kernel_rfl) (fun _ _ _ h => h) (Or.inl ⟨by rfl, ?_⟩) ?_
              rotate_left
              · (intro w9; go_simp; try with_reducible rfl)
              refine wpAny_take (i := 2) (v := ?_) rfl (by kernel_rfl) (by kernel_rfl) (by kernel_rfl) (fun _ _ _ h => h) (Or.inl ⟨by rfl, ?_⟩) ?_
              rotate_left
              · (intro w9; go_simp; try with_reducible rfl)
              refine wpAny_take (i := 3) (v := ?_) rfl (by kernel_rfl) (by kernel_rfl) (by kernel_rfl) (fun _ _ _ h => h) (Or.inl ⟨by rfl, ?_⟩) ?_
              rotate_left
              · (intro w9; go_simp; try with_reducible rfl)
              refine wpAny_take (i := 6) (v := ?_) rfl (by kernel_rfl) (by kernel_rfl) (by kernel_rfl) (fun _ _ _ h => h) (Or.inl ⟨by rfl, ?_⟩) ?_
              rotate_left
              · (intro w9; go_simp; try with_reducible rfl)
              refine wpAny_take (i := 7) (v := ?_) rfl (by kernel_rfl) (by kernel_rfl) (by kernel_rfl) (fun _ _ _ h => h) (Or.inl ⟨by rfl, ?_⟩) ?_
              rotate_left
              · (intro w9; go_simp; try with_reducible rfl)
              refine wpAny_take (i := 8) (v := ?_) rfl (by kernel_rfl) (by kernel_rfl) (by kernel_rfl) (fun _ _ _ h => h) (Or.inl ⟨by rfl, ?_⟩) ?_
              rotate_left
              · (intro w9; go_simp; try with_reducible rfl)
              refine wpAny_take (i := 9) (v := ?_) rfl (by kernel_rfl) (by kernel_rfl) (by kernel_rfl) (fun _ _ _ h => h) (Or.inl ⟨by rfl, ?_⟩) ?_
              rotate_left
              · (intro w9; go_simp; try with_reducible rfl)
              refine wpAny_ready (rs := [4]) (by kernel_rfl) (by simp) (AllReady.cons rfl (fun K hK => ?_) AllReady.nil)
              go_simp
              refine (c1 _).mono ?_
              rintro e w' ⟨rfl, rfl⟩
              exact ⟨rfl, HBAD.out, HB.out.drew⟩
            | some d1 =>
              have c1 := fun w => parseDigit_some (bt s (3 * k)) d1 (bt_lt _ _) hv1 w
              have e1 := dval_lt hv1
              cases hv2 : dval (bt s (3 * k + 1)) with
              | none =>
                have c2 := fun w => parseDigit_none (bt s (3 * k + 1)) (bt_lt _ _) hv2 w
                have hbad : gaveUp = endOf s := (endOf_bad (fun h => by have := (h.2 k hlt).2.2; rw [hv2] at this; cases this)).symm
                have HBAD := Lib.hid hbad
                clear hbad hv1 hv2
                go_wp2
                refine wp_region_any (by kernel_rfl) ?_
                change wpAny _ _ _ _ _ _ _ (World.drew _)
                refine wpAny_take (i := 0) (v := ?_) rfl (by kernel_rfl) (by kernel_rfl) (by kernel_rfl) (fun _ _ _ h => h) (Or.inl ⟨by rfl, ?_⟩) ?_
                rotate_left
                · (intro w9; go_simp; try with_reducible rfl)
                refine wpAny_take (i := 1) (v := ?_) rfl (by kernel_rfl) (by kernel_rfl) (by kernel_rfl) (fun _ _ _ h => h) (Or.inl ⟨by rfl, ?_⟩) ?_
                rotate_left
                · (intro w9; go_simp; try with_reducible rfl)
                refine wpAny_take (i := 2) (v := ?_) rfl (by kernel_rfl) (by kernel_rfl) (by kernel_rfl) (fun _ _ _ h => h) (Or.inl ⟨by rfl, ?_⟩) ?_
                rotate_left
                · (intro w9; go_simp; try with_reducible rfl)
                refine wpAny_take (i := 3) (v := ?_) rfl (by kernel_rfl) (by kernel_rfl) (by kernel_rfl) (fun _ _ _ h => h) (Or.inl ⟨by rfl, ?_⟩) ?_
                rotate_left
                · (intro w9; go_simp; try with_reducible rfl)
                refine wpAny_take (i := 6) (v := ?_) rfl (by kernel_rfl) (by kernel_rfl) (by kernel_rfl) (fun _ _ _ h => h) (Or.inl ⟨by rfl, ?_⟩) ?_
                rotate_left
                · (intro w9; go_simp; try with_reducible rfl)
                refine wpAny_take (i := 7) (v := ?_) rfl (by kernel_rfl) (by kernel_rfl) (by kernel_rfl) (fun _ _ _ h => h) (Or.inl ⟨by rfl, ?_⟩) ?_
                rotate_left
                · (intro w9; go_simp; try with_reducible rfl)
                refine wpAny_take (i := 8) (v := ?_) rfl (by kernel_rfl) (by kernel_rfl) (by kernel_rfl) (fun _ _ _ h => h) (Or.inl ⟨by rfl, ?_⟩) ?_
                rotate_left
                · (intro w9; go_simp; try with_reducible rfl)
                refine wpAny_take (i := 9) (v := ?_) rfl (by kernel_rfl) (by kernel_rfl) (by kernel_rfl) (fun _ _ _ h => h) (Or.inl ⟨by rfl, ?_⟩) ?_
                rotate_left
                · (intro w9; go_simp; try with_reducible rfl)
                refine wpAny_ready (rs := [4]) (by kernel_rfl) (by simp) (AllReady.cons rfl (fun K hK => ?_) AllReady.nil)
                go_simp
                refine (c1 _).mono ?_
                rintro e w' ⟨rfl, rfl⟩
                refine hK _ _ ?_
                clear hK K
                refine wpAny_take (i := 5) (v := ?_) rfl (by kernel_rfl) (by kernel_rfl) (by kernel_rfl) (fun _ _ _ h => h) (Or.inl ⟨by rfl, ?_⟩) ?_
                rotate_left
                · (intro w9; go_simp; try with_reducible rfl)
                refine wpAny_ready (rs := [10]) (by kernel_rfl) (by simp) (AllReady.cons rfl (fun K hK => ?_) AllReady.nil)
                go_simp
                refine (c2 _).mono ?_
                rintro e w' ⟨rfl, rfl⟩
                exact ⟨rfl, HBAD.out, HB.out.drew⟩
              | some d2 =>
                have c2 := fun w => parseDigit_some (bt s (3 * k + 1)) d2 (bt_lt _ _) hv2 w
                have e2 := dval_lt hv2
                have hor := or16 e1 e2
                have hgood : okAt s k := ⟨fun _ => HS.out, by rw [hv1]; rfl, by rw [hv2]; rfl⟩
                have hval : macOf s k = d1 * 16 + d2 := by unfold macOf; rw [hv1, hv2]; rfl
                have HG := Lib.hid hgood
                have HVAL := Lib.hid hval
                clear hv1 hv2 hgood hval
                go_wp2
                refine wp_region_any (by kernel_rfl) ?_
                change wpAny _ _ _ _ _ _ _ (World.drew _)
                refine wpAny_take (i := 0) (v := ?_) rfl (by kernel_rfl) (by kernel_rfl) (by kernel_rfl) (fun _ _ _ h => h) (Or.inl ⟨by rfl, ?_⟩) ?_
                rotate_left
                · (intro w9; go_simp; try with_reducible rfl)
                refine wpAny_take (i := 1) (v := ?_) rfl (by kernel_rfl) (by kernel_rfl) (by kernel_rfl) (fun _ _ _ h => h) (Or.inl ⟨by rfl, ?_⟩) ?_
                rotate_left
                · (intro w9; go_simp; try with_reducible rfl)
                refine wpAny_take (i := 2) (v := ?_) rfl (by kernel_rfl) (by kernel_rfl) (by kernel_rfl) (fun _ _ _ h => h) (Or.inl ⟨by rfl, ?_⟩) ?_
                rotate_left
                · (intro w9; go_simp; try with_reducible rfl)
                refine wpAny_take (i := 3) (v := ?_) rfl (by kernel_rfl) (by kernel_rfl) (by kernel_rfl) (fun _ _ _ h => h) (Or.inl ⟨by rfl, ?_⟩) ?_
                rotate_left
                · (intro w9; go_simp; try with_reducible rfl)
                refine wpAny_take (i := 6) (v := ?_) rfl (by kernel_rfl) (by kernel_rfl) (by kernel_rfl) (fun _ _ _ h => h) (Or.inl ⟨by rfl, ?_⟩) ?_
                rotate_left
                · (intro w9; go_simp; try with_reducible rfl)
                refine wpAny_take (i := 7) (v := ?_) rfl (by kernel_rfl) (by kernel_rfl) (by kernel_rfl) (fun _ _ _ h => h) (Or.inl ⟨by rfl, ?_⟩) ?_
                rotate_left
                · (intro w9; go_simp; try with_reducible rfl)
                refine wpAny_take (i := 8) (v := ?_) rfl (by kernel_rfl) (by kernel_rfl) (by kernel_rfl) (fun _ _ _ h => h) (Or.inl ⟨by rfl, ?_⟩) ?_
                rotate_left
                · (intro w9; go_simp; try with_reducible rfl)
                refine wpAny_take (i := 9) (v := ?_) rfl (by kernel_rfl) (by kernel_rfl) (by kernel_rfl) (fun _ _ _ h => h) (Or.inl ⟨by rfl, ?_⟩) ?_
                rotate_left
                · (intro w9; go_simp; try with_reducible rfl)
                refine wpAny_ready (rs := [4]) (by kernel_rfl) (by simp) (AllReady.cons rfl (fun K hK => ?_) AllReady.nil)
                go_simp
                refine (c1 _).mono ?_
                rintro e w' ⟨rfl, rfl⟩
                refine hK _ _ ?_
                clear hK K
                refine wpAny_take (i := 5) (v := ?_) rfl (by kernel_rfl) (by kernel_rfl) (by kernel_rfl) (fun _ _ _ h => h) (Or.inl ⟨by rfl, ?_⟩) ?_
                rotate_left
                · (intro w9; go_simp; try with_reducible rfl)
                refine wpAny_ready (rs := [10]) (by kernel_rfl) (by simp) (AllReady.cons rfl (fun K hK => ?_) AllReady.nil)
                go_simp
                refine (c2 _).mono ?_
                rintro e w' ⟨rfl, rfl⟩
                refine hK _ _ ?_
                clear hK K
                refine wpAny_take (i := 11) (v := ?_) rfl (by kernel_rfl) (by kernel_rfl) (by kernel_rfl) (fun _ _ _ h => h) (Or.inl ⟨by rfl, ?_⟩) ?_
                rotate_left
                · (intro w9; go_simp; try with_reducible rfl)
                refine wpAny_take (i := 12) (v := ?_) rfl (by kernel_rfl) (by kernel_rfl) (by kernel_rfl) (fun _ _ _ h => h) (Or.inl ⟨by rfl, ?_⟩) ?_
                rotate_left
                · (intro w9; go_simp; try with_reducible rfl)
                refine wpAny_ready (rs := [13]) (by kernel_rfl) (by simp) (AllReady.cons rfl (fun K hK => ?_) AllReady.nil)
                go_simp
                refine hK _ _ ?_
                clear hK K
                refine wpAny_done (by kernel_rfl) ?_ _
                go_wp2
                go_roundw
                case rel => exact ⟨k + 1, by omega, by go_num, (V0.out.set_other (by simp) _).drew, part_next HVAL.out (V1.out.set k _ hlt).drew, (HB.out.setCell (by simp) _).drew, ok_next HK.out HG.out⟩
                case measure => simp [intOf]; omega
          · have hsep' : ((bt s (3 * k - 1) : Int) != 58) = true := by simp; omega
            have hbad : gaveUp = endOf s := (endOf_bad (fun h => hsep ((h.2 k hlt).1 h0))).symm
            have HBAD := Lib.hid hbad
            clear hbad hsep
            go_wp2
            exact ⟨rfl, HBAD.out, HB.out⟩
        · clear i0
          have hw1 : IntKind.i64.wrap (3 * (k : Int) + 1) = 3 * (k : Int) + 1 := by rw [IntKind.wrap_i64]; omega
          cases hv1 : dval (bt s (3 * k)) with
          | none =>
            have c1 := fun w => parseDigit_none (bt s (3 * k)) (bt_lt _ _) hv1 w
            have hbad : gaveUp = endOf s := (endOf_bad (fun h => by have := (h.2 k hlt).2.1; rw [hv1] at this; cases this)).symm
            have HBAD := Lib.hid hbad
            clear hbad hv1
            go_wp2
            refine wp_region_any (by kernel_rfl) ?_
            change wpAny _ _ _ _ _ _ _ (World.drew _)
            refine wpAny_take (i := 0) (v := ?_) rfl (by kernel_rfl) (by kernel_rfl) (by kernel_rfl) (fun _ _ _ h => h) (Or.inl ⟨by rfl, ?_⟩) ?_
            rotate_left
            · (intro w9; go_simp; try with_reducible rfl)
            refine wpAny_take (i := 1) (v := ?_) rfl (by kernel_rfl) (by kernel_rfl) (by kernel_rfl) (fun _ _ _ h => h) (Or.inl ⟨by rfl, ?_⟩) ?_
            rotate_left
            · (intro w9; go_simp; try with_reducible rfl)
            refine wpAny_take (i := 2) (v := ?_) rfl (by kernel_rfl) (by kernel_rfl) (by kernel_rfl) (fun _ _ _ h => h) (Or.inl ⟨by rfl, ?_⟩) ?_
            rotate_left
            · (intro w9; go_simp; try with_reducible rfl)
            refine wpAny_take (i := 3) (v := ?_) rfl (by kernel_rfl) (by kernel_rfl) (by kernel_rfl) (fun _ _ _ h => h) (Or.inl ⟨by rfl, ?_⟩) ?_
            rotate_left
            · (intro w9; go_simp; try with_reducible rfl)
            refine wpAny_take (i := 6) (v := ?_) rfl (by kernel_rfl) (by kernel_rfl) (by kernel_rfl) (fun _ _ _ h => h) (Or.inl ⟨by rfl, ?_⟩) ?_
            rotate_left
            · (intro w9; go_simp; try with_reducible rfl)
            refine wpAny_take (i := 7) (v := ?_) rfl (by kernel_rfl) (by kernel_rfl) (by kernel_rfl) (fun _ _ _ h => h) (Or.inl ⟨by rfl, ?_⟩) ?_
            rotate_left
            · (intro w9; go_simp; try with_reducible rfl)
            refine wpAny_take (i := 8) (v := ?_) rfl (by kernel_rfl) (by kernel_rfl) (by kernel_rfl) (fun _ _ _ h => h) (Or.inl ⟨by rfl, ?_⟩) ?_
            rotate_left
            · (intro w9; go_simp; try with_reducible rfl)
            refine wpAny_take (i := 9) (v := ?_) rfl (by kernel_rfl) (by kernel_rfl) (by kernel_rfl) (fun _ _ _ h => h) (Or.inl ⟨by rfl, ?_⟩) ?_
            rotate_left
            · (intro w9; go_simp; try with_reducible rfl)
            refine wpAny_ready (rs := [4]) (by kernel_rfl) (by simp) (AllReady.cons rfl (fun K hK => ?_) AllReady.nil)
            go_simp
            refine (c1 _).mono ?_
            rintro e w' ⟨rfl, rfl⟩
            exact ⟨rfl, HBAD.out, HB.out.drew⟩
          | some d1 =>
            have c1 := fun w => parseDigit_some (bt s (3 * k)) d1 (bt_lt _ _) hv1 w
            have e1 := dval_lt hv1
            cases hv2 : dval (bt s (3 * k + 1)) with
            | none =>
              have c2 := fun w => parseDigit_none (bt s (3 * k + 1)) (bt_lt _ _) hv2 w
              have hbad : gaveUp = endOf s := (endOf_bad (fun h => by have := (h.2 k hlt).2.2; rw [hv2] at this; cases this)).symm
              have HBAD := Lib.hid hbad
              clear hbad hv1 hv2
              go_wp2
              refine wp_region_any (by kernel_rfl) ?_
              change wpAny _ _ _ _ _ _ _ (World.drew _)
              refine wpAny_take (i := 0) (v := ?_) rfl (by kernel_rfl) (by kernel_rfl) (by kernel_rfl) (fun _ _ _ h => h) (Or.inl ⟨by rfl, ?_⟩) ?_
              rotate_left
              · (intro w9; go_simp; try with_reducible rfl)
              refine wpAny_take (i := 1) (v := ?_) rfl (by kernel_rfl) (by kernel_rfl) (by kernel_rfl) (fun _ _ _ h => h) (Or.inl ⟨by rfl, ?_⟩) ?_
              rotate_left
              · (intro w9; go_simp; try with_reducible rfl)
              refine wpAny_take (i := 2) (v := ?_) rfl (by kernel_rfl) (by kernel_rfl) (by kernel_rfl) (fun _ _ _ h => h) (Or.inl ⟨by rfl, ?_⟩) ?_
              rotate_left
              · (intro w9; go_simp; try with_reducible rfl)
              refine wpAny_take (i := 3) (v := ?_) rfl (by kernel_rfl) (by kernel_rfl) (by kernel_rfl) (fun _ _ _ h => h) (Or.inl ⟨by rfl, ?_⟩) ?_
              rotate_left
              · (intro w9; go_simp; try with_reducible rfl)
              refine wpAny_take (i := 6) (v := ?_) rfl (by kernel_rfl) (by kernel_rfl) (by kernel_rfl) (fun _ _ _ h => h) (Or.inl ⟨by rfl, ?_⟩) ?_
              rotate_left
              · (intro w9; go_simp; try with_reducible rfl)
              refine wpAny_take (i := 7) (v := ?_) rfl (by kernel_rfl) (by kernel_rfl) (by kernel_rfl) (fun _ _ _ h => h) (Or.inl ⟨by rfl, ?_⟩) ?_
              rotate_left
              · (intro w9; go_simp; try with_reducible rfl)
              refine wpAny_take (i := 8) (v := ?_) rfl (by kernel_rfl) (by kernel_rfl) (by kernel_rfl) (fun _ _ _ h => h) (Or.inl ⟨by rfl, ?_⟩) ?_
              rotate_left
              · (intro w9; go_simp; try with_reducible rfl)
              refine wpAny_take (i := 9) (v := ?_) rfl (by kernel_rfl) (by kernel_rfl) (by kernel_rfl) (fun _ _ _ h => h) (Or.inl ⟨by rfl, ?_⟩) ?_
              rotate_left
              · (intro w9; go_simp; try with_reducible rfl)
              refine wpAny_ready (rs := [4]) (by kernel_rfl) (by simp) (AllReady.cons rfl (fun K hK => ?_) AllReady.nil)
              go_simp
              refine (c1 _).mono ?_
              rintro e w' ⟨rfl, rfl⟩
              refine hK _ _ ?_
              clear hK K
              refine wpAny_take (i := 5) (v := ?_) rfl (by kernel_rfl) (by kernel_rfl) (by kernel_rfl) (fun _ _ _ h => h) (Or.inl ⟨by rfl, ?_⟩) ?_
              rotate_left
              · (intro w9; go_simp; try with_reducible rfl)
              refine wpAny_ready (rs := [10]) (by kernel_rfl) (by simp) (AllReady.cons rfl (fun K hK => ?_) AllReady.nil)
              go_simp
              refine (c2 _).mono ?_
              rintro e w' ⟨rfl, rfl⟩
              exact ⟨rfl, HBAD.out, HB.out.drew⟩
            | some d2 =>
              have c2 := fun w => parseDigit_some (bt s (3 * k + 1)) d2 (bt_lt _ _) hv2 w
              have e2 := dval_lt hv2
              have hor := or16 e1 e2
              have hgood : okAt s k := ⟨fun h => absurd h h0, by rw [hv1]; rfl, by rw [hv2]; rfl⟩
              have hval : macOf s k = d1 * 16 + d2 := by unfold macOf; rw [hv1, hv2]; rfl
              have HG := Lib.hid hgood
              have HVAL := Lib.hid hval
              clear hv1 hv2 hgood hval
              go_wp2
              refine wp_region_any (by kernel_rfl) ?_
              change wpAny _ _ _ _ _ _ _ (World.drew _)
              refine wpAny_take (i := 0) (v := ?_) rfl (by kernel_rfl) (by kernel_rfl) (by kernel_rfl) (fun _ _ _ h => h) (Or.inl ⟨by rfl, ?_⟩) ?_
              rotate_left
              · (intro w9; go_simp; try with_reducible rfl)
              refine wpAny_take (i := 1) (v := ?_) rfl (by kernel_rfl) (by kernel_rfl) (by kernel_rfl) (fun _ _ _ h => h) (Or.inl ⟨by rfl, ?_⟩) ?_
              rotate_left
              · (intro w9; go_simp; try with_reducible rfl)
              refine wpAny_take (i := 2) (v := ?_) rfl (by kernel_rfl) (by kernel_rfl) (by kernel_rfl) (fun _ _ _ h => h) (Or.inl ⟨by rfl, ?_⟩) ?_
              rotate_left
              · (intro w9; go_simp; try with_reducible rfl)
              refine wpAny_take (i := 3) (v := ?_) rfl (by kernel_rfl) (by kernel_rfl) (by kernel_rfl) (fun _ _ _ h => h) (Or.inl ⟨by rfl, ?_⟩) ?_
              rotate_left
              · (intro w9; go_simp; try with_reducible rfl)
              refine wpAny_take (i := 6) (v := ?_) rfl (by kernel_rfl) (by kernel_rfl) (by kernel_rfl) (fun _ _ _ h => h) (Or.inl ⟨by rfl, ?_⟩) ?_
              rotate_left
              · (intro w9; go_simp; try with_reducible rfl)
              refine wpAny_take (i := 7) (v := ?_) rfl (by kernel_rfl) (by kernel_rfl) (by kernel_rfl) (fun _ _ _ h => h) (Or.inl ⟨by rfl, ?_⟩) ?_
              rotate_left
              · (intro w9; go_simp; try with_reducible rfl)
              refine wpAny_take (i := 8) (v := ?_) rfl (by kernel_rfl) (by kernel_rfl) (by kernel_rfl) (fun _ _ _ h => h) (Or.inl ⟨by rfl, ?_⟩) ?_
              rotate_left
              · (intro w9; go_simp; try with_reducible rfl)
              refine wpAny_take (i := 9) (v := ?_) rfl (by kernel_rfl) (by kernel_rfl) (by kernel_rfl) (fun _ _ _ h => h) (Or.inl ⟨by rfl, ?_⟩) ?_
              rotate_left
              · (intro w9; go_simp; try with_reducible rfl)
              refine wpAny_ready (rs := [4]) (by kernel_rfl) (by simp) (AllReady.cons rfl (fun K hK => ?_) AllReady.nil)
              go_simp
              refine (c1 _).mono ?_
              rintro e w' ⟨rfl, rfl⟩
              refine hK _ _ ?_
              clear hK K
              refine wpAny_take (i := 5) (v := ?_) rfl (by kernel_rfl) (by kernel_rfl) (by kernel_rfl) (fun _ _ _ h => h) (Or.inl ⟨by rfl, ?_⟩) ?_
              rotate_left
              · (intro w9; go_simp; try with_reducible rfl)
              refine wpAny_ready (rs := [10]) (by kernel_rfl) (by simp) (AllReady.cons rfl (fun K hK => ?_) AllReady.nil)
              go_simp
              refine (c2 _).mono ?_
              rintro e w' ⟨rfl, rfl⟩
              refine hK _ _ ?_
              clear hK K
              refine wpAny_take (i := 11) (v := ?_) rfl (by kernel_rfl) (by kernel_rfl) (by kernel_rfl) (fun _ _ _ h => h) (Or.inl ⟨by rfl, ?_⟩) ?_
              rotate_left
              · (intro w9; go_simp; try with_reducible rfl)
              refine wpAny_take (i := 12) (v := ?_) rfl (by kernel_rfl) (by kernel_rfl) (by kernel_rfl) (fun _ _ _ h => h) (Or.inl ⟨by rfl, ?_⟩) ?_
              rotate_left
              · (intro w9; go_simp; try with_reducible rfl)
              refine wpAny_ready (rs := [13]) (by kernel_rfl) (by simp) (AllReady.cons rfl (fun K hK => ?_) AllReady.nil)
              go_simp
              refine hK _ _ ?_
              clear hK K
              refine wpAny_done (by kernel_rfl) ?_ _
              go_wp2
              go_roundw
              case rel => exact ⟨k + 1, by omega, by go_num, (V0.out.set_other (by simp) _).drew, part_next HVAL.out (V1.out.set k _ hlt).drew, (HB.out.setCell (by simp) _).drew, ok_next HK.out HG.out⟩
              case measure => simp [intOf]; omega
      · have : k = 6 := by omega
        subst this
        have a0 := v1.at 0 (by omega)
        have a1 := v1.at 1 (by omega)
        have a2 := v1.at 2 (by omega)
        have a3 := v1.at 3 (by omega)
        have a4 := v1.at 4 (by omega)
        have a5 := v1.at 5 (by omega)
        have b0 := v0.at 0 (by omega)
        have b1 := v0.at 1 (by omega)
        have b2 := v0.at 2 (by omega)
        have b3 := v0.at 3 (by omega)
        have b4 := v0.at 4 (by omega)
        have b5 := v0.at 5 (by omega)
        have f0 := v0.frozen
        clear v0 v1 hb hok
        go_wp2
        have v' := (((((V0.out.set 0 (part s 6 0) (by omega)).set 1 (part s 6 1) (by omega)).set 2 (part s 6 2) (by omega)).set 3 (part s 6 3) (by omega)).set 4 (part s 6 4) (by omega)).set 5 (part s 6 5) (by omega)
        have hB' := (((((HB.out.setCell (p := ⟨w.heap.size, 0, none⟩) (Nat.le_refl _) (.int .u8 (part s 6 0))).setCell (p := ⟨w.heap.size, 1, none⟩) (Nat.le_refl _) (.int .u8 (part s 6 1))).setCell (p := ⟨w.heap.size, 2, none⟩) (Nat.le_refl _) (.int .u8 (part s 6 2))).setCell (p := ⟨w.heap.size, 3, none⟩) (Nat.le_refl _) (.int .u8 (part s 6 3))).setCell (p := ⟨w.heap.size, 4, none⟩) (Nat.le_refl _) (.int .u8 (part s 6 4))).setCell (p := ⟨w.heap.size, 5, none⟩) (Nat.le_refl _) (.int .u8 (part s 6 5))
        clear a0 a1 a2 a3 a4 a5 b0 b1 b2 b3 b4 b5 f0
        revert v' hB'
        generalize (((((wr.setCell ⟨w.heap.size, 0, none⟩ (.int .u8 (part s 6 0))).setCell ⟨w.heap.size, 1, none⟩ (.int .u8 (part s 6 1))).setCell ⟨w.heap.size, 2, none⟩ (.int .u8 (part s 6 2))).setCell ⟨w.heap.size, 3, none⟩ (.int .u8 (part s 6 3))).setCell ⟨w.heap.size, 4, none⟩ (.int .u8 (part s 6 4))).setCell ⟨w.heap.size, 5, none⟩ (.int .u8 (part s 6 5)) = W'
        intro v' hB'
        have r0 : W'.cell? ⟨w.heap.size, 0, none⟩ = some (.int .u8 (macOf s 0)) := v'.at 0 (by omega)
        have r1 : W'.cell? ⟨w.heap.size, 1, none⟩ = some (.int .u8 (macOf s 1)) := v'.at 1 (by omega)
        have r2 : W'.cell? ⟨w.heap.size, 2, none⟩ = some (.int .u8 (macOf s 2)) := v'.at 2 (by omega)
        have r3 : W'.cell? ⟨w.heap.size, 3, none⟩ = some (.int .u8 (macOf s 3)) := v'.at 3 (by omega)
        have r4 : W'.cell? ⟨w.heap.size, 4, none⟩ = some (.int .u8 (macOf s 4)) := v'.at 4 (by omega)
        have r5 : W'.cell? ⟨w.heap.size, 5, none⟩ = some (.int .u8 (macOf s 5)) := v'.at 5 (by omega)
        exact bodyPost_ret (v := macV (macOf s)) (by simp [results, Tryz.results83, go_sem, r0, r1, r2, r3, r4, r5]) rfl ⟨(endOf_good ⟨h17, HK.out⟩).symm, hB'⟩
  · have h17' : ¬ (s.size : Int) = 17 := by omega
    go_wp2
    exact ⟨rfl, (endOf_bad (fun h => h17 h.1)).symm, box_below _ _⟩
end Go.Proofs.YtlmdpaemhjcmbaaGreatDoor.Cd
