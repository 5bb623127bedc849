/- The reference's Bytes. -/
import Derived.Test.YtfdhkbkonennjaaI
import Derived.Lib.AppendStr
namespace Go.Proofs.Ytfdhkbkonennjaa
open Go.RowKit Go.Sort

def macT (x : Nat → Nat) : Nat → List UInt8 | 0 => [] | k + 1 => macT x k ++ [UInt8.ofNat (x k)]
theorem macT_len (x : Nat → Nat) : ∀ k, (macT x k).length = k
  | 0 => rfl
  | k + 1 => by simp [macT, macT_len x k]
theorem bV_of {n : Nat} (h : n < 256) : bV (UInt8.ofNat n) = .int .u8 n := by
  unfold bV; rw [UInt8.toNat_ofNat', Nat.mod_eq_of_lt (by omega)]
theorem rf_cell (x y : Nat → Nat) (t : Nat) (l : List UInt8) (w : World) (b : Nat) (h : VarAt w b (rfC x y t l) 30) : (∀ k : Nat, k < 6 → w.cell? ⟨b, k, none⟩ = some (.int .u8 (x k))) ∧ (∀ k : Nat, k < 6 → w.cell? ⟨b, 6 + k, none⟩ = some (.int .u8 (y k))) := by
  constructor
  · intro k hk
    rw [h.cell]
    match k with
    | 0 => rfl | 1 => rfl | 2 => rfl | 3 => rfl | 4 => rfl | 5 => rfl
    | k + 6 => omega
  · intro k hk
    rw [h.cell]
    match k with
    | 0 => rfl | 1 => rfl | 2 => rfl | 3 => rfl | 4 => rfl | 5 => rfl
    | k + 6 => omega

set_option maxHeartbeats 4000000 in
theorem refBytes_any (x y : Nat → Nat) (t : Nat) (l : List UInt8) (w : World) (hx : ∀ i, x i < 256) (hy : ∀ i, y i < 256) (ht : t < 65536) (hl : l.length ≤ 1500) :
    Calls Try.prog 12 #[rfV x y t l] w fun e w' => ∃ v', e = .returned v' ∧ Bts w' w'.heap.size v' (frB x y t l) ∧ Below w.heap.size w w' := by
  obtain ⟨i0, hinf, hz0, hz1, hz2⟩ := info_parts info5
  have hf := var_new w (rfC x y t l) 30
  have hb := box_below w (.cells (rfC x y t l) 30)
  have hsz := alloc_size w (.cells (rfC x y t l) 30)
  have HX := Lib.hid hx
  have HY := Lib.hid hy
  clear hx hy
  go_enter Try.func12, Try.ntmps12
  go_wp2_with fail
  generalize w.alloc (.cells (rfC x y t l) 30) = W at *
  have HF := Lib.hid hf
  have HB := Lib.hid hb
  clear hf hb
  go_loopw [3, 4] (fun o i wr => ∃ k : Nat, k ≤ 6 ∧ i = .int .i64 k ∧ wr.ownsRow (w.heap.size + 1) 5 1 o (macT x k).length ((macT x k).map bV) ∧ Below (w.heap.size + 1) W wr) (fun _ i _ => 6 - (intOf i).toNat)
  case atStart => exact ⟨0, Nat.zero_le _, rfl, World.ownsRow_nil _ _ _ _, Below.refl _ _⟩
  case round =>
    obtain ⟨k, hk, rfl, hown, hb⟩ := hrel
    have HO := Lib.hid hown
    have HBr := Lib.hid hb
    have hs := hb.size
    clear hown hb
    by_cases hlt : k < 6
    · have hc := (rf_cell x y t l wr w.heap.size (HF.out.below HBr.out (by omega))).1 k hlt
      go_wp2_with (at_builtin; refine wpList_append_own _ rfl _ _ 25 rfl (w.heap.size + 1) 5 i0 (.int .u8 0) 1 1 und22 hinf hz0 hz1 hz2 rfl (by decide) _ _ _ rfl (HO.out.alloc _) ⟨wr.heap.size, 0, none⟩ 1 1 [_] rfl rfl (cell_one_new _ _ _) ?d2 ?d3 ?d4 ?d6 ?_)
      case d2 => intro u hu; simp at hu; subst hu; rfl
      case d3 => rw [macT_len]; unfold maxLen; omega
      case d4 => rw [macT_len]; omega
      case d6 => simp; omega
      intro v1 w2 hown2 hgrow2 _
      have hb2 : Below (w.heap.size + 1) W w2 := (HBr.out.alloc (by omega) _).grown hgrow2 (by simp; omega) (fun j hj => (HO.out.lt j hj).1)
      have R : w2.ownsRow (w.heap.size + 1) 5 1 v1 (macT x (k + 1)).length ((macT x (k + 1)).map bV) := by
        refine own_cast hown2 (by simp [macT]) ?_
        rw [macT, List.map_append, List.map_cons, bV_of (HX.out k)]
        rfl
      clear hown2 hgrow2 HO HBr
      go_wp2
      go_roundw
      case rel => exact ⟨k + 1, by omega, by go_num, R, hb2⟩
      case measure => simp [intOf]; omega
    · obtain rfl : k = 6 := by omega
      rw [show ((6 : Nat) : Int) = 6 from rfl]
      go_wp2_with fail
      go_loopw [3, 5] (fun o i wr => ∃ k : Nat, k ≤ 6 ∧ i = .int .i64 k ∧ wr.ownsRow (w.heap.size + 1) 5 1 o (macL x ++ macT y k).length ((macL x ++ macT y k).map bV) ∧ Below (w.heap.size + 1) W wr) (fun _ i _ => 6 - (intOf i).toNat)
      case atStart => exact ⟨0, Nat.zero_le _, rfl, own_cast HO.out (by simp [macL, macT]) (by simp [macL, macT]), HBr.out⟩
      case round =>
        clear HO HBr hs hk hlt
        obtain ⟨k, hk, rfl, hown, hb⟩ := hrel
        have HO := Lib.hid hown
        have HBr := Lib.hid hb
        have hs := hb.size
        have h12 : (macL x).length = 6 := rfl
        clear hown hb
        by_cases hlt : k < 6
        · have hc := (rf_cell x y t l wr w.heap.size (HF.out.below HBr.out (by omega))).2 k hlt
          go_wp2_with (at_builtin; refine wpList_append_own _ rfl _ _ 25 rfl (w.heap.size + 1) 5 i0 (.int .u8 0) 1 1 und22 hinf hz0 hz1 hz2 rfl (by decide) _ _ _ rfl (HO.out.alloc _) ⟨wr.heap.size, 0, none⟩ 1 1 [_] rfl rfl (cell_one_new _ _ _) ?d2 ?d3 ?d4 ?d6 ?_)
          case d2 => intro u hu; simp at hu; subst hu; rfl
          case d3 => rw [List.length_append, macT_len]; unfold maxLen; omega
          case d4 => rw [List.length_append, macT_len]; omega
          case d6 => simp; omega
          intro v1 w2 hown2 hgrow2 _
          have hb2 : Below (w.heap.size + 1) W w2 := (HBr.out.alloc (by omega) _).grown hgrow2 (by simp; omega) (fun j hj => (HO.out.lt j hj).1)
          have R : w2.ownsRow (w.heap.size + 1) 5 1 v1 (macL x ++ macT y (k + 1)).length ((macL x ++ macT y (k + 1)).map bV) := by
            refine own_cast hown2 (by simp [macT]; omega) ?_
            simp only [macT, List.map_append, List.map_cons, List.map_nil]
            rw [bV_of (HY.out k)]
          clear hown2 hgrow2 HO HBr
          go_wp2
          go_roundw
          case rel => exact ⟨k + 1, by omega, by go_num, R, hb2⟩
          case measure => simp [intOf]; omega
        · obtain rfl : k = 6 := by omega
          rw [show ((6 : Nat) : Int) = 6 from rfl]
          have hF := HF.out.below HBr.out (by omega)
          have k12 : wr.cell? ⟨w.heap.size, 12, none⟩ = some (.int .i64 t) := hF.cell 12
          have k13 : wr.cell? ⟨w.heap.size, 13, none⟩ = some (strV l) := hF.cell 13
          have hnb : numB t l.length < 65536 := by unfold numB; split <;> omega
          have hsl := str_len l
          have HO2 : wr.ownsRow (w.heap.size + 1) 5 1 _ (macL x ++ macL y).length ((macL x ++ macL y).map bV) := own_cast HO.out rfl rfl
          have c7 := refPut_any _ (macL x ++ macL y) wr.heap.size 2 (numB t l.length) wr (bts_of_own HO2) (Nat.le_refl _) (by simp [macL]) (by omega) (by omega)
          have goal : ∀ (v7 : Value) (w7 : World), w7.ownsRow wr.heap.size 5 1 v7 (macL x ++ macL y ++ lw (numB t l.length) 2 2).length ((macL x ++ macL y ++ lw (numB t l.length) 2 2).map bV) → Below wr.heap.size wr w7 →
              Below w.heap.size w w7 ∧ w7.cell? ⟨w.heap.size, 13, none⟩ = some (strV l) := fun v7 w7 o h => ⟨below_next HB.out ((HBr.out.mono (by omega)).trans (h.mono (by omega))), by rw [h.cell (by show w.heap.size < _; omega)]; exact k13⟩
          have GO := Lib.hid goal
          clear goal HO HO2 HBr hF hk hlt
          by_cases h0 : (t : Int) = 0
          · have e : numB t l.length = l.length := by unfold numB; rw [if_pos (by omega)]
            have he := e
            rw [e] at c7 GO hnb
            go_wp2_with fail
            refine c7.mono ?_
            rintro e1 w7 ⟨v7, rfl, own7, hb7⟩
            obtain ⟨hB7, k7⟩ := GO.out v7 w7 own7 hb7
            have hs7 := hb7.size
            have O7 := Lib.hid own7
            have HB7 := Lib.hid hB7
            have hq7 : (macL x ++ macL y ++ lw l.length 2 2).length = 14 := by simp [macL, lw_len]
            rw [hq7] at O7
            clear hb7 own7 hB7 c7 GO k12 k13
            go_wp2_with (at_builtin; refine Go.Lib.wpList_append_own_string _ rfl _ _ 25 9 rfl wr.heap.size 5 i0 und22 und9 hinf hz0 hz1 hz2 _ _ _ rfl O7.out _ rfl ?e3 ?e4 ?e5 ?_)
            case e3 => unfold maxLen; omega
            case e4 => omega
            case e5 => exact hs7
            intro v8 w8 own8 grow8 _
            have hb8 : Below w.heap.size w w8 := HB7.out.grown grow8 HB7.out.size (fun j hj => by have := (O7.out.lt j hj).1; omega)
            have own8' : w8.ownsRow wr.heap.size 5 1 v8 (frH x y t l ++ List.replicate 0 0).length ((frH x y t l ++ List.replicate 0 0).map bV) := by
              refine own_cast own8 (by rw [List.length_append, frH_len, List.length_replicate]; rfl) ?_
              rw [frH, he]
              simp [Go.Lib.strCells]
            have hs8 := Nat.le_trans hs7 grow8.size
            clear own8 grow8 HB7 O7 k7
            generalize wr.heap.size = N at *
            have O8 := Lib.hid own8'
            have HB8 := Lib.hid hb8
            clear own8' hb8
            go_wp2
            go_loopw [3] (fun o ws => ∃ m : Nat, m ≤ 60 - (14 + l.length) ∧ ws.ownsRow N 5 1 o (frH x y t l ++ List.replicate m 0).length ((frH x y t l ++ List.replicate m 0).map bV) ∧ Below w.heap.size w ws ∧ N ≤ ws.heap.size) (fun o _ => 60 - (match o with | .slice _ n _ => n | _ => 0))
            case atStart => exact ⟨0, Nat.zero_le _, O8.out, HB8.out, hs8⟩
            case round =>
              rename_i ws _ _ _ _ _ _ _
              obtain ⟨m, hm, hown, hb, hsz9⟩ := hrel
              obtain ⟨p9, cap9, rfl, hlen9⟩ := bts_len (bts_of_own hown)
              have hq : (frH x y t l ++ List.replicate m 0).length = 14 + l.length + m := by rw [List.length_append, frH_len, List.length_replicate]
              rw [hq] at hown hlen9 ⊢
              have HO := Lib.hid hown
              have HBs := Lib.hid hb
              clear hown hb O8 HB8 hq
              by_cases hlt : 14 + l.length + m < 60
              · go_wp2_with (at_builtin; refine wpList_append_own _ rfl _ _ 25 rfl N 5 i0 (.int .u8 0) 1 1 und22 hinf hz0 hz1 hz2 rfl (by decide) _ _ _ rfl (HO.out.alloc _) ⟨_, 0, none⟩ 1 1 [_] rfl rfl (cell_one_new _ _ _) ?d2 ?d3 ?d4 ?d6 ?_)
                case d2 => intro u hu; simp at hu; subst hu; rfl
                case d3 => unfold maxLen; omega
                case d4 => omega
                case d6 => simp; omega
                intro v1 w2 hown2 hgrow2 _
                have hb2 : Below w.heap.size w w2 := (HBs.out.alloc (by have := HBs.out.size; omega) _).grown hgrow2 (by have := HBs.out.size; simp; omega) (fun j hj => by have := (HO.out.lt j hj).1; omega)
                have R : w2.ownsRow N 5 1 v1 (frH x y t l ++ List.replicate (m + 1) 0).length ((frH x y t l ++ List.replicate (m + 1) 0).map bV) := by
                  rw [List.replicate_succ']
                  refine own_cast hown2 (by simp [frH_len]; omega) (by simp)
                obtain ⟨p1, cap1, rfl, hlen1⟩ := bts_len (bts_of_own R)
                have hs2 : N ≤ w2.heap.size := Nat.le_trans (by rw [alloc_size]; omega) hgrow2.size
                clear hown2 hgrow2 HO HBs
                go_wp2
                go_roundw
                case rel => exact ⟨m + 1, by omega, R, hb2, hs2⟩
                case measure => simp [frH_len]; omega
              · go_wp2
                have e : frB x y t l = frH x y t l ++ List.replicate m 0 := by unfold frB; rw [show 60 - (14 + l.length) = m by omega]
                go_ret
                exact ⟨_, rfl, by rw [e]; exact bts_of_own (own_cast HO.out (by rw [List.length_append, frH_len, List.length_replicate]) rfl), HBs.out⟩
          · have e : numB t l.length = t := by unfold numB; rw [if_neg (by omega)]
            have he := e
            rw [e] at c7 GO hnb
            go_wp2_with fail
            refine c7.mono ?_
            rintro e1 w7 ⟨v7, rfl, own7, hb7⟩
            obtain ⟨hB7, k7⟩ := GO.out v7 w7 own7 hb7
            have hs7 := hb7.size
            have O7 := Lib.hid own7
            have HB7 := Lib.hid hB7
            have hq7 : (macL x ++ macL y ++ lw t 2 2).length = 14 := by simp [macL, lw_len]
            rw [hq7] at O7
            clear hb7 own7 hB7 c7 GO k12 k13
            go_wp2_with (at_builtin; refine Go.Lib.wpList_append_own_string _ rfl _ _ 25 9 rfl wr.heap.size 5 i0 und22 und9 hinf hz0 hz1 hz2 _ _ _ rfl O7.out _ rfl ?e3 ?e4 ?e5 ?_)
            case e3 => unfold maxLen; omega
            case e4 => omega
            case e5 => exact hs7
            intro v8 w8 own8 grow8 _
            have hb8 : Below w.heap.size w w8 := HB7.out.grown grow8 HB7.out.size (fun j hj => by have := (O7.out.lt j hj).1; omega)
            have own8' : w8.ownsRow wr.heap.size 5 1 v8 (frH x y t l ++ List.replicate 0 0).length ((frH x y t l ++ List.replicate 0 0).map bV) := by
              refine own_cast own8 (by rw [List.length_append, frH_len, List.length_replicate]; rfl) ?_
              rw [frH, he]
              simp [Go.Lib.strCells]
            have hs8 := Nat.le_trans hs7 grow8.size
            clear own8 grow8 HB7 O7 k7
            generalize wr.heap.size = N at *
            have O8 := Lib.hid own8'
            have HB8 := Lib.hid hb8
            clear own8' hb8
            go_wp2
            go_loopw [3] (fun o ws => ∃ m : Nat, m ≤ 60 - (14 + l.length) ∧ ws.ownsRow N 5 1 o (frH x y t l ++ List.replicate m 0).length ((frH x y t l ++ List.replicate m 0).map bV) ∧ Below w.heap.size w ws ∧ N ≤ ws.heap.size) (fun o _ => 60 - (match o with | .slice _ n _ => n | _ => 0))
            case atStart => exact ⟨0, Nat.zero_le _, O8.out, HB8.out, hs8⟩
            case round =>
              rename_i ws _ _ _ _ _ _ _
              obtain ⟨m, hm, hown, hb, hsz9⟩ := hrel
              obtain ⟨p9, cap9, rfl, hlen9⟩ := bts_len (bts_of_own hown)
              have hq : (frH x y t l ++ List.replicate m 0).length = 14 + l.length + m := by rw [List.length_append, frH_len, List.length_replicate]
              rw [hq] at hown hlen9 ⊢
              have HO := Lib.hid hown
              have HBs := Lib.hid hb
              clear hown hb O8 HB8 hq
              by_cases hlt : 14 + l.length + m < 60
              · go_wp2_with (at_builtin; refine wpList_append_own _ rfl _ _ 25 rfl N 5 i0 (.int .u8 0) 1 1 und22 hinf hz0 hz1 hz2 rfl (by decide) _ _ _ rfl (HO.out.alloc _) ⟨_, 0, none⟩ 1 1 [_] rfl rfl (cell_one_new _ _ _) ?d2 ?d3 ?d4 ?d6 ?_)
                case d2 => intro u hu; simp at hu; subst hu; rfl
                case d3 => unfold maxLen; omega
                case d4 => omega
                case d6 => simp; omega
                intro v1 w2 hown2 hgrow2 _
                have hb2 : Below w.heap.size w w2 := (HBs.out.alloc (by have := HBs.out.size; omega) _).grown hgrow2 (by have := HBs.out.size; simp; omega) (fun j hj => by have := (HO.out.lt j hj).1; omega)
                have R : w2.ownsRow N 5 1 v1 (frH x y t l ++ List.replicate (m + 1) 0).length ((frH x y t l ++ List.replicate (m + 1) 0).map bV) := by
                  rw [List.replicate_succ']
                  refine own_cast hown2 (by simp [frH_len]; omega) (by simp)
                obtain ⟨p1, cap1, rfl, hlen1⟩ := bts_len (bts_of_own R)
                have hs2 : N ≤ w2.heap.size := Nat.le_trans (by rw [alloc_size]; omega) hgrow2.size
                clear hown2 hgrow2 HO HBs
                go_wp2
                go_roundw
                case rel => exact ⟨m + 1, by omega, R, hb2, hs2⟩
                case measure => simp [frH_len]; omega
              · go_wp2
                have e : frB x y t l = frH x y t l ++ List.replicate m 0 := by unfold frB; rw [show 60 - (14 + l.length) = m by omega]
                go_ret
                exact ⟨_, rfl, by rw [e]; exact bts_of_own (own_cast HO.out (by rw [List.length_append, frH_len, List.length_replicate]) rfl), HBs.out⟩
end Go.Proofs.Ytfdhkbkonennjaa
