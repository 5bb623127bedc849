/- The bytes of a frame: ether's and the reference's. -/
import Derived.Test.YtfdhkbkonennjaaH
namespace Go.Proofs.Ytfdhkbkonennjaa
open Go.RowKit Go.Sort

/-- A frame's variable. -/
abbrev FrAt (w : World) (b : Nat) (x y : Nat → Nat) (t : Nat) (v : Value) : Prop := VarAt w b (frC x y t v) 27
theorem VarAt.frCells {w : World} {b : Nat} {x y : Nat → Nat} {t : Nat} {v : Value} (h : FrAt w b x y t v) : w.cell? ⟨b, 0, none⟩ = some (.int .u8 (x 0)) ∧ w.cell? ⟨b, 1, none⟩ = some (.int .u8 (x 1)) ∧ w.cell? ⟨b, 2, none⟩ = some (.int .u8 (x 2)) ∧ w.cell? ⟨b, 3, none⟩ = some (.int .u8 (x 3)) ∧ w.cell? ⟨b, 4, none⟩ = some (.int .u8 (x 4)) ∧ w.cell? ⟨b, 5, none⟩ = some (.int .u8 (x 5)) ∧ w.cell? ⟨b, 6, none⟩ = some (.int .u8 (y 0)) ∧ w.cell? ⟨b, 7, none⟩ = some (.int .u8 (y 1)) ∧ w.cell? ⟨b, 8, none⟩ = some (.int .u8 (y 2)) ∧ w.cell? ⟨b, 9, none⟩ = some (.int .u8 (y 3)) ∧ w.cell? ⟨b, 10, none⟩ = some (.int .u8 (y 4)) ∧ w.cell? ⟨b, 11, none⟩ = some (.int .u8 (y 5)) ∧ w.cell? ⟨b, 12, none⟩ = some (.int .u16 t) ∧ w.cell? ⟨b, 13, none⟩ = some v :=
  ⟨h.cell 0, h.cell 1, h.cell 2, h.cell 3, h.cell 4, h.cell 5, h.cell 6, h.cell 7, h.cell 8, h.cell 9, h.cell 10, h.cell 11, h.cell 12, h.cell 13⟩

def macL (x : Nat → Nat) : List UInt8 := [UInt8.ofNat (x 0), UInt8.ofNat (x 1), UInt8.ofNat (x 2), UInt8.ofNat (x 3), UInt8.ofNat (x 4), UInt8.ofNat (x 5)]
theorem macL_lw {x : Nat → Nat} (hx : ∀ i, x i < 256) : lw (pref x 6) 6 6 = macL x := by
  have h0 := hx 0; have h1 := hx 1; have h2 := hx 2; have h3 := hx 3; have h4 := hx 4; have h5 := hx 5
  simp only [lw, macL, pref, List.nil_append, List.cons_append, Nat.reduceSub, Nat.reducePow, Nat.pow_zero, Nat.div_one]
  congr 1
  · congr 1; omega
  · congr 1
    · congr 1; omega
    · congr 1
      · congr 1; omega
      · congr 1
        · congr 1; omega
        · congr 1
          · congr 1; omega
          · congr 1
            congr 1; omega
/-- The first fields and the Body. -/
def frH (x y : Nat → Nat) (t : Nat) (l : List UInt8) : List UInt8 := ((macL x ++ macL y) ++ lw (numB t l.length) 2 2) ++ l
theorem frH_len (x y : Nat → Nat) (t : Nat) (l : List UInt8) : (frH x y t l).length = 14 + l.length := by simp [frH, macL, lw_len]; omega
/-- A frame's bytes. -/
def frB (x y : Nat → Nat) (t : Nat) (l : List UInt8) : List UInt8 := frH x y t l ++ List.replicate (60 - (14 + l.length)) 0

set_option maxHeartbeats 2000000 in
theorem ebytes_ok (x y : Nat → Nat) (t : Nat) (v : Value) (l : List UInt8) (B : Nat) (w : World) (hx : ∀ i, x i < 256) (hy : ∀ i, y i < 256) (ht : t < 65536) (hv : Bts w B v l) (hB : B ≤ w.heap.size) (hr : Rt y t l.length) :
    Calls Try.prog 8 #[frV x y t v] w fun e w' => ∃ v', e = .returned (.tuple #[v', .int .i64 0]) ∧ Bts w' w'.heap.size v' (frB x y t l) ∧ Far w.heap.size v' ∧ Below w.heap.size w w' := by
  obtain ⟨i0, hinf, hz0, hz1, hz2⟩ := info_parts info5
  obtain ⟨p, cap, rfl, hlen⟩ := bts_len hv
  have hf := var_new w (frC x y t (.slice p l.length cap)) 27
  have hb := box_below w (.cells (frC x y t (.slice p l.length cap)) 27)
  have hl15 := hr.2.1
  have HF := Lib.hid hf
  have HB := Lib.hid hb
  have HV := Lib.hid hv
  have HR := Lib.hid hr
  have HX := Lib.hid hx
  have HY := Lib.hid hy
  have c1 := right_any x y t p l.length cap (w.alloc (.cells (frC x y t (.slice p l.length cap)) 27)) ht hlen
  clear hf hb hv hr hx hy
  go_enter Try.func8, Try.ntmps8
  go_wp2_with fail
  refine c1.mono ?_
  rintro e w1 ⟨rfl, hb1⟩
  have F1 := HF.out.below hb1 HF.out.lt
  obtain ⟨k0, k1, k2, k3, k4, k5, k6, k7, k8, k9, k10, k11, k12, k13⟩ := F1.frCells
  have HF1 := Lib.hid F1
  have HB1 := Lib.hid (below_next HB.out hb1)
  have hdec : decide (Rt y t l.length) = true := by simp [HR.out]
  rw [hdec]
  clear F1 hb1 c1 HF HB hdec
  have c2 := number_any x HX.out w1
  go_wp2_with fail
  refine c2.mono ?_
  rintro e w2 ⟨rfl, hb2⟩
  have F2 := HF1.out.below hb2 HF1.out.lt
  have HF2 := Lib.hid F2
  have HB2 := Lib.hid (below_next HB1.out hb2)
  have hpx := pref_lt HX.out 6
  have c3 := put_any (.slice none 0 0) [] 0 6 (pref x 6) w2 (.inl ⟨rfl, rfl⟩) (Nat.zero_le _) (by simp) (by omega) (by omega)
  rw [macL_lw HX.out, List.nil_append] at c3
  clear k0 k1 k2 k3 k4 k5 k6 k7 k8 k9 k10 k11 k12 k13 F2 hb2 c2 HF1 HB1
  go_wp2_with fail
  refine c3.mono ?_
  rintro e w3 ⟨v3, rfl, own3, hb3⟩
  have F3 := HF2.out.below hb3 HF2.out.lt
  obtain ⟨k0, k1, k2, k3, k4, k5, k6, k7, k8, k9, k10, k11, k12, k13⟩ := F3.frCells
  have HF3 := Lib.hid F3
  have HB3 := Lib.hid (below_next HB2.out hb3)
  have c4 := number_any y HY.out w3
  have O3 := Lib.hid (bts_of_own own3)
  clear F3 hb3 c3 HF2 HB2 own3
  go_wp2_with fail
  refine c4.mono ?_
  rintro e w4 ⟨rfl, hb4⟩
  have F4 := HF3.out.below hb4 HF3.out.lt
  have HF4 := Lib.hid F4
  have HB4 := Lib.hid (below_next HB3.out hb4)
  have hpy := pref_lt HY.out 6
  have c5 := put_any v3 (macL x) w3.heap.size 6 (pref y 6) w4 (O3.out.below hb4 (Nat.le_refl _)) hb4.size (by simp [macL]) (by omega) (by omega)
  rw [macL_lw HY.out] at c5
  clear k0 k1 k2 k3 k4 k5 k6 k7 k8 k9 k10 k11 k12 k13 F4 hb4 c4 HF3 HB3 O3
  go_wp2_with fail
  refine c5.mono ?_
  rintro e w5 ⟨v5, rfl, own5, hb5⟩
  have F5 := HF4.out.below hb5 HF4.out.lt
  obtain ⟨k0, k1, k2, k3, k4, k5, k6, k7, k8, k9, k10, k11, k12, k13⟩ := F5.frCells
  have HF5 := Lib.hid F5
  have HB5 := Lib.hid (below_next HB4.out hb5)
  have c6 := fnum_any x y t p l.length cap w5 ht (by omega)
  have O5 := Lib.hid (bts_of_own own5)
  clear F5 hb5 c5 HF4 HB4 own5
  go_wp2_with fail
  refine c6.mono ?_
  rintro e w6 ⟨rfl, hb6⟩
  have F6 := HF5.out.below hb6 HF5.out.lt
  have HF6 := Lib.hid F6
  have HB6 := Lib.hid (below_next HB5.out hb6)
  have hnb : numB t l.length < 65536 := by unfold numB; split <;> omega
  have c7 := put_any v5 (macL x ++ macL y) w5.heap.size 2 (numB t l.length) w6 (O5.out.below hb6 (Nat.le_refl _)) hb6.size (by simp [macL]) (by omega) (by omega)
  clear k0 k1 k2 k3 k4 k5 k6 k7 k8 k9 k10 k11 k12 k13 F6 hb6 c6 HF5 HB5 O5
  go_wp2_with fail
  refine c7.mono ?_
  rintro e w7 ⟨v7, rfl, own7, hb7⟩
  have F7 := HF6.out.below hb7 HF6.out.lt
  have k13 : w7.cell? ⟨w.heap.size, 13, none⟩ = some (.slice p l.length cap) := F7.cell 13
  have hs6 := HB6.out.size
  have HB7 := Lib.hid (below_next HB6.out hb7)
  have hs67 := hb7.size
  have O7 := Lib.hid own7
  have HV7 := Lib.hid (HV.out.below HB7.out hB)
  have hs7 := HB7.out.size
  clear F7 hb7 c7 HF6 own7
  go_wp2_with (at_builtin; refine wpList_append_bts _ rfl _ _ rfl w6.heap.size _ _ _ rfl O7.out B _ l rfl HV7.out ?d4 ?d5 ?_)
  case d4 => simp [macL, lw_len]; omega
  case d5 => have := O7.out.1; have hq := hs7; exact hs67
  intro v8 w8 own8 grow8
  have hb8 : Below w.heap.size w w8 := HB7.out.grown grow8 (by omega) (fun j hj => Nat.le_trans hs6 (O7.out.lt j hj).1)
  have own8' : w8.ownsRow w6.heap.size 5 1 v8 (frH x y t l ++ List.replicate 0 0).length ((frH x y t l ++ List.replicate 0 0).map bV) := own_cast own8 (by simp [frH]; omega) (by simp [frH])
  have hs68 : w6.heap.size ≤ w8.heap.size := Nat.le_trans hs67 grow8.size
  have O8 := Lib.hid own8'
  have HB8 := Lib.hid hb8
  clear own8 own8' hb8 grow8 HB6 HB7 O7 HV7 k13
  go_wp2
  go_loopw [4] (fun o wr => ∃ m : Nat, m ≤ 60 - (14 + l.length) ∧ wr.ownsRow w6.heap.size 5 1 o (frH x y t l ++ List.replicate m 0).length ((frH x y t l ++ List.replicate m 0).map bV) ∧ Below w.heap.size w wr ∧ w6.heap.size ≤ wr.heap.size) (fun o _ => 60 - (match o with | .slice _ n _ => n | _ => 0))
  case atStart => exact ⟨0, Nat.zero_le _, O8.out, HB8.out, hs68⟩
  case round =>
    obtain ⟨m, hm, hown, hb, hsz⟩ := hrel
    obtain ⟨p9, cap9, rfl, hlen9⟩ := bts_len (bts_of_own hown)
    have hq : (frH x y t l ++ List.replicate m 0).length = 14 + l.length + m := by rw [List.length_append, frH_len, List.length_replicate]
    rw [hq] at hown hlen9 ⊢
    have HO := Lib.hid hown
    have HB := Lib.hid hb
    clear hown hb O8 HB8 hq
    by_cases hlt : 14 + l.length + m < 60
    · go_wp2_with (at_builtin; refine wpList_append_own _ rfl _ _ 25 rfl w6.heap.size 5 i0 (.int .u8 0) 1 1 und22 hinf hz0 hz1 hz2 rfl (by decide) _ _ _ rfl (HO.out.alloc _) ⟨wr.heap.size, 0, none⟩ 1 1 [_] rfl rfl (cell_one_new _ _ _) ?d2 ?d3 ?d4 ?d6 ?_)
      case d2 => intro u hu; simp at hu; subst hu; rfl
      case d3 => unfold maxLen; omega
      case d4 => omega
      case d6 => simp; omega
      intro v1 w2 hown2 hgrow2 _
      have hb2 : Below w.heap.size w w2 := (HB.out.alloc (by omega) _).grown hgrow2 (by simp; omega) (fun j hj => Nat.le_trans hs6 (HO.out.lt j hj).1)
      have R : w2.ownsRow w6.heap.size 5 1 v1 (frH x y t l ++ List.replicate (m + 1) 0).length ((frH x y t l ++ List.replicate (m + 1) 0).map bV) := by
        rw [List.replicate_succ']
        refine own_cast hown2 (by simp [frH_len]; omega) (by simp)
      obtain ⟨p1, cap1, rfl, hlen1⟩ := bts_len (bts_of_own R)
      have hs2 : w6.heap.size ≤ w2.heap.size := Nat.le_trans (by rw [alloc_size]; omega) hgrow2.size
      clear hown2 hgrow2 HO HB
      go_wp2
      go_roundw
      case rel => exact ⟨m + 1, by omega, R, hb2, hs2⟩
      case measure => simp [frH_len]; omega
    · go_wp2
      have e : frB x y t l = frH x y t l ++ List.replicate m 0 := by unfold frB; rw [show 60 - (14 + l.length) = m by omega]
      exact bodyPost_ret (v := .tuple #[.slice p9 (14 + l.length + m) cap9, .int .i64 0]) (by simp [results, Try.results8, go_sem]) rfl ⟨_, rfl, by rw [e]; exact bts_of_own (own_cast HO.out (by rw [List.length_append, frH_len, List.length_replicate]) rfl), fun a n c h => Nat.le_trans hs6 (far_of_own HO.out a n c h), HB.out⟩
set_option maxHeartbeats 2000000 in
theorem ebytes_not (x y : Nat → Nat) (t : Nat) (v : Value) (l : List UInt8) (B : Nat) (w : World) (ht : t < 65536) (hv : Bts w B v l) (hr : ¬ Rt y t l.length) :
    Calls Try.prog 8 #[frV x y t v] w fun e w' => e = .returned (.tuple #[.slice none 0 0, .int .i64 1]) ∧ Below w.heap.size w w' := by
  obtain ⟨p, cap, rfl, hlen⟩ := bts_len hv
  have hb := box_below w (.cells (frC x y t (.slice p l.length cap)) 27)
  have HB := Lib.hid hb
  have HR := Lib.hid hr
  have c1 := right_any x y t p l.length cap (w.alloc (.cells (frC x y t (.slice p l.length cap)) 27)) ht hlen
  clear hb hv hr
  go_enter Try.func8, Try.ntmps8
  go_wp2_with fail
  refine c1.mono ?_
  rintro e w1 ⟨rfl, hb1⟩
  have HB1 := Lib.hid (below_next HB.out hb1)
  have hdec : decide (Rt y t l.length) = false := by simp [HR.out]
  rw [hdec]
  clear hb1 c1 HB hdec
  go_wp2_with fail
  exact bodyPost_ret (v := .tuple #[.slice none 0 0, .int .i64 1]) (by simp [results, Try.results8, go_sem]) rfl ⟨rfl, HB1.out⟩
end Go.Proofs.Ytfdhkbkonennjaa
