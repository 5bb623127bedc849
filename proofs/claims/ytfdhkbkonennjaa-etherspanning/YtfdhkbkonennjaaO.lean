/- The reference's Read. -/
import Derived.Test.YtfdhkbkonennjaaN
namespace Go.Proofs.Ytfdhkbkonennjaa
open Go.RowKit Go.Sort

theorem byt_get {l : List UInt8} {k : Nat} (h : k < l.length) : bV l[k] = .int .u8 (byt l k) := by
  unfold byt; simp [h]
theorem byt_drop (l : List UInt8) (n k : Nat) : byt (l.drop n) k = byt l (n + k) := by
  unfold byt; simp [List.getElem?_drop]
/-- What of the addresses is set after k rounds. -/
def upto (k : Nat) (x : Nat → Nat) (i : Nat) : Nat := if i < k then x i else 0
theorem upto_set (x y : Nat → Nat) (k : Nat) (hk : k < 6) : ((rfC (upto k x) (upto k y) 0 []).setIfInBounds k (.int .u8 (x k))).setIfInBounds (6 + k) (.int .u8 (y k)) = rfC (upto (k + 1) x) (upto (k + 1) y) 0 [] := by
  match k with
  | 0 => simp [rfC, upto] | 1 => simp [rfC, upto] | 2 => simp [rfC, upto] | 3 => simp [rfC, upto] | 4 => simp [rfC, upto] | 5 => simp [rfC, upto]
  | k + 6 => omega
theorem upto_six (x : Nat → Nat) (y : Nat → Nat) : rfC (upto 6 x) (upto 6 y) 0 [] = rfC x y 0 [] := by simp [rfC, upto]

theorem bts_block {w : World} {B : Nat} {a : Addr} {n cap : Nat} {l : List UInt8} (h : Bts w B (.slice (some a) n cap) l) (hl : 0 < l.length) : a.block < B := by
  rcases h with ⟨h, _⟩ | ⟨a', cap', he, _, _, h3, _⟩
  · cases h
  · cases he; exact h3 hl
abbrev rreadW (w : World) : World := (w.alloc (.cells rfZ 30)).alloc (.cells rfZ 30)
theorem rreadW_facts (w : World) : VarAt (rreadW w) w.heap.size rfZ 30 ∧ VarAt (rreadW w) (w.heap.size + 1) rfZ 30 ∧ Below w.heap.size w (rreadW w) := by
  refine ⟨(var_new w _ _).alloc _, ?_, (box_below _ _).alloc (by rw [alloc_size]; omega) _⟩
  have := var_new (w.alloc (.cells rfZ 30)) rfZ 30
  rwa [alloc_size] at this

-- HEAD
abbrev rf14 (w : World) (b : Nat) (x y : Nat → Nat) (t : Nat) (l : List UInt8) : World := (((((((((((((w.setCell ⟨b, 0, none⟩ (.int .u8 (x 0))).setCell ⟨b, 1, none⟩ (.int .u8 (x 1))).setCell ⟨b, 2, none⟩ (.int .u8 (x 2))).setCell ⟨b, 3, none⟩ (.int .u8 (x 3))).setCell ⟨b, 4, none⟩ (.int .u8 (x 4))).setCell ⟨b, 5, none⟩ (.int .u8 (x 5))).setCell ⟨b, 6, none⟩ (.int .u8 (y 0))).setCell ⟨b, 7, none⟩ (.int .u8 (y 1))).setCell ⟨b, 8, none⟩ (.int .u8 (y 2))).setCell ⟨b, 9, none⟩ (.int .u8 (y 3))).setCell ⟨b, 10, none⟩ (.int .u8 (y 4))).setCell ⟨b, 11, none⟩ (.int .u8 (y 5))).setCell ⟨b, 12, none⟩ (.int .i64 t)).setCell ⟨b, 13, none⟩ (strV l)
theorem rf14_below {B : Nat} {w0 w : World} {b : Nat} (x y : Nat → Nat) (t : Nat) (l : List UInt8) (h : Below B w0 w) (hb : B ≤ b) : Below B w0 (rf14 w b x y t l) := (((((((((((((h.setCell (p := ⟨b, 0, none⟩) hb _).setCell (p := ⟨b, 1, none⟩) hb _).setCell (p := ⟨b, 2, none⟩) hb _).setCell (p := ⟨b, 3, none⟩) hb _).setCell (p := ⟨b, 4, none⟩) hb _).setCell (p := ⟨b, 5, none⟩) hb _).setCell (p := ⟨b, 6, none⟩) hb _).setCell (p := ⟨b, 7, none⟩) hb _).setCell (p := ⟨b, 8, none⟩) hb _).setCell (p := ⟨b, 9, none⟩) hb _).setCell (p := ⟨b, 10, none⟩) hb _).setCell (p := ⟨b, 11, none⟩) hb _).setCell (p := ⟨b, 12, none⟩) hb _).setCell (p := ⟨b, 13, none⟩) hb _
theorem six0_rf {w : World} {b : Nat} {x0 y : Nat → Nat} {t : Nat} {l : List UInt8} (x : Nat → Nat) (h : VarAt w b (rfC x0 y t l) 30) : VarAt (six0 w b x) b (rfC x y t l) 30 := (((((h.set 0 _).set 1 _).set 2 _).set 3 _).set 4 _).set 5 _
theorem six6_rf {w : World} {b : Nat} {x y0 : Nat → Nat} {t : Nat} {l : List UInt8} (y : Nat → Nat) (h : VarAt w b (rfC x y0 t l) 30) : VarAt (six6 w b y) b (rfC x y t l) 30 := (((((h.set 6 _).set 7 _).set 8 _).set 9 _).set 10 _).set 11 _
theorem rf14_rf {w : World} {b : Nat} {x0 y0 : Nat → Nat} {t0 : Nat} {l0 : List UInt8} (x y : Nat → Nat) (t : Nat) (l : List UInt8) (h : VarAt w b (rfC x0 y0 t0 l0) 30) : VarAt (rf14 w b x y t l) b (rfC x y t l) 30 := ((six6_rf y (six0_rf x h)).set 12 _).set 13 _
theorem VarAt.rfCells {w : World} {b : Nat} {x y : Nat → Nat} {t : Nat} {l : List UInt8} (h : VarAt w b (rfC x y t l) 30) : w.cell? ⟨b, 0, none⟩ = some (.int .u8 (x 0)) ∧ w.cell? ⟨b, 1, none⟩ = some (.int .u8 (x 1)) ∧ w.cell? ⟨b, 2, none⟩ = some (.int .u8 (x 2)) ∧ w.cell? ⟨b, 3, none⟩ = some (.int .u8 (x 3)) ∧ w.cell? ⟨b, 4, none⟩ = some (.int .u8 (x 4)) ∧ w.cell? ⟨b, 5, none⟩ = some (.int .u8 (x 5)) ∧ w.cell? ⟨b, 6, none⟩ = some (.int .u8 (y 0)) ∧ w.cell? ⟨b, 7, none⟩ = some (.int .u8 (y 1)) ∧ w.cell? ⟨b, 8, none⟩ = some (.int .u8 (y 2)) ∧ w.cell? ⟨b, 9, none⟩ = some (.int .u8 (y 3)) ∧ w.cell? ⟨b, 10, none⟩ = some (.int .u8 (y 4)) ∧ w.cell? ⟨b, 11, none⟩ = some (.int .u8 (y 5)) ∧ w.cell? ⟨b, 12, none⟩ = some (.int .i64 t) ∧ w.cell? ⟨b, 13, none⟩ = some (strV l) :=
  ⟨h.cell 0, h.cell 1, h.cell 2, h.cell 3, h.cell 4, h.cell 5, h.cell 6, h.cell 7, h.cell 8, h.cell 9, h.cell 10, h.cell 11, h.cell 12, h.cell 13⟩
abbrev rfz14 (w : World) (b : Nat) : World := (((((((((((((w.setCell ⟨b, 0, none⟩ (.int .u8 0)).setCell ⟨b, 1, none⟩ (.int .u8 0)).setCell ⟨b, 2, none⟩ (.int .u8 0)).setCell ⟨b, 3, none⟩ (.int .u8 0)).setCell ⟨b, 4, none⟩ (.int .u8 0)).setCell ⟨b, 5, none⟩ (.int .u8 0)).setCell ⟨b, 6, none⟩ (.int .u8 0)).setCell ⟨b, 7, none⟩ (.int .u8 0)).setCell ⟨b, 8, none⟩ (.int .u8 0)).setCell ⟨b, 9, none⟩ (.int .u8 0)).setCell ⟨b, 10, none⟩ (.int .u8 0)).setCell ⟨b, 11, none⟩ (.int .u8 0)).setCell ⟨b, 12, none⟩ (.int .i64 0)).setCell ⟨b, 13, none⟩ (.string ⟨#[]⟩)
theorem rfz14_eq (w : World) (b : Nat) : rf14 w b (fun _ => 0) (fun _ => 0) 0 [] = rfz14 w b := by simp only [rf14, rfz14, Int.natCast_zero]

/-- What the reference's Read answers. -/
def rdV (l : List UInt8) : Value := if rdE l = 0 then rfV (byt l) (byt (l.drop 6)) (rdT l) (rdB l) else rfV (fun _ => 0) (fun _ => 0) 0 []

set_option maxRecDepth 20000 in
set_option maxHeartbeats 40000000 in
theorem refRead_any (v : Value) (l : List UInt8) (B : Nat) (w : World) (hv : Bts w B v l) (hB : B ≤ w.heap.size) (hl : l.length ≤ 10000) :
    Calls Try.prog 13 #[v] w fun e w' => e = .returned (.tuple #[rdV l, .int .i64 (rdE l)]) ∧ Below w.heap.size w w' := by
  have hl' : (l.length : Int) ≤ 10000 := by omega
  clear hl
  by_cases h60 : (l.length : Int) < 60
  · obtain ⟨p, cap, rfl, -⟩ := bts_len hv
    have hb := Lib.hid (box_below w (.cells rfZ 30))
    have e1 : rdE l = 2 := by unfold rdE; rw [if_pos (by omega)]
    have e2 : rdV l = .agg rfZ := by unfold rdV; rw [e1]; rfl
    rw [e1, e2]
    clear hv e1 e2
    go_enter Try.func13, Try.ntmps13
    go_wp2_with fail
    exact bodyPost_ret (v := .tuple #[.agg rfZ, .int .i64 2]) (by simp [results, Try.results13, go_sem]) rfl ⟨rfl, hb.out⟩
  obtain ⟨f1, f2, hb⟩ := rreadW_facts w
  have hvW := hv.below hb hB
  obtain ⟨-, p, cap, rfl, h1, h2, -⟩ := bts_parts hv
  unfold maxLen at h2
  have F1 := Lib.hid f1
  have F2 := Lib.hid f2
  have HB := Lib.hid hb
  have HV := Lib.hid hv
  clear f1 f2 hb hvW hv
  go_enter Try.func13, Try.ntmps13
  go_wp2_with fail
  change Code.wp _ _ _ _ (rreadW w)
  generalize rreadW w = W at *
  go_loopw [5] (fun i wr => ∃ k : Nat, k ≤ 6 ∧ i = .int .i64 k ∧ VarAt wr (w.heap.size + 1) (rfC (upto k (byt l)) (upto k (byt (l.drop 6))) 0 []) 30 ∧ VarAt wr w.heap.size rfZ 30 ∧ Below w.heap.size w wr) (fun i _ => 6 - (intOf i).toNat)
  case atStart => exact ⟨0, Nat.zero_le _, rfl, F2.out, F1.out, HB.out⟩
  case round =>
    obtain ⟨k, hk, rfl, hf, hr, hb⟩ := hrel
    have hbts := HV.out.below hb hB
    obtain ⟨-, p', cap', he, -, -, hc⟩ := bts_parts hbts
    cases he
    have HF := Lib.hid hf
    have HR := Lib.hid hr
    have HB2 := Lib.hid hb
    have HC := Lib.hid hc
    have HBT := Lib.hid hbts
    clear hf hr hb hc hbts F1 F2 HB
    by_cases hlt : k < 6
    · obtain ⟨g, o, rfl, hc1⟩ := HC.out k (by omega)
      obtain ⟨g', o', he, hc2⟩ := HC.out (6 + k) (by omega)
      cases he
      rw [byt_get] at hc1 hc2
      have hg : g < w.heap.size := Nat.lt_of_lt_of_le (bts_block HBT.out (by omega)) hB
      have d1 := (rf_cell _ _ _ _ _ _ HF.out).1 k hlt
      have fz := HF.out.frozen
      have hF1 := HF.out.set k (.int .u8 (byt l k))
      have fz2 := hF1.frozen
      have d2 : (wr.setCell ⟨w.heap.size + 1, k, none⟩ (.int .u8 (byt l k))).cell? ⟨w.heap.size + 1, 6 + k, none⟩ = some (.int .u8 (upto k (byt (l.drop 6)) k)) := by
        rw [hF1.cell, Array.getElem?_setIfInBounds_ne (by omega), ← HF.out.cell]
        exact (rf_cell _ _ _ _ _ _ HF.out).2 k hlt
      have hc3 : (wr.setCell ⟨w.heap.size + 1, k, none⟩ (.int .u8 (byt l k))).cell? ⟨g, o + (6 + k), none⟩ = some (.int .u8 (byt l (6 + k))) := by
        rw [World.cell?_of_block (w := wr) (Below.heap_setCell _ _ _ _ (by show g ≠ w.heap.size + 1; omega))]
        exact hc2
      have hF2 := hF1.set (6 + k) (.int .u8 (byt (l.drop 6) k))
      rw [upto_set _ _ _ hlt] at hF2
      have hR2 := (HR.out.set_other (a := ⟨w.heap.size + 1, k, none⟩) (by simp) (.int .u8 (byt l k))).set_other (a := ⟨w.heap.size + 1, 6 + k, none⟩) (by simp) (.int .u8 (byt (l.drop 6) k))
      have hB2 := (HB2.out.setCell (p := ⟨w.heap.size + 1, k, none⟩) (by simp) (.int .u8 (byt l k))).setCell (p := ⟨w.heap.size + 1, 6 + k, none⟩) (by simp) (.int .u8 (byt (l.drop 6) k))
      rw [byt_drop] at hF2 hR2 hB2
      have G1 := Lib.hid hF2
      have G2 := Lib.hid hR2
      have G3 := Lib.hid hB2
      have hbl := byt_lt l k
      have hbl2 := byt_lt l (6 + k)
      clear hF1 hF2 hR2 hB2 HF HR HB2 HC hc2 HBT
      go_wp2_with fail
      exact ⟨⟨k + 1, by omega, by go_num, G1.out, G2.out, G3.out⟩, by simp [intOf]; omega⟩
    · obtain rfl : k = 6 := by omega
      rw [upto_six] at HF
      rw [show ((6 : Nat) : Int) = 6 from rfl]
      obtain ⟨g, o, rfl, hc1⟩ := HC.out 12 (by omega)
      obtain ⟨g', o', he, hc2⟩ := HC.out 13 (by omega)
      cases he
      rw [byt_get] at hc1 hc2
      have b12 := byt_lt l 12
      have b13 := byt_lt l 13
      clear hk hlt HC
      go_wp2_with fail
      go_quiet (fail)
      have HF2 := Lib.hid (show VarAt (wr.drewN nq) _ _ _ from HF.out)
      have HR2 := Lib.hid (show VarAt (wr.drewN nq) _ _ _ from HR.out)
      have HB22 := Lib.hid (below_drewN HB2.out nq)
      have HBT2 := Lib.hid (show Bts (wr.drewN nq) _ _ _ from HBT.out)
      clear HF HR HB2 HBT hc1 hc2
      generalize wr.drewN nq = W2 at *
      have hN : 256 * (byt l 12 : Int) + (byt l 13 : Int) = ((rdN l : Nat) : Int) := by unfold rdN numAt; rw [byt_drop, byt_drop]; simp
      rw [hN]
      have hN2 := numAt_lt (l.drop 12)
      have hN3 : (rdN l : Int) < 65536 := by unfold rdN; omega
      have m6 : W2.cell? ⟨w.heap.size + 1, 6, none⟩ = some (.int .u8 (byt (l.drop 6) 0)) := HF2.out.cell 6
      have b6 := byt_lt (l.drop 6) 0
      have h60' : ¬ l.length < 60 := by omega
      have H60 := Lib.hid h60'
      clear hN hN2 h60' b12 b13
      by_cases hA : (1514 : Int) < l.length
      · have e1 := Lib.hid (show rdE l = 3 by unfold rdE; rw [if_neg H60.out, if_pos (by omega)])
        obtain ⟨x0, y0, t0, l0, g2⟩ : ∃ x0 y0 t0 l0, VarAt W2 w.heap.size (rfC x0 y0 t0 l0) 30 := ⟨fun _ => 0, fun _ => 0, 0, [], HR2.out⟩
        obtain ⟨j0, j1, j2, j3, j4, j5, j6, j7, j8, j9, j10, j11, j12, j13⟩ := g2.rfCells
        have f0 := g2.frozen
        have R1 := Lib.hid (rf14_rf (fun _ => 0) (fun _ => 0) 0 [] g2)
        have HB3 := Lib.hid (rf14_below (fun _ => 0) (fun _ => 0) 0 [] HB22.out (Nat.le_refl w.heap.size))
        rw [rfz14_eq] at R1 HB3
        have e2 := Lib.hid (show rdV l = rfV (fun _ => 0) (fun _ => 0) 0 [] by unfold rdV; rw [if_neg (by rw [e1.out]; omega)])
        clear g2
        have t1 : decide ((1514 : Int) < (l.length : Int)) = true := by simp; omega
        clear hA hl' hN3 h60 h1 h2
        go_wp2_with fail
        change bodyPost Try.prog Try.f13 _ _ _ (rfz14 W2 w.heap.size)
        generalize rfz14 W2 w.heap.size = W4 at *
        clear j0 j1 j2 j3 j4 j5 j6 j7 j8 j9 j10 j11 j12 j13 f0
        obtain ⟨k0, k1, k2, k3, k4, k5, k6, k7, k8, k9, k10, k11, k12, k13⟩ := R1.out.rfCells
        exact bodyPost_ret (v := .tuple #[rfV (fun _ => 0) (fun _ => 0) 0 [], .int .i64 3]) (by simp [results, Try.results13, go_sem, k0, k1, k2, k3, k4, k5, k6, k7, k8, k9, k10, k11, k12, k13]) rfl ⟨by rw [e1.out, e2.out]; rfl, HB3.out⟩
      have hA' := Lib.hid (show ¬ 1514 < l.length by omega)
      by_cases hBg : (byt (l.drop 6) 0 : Int) % 2 = 1
      · have e1 := Lib.hid (show rdE l = 3 by unfold rdE; rw [if_neg H60.out, if_neg hA'.out, if_pos (by omega)])
        obtain ⟨x0, y0, t0, l0, g2⟩ : ∃ x0 y0 t0 l0, VarAt W2 w.heap.size (rfC x0 y0 t0 l0) 30 := ⟨fun _ => 0, fun _ => 0, 0, [], HR2.out⟩
        obtain ⟨j0, j1, j2, j3, j4, j5, j6, j7, j8, j9, j10, j11, j12, j13⟩ := g2.rfCells
        have f0 := g2.frozen
        have R1 := Lib.hid (rf14_rf (fun _ => 0) (fun _ => 0) 0 [] g2)
        have HB3 := Lib.hid (rf14_below (fun _ => 0) (fun _ => 0) 0 [] HB22.out (Nat.le_refl w.heap.size))
        rw [rfz14_eq] at R1 HB3
        have e2 := Lib.hid (show rdV l = rfV (fun _ => 0) (fun _ => 0) 0 [] by unfold rdV; rw [if_neg (by rw [e1.out]; omega)])
        clear g2
        have t1 : decide ((1514 : Int) < (l.length : Int)) = false := by simp; omega
        have t2 : ((byt (l.drop 6) 0 : Int) % 2 == 1) = true := by simp; omega
        clear hA hBg hl' hN3 h60 h1 h2
        go_wp2_with fail
        change bodyPost Try.prog Try.f13 _ _ _ (rfz14 W2 w.heap.size)
        generalize rfz14 W2 w.heap.size = W4 at *
        clear j0 j1 j2 j3 j4 j5 j6 j7 j8 j9 j10 j11 j12 j13 f0
        obtain ⟨k0, k1, k2, k3, k4, k5, k6, k7, k8, k9, k10, k11, k12, k13⟩ := R1.out.rfCells
        exact bodyPost_ret (v := .tuple #[rfV (fun _ => 0) (fun _ => 0) 0 [], .int .i64 3]) (by simp [results, Try.results13, go_sem, k0, k1, k2, k3, k4, k5, k6, k7, k8, k9, k10, k11, k12, k13]) rfl ⟨by rw [e1.out, e2.out]; rfl, HB3.out⟩
      have hBg' := Lib.hid (show ¬ byt (l.drop 6) 0 % 2 = 1 by omega)
      by_cases hC : (1500 : Int) < rdN l
      · by_cases hC2 : (rdN l : Int) < 1536
        · have e1 := Lib.hid (show rdE l = 3 by unfold rdE; rw [if_neg H60.out, if_neg hA'.out, if_neg hBg'.out, if_pos ⟨by omega, by omega⟩])
          obtain ⟨x0, y0, t0, l0, g2⟩ : ∃ x0 y0 t0 l0, VarAt W2 w.heap.size (rfC x0 y0 t0 l0) 30 := ⟨fun _ => 0, fun _ => 0, 0, [], HR2.out⟩
          obtain ⟨j0, j1, j2, j3, j4, j5, j6, j7, j8, j9, j10, j11, j12, j13⟩ := g2.rfCells
          have f0 := g2.frozen
          have R1 := Lib.hid (rf14_rf (fun _ => 0) (fun _ => 0) 0 [] g2)
          have HB3 := Lib.hid (rf14_below (fun _ => 0) (fun _ => 0) 0 [] HB22.out (Nat.le_refl w.heap.size))
          rw [rfz14_eq] at R1 HB3
          have e2 := Lib.hid (show rdV l = rfV (fun _ => 0) (fun _ => 0) 0 [] by unfold rdV; rw [if_neg (by rw [e1.out]; omega)])
          clear g2
          have t1 : decide ((1514 : Int) < (l.length : Int)) = false := by simp; omega
          have t2 : ((byt (l.drop 6) 0 : Int) % 2 == 1) = false := by simp; omega
          have t3 : decide ((1500 : Int) < (rdN l : Int)) = true := by simp; omega
          have t4 : decide ((rdN l : Int) < 1536) = true := by simp; omega
          clear hA hBg hC hC2 hl' hN3 h60 h1 h2
          go_wp2_with fail
          change bodyPost Try.prog Try.f13 _ _ _ (rfz14 W2 w.heap.size)
          generalize rfz14 W2 w.heap.size = W4 at *
          clear j0 j1 j2 j3 j4 j5 j6 j7 j8 j9 j10 j11 j12 j13 f0
          obtain ⟨k0, k1, k2, k3, k4, k5, k6, k7, k8, k9, k10, k11, k12, k13⟩ := R1.out.rfCells
          exact bodyPost_ret (v := .tuple #[rfV (fun _ => 0) (fun _ => 0) 0 [], .int .i64 3]) (by simp [results, Try.results13, go_sem, k0, k1, k2, k3, k4, k5, k6, k7, k8, k9, k10, k11, k12, k13]) rfl ⟨by rw [e1.out, e2.out]; rfl, HB3.out⟩
        have hC' : ¬ (1500 < rdN l ∧ rdN l < 1536) := by omega
        have e1 := Lib.hid (show rdE l = 0 by unfold rdE; rw [if_neg H60.out, if_neg hA'.out, if_neg hBg'.out, if_neg hC', if_neg (by omega)])
        have eB : rdB l = l.drop 14 := by unfold rdB bodyN; rw [if_pos (by omega)]; exact List.take_of_length_le (by rw [List.length_drop]; omega)
        have eT : rdT l = rdN l := by unfold rdT; rw [if_pos (by omega)]
        have e2 := Lib.hid (show rdV l = rfV (byt l) (byt (l.drop 6)) (rdN l) (l.drop 14) by unfold rdV; rw [if_pos e1.out, eB, eT])
        have hB1 : Below w.heap.size W2 (W2.setCell ⟨w.heap.size + 1, 12, none⟩ (.int .i64 (rdN l))) := (Below.refl _ _).setCell (p := ⟨w.heap.size + 1, 12, none⟩) (by show w.heap.size ≤ w.heap.size + 1; omega) _
        have hbt1 := HBT2.out.below hB1 hB
        have hconv : (convert 25 9 (.slice (some (cutA ⟨g, o, none⟩ cap 14)) (l.length - 14) (cap - 14))).run Try.prog (W2.setCell ⟨w.heap.size + 1, 12, none⟩ (.int .i64 (rdN l))) = .ok (strV (l.drop 14)) (W2.setCell ⟨w.heap.size + 1, 12, none⟩ (.int .i64 (rdN l))) := by
          rcases hbt1 with ⟨hx, _⟩ | ⟨a', cap', he, q1, q2, q3, q4⟩
          · cases hx
          · cases he
            exact bts_string (bts_tail 14 (by omega) q1 q2 q3 q4)
        have hsl : ∀ w, (Instr.slice 25 (.slice (some ⟨g, o, none⟩) l.length cap) (some (.int .i64 14)) none none).run Try.prog w = .ok (.slice (some (cutA ⟨g, o, none⟩ cap 14)) (l.length - 14) (cap - 14)) w := slice_tail ⟨g, o, none⟩ l.length cap 14 (by omega)
        have c12 : W2.cell? ⟨w.heap.size + 1, 12, none⟩ = some (.int .i64 0) := HF2.out.cell 12
        have fz := HF2.out.frozen
        have S1 := HF2.out.set 12 (.int .i64 (rdN l))
        have c13 : (W2.setCell ⟨w.heap.size + 1, 12, none⟩ (.int .i64 (rdN l))).cell? ⟨w.heap.size + 1, 13, none⟩ = some (.string ⟨#[]⟩) := S1.cell 13
        have fz1 := S1.frozen
        have S2 := S1.set 13 (strV (l.drop 14))
        have R0 : ∃ x0 y0 t0 l0, VarAt ((W2.setCell ⟨w.heap.size + 1, 12, none⟩ (.int .i64 (rdN l))).setCell ⟨w.heap.size + 1, 13, none⟩ (strV (l.drop 14))) w.heap.size (rfC x0 y0 t0 l0) 30 := ⟨fun _ => 0, fun _ => 0, 0, [], ((HR2.out.set_other (by simp) _).set_other (by simp) _)⟩
        obtain ⟨x0, y0, t0, l0, g2⟩ := R0
        obtain ⟨k0, k1, k2, k3, k4, k5, k6, k7, k8, k9, k10, k11, k12, k13⟩ := VarAt.rfCells (x := byt l) (y := byt (l.drop 6)) (t := (rdN l)) (l := (l.drop 14)) S2
        obtain ⟨j0, j1, j2, j3, j4, j5, j6, j7, j8, j9, j10, j11, j12, j13⟩ := g2.rfCells
        have f0 := g2.frozen
        have HB3 := Lib.hid (rf14_below (byt l) (byt (l.drop 6)) (rdN l) (l.drop 14) (show Below w.heap.size w ((W2.setCell ⟨w.heap.size + 1, 12, none⟩ (.int .i64 (rdN l))).setCell ⟨w.heap.size + 1, 13, none⟩ (strV (l.drop 14))) from ((HB22.out.trans hB1).setCell (p := ⟨w.heap.size + 1, 13, none⟩) (by show w.heap.size ≤ w.heap.size + 1; omega) _)) (Nat.le_refl w.heap.size))
        have R1 := Lib.hid (rf14_rf (byt l) (byt (l.drop 6)) (rdN l) (l.drop 14) g2)
        clear g2 S1 S2 hB1 hbt1 eB eT hC'
        have t1 : decide ((1514 : Int) < (l.length : Int)) = false := by simp; omega
        have t2 : ((byt (l.drop 6) 0 : Int) % 2 == 1) = false := by simp; omega
        have t3 : decide ((1500 : Int) < (rdN l : Int)) = true := by simp; omega
        have t4 : decide ((rdN l : Int) < 1536) = false := by simp; omega
        have t5 : decide ((1536 : Int) ≤ (rdN l : Int)) = true := by simp; omega
        clear hA hBg hC hC2 hl' hN3 h60 h1 h2
        go_wp2_with fail
        change bodyPost Try.prog Try.f13 _ _ _ (rf14 ((W2.setCell ⟨w.heap.size + 1, 12, none⟩ (.int .i64 (rdN l))).setCell ⟨w.heap.size + 1, 13, none⟩ (strV (l.drop 14))) w.heap.size (byt l) (byt (l.drop 6)) (rdN l) (l.drop 14))
        generalize rf14 ((W2.setCell ⟨w.heap.size + 1, 12, none⟩ (.int .i64 (rdN l))).setCell ⟨w.heap.size + 1, 13, none⟩ (strV (l.drop 14))) w.heap.size (byt l) (byt (l.drop 6)) (rdN l) (l.drop 14) = W4 at *
        clear k0 k1 k2 k3 k4 k5 k6 k7 k8 k9 k10 k11 k12 k13 j0 j1 j2 j3 j4 j5 j6 j7 j8 j9 j10 j11 j12 j13 f0
        obtain ⟨k0, k1, k2, k3, k4, k5, k6, k7, k8, k9, k10, k11, k12, k13⟩ := R1.out.rfCells
        exact bodyPost_ret (v := .tuple #[rfV (byt l) (byt (l.drop 6)) (rdN l) (l.drop 14), .int .i64 0]) (by simp [results, Try.results13, go_sem, k0, k1, k2, k3, k4, k5, k6, k7, k8, k9, k10, k11, k12, k13]) rfl ⟨by rw [e1.out, e2.out]; rfl, HB3.out⟩
      have hC' : ¬ (1500 < rdN l ∧ rdN l < 1536) := by omega
      by_cases hD : (l.length : Int) - 14 < rdN l
      · have e1 := Lib.hid (show rdE l = 2 by unfold rdE; rw [if_neg H60.out, if_neg hA'.out, if_neg hBg'.out, if_neg hC', if_pos ⟨by omega, by omega⟩])
        clear hC' hl' hN3 h2 h1
        obtain ⟨x0, y0, t0, l0, g2⟩ : ∃ x0 y0 t0 l0, VarAt W2 w.heap.size (rfC x0 y0 t0 l0) 30 := ⟨fun _ => 0, fun _ => 0, 0, [], HR2.out⟩
        obtain ⟨j0, j1, j2, j3, j4, j5, j6, j7, j8, j9, j10, j11, j12, j13⟩ := g2.rfCells
        have f0 := g2.frozen
        have R1 := Lib.hid (rf14_rf (fun _ => 0) (fun _ => 0) 0 [] g2)
        have HB3 := Lib.hid (rf14_below (fun _ => 0) (fun _ => 0) 0 [] HB22.out (Nat.le_refl w.heap.size))
        rw [rfz14_eq] at R1 HB3
        have e2 := Lib.hid (show rdV l = rfV (fun _ => 0) (fun _ => 0) 0 [] by unfold rdV; rw [if_neg (by rw [e1.out]; omega)])
        clear g2
        have t1 : decide ((1514 : Int) < (l.length : Int)) = false := by simp; omega
        have t2 : ((byt (l.drop 6) 0 : Int) % 2 == 1) = false := by simp; omega
        have t3 : decide ((1500 : Int) < (rdN l : Int)) = false := by simp; omega
        have t5 : decide ((1536 : Int) ≤ (rdN l : Int)) = false := by simp; omega
        have t6 : decide ((l.length : Int) - 14 < (rdN l : Int)) = true := by simp; omega
        have w1 : wrap64 ((l.length : Int) - 14) = (l.length : Int) - 14 := by unfold wrap64; omega
        clear hA hBg hC hD h60
        go_wp2_with fail
        change bodyPost Try.prog Try.f13 _ _ _ (rfz14 W2 w.heap.size)
        generalize rfz14 W2 w.heap.size = W4 at *
        clear j0 j1 j2 j3 j4 j5 j6 j7 j8 j9 j10 j11 j12 j13 f0
        obtain ⟨k0, k1, k2, k3, k4, k5, k6, k7, k8, k9, k10, k11, k12, k13⟩ := R1.out.rfCells
        exact bodyPost_ret (v := .tuple #[rfV (fun _ => 0) (fun _ => 0) 0 [], .int .i64 2]) (by simp [results, Try.results13, go_sem, k0, k1, k2, k3, k4, k5, k6, k7, k8, k9, k10, k11, k12, k13]) rfl ⟨by rw [e1.out, e2.out]; rfl, HB3.out⟩
      have e1 := Lib.hid (show rdE l = 0 by unfold rdE; rw [if_neg H60.out, if_neg hA'.out, if_neg hBg'.out, if_neg hC', if_neg (by omega)])
      have hle : rdN l ≤ l.length - 14 := by omega
      have eB : rdB l = (l.drop 14).take (rdN l) := by unfold rdB bodyN; rw [if_neg (by omega)]
      have eT : rdT l = 0 := by unfold rdT; rw [if_neg (by omega)]
      have e2 := Lib.hid (show rdV l = rfV (byt l) (byt (l.drop 6)) 0 ((l.drop 14).take (rdN l)) by unfold rdV; rw [if_pos e1.out, eB, eT])
      have hconv : (convert 25 9 (.slice (some (cutA ⟨g, o, none⟩ cap 14)) (rdN l) (cap - 14))).run Try.prog W2 = .ok (strV ((l.drop 14).take (rdN l))) W2 := by
        rcases HBT2.out with ⟨hx, _⟩ | ⟨a', cap', he, q1, q2, q3, q4⟩
        · cases hx
        · cases he
          exact bts_string (bts_mid 14 (rdN l) (by omega) (by omega) q1 q2 q3 q4)
      have hsl : ∀ w, (Instr.slice 25 (.slice (some ⟨g, o, none⟩) l.length cap) (some (.int .i64 14)) (some (.int .i64 (14 + ((rdN l : Nat) : Int)))) none).run Try.prog w = .ok (.slice (some (cutA ⟨g, o, none⟩ cap 14)) (rdN l) (cap - 14)) w := by
        intro w
        have := slice_mid ⟨g, o, none⟩ l.length cap 14 (14 + rdN l) (by omega) (by omega) w
        rw [Nat.add_sub_cancel_left] at this
        exact this
      have S1 := HF2.out
      have c13 : W2.cell? ⟨w.heap.size + 1, 13, none⟩ = some (.string ⟨#[]⟩) := S1.cell 13
      have fz1 := S1.frozen
      have S2 := S1.set 13 (strV ((l.drop 14).take (rdN l)))
      have R0 : ∃ x0 y0 t0 l0, VarAt (W2.setCell ⟨w.heap.size + 1, 13, none⟩ (strV ((l.drop 14).take (rdN l)))) w.heap.size (rfC x0 y0 t0 l0) 30 := ⟨fun _ => 0, fun _ => 0, 0, [], (HR2.out.set_other (by simp) _)⟩
      obtain ⟨x0, y0, t0, l0, g2⟩ := R0
      obtain ⟨k0, k1, k2, k3, k4, k5, k6, k7, k8, k9, k10, k11, k12, k13⟩ := VarAt.rfCells (x := byt l) (y := byt (l.drop 6)) (t := 0) (l := ((l.drop 14).take (rdN l))) S2
      obtain ⟨j0, j1, j2, j3, j4, j5, j6, j7, j8, j9, j10, j11, j12, j13⟩ := g2.rfCells
      have f0 := g2.frozen
      have HB3 := Lib.hid (rf14_below (byt l) (byt (l.drop 6)) 0 ((l.drop 14).take (rdN l)) (show Below w.heap.size w (W2.setCell ⟨w.heap.size + 1, 13, none⟩ (strV ((l.drop 14).take (rdN l)))) from (HB22.out.setCell (p := ⟨w.heap.size + 1, 13, none⟩) (by show w.heap.size ≤ w.heap.size + 1; omega) _)) (Nat.le_refl w.heap.size))
      have R1 := Lib.hid (rf14_rf (byt l) (byt (l.drop 6)) 0 ((l.drop 14).take (rdN l)) g2)
      clear g2 S1 S2 eB eT hC' hle
      have t1 : decide ((1514 : Int) < (l.length : Int)) = false := by simp; omega
      have t2 : ((byt (l.drop 6) 0 : Int) % 2 == 1) = false := by simp; omega
      have t3 : decide ((1500 : Int) < (rdN l : Int)) = false := by simp; omega
      have t5 : decide ((1536 : Int) ≤ (rdN l : Int)) = false := by simp; omega
      have t6 : decide ((l.length : Int) - 14 < (rdN l : Int)) = false := by simp; omega
      have w1 : wrap64 ((l.length : Int) - 14) = (l.length : Int) - 14 := by unfold wrap64; omega
      have w2 : wrap64 (14 + (rdN l : Int)) = 14 + (rdN l : Int) := by unfold wrap64; omega
      clear hA hBg hC hD hl' hN3 h60 h1 h2
      go_wp2_with fail
      change bodyPost Try.prog Try.f13 _ _ _ (rf14 (W2.setCell ⟨w.heap.size + 1, 13, none⟩ (strV ((l.drop 14).take (rdN l)))) w.heap.size (byt l) (byt (l.drop 6)) 0 ((l.drop 14).take (rdN l)))
      generalize rf14 (W2.setCell ⟨w.heap.size + 1, 13, none⟩ (strV ((l.drop 14).take (rdN l)))) w.heap.size (byt l) (byt (l.drop 6)) 0 ((l.drop 14).take (rdN l)) = W4 at *
      clear k0 k1 k2 k3 k4 k5 k6 k7 k8 k9 k10 k11 k12 k13 j0 j1 j2 j3 j4 j5 j6 j7 j8 j9 j10 j11 j12 j13 f0
      obtain ⟨k0, k1, k2, k3, k4, k5, k6, k7, k8, k9, k10, k11, k12, k13⟩ := R1.out.rfCells
      exact bodyPost_ret (v := .tuple #[rfV (byt l) (byt (l.drop 6)) 0 ((l.drop 14).take (rdN l)), .int .i64 0]) (by simp [results, Try.results13, go_sem, k0, k1, k2, k3, k4, k5, k6, k7, k8, k9, k10, k11, k12, k13]) rfl ⟨by rw [e1.out, e2.out]; rfl, HB3.out⟩
end Go.Proofs.Ytfdhkbkonennjaa
