/- The reference's Read: the body, a Config. -/
import Derived.Test.YtdhmiekheecicaaDoorZ
namespace Go.Proofs.YtdhmiekheecicaaDoor
open Go.RowKit Go.Sort Go.Lib
/-- The reference's Read under way. -/
structure Rb (w : World) (X : Nat) (v : Value) (l : List UInt8) (xs : Array Value) (W : World) : Prop where
  x : VarAt W X xs 31
  z : VarAt W w.heap.size bpZ 31
  bts : Bts W w.heap.size v l
  below : Below w.heap.size w W
  ne : w.heap.size < X
theorem Rb.call {w W W' : World} {X : Nat} {v : Value} {l : List UInt8} {xs : Array Value} (h : Rb w X v l xs W) (hb : Below W.heap.size W W') : Rb w X v l xs W' :=
  ⟨h.x.below hb h.x.lt, h.z.below hb h.z.lt, h.bts.below hb h.below.size, below_next h.below hb, h.ne⟩
theorem Rb.set {w W : World} {X : Nat} {v : Value} {l : List UInt8} {xs : Array Value} (h : Rb w X v l xs W) (j : Nat) (u : Value) : Rb w X v l (xs.setIfInBounds j u) (W.setCell ⟨X, j, none⟩ u) :=
  have hn := h.ne
  ⟨h.x.set j u, h.z.set_other (a := ⟨X, j, none⟩) (by show w.heap.size ≠ X; omega) u, h.bts.below ((Below.refl w.heap.size W).setCell (p := ⟨X, j, none⟩) (Nat.le_of_lt hn) u) (Nat.le_refl _), h.below.setCell (p := ⟨X, j, none⟩) (Nat.le_of_lt hn) u, hn⟩
theorem Rb.all {w W : World} {X : Nat} {v : Value} {l : List UInt8} {xs : Array Value} (h : Rb w X v l xs W) : Bts W W.heap.size v l := h.bts.mono h.below.size
theorem Rb.first {w W0 : World} {v : Value} {l : List UInt8} (xs : Array Value) (hW : w.alloc (.cells bpZ 31) = W0) (hv : Bts w w.heap.size v l) : Rb w W0.heap.size v l xs (W0.alloc (.cells xs 31)) := by
  subst hW
  have hb := box_below w (.cells bpZ 31)
  have hs := alloc_size w (.cells bpZ 31)
  exact ⟨var_new _ _ _, (var_new w _ _).alloc _, (hv.below hb (Nat.le_refl _)).below (box_below _ _) (by omega), hb.alloc (by omega) _, by omega⟩
theorem flags_cut (F : Nat) : (F : Int) / 128 * 128 + (F : Int) % 2 = ((F / 128 * 128 + F % 2 : Nat) : Int) := by omega
set_option maxRecDepth 20000 in
set_option maxHeartbeats 8000000 in
theorem refRead_body1 (v : Value) (l : List UInt8) (w : World) (hv : Bts w w.heap.size v l) (hl : l.length ≤ 10000) (e0 : byt l 0 = 0) (e1 : byt l 1 = 0) (e3 : byt l 3 = 0) (hk : 35 ≤ l.length) {F R C B P A M H D : Nat} (EF : Hid (fd l 4 1 = F)) (ER : Hid (fd l 5 8 = R)) (EC : Hid (fd l 13 4 = C)) (EB : Hid (fd l 17 8 = B)) (EP : Hid (fd l 25 2 = P)) (EA : Hid (fd l 27 2 = A)) (EM : Hid (fd l 29 2 = M)) (EH : Hid (fd l 31 2 = H)) (ED : Hid (fd l 33 2 = D)) :
    Calls Tryd.prog 12 #[v] w fun e w' => (A < M → Refs w 1 (F / 128 * 128 + F % 2 : Nat) R C B P A M H D 0 e w') ∧ (¬ A < M → Refs w 0 0 0 0 0 0 0 0 0 0 5 e w') := by
  have hb := box_below w (.cells bpZ 31)
  have hvW := hv.below hb (Nat.le_refl _)
  obtain ⟨g, o, cap, rfl, h1, h2, hc⟩ := bts_cells hvW (by omega)
  have HL := Lib.hid hl
  have HK := Lib.hid hk
  have hF : F < 256 := by rw [← EF.out]; exact fd_lt l 4 1
  have eF : byt l 4 = F := by rw [← EF.out, fd_one (by omega)]
  generalize hW0 : w.alloc (.cells bpZ 31) = W0 at *
  have hs0 : W0.heap.size = w.heap.size + 1 := by rw [← hW0, alloc_size]
  have R0' := Rb.first (bpC 1 (F : Nat) 0 0 0 0 0 0 0 0) hW0 hv
  rw [hs0] at R0'
  have R0 := Lib.hid R0'
  clear R0'
  have c0 : W0.cell? ⟨g, o, none⟩ = some (.int .u8 0) := by have := hc 0 (by omega); rw [e0] at this; exact this
  have c1 : W0.cell? ⟨g, o + 1, none⟩ = some (.int .u8 0) := by have := hc 1 (by omega); rw [e1] at this; exact this
  have c3 : W0.cell? ⟨g, o + 3, none⟩ = some (.int .u8 0) := by have := hc 3 (by omega); rw [e3] at this; exact this
  have c4 : W0.cell? ⟨g, o + 4, none⟩ = some (.int .u8 (F : Nat)) := by have := hc 4 (by omega); rw [eF] at this; exact this
  have hL : decide ((l.length : Int) < 4) = false := by simp; omega
  have hL2 : decide ((l.length : Int) < 35) = false := by simp; omega
  have h5 : 5 ≤ l.length := by omega
  have hln : l.length ≤ 10000 := hl
  clear hv hvW h1 h2 hc e0 e1 e3 eF hb hl hk
  have C1 : Calls Tryd.prog 24 #[.slice (some ⟨g, o, none⟩) l.length cap, .int .i64 5, .int .i64 8] (W0.alloc (.cells (bpC 1 (F : Nat) 0 0 0 0 0 0 0 0) 31)) fun e w' => e = .returned (.int .u64 (fd l 5 8)) ∧ Below (W0.alloc (.cells (bpC 1 (F : Nat) 0 0 0 0 0 0 0 0) 31)).heap.size (W0.alloc (.cells (bpC 1 (F : Nat) 0 0 0 0 0 0 0 0) 31)) w' := number_any _ l 5 8 _ R0.out.all (by have := HK.out; omega) (by omega) (by omega) HL.out
  rw [ER.out] at C1
  go_enter Tryd.func12, Tryd.ntmps12
  go_wp2_with fail
  clear c0 c1  c3 c4 hL hL2 
  have HW0 := Lib.hid hW0
  clear hW0
  refine C1.mono ?_
  rintro e w1 ⟨rfl, hb⟩
  have RC := R0.out.call hb
  have hlt : R < 18446744073709551616 := by rw [← ER.out]; exact fd_lt l 5 8
  have q1 : w1.cell? ⟨(w.heap.size + 1), 2, none⟩ = some (.int .u64 0) := RC.x.cell 2
  have q2 := RC.x.frozen 2
  have T : Rb w (w.heap.size + 1) _ l (bpC 1 (F : Nat) (R : Nat) 0 0 0 0 0 0 0) _ := RC.set 2 (.int .u64 (R : Nat))
  have TH := Lib.hid T
  clear C1 hb RC R0 T
  go_wp2_with fail
  clear q1 q2 hlt
  generalize w1.setCell ⟨(w.heap.size + 1), 2, none⟩ (.int .u64 (R : Nat)) = W1 at *
  have R1 := TH
  clear TH
  have C2 : Calls Tryd.prog 24 #[.slice (some ⟨g, o, none⟩) l.length cap, .int .i64 13, .int .i64 4] W1 fun e w' => e = .returned (.int .u64 (fd l 13 4)) ∧ Below W1.heap.size W1 w' := number_any _ l 13 4 _ R1.out.all (by have := HK.out; omega) (by omega) (by omega) HL.out
  rw [EC.out] at C2
  refine C2.mono ?_
  rintro e w2 ⟨rfl, hb⟩
  have RC := R1.out.call hb
  have hlt : C < 4294967296 := by rw [← EC.out]; exact fd_lt l 13 4
  have q1 : w2.cell? ⟨(w.heap.size + 1), 3, none⟩ = some (.int .u32 0) := RC.x.cell 3
  have q2 := RC.x.frozen 3
  have T : Rb w (w.heap.size + 1) _ l (bpC 1 (F : Nat) (R : Nat) (C : Nat) 0 0 0 0 0 0) _ := RC.set 3 (.int .u32 (C : Nat))
  have TH := Lib.hid T
  clear C2 hb RC R1 T
  go_wp2_with fail
  clear q1 q2 hlt
  generalize w2.setCell ⟨(w.heap.size + 1), 3, none⟩ (.int .u32 (C : Nat)) = W2 at *
  have R2 := TH
  clear TH
  have C3 : Calls Tryd.prog 24 #[.slice (some ⟨g, o, none⟩) l.length cap, .int .i64 17, .int .i64 8] W2 fun e w' => e = .returned (.int .u64 (fd l 17 8)) ∧ Below W2.heap.size W2 w' := number_any _ l 17 8 _ R2.out.all (by have := HK.out; omega) (by omega) (by omega) HL.out
  rw [EB.out] at C3
  refine C3.mono ?_
  rintro e w3 ⟨rfl, hb⟩
  have RC := R2.out.call hb
  have hlt : B < 18446744073709551616 := by rw [← EB.out]; exact fd_lt l 17 8
  have q1 : w3.cell? ⟨(w.heap.size + 1), 4, none⟩ = some (.int .u64 0) := RC.x.cell 4
  have q2 := RC.x.frozen 4
  have T : Rb w (w.heap.size + 1) _ l (bpC 1 (F : Nat) (R : Nat) (C : Nat) (B : Nat) 0 0 0 0 0) _ := RC.set 4 (.int .u64 (B : Nat))
  have TH := Lib.hid T
  clear C3 hb RC R2 T
  go_wp2_with fail
  clear q1 q2 hlt
  generalize w3.setCell ⟨(w.heap.size + 1), 4, none⟩ (.int .u64 (B : Nat)) = W3 at *
  have R3 := TH
  clear TH
  have C4 : Calls Tryd.prog 24 #[.slice (some ⟨g, o, none⟩) l.length cap, .int .i64 25, .int .i64 2] W3 fun e w' => e = .returned (.int .u64 (fd l 25 2)) ∧ Below W3.heap.size W3 w' := number_any _ l 25 2 _ R3.out.all (by have := HK.out; omega) (by omega) (by omega) HL.out
  rw [EP.out] at C4
  refine C4.mono ?_
  rintro e w4 ⟨rfl, hb⟩
  have RC := R3.out.call hb
  have hlt : P < 65536 := by rw [← EP.out]; exact fd_lt l 25 2
  have q1 : w4.cell? ⟨(w.heap.size + 1), 5, none⟩ = some (.int .u16 0) := RC.x.cell 5
  have q2 := RC.x.frozen 5
  have T : Rb w (w.heap.size + 1) _ l (bpC 1 (F : Nat) (R : Nat) (C : Nat) (B : Nat) (P : Nat) 0 0 0 0) _ := RC.set 5 (.int .u16 (P : Nat))
  have TH := Lib.hid T
  clear C4 hb RC R3 T
  go_wp2_with fail
  clear q1 q2 hlt
  generalize w4.setCell ⟨(w.heap.size + 1), 5, none⟩ (.int .u16 (P : Nat)) = W4 at *
  have R4 := TH
  clear TH
  have C5 : Calls Tryd.prog 24 #[.slice (some ⟨g, o, none⟩) l.length cap, .int .i64 27, .int .i64 2] W4 fun e w' => e = .returned (.int .u64 (fd l 27 2)) ∧ Below W4.heap.size W4 w' := number_any _ l 27 2 _ R4.out.all (by have := HK.out; omega) (by omega) (by omega) HL.out
  rw [EA.out] at C5
  refine C5.mono ?_
  rintro e w5 ⟨rfl, hb⟩
  have RC := R4.out.call hb
  have hlt : A < 65536 := by rw [← EA.out]; exact fd_lt l 27 2
  have q1 : w5.cell? ⟨(w.heap.size + 1), 6, none⟩ = some (.int .u16 0) := RC.x.cell 6
  have q2 := RC.x.frozen 6
  have T : Rb w (w.heap.size + 1) _ l (bpC 1 (F : Nat) (R : Nat) (C : Nat) (B : Nat) (P : Nat) (A : Nat) 0 0 0) _ := RC.set 6 (.int .u16 (A : Nat))
  have TH := Lib.hid T
  clear C5 hb RC R4 T
  go_wp2_with fail
  clear q1 q2 hlt
  generalize w5.setCell ⟨(w.heap.size + 1), 6, none⟩ (.int .u16 (A : Nat)) = W5 at *
  have R5 := TH
  clear TH
  have C6 : Calls Tryd.prog 24 #[.slice (some ⟨g, o, none⟩) l.length cap, .int .i64 29, .int .i64 2] W5 fun e w' => e = .returned (.int .u64 (fd l 29 2)) ∧ Below W5.heap.size W5 w' := number_any _ l 29 2 _ R5.out.all (by have := HK.out; omega) (by omega) (by omega) HL.out
  rw [EM.out] at C6
  refine C6.mono ?_
  rintro e w6 ⟨rfl, hb⟩
  have RC := R5.out.call hb
  have hlt : M < 65536 := by rw [← EM.out]; exact fd_lt l 29 2
  have q1 : w6.cell? ⟨(w.heap.size + 1), 7, none⟩ = some (.int .u16 0) := RC.x.cell 7
  have q2 := RC.x.frozen 7
  have T : Rb w (w.heap.size + 1) _ l (bpC 1 (F : Nat) (R : Nat) (C : Nat) (B : Nat) (P : Nat) (A : Nat) (M : Nat) 0 0) _ := RC.set 7 (.int .u16 (M : Nat))
  have TH := Lib.hid T
  clear C6 hb RC R5 T
  go_wp2_with fail
  clear q1 q2 hlt
  generalize w6.setCell ⟨(w.heap.size + 1), 7, none⟩ (.int .u16 (M : Nat)) = W6 at *
  have R6 := TH
  clear TH
  have C7 : Calls Tryd.prog 24 #[.slice (some ⟨g, o, none⟩) l.length cap, .int .i64 31, .int .i64 2] W6 fun e w' => e = .returned (.int .u64 (fd l 31 2)) ∧ Below W6.heap.size W6 w' := number_any _ l 31 2 _ R6.out.all (by have := HK.out; omega) (by omega) (by omega) HL.out
  rw [EH.out] at C7
  refine C7.mono ?_
  rintro e w7 ⟨rfl, hb⟩
  have RC := R6.out.call hb
  have hlt : H < 65536 := by rw [← EH.out]; exact fd_lt l 31 2
  have q1 : w7.cell? ⟨(w.heap.size + 1), 8, none⟩ = some (.int .u16 0) := RC.x.cell 8
  have q2 := RC.x.frozen 8
  have T : Rb w (w.heap.size + 1) _ l (bpC 1 (F : Nat) (R : Nat) (C : Nat) (B : Nat) (P : Nat) (A : Nat) (M : Nat) (H : Nat) 0) _ := RC.set 8 (.int .u16 (H : Nat))
  have TH := Lib.hid T
  clear C7 hb RC R6 T
  go_wp2_with fail
  clear q1 q2 hlt
  generalize w7.setCell ⟨(w.heap.size + 1), 8, none⟩ (.int .u16 (H : Nat)) = W7 at *
  have R7 := TH
  clear TH
  have C8 : Calls Tryd.prog 24 #[.slice (some ⟨g, o, none⟩) l.length cap, .int .i64 33, .int .i64 2] W7 fun e w' => e = .returned (.int .u64 (fd l 33 2)) ∧ Below W7.heap.size W7 w' := number_any _ l 33 2 _ R7.out.all (by have := HK.out; omega) (by omega) (by omega) HL.out
  rw [ED.out] at C8
  refine C8.mono ?_
  rintro e w8 ⟨rfl, hb⟩
  have RC := R7.out.call hb
  have hlt : D < 65536 := by rw [← ED.out]; exact fd_lt l 33 2
  have q1 : w8.cell? ⟨(w.heap.size + 1), 9, none⟩ = some (.int .u16 0) := RC.x.cell 9
  have q2 := RC.x.frozen 9
  have T : Rb w (w.heap.size + 1) _ l (bpC 1 (F : Nat) (R : Nat) (C : Nat) (B : Nat) (P : Nat) (A : Nat) (M : Nat) (H : Nat) (D : Nat)) _ := RC.set 9 (.int .u16 (D : Nat))
  have TH := Lib.hid T
  clear C8 hb RC R7 T
  have RR := TH.out
  clear TH
  have hA : A < 65536 := by rw [← EA.out]; exact fd_lt l 27 2
  have hM : M < 65536 := by rw [← EM.out]; exact fd_lt l 29 2
  clear h5 hln HK HL EF ER EC EB EP EA EM EH ED
  by_cases tt : A < M
  case' neg =>
    have nt : M ≤ A := by omega
    obtain ⟨k0, k1, k2, k3, k4, k5, k6, k7, k8, k9⟩ := RR.x.bp
    have z := RR.z
    have R1 := Lib.hid (bp10_at 0 0 0 0 0 0 0 0 0 0 z)
    have R2 := Lib.hid (bp10_below 0 0 0 0 0 0 0 0 0 0 RR.below (Nat.le_refl _))
    obtain ⟨j0, j1, j2, j3, j4, j5, j6, j7, j8, j9⟩ := z.bp
    have f0 := z.frozen
    have TT := Lib.hid tt
    clear z RR tt
    go_wp2_with fail
    change bodyPost Tryd.prog Tryd.f12 _ _ _ (bp10 (w8.setCell ⟨w.heap.size + 1, 9, none⟩ (.int .u16 (D : Nat))) w.heap.size 0 0 0 0 0 0 0 0 0 0)
    generalize bp10 (w8.setCell ⟨w.heap.size + 1, 9, none⟩ (.int .u16 (D : Nat))) w.heap.size 0 0 0 0 0 0 0 0 0 0 = W9 at *
    clear j0 j1 j2 j3 j4 j5 j6 j7 j8 j9 f0 k0 k1 k2 k3 k4 k5 k6 k7 k8 k9
    obtain ⟨k0, k1, k2, k3, k4, k5, k6, k7, k8, k9⟩ := R1.out.bp
    exact bodyPost_ret (v := .tuple #[bpV 0 0 0 0 0 0 0 0 0 0, .int .i64 5]) (by simp [results, Tryd.results12, go_sem, k0, k1, k2, k3, k4, k5, k6, k7, k8, k9]) rfl ⟨fun h => absurd h TT.out, fun _ => ⟨rfl, R2.out⟩⟩
  have nt : ¬ M ≤ A := by omega
  have TT := Lib.hid tt
  clear tt
  have CR := refRole_any F hF (w8.setCell ⟨w.heap.size + 1, 9, none⟩ (.int .u16 (D : Nat)))
  obtain ⟨k0, k1, k2, k3, k4, k5, k6, k7, k8, k9⟩ := RR.x.bp
  have RH := Lib.hid RR
  clear RR
  go_wp2_with fail
  refine CR.mono ?_
  rintro e w9 ⟨rfl, rfl⟩
  have RR := RH.out
  clear RH CR q1 q2 hlt nt hA hM k0 k1 k2 k3 k4 k5 k6 k7 k8 k9
  generalize w8.setCell ⟨w.heap.size + 1, 9, none⟩ (.int .u16 (D : Nat)) = W8 at *
  have hq := flags_cut F
  generalize hFF : F / 128 * 128 + F % 2 = FF at *
  have HFF := Lib.hid hFF
  clear hFF
  have T : Rb w (w.heap.size + 1) _ l (bpC 1 (FF : Nat) (R : Nat) (C : Nat) (B : Nat) (P : Nat) (A : Nat) (M : Nat) (H : Nat) (D : Nat)) _ := RR.set 1 (.int .u8 (FF : Nat))
  obtain ⟨k0, k1, k2, k3, k4, k5, k6, k7, k8, k9⟩ := RR.x.bp
  have z := T.z
  have R1 := Lib.hid (bp10_at 1 (FF : Nat) (R : Nat) (C : Nat) (B : Nat) (P : Nat) (A : Nat) (M : Nat) (H : Nat) (D : Nat) z)
  have R2 := Lib.hid (bp10_below 1 (FF : Nat) (R : Nat) (C : Nat) (B : Nat) (P : Nat) (A : Nat) (M : Nat) (H : Nat) (D : Nat) T.below (Nat.le_refl _))
  obtain ⟨m0, m1, m2, m3, m4, m5, m6, m7, m8, m9⟩ := T.x.bp
  obtain ⟨j0, j1, j2, j3, j4, j5, j6, j7, j8, j9⟩ := z.bp
  have f0 := z.frozen
  have f1 := RR.x.frozen
  clear z RR T
  go_wp2_with fail
  change bodyPost Tryd.prog Tryd.f12 _ _ _ (bp10 (W8.setCell ⟨(w.heap.size + 1), 1, none⟩ (.int .u8 (FF : Nat))) w.heap.size 1 (FF : Nat) (R : Nat) (C : Nat) (B : Nat) (P : Nat) (A : Nat) (M : Nat) (H : Nat) (D : Nat))
  generalize bp10 (W8.setCell ⟨(w.heap.size + 1), 1, none⟩ (.int .u8 (FF : Nat))) w.heap.size 1 (FF : Nat) (R : Nat) (C : Nat) (B : Nat) (P : Nat) (A : Nat) (M : Nat) (H : Nat) (D : Nat) = W10 at *
  clear j0 j1 j2 j3 j4 j5 j6 j7 j8 j9 f0 f1 k0 k1 k2 k3 k4 k5 k6 k7 k8 k9 m0 m1 m2 m3 m4 m5 m6 m7 m8 m9
  obtain ⟨k0, k1, k2, k3, k4, k5, k6, k7, k8, k9⟩ := R1.out.bp
  exact bodyPost_ret (v := .tuple #[bpV 1 (FF : Nat) (R : Nat) (C : Nat) (B : Nat) (P : Nat) (A : Nat) (M : Nat) (H : Nat) (D : Nat), .int .i64 0]) (by simp [results, Tryd.results12, go_sem, k0, k1, k2, k3, k4, k5, k6, k7, k8, k9]) rfl ⟨fun _ => ⟨by rw [HFF.out], R2.out⟩, fun h => absurd TT.out h⟩
end Go.Proofs.YtdhmiekheecicaaDoor
