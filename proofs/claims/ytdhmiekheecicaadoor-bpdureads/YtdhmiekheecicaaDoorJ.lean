/- The bytes of a message: heads and bodies, the program's and the reference's. -/
import Derived.Test.YtdhmiekheecicaaDoorI
namespace Go.Proofs.YtdhmiekheecicaaDoor
open Go.RowKit Go.Sort

/-- Bytes of one's own, made behind w. -/
def Puts (w : World) (L : List UInt8) (v : Value) (w' : World) : Prop := ∃ base, w.heap.size ≤ base ∧ w'.ownsRow base 5 1 v L.length (L.map bV) ∧ Below w.heap.size w w'
theorem Puts.bts {w w' : World} {L : List UInt8} {v : Value} (h : Puts w L v w') : Bts w' w'.heap.size v L := by obtain ⟨_, _, h, _⟩ := h; exact bts_of_own h
theorem Puts.below {w w' : World} {L : List UInt8} {v : Value} (h : Puts w L v w') : Below w.heap.size w w' := by obtain ⟨_, _, _, h⟩ := h; exact h
theorem Puts.far {w w' : World} {L : List UInt8} {v : Value} (h : Puts w L v w') : Far w.heap.size v := by
  obtain ⟨base, hb, h, _⟩ := h
  intro a n c he
  have := far_of_own h a n c he
  omega
theorem Puts.back {w0 w w' : World} {L : List UInt8} {v : Value} (h : Puts w L v w') (hb : Below w0.heap.size w0 w) : Puts w0 L v w' := by
  obtain ⟨base, h1, h2, h3⟩ := h
  exact ⟨base, Nat.le_trans hb.size h1, h2, below_next hb h3⟩
theorem put2 {w w1 : World} {L : List UInt8} {v : Value} {B : Nat} (hb : Below w.heap.size w w1) (h : Bts w1 B v L) (hB : B ≤ w1.heap.size) (hL : L.length ≤ 10000) (k n : Nat) (hk : k ≤ 8) (hn : n < 18446744073709551616) :
    Calls Tryd.prog 18 #[v, .int .i64 k, .int .u64 n] w1 fun e w2 => ∃ v', e = .returned v' ∧ Puts w (L ++ lw n k k) v' w2 ∧ Below w1.heap.size w1 w2 :=
  (put_any v L B k n w1 h hB hL hk hn).mono fun _ _ ⟨v', he, ho, hb2⟩ => ⟨v', he, ⟨_, hb.size, ho, below_next hb hb2⟩, hb2⟩
theorem refPut2 {w w1 : World} {L : List UInt8} {v : Value} {B : Nat} (hb : Below w.heap.size w w1) (h : Bts w1 B v L) (hB : B ≤ w1.heap.size) (hL : L.length ≤ 10000) (k n : Nat) (hk : k ≤ 8) (hn : n < 18446744073709551616) :
    Calls Tryd.prog 33 #[v, .int .i64 k, .int .u64 n] w1 fun e w2 => ∃ v', e = .returned v' ∧ Puts w (L ++ lw n k k) v' w2 ∧ Below w1.heap.size w1 w2 :=
  (refPut_any v L B k n w1 h hB hL hk hn).mono fun _ _ ⟨v', he, ho, hb2⟩ => ⟨v', he, ⟨_, hb.size, ho, below_next hb hb2⟩, hb2⟩

/-- A head's bytes. -/
def hdB (v k : Nat) : List UInt8 := (lw 0 2 2 ++ lw v 1 1) ++ lw k 1 1
set_option maxHeartbeats 1000000 in
theorem putHead_any (v k : Nat) (hv : v < 18446744073709551616) (hk : k < 18446744073709551616) (w : World) :
    Calls Tryd.prog 16 #[.int .u64 v, .int .u64 k] w fun e w' => ∃ x, e = .returned x ∧ Puts w (hdB v k) x w' ∧ Below w.heap.size w w' := by
  have c1 := put2 (w := w) (w1 := w) (L := []) (v := .slice none 0 0) (B := 0) (Below.refl _ _) (.inl ⟨rfl, rfl⟩) (Nat.zero_le _) (by simp) 2 0 (by omega) (by omega)
  have HV := Lib.hid hv
  have HK := Lib.hid hk
  clear hv hk
  go_enter Tryd.func16, Tryd.ntmps16
  go_wp2_with fail
  refine c1.mono ?_
  rintro e w1 ⟨v1, rfl, P1, -⟩
  have c2 := put2 P1.below P1.bts (Nat.le_refl _) (by simp [lw_len]) 1 v (by omega) HV.out
  clear c1 P1
  go_wp2_with fail
  refine c2.mono ?_
  rintro e w2 ⟨v2, rfl, P2, -⟩
  have c3 := put2 P2.below P2.bts (Nat.le_refl _) (by simp [lw_len]) 1 k (by omega) HK.out
  clear c2 P2
  go_wp2_with fail
  refine c3.mono ?_
  rintro e w3 ⟨v3, rfl, P3, -⟩
  clear c3
  have Q := Lib.hid (show Puts w (hdB v k) v3 w3 by simpa [hdB] using P3)
  clear P3
  go_wp2_with fail
  go_ret
  exact ⟨v3, rfl, Q.out, Q.out.below⟩

/-- A body's bytes, behind others. -/
def bdH (l : List UInt8) (f r c b p : Nat) : List UInt8 := ((((l ++ lw f 1 1) ++ lw r 8 8) ++ lw c 4 4) ++ lw b 8 8) ++ lw p 2 2
def bdB (l : List UInt8) (f r c b p a m h d : Nat) : List UInt8 := (((bdH l f r c b p ++ lw a 2 2) ++ lw m 2 2) ++ lw h 2 2) ++ lw d 2 2
theorem bdB_len (l : List UInt8) (f r c b p a m h d : Nat) : (bdB l f r c b p a m h d).length = l.length + 31 := by simp [bdB, bdH, lw_len]
section four
variable (a m h d : Int) (w : World)
theorem four0 : (Instr.index 59 (.agg #[.int .u16 a, .int .u16 m, .int .u16 h, .int .u16 d]) (.int .i64 0)).run Tryd.prog w = .ok (.int .u16 a) w := by kernel_rfl
theorem four1 : (Instr.index 59 (.agg #[.int .u16 a, .int .u16 m, .int .u16 h, .int .u16 d]) (.int .i64 1)).run Tryd.prog w = .ok (.int .u16 m) w := by kernel_rfl
theorem four2 : (Instr.index 59 (.agg #[.int .u16 a, .int .u16 m, .int .u16 h, .int .u16 d]) (.int .i64 2)).run Tryd.prog w = .ok (.int .u16 h) w := by kernel_rfl
theorem four3 : (Instr.index 59 (.agg #[.int .u16 a, .int .u16 m, .int .u16 h, .int .u16 d]) (.int .i64 3)).run Tryd.prog w = .ok (.int .u16 d) w := by kernel_rfl
end four
set_option maxHeartbeats 4000000 in
theorem refBody_any (l : List UInt8) (v : Value) (B : Nat) (k : Int) (f r c b p a m h d : Nat) (w : World) (hv : Bts w B v l) (hB : B ≤ w.heap.size) (hl : l.length ≤ 1000) (hf : f < 256) (hr : r < 18446744073709551616) (hc : c < 4294967296) (hb : b < 18446744073709551616) (hp : p < 65536) (ha : a < 65536) (hm : m < 65536) (hh : h < 65536) (hd : d < 65536) :
    Calls Tryd.prog 23 #[v, bpV k f r c b p a m h d] w fun e w' => ∃ x, e = .returned x ∧ Puts w (bdB l f r c b p a m h d) x w' ∧ Below w.heap.size w w' := by
  obtain ⟨-, pp, cap, rfl, -⟩ := bts_parts hv
  have F0 := Lib.hid (var_new w (bpC k f r c b p a m h d) 31)
  have B0 := Lib.hid (box_below w (.cells (bpC k f r c b p a m h d) 31))
  have V0 := Lib.hid (hv.below (box_below w (.cells (bpC k f r c b p a m h d) 31)) hB)
  have hs0 := alloc_size w (.cells (bpC k f r c b p a m h d) 31)
  have HB := Lib.hid hB
  have HL := Lib.hid hl
  have Hf := Lib.hid hf
  have Hr := Lib.hid hr
  have Hc := Lib.hid hc
  have Hb := Lib.hid hb
  have Hp := Lib.hid hp
  have Ha := Lib.hid ha
  have Hm := Lib.hid hm
  have Hh := Lib.hid hh
  have Hd := Lib.hid hd
  clear hv hB hl hf hr hc hb hp ha hm hh hd
  have q1 : (w.alloc (.cells (bpC k f r c b p a m h d) 31)).cell? ⟨w.heap.size, 1, none⟩ = some (.int .u8 f) := F0.out.cell 1
  have c1 := refPut2 (w := w) B0.out V0.out (by have := HB.out; omega) (by have := HL.out; omega) 1 f (by omega) (by have := Hf.out; omega)
  have uu := Hf.out
  clear hs0
  go_enter Tryd.func23, Tryd.ntmps23
  go_wp2_with fail
  refine c1.mono ?_
  rintro e w1 ⟨v1, rfl, P1, hb1⟩
  have G1 := F0.out.below hb1 F0.out.lt
  clear c1 q1 uu hb1
  have q2 : w1.cell? ⟨w.heap.size, 2, none⟩ = some (.int .u64 r) := G1.cell 2
  have FF1 := Lib.hid G1
  have c2 := refPut2 (w := w) P1.below P1.bts (Nat.le_refl _) (by have := HL.out; simp [lw_len]; omega) 8 r (by omega) (by have := Hr.out; omega)
  have uu := Hr.out
  clear G1 P1
  go_wp2_with fail
  refine c2.mono ?_
  rintro e w2 ⟨v2, rfl, P2, hb2⟩
  have G2 := FF1.out.below hb2 FF1.out.lt
  clear c2 q2 FF1 uu hb2
  have q3 : w2.cell? ⟨w.heap.size, 3, none⟩ = some (.int .u32 c) := G2.cell 3
  have FF2 := Lib.hid G2
  have c3 := refPut2 (w := w) P2.below P2.bts (Nat.le_refl _) (by have := HL.out; simp [lw_len]; omega) 4 c (by omega) (by have := Hc.out; omega)
  have uu := Hc.out
  clear G2 P2
  go_wp2_with fail
  refine c3.mono ?_
  rintro e w3 ⟨v3, rfl, P3, hb3⟩
  have G3 := FF2.out.below hb3 FF2.out.lt
  clear c3 q3 FF2 uu hb3
  have q4 : w3.cell? ⟨w.heap.size, 4, none⟩ = some (.int .u64 b) := G3.cell 4
  have FF3 := Lib.hid G3
  have c4 := refPut2 (w := w) P3.below P3.bts (Nat.le_refl _) (by have := HL.out; simp [lw_len]; omega) 8 b (by omega) (by have := Hb.out; omega)
  have uu := Hb.out
  clear G3 P3
  go_wp2_with fail
  refine c4.mono ?_
  rintro e w4 ⟨v4, rfl, P4, hb4⟩
  have G4 := FF3.out.below hb4 FF3.out.lt
  clear c4 q4 FF3 uu hb4
  have q5 : w4.cell? ⟨w.heap.size, 5, none⟩ = some (.int .u16 p) := G4.cell 5
  have FF4 := Lib.hid G4
  have c5 := refPut2 (w := w) P4.below P4.bts (Nat.le_refl _) (by have := HL.out; simp [lw_len]; omega) 2 p (by omega) (by have := Hp.out; omega)
  have uu := Hp.out
  clear G4 P4
  go_wp2_with fail
  refine c5.mono ?_
  rintro e w5 ⟨v5, rfl, P5, hb5⟩
  have G5 := FF4.out.below hb5 FF4.out.lt
  clear c5 q5 FF4 uu hb5
  have q6 : w5.cell? ⟨w.heap.size, 6, none⟩ = some (.int .u16 a) := G5.cell 6
  have FF5 := Lib.hid G5
  have c6 := refPut2 (w := w) P5.below P5.bts (Nat.le_refl _) (by have := HL.out; simp [lw_len]; omega) 2 a (by omega) (by have := Ha.out; omega)
  have uu := Ha.out
  clear G5 P5
  go_wp2_with fail
  refine c6.mono ?_
  rintro e w6 ⟨v6, rfl, P6, hb6⟩
  have G6 := FF5.out.below hb6 FF5.out.lt
  clear c6 q6 FF5 uu hb6
  have q7 : w6.cell? ⟨w.heap.size, 7, none⟩ = some (.int .u16 m) := G6.cell 7
  have FF6 := Lib.hid G6
  have c7 := refPut2 (w := w) P6.below P6.bts (Nat.le_refl _) (by have := HL.out; simp [lw_len]; omega) 2 m (by omega) (by have := Hm.out; omega)
  have uu := Hm.out
  clear G6 P6
  go_wp2_with fail
  refine c7.mono ?_
  rintro e w7 ⟨v7, rfl, P7, hb7⟩
  have G7 := FF6.out.below hb7 FF6.out.lt
  clear c7 q7 FF6 uu hb7
  have q8 : w7.cell? ⟨w.heap.size, 8, none⟩ = some (.int .u16 h) := G7.cell 8
  have FF7 := Lib.hid G7
  have c8 := refPut2 (w := w) P7.below P7.bts (Nat.le_refl _) (by have := HL.out; simp [lw_len]; omega) 2 h (by omega) (by have := Hh.out; omega)
  have uu := Hh.out
  clear G7 P7
  go_wp2_with fail
  refine c8.mono ?_
  rintro e w8 ⟨v8, rfl, P8, hb8⟩
  have G8 := FF7.out.below hb8 FF7.out.lt
  clear c8 q8 FF7 uu hb8
  have q9 : w8.cell? ⟨w.heap.size, 9, none⟩ = some (.int .u16 d) := G8.cell 9
  have FF8 := Lib.hid G8
  have c9 := refPut2 (w := w) P8.below P8.bts (Nat.le_refl _) (by have := HL.out; simp [lw_len]; omega) 2 d (by omega) (by have := Hd.out; omega)
  have uu := Hd.out
  clear G8 P8
  go_wp2_with fail
  refine c9.mono ?_
  rintro e w9 ⟨v9, rfl, P9, hb9⟩
  have G9 := FF8.out.below hb9 FF8.out.lt
  clear c9 q9 FF8 uu hb9
  have Q := Lib.hid (show Puts w (bdB l f r c b p a m h d) v9 w9 from P9)
  clear P9 G9
  go_wp2_with fail
  go_ret
  exact ⟨v9, rfl, Q.out, Q.out.below⟩
set_option maxHeartbeats 4000000 in
theorem putBody_any (l : List UInt8) (v : Value) (B : Nat) (k : Int) (f r c b p a m h d : Nat) (w : World) (hv : Bts w B v l) (hB : B ≤ w.heap.size) (hl : l.length ≤ 1000) (hf : f < 256) (hr : r < 18446744073709551616) (hc : c < 4294967296) (hb : b < 18446744073709551616) (hp : p < 65536) (ha : a < 65536) (hm : m < 65536) (hh : h < 65536) (hd : d < 65536) :
    Calls Tryd.prog 17 #[v, bpV k f r c b p a m h d] w fun e w' => ∃ x, e = .returned x ∧ Puts w (bdB l f r c b p a m h d) x w' ∧ Below w.heap.size w w' := by
  obtain ⟨-, pp, cap, rfl, -⟩ := bts_parts hv
  have F0 := Lib.hid (var_new w (bpC k f r c b p a m h d) 31)
  have B0 := Lib.hid (box_below w (.cells (bpC k f r c b p a m h d) 31))
  have V0 := Lib.hid (hv.below (box_below w (.cells (bpC k f r c b p a m h d) 31)) hB)
  have hs0 := alloc_size w (.cells (bpC k f r c b p a m h d) 31)
  have HB := Lib.hid hB
  have HL := Lib.hid hl
  have Hf := Lib.hid hf
  have Hr := Lib.hid hr
  have Hc := Lib.hid hc
  have Hb := Lib.hid hb
  have Hp := Lib.hid hp
  have Ha := Lib.hid ha
  have Hm := Lib.hid hm
  have Hh := Lib.hid hh
  have Hd := Lib.hid hd
  clear hv hB hl hf hr hc hb hp ha hm hh hd
  have q1 : (w.alloc (.cells (bpC k f r c b p a m h d) 31)).cell? ⟨w.heap.size, 1, none⟩ = some (.int .u8 f) := F0.out.cell 1
  have c1 := put2 (w := w) B0.out V0.out (by have := HB.out; omega) (by have := HL.out; omega) 1 f (by omega) (by have := Hf.out; omega)
  have uu := Hf.out
  clear hs0
  go_enter Tryd.func17, Tryd.ntmps17
  go_wp2_with fail
  refine c1.mono ?_
  rintro e w1 ⟨v1, rfl, P1, hb1⟩
  have G1 := F0.out.below hb1 F0.out.lt
  clear c1 q1 uu hb1
  have q2 : w1.cell? ⟨w.heap.size, 2, none⟩ = some (.int .u64 r) := G1.cell 2
  have FF1 := Lib.hid G1
  have c2 := put2 (w := w) P1.below P1.bts (Nat.le_refl _) (by have := HL.out; simp [lw_len]; omega) 8 r (by omega) (by have := Hr.out; omega)
  have uu := Hr.out
  clear G1 P1
  go_wp2_with fail
  refine c2.mono ?_
  rintro e w2 ⟨v2, rfl, P2, hb2⟩
  have G2 := FF1.out.below hb2 FF1.out.lt
  clear c2 q2 FF1 uu hb2
  have q3 : w2.cell? ⟨w.heap.size, 3, none⟩ = some (.int .u32 c) := G2.cell 3
  have FF2 := Lib.hid G2
  have c3 := put2 (w := w) P2.below P2.bts (Nat.le_refl _) (by have := HL.out; simp [lw_len]; omega) 4 c (by omega) (by have := Hc.out; omega)
  have uu := Hc.out
  clear G2 P2
  go_wp2_with fail
  refine c3.mono ?_
  rintro e w3 ⟨v3, rfl, P3, hb3⟩
  have G3 := FF2.out.below hb3 FF2.out.lt
  clear c3 q3 FF2 uu hb3
  have q4 : w3.cell? ⟨w.heap.size, 4, none⟩ = some (.int .u64 b) := G3.cell 4
  have FF3 := Lib.hid G3
  have c4 := put2 (w := w) P3.below P3.bts (Nat.le_refl _) (by have := HL.out; simp [lw_len]; omega) 8 b (by omega) (by have := Hb.out; omega)
  have uu := Hb.out
  clear G3 P3
  go_wp2_with fail
  refine c4.mono ?_
  rintro e w4 ⟨v4, rfl, P4, hb4⟩
  have G4 := FF3.out.below hb4 FF3.out.lt
  clear c4 q4 FF3 uu hb4
  have q5 : w4.cell? ⟨w.heap.size, 5, none⟩ = some (.int .u16 p) := G4.cell 5
  have FF4 := Lib.hid G4
  have c5 := put2 (w := w) P4.below P4.bts (Nat.le_refl _) (by have := HL.out; simp [lw_len]; omega) 2 p (by omega) (by have := Hp.out; omega)
  have uu := Hp.out
  clear G4 P4
  go_wp2_with fail
  refine c5.mono ?_
  rintro e w5 ⟨v5, rfl, P5, hb5⟩
  have G5 := FF4.out.below hb5 FF4.out.lt
  clear c5 q5 FF4 uu hb5
  have q6 : w5.cell? ⟨w.heap.size, 6, none⟩ = some (.int .u16 a) := G5.cell 6
  have q7 : w5.cell? ⟨w.heap.size, 7, none⟩ = some (.int .u16 m) := G5.cell 7
  have q8 : w5.cell? ⟨w.heap.size, 8, none⟩ = some (.int .u16 h) := G5.cell 8
  have q9 : w5.cell? ⟨w.heap.size, 9, none⟩ = some (.int .u16 d) := G5.cell 9
  have c6 := put2 (w := w) P5.below P5.bts (Nat.le_refl _) (by have := HL.out; simp [lw_len]; omega) 2 a (by omega) (by have := Ha.out; omega)
  clear G5 P5
  have uu := Ha.out
  have ix := four0 (a : Int) m h d
  go_wp2_with fail
  refine wp_loop_rounds 5 ?_
  rw [rounds_succ]
  go_wp2_with fail
  refine c6.mono ?_
  rintro e w6 ⟨v6, rfl, P6, -⟩
  have c7 := put2 (w := w) P6.below P6.bts (Nat.le_refl _) (by have := HL.out; simp [lw_len]; omega) 2 m (by omega) (by have := Hm.out; omega)
  clear ix c6 P6 uu q6 q7 q8 q9
  have uu := Hm.out
  have ix := four1 (a : Int) m h d
  go_wp2_with fail
  rw [rounds_succ]
  go_wp2_with fail
  refine c7.mono ?_
  rintro e w7 ⟨v7, rfl, P7, -⟩
  have c8 := put2 (w := w) P7.below P7.bts (Nat.le_refl _) (by have := HL.out; simp [lw_len]; omega) 2 h (by omega) (by have := Hh.out; omega)
  clear ix c7 P7 uu
  have uu := Hh.out
  have ix := four2 (a : Int) m h d
  go_wp2_with fail
  rw [rounds_succ]
  go_wp2_with fail
  refine c8.mono ?_
  rintro e w8 ⟨v8, rfl, P8, -⟩
  have c9 := put2 (w := w) P8.below P8.bts (Nat.le_refl _) (by have := HL.out; simp [lw_len]; omega) 2 d (by omega) (by have := Hd.out; omega)
  clear ix c8 P8 uu
  have uu := Hd.out
  have ix := four3 (a : Int) m h d
  go_wp2_with fail
  rw [rounds_succ]
  go_wp2_with fail
  refine c9.mono ?_
  rintro e w9 ⟨v9, rfl, P9, -⟩
  clear ix c9 uu
  have Q := Lib.hid (show Puts w (bdB l f r c b p a m h d) v9 w9 from P9)
  clear P9
  go_wp2_with fail
  rw [rounds_succ]
  go_wp2_with fail
  go_ret
  exact ⟨v9, rfl, Q.out, Q.out.below⟩
end Go.Proofs.YtdhmiekheecicaaDoor
