/- EtherSpanning: of any bytes, of any frame. -/
import Derived.Test.YtfdhkbkonennjaaV
import Derived.Test.YtfdhkbkonennjaaY
namespace Go.Proofs.Ytfdhkbkonennjaa
open Go.RowKit Go.Sort

theorem isP_sp (l : List UInt8) : isP grpN 0 (spB l) = true := by
  unfold isP spB
  simp [grpN]
theorem msgP_sp (l : List UInt8) : msgP grpN 0 (spB l) = l := by
  unfold msgP
  rw [isP_sp]
  simp [spB]
theorem sp_add (l : List UInt8) (h : l.length ≤ 2000) (w : World) : (Op.stringOp .add ⟨#[66, 66, 3]⟩ ⟨l.toArray⟩).run Try.prog w = .ok (strV (spB l)) w := run_string_add_lists _ mark l (by simp) (by omega)
abbrev frS (y : Nat → Nat) (v : Value) : Value := .agg #[.int .u8 (grpN 0), .int .u8 (grpN 1), .int .u8 (grpN 2), .int .u8 (grpN 3), .int .u8 (grpN 4), .int .u8 (grpN 5), .int .u8 (y 0), .int .u8 (y 1), .int .u8 (y 2), .int .u8 (y 3), .int .u8 (y 4), .int .u8 (y 5), .int .u16 0, v]
abbrev rfS (y : Nat → Nat) (l : List UInt8) : Value := .agg #[.int .u8 (grpN 0), .int .u8 (grpN 1), .int .u8 (grpN 2), .int .u8 (grpN 3), .int .u8 (grpN 4), .int .u8 (grpN 5), .int .u8 (y 0), .int .u8 (y 1), .int .u8 (y 2), .int .u8 (y 3), .int .u8 (y 4), .int .u8 (y 5), .int .i64 0, strV l]
abbrev macC (y : Nat → Nat) : Array Value := #[.int .u8 (y 0), .int .u8 (y 1), .int .u8 (y 2), .int .u8 (y 3), .int .u8 (y 4), .int .u8 (y 5)]
/-- Memory when EtherSpanning begins. -/
theorem spanW_facts (w : World) (y a b : Nat → Nat) (t : Nat) (v : Value) : VarAt ((w.alloc (.cells (macC y) 23)).alloc (.cells (frC a b t v) 27)) w.heap.size (macC y) 23 ∧ VarAt ((w.alloc (.cells (macC y) 23)).alloc (.cells (frC a b t v) 27)) (w.heap.size + 1) (frC a b t v) 27 ∧ Below w.heap.size w ((w.alloc (.cells (macC y) 23)).alloc (.cells (frC a b t v) 27)) := by
  refine ⟨(var_new w _ _).alloc _, ?_, (box_below _ _).alloc (by rw [alloc_size]; omega) _⟩
  have := var_new (w.alloc (.cells (macC y) 23)) (frC a b t v) 27
  rwa [alloc_size] at this

set_option maxRecDepth 20000 in
set_option maxHeartbeats 4000000 in
theorem spanning_long (y a b : Nat → Nat) (t : Nat) (p p2 : Option Addr) (n n2 cap cap2 : Nat) (w : World) (hn : n ≤ 9223372036854775807) (hn2 : n2 ≤ 9223372036854775807) (hl : 2000 < n ∨ 2000 < n2) :
    Calls Try.prog 5 #[macV y, .slice p n cap, frV a b t (.slice p2 n2 cap2)] w fun e w' => e = .returned (.bool true) ∧ Below w.heap.size w w' := by
  obtain ⟨-, f0, hb0⟩ := spanW_facts w y a b t (.slice p2 n2 cap2)
  have HF0 := Lib.hid f0
  have HB0 := Lib.hid hb0
  clear f0 hb0
  by_cases h1 : 2000 < n
  · have t1 : decide ((2000 : Int) < (n : Int)) = true := by simp; omega
    clear hl hn hn2 h1
    go_enter Try.func5, Try.ntmps5
    go_wp2_with fail
    refine (lives_any _).mono ?_
    rintro e w1 ⟨rfl, hb1⟩
    have HB1 := Lib.hid (below_next HB0.out hb1)
    clear hb1 HF0 HB0
    go_wp2_with fail
    refine (lives_any _).mono ?_
    rintro e w2 ⟨rfl, hb2⟩
    have HB2 := Lib.hid (below_next HB1.out hb2)
    clear hb2 HB1
    go_wp2_with fail
    go_ret
    exact ⟨rfl, HB2.out⟩
  · have t1 : decide ((2000 : Int) < (n : Int)) = false := by simp; omega
    have t2 : decide ((2000 : Int) < (n2 : Int)) = true := by simp; omega
    clear hl hn hn2 h1
    go_enter Try.func5, Try.ntmps5
    go_wp2_with fail
    refine (lives_any _).mono ?_
    rintro e w1 ⟨rfl, hb1⟩
    have k13 : w1.cell? ⟨w.heap.size + 1, 13, none⟩ = some (.slice p2 n2 cap2) := (HF0.out.below hb1 HF0.out.lt).cell 13
    have HB1 := Lib.hid (below_next HB0.out hb1)
    clear hb1 HF0 HB0
    go_wp2_with fail
    refine (lives_any _).mono ?_
    rintro e w2 ⟨rfl, hb2⟩
    have HB2 := Lib.hid (below_next HB1.out hb2)
    clear hb2 HB1
    go_wp2_with fail
    go_ret
    exact ⟨rfl, HB2.out⟩

set_option maxRecDepth 20000 in
set_option maxHeartbeats 40000000 in
theorem spanning_all (y a b : Nat → Nat) (t : Nat) (v v2 : Value) (l l2 : List UInt8) (w : World) (ht : t < 65536) (hv : Bts w w.heap.size v l) (hv2 : Bts w w.heap.size v2 l2) (hl : l.length ≤ 2000) (hl2 : l2.length ≤ 2000) :
    Calls Try.prog 5 #[macV y, v, frV a b t v2] w fun e w' => e = .returned (.bool true) ∧ Below w.heap.size w w' := by
  obtain ⟨p, cap, rfl, -⟩ := bts_len hv
  obtain ⟨p2, cap2, rfl, -⟩ := bts_len hv2
  obtain ⟨m0, f0, hb0⟩ := spanW_facts w y a b t (.slice p2 l2.length cap2)
  have H0 := Lib.hid (And.intro m0 (And.intro f0 hb0))
  have HV := Lib.hid (And.intro hv hv2)
  have HL := Lib.hid (And.intro hl (And.intro hl2 ht))
  have t1 : decide ((2000 : Int) < (l.length : Int)) = false := by simp; omega
  have t2 : decide ((2000 : Int) < (l2.length : Int)) = false := by simp; omega
  clear m0 f0 hb0 hv hv2 hl hl2 ht
  go_enter Try.func5, Try.ntmps5
  go_wp2_with fail
  refine (lives_any _).mono ?_
  rintro e w1 ⟨rfl, hb1⟩
  obtain ⟨m0, f0, hb0⟩ := H0.out
  have m1 := m0.below hb1 m0.lt
  have f1 := f0.below hb1 f0.lt
  have hw1 := below_next hb0 hb1
  obtain ⟨k0, k1, k2, k3, k4, k5⟩ := m1.macCells
  have k13 : w1.cell? ⟨w.heap.size + 1, 13, none⟩ = some (.slice p2 l2.length cap2) := f1.cell 13
  have c2 := spanning_any y (.slice p l.length cap) l w1 ((HV.out.1.below hw1 (Nat.le_refl _)).mono hw1.size) (by have := HL.out; omega)
  have H1 := Lib.hid (And.intro m1 (And.intro f1 hw1))
  clear m0 f0 hb0 H0 m1 f1 hw1 hb1
  go_wp2_with fail
  refine c2.mono ?_
  rintro e w2 ⟨sv, rfl, sb, hb2⟩
  obtain ⟨pv, capv, rfl, -⟩ := bts_len sb
  clear k0 k1 k2 k3 k4 k5 k13 c2 t1 t2
  obtain ⟨m1, f1, hw1⟩ := H1.out
  have h3 := box_below w2 (.cells (frC grpN y 0 (.slice pv (spB l).length capv)) 27)
  have s3 := var_new w2 (frC grpN y 0 (.slice pv (spB l).length capv)) 27
  have m3 := (m1.below hb2 m1.lt).below h3 (Nat.lt_of_lt_of_le m1.lt hb2.size)
  have f3 := (f1.below hb2 f1.lt).below h3 (Nat.lt_of_lt_of_le f1.lt hb2.size)
  have b3 := sb.below h3 (Nat.le_refl _)
  have hw3 := below_next (below_next hw1 hb2) h3
  have c4 := bpdu_any grpN y 0 _ (spB l) _ (b3.mono (Nat.le_of_lt s3.lt)) (by rw [spB_len]; have := HL.out; omega)
  rw [isP_sp, msgP_sp] at c4
  obtain ⟨k0, k1, k2, k3, k4, k5, k6, k7, k8, k9, k10, k11, k12, k13⟩ := s3.frCells
  have H3 := Lib.hid (And.intro m3 (And.intro f3 (And.intro s3 (And.intro b3 hw3))))
  clear m1 f1 hw1 H1 h3 s3 m3 f3 b3 hw3 hb2 sb
  go_wp2_with fail
  refine c4.mono ?_
  rintro e w4 ⟨pm, rfl, bp4, -, hb4⟩
  obtain ⟨m3, f3, s3, b3, hw3⟩ := H3.out
  have m4 := m3.below hb4 m3.lt
  have f4 := f3.below hb4 f3.lt
  have s4 := s3.below hb4 s3.lt
  have b4 := b3.below hb4 (Nat.le_of_lt s3.lt)
  have hw4 := below_next hw3 hb4
  clear k0 k1 k2 k3 k4 k5 k6 k7 k8 k9 k10 k11 k12 k13 c4 H3 m3 f3 s3 b3 hw3 hb4
  generalize hsb : w2.heap.size = sk at *
  clear hsb
  obtain ⟨k0, k1, k2, k3, k4, k5, k6, k7, k8, k9, k10, k11, k12, k13⟩ := f4.frCells
  have c5 := bpdu_any a b t (.slice p2 l2.length cap2) l2 w4 ((HV.out.2.below hw4 (Nat.le_refl _)).mono hw4.size) (by have := HL.out; omega)
  have H4 := Lib.hid (And.intro m4 (And.intro f4 (And.intro s4 (And.intro b4 (And.intro hw4 bp4)))))
  clear m4 f4 s4 b4 hw4 bp4
  go_wp2_with fail
  refine c5.mono ?_
  rintro e w5 ⟨qm, rfl, bq5, -, hb5⟩
  obtain ⟨m4, f4, s4, b4, hw4, bp4⟩ := H4.out
  have m5 := m4.below hb5 m4.lt
  have f5 := f4.below hb5 f4.lt
  have s5 := s4.below hb5 s4.lt
  have b5 := b4.below hb5 (Nat.le_of_lt s4.lt)
  have hw5 := below_next hw4 hb5
  have bp5 := (bp4.below hb5 (Nat.le_refl _)).mono hb5.size
  clear k0 k1 k2 k3 k4 k5 k6 k7 k8 k9 k10 k11 k12 k13 c5 H4 m4 f4 s4 b4 hw4 bp4 hb5
  obtain ⟨k0, k1, k2, k3, k4, k5, k6, k7, k8, k9, k10, k11, k12, k13⟩ := f5.frCells
  have c6 := plain_any a b t (.slice p2 l2.length cap2) l2 w.heap.size w5 HL.out.2.2 (HV.out.2.below hw5 (Nat.le_refl _)) hw5.size
  have H5 := Lib.hid (And.intro m5 (And.intro s5 (And.intro b5 (And.intro hw5 (And.intro bp5 bq5)))))
  clear m5 f5 s5 b5 hw5 bp5 bq5
  go_wp2_with fail
  refine c6.mono ?_
  rintro e w6 ⟨rfl, hb6⟩
  obtain ⟨m5, s5, b5, hw5, bp5, bq5⟩ := H5.out
  have m6 := m5.below hb6 m5.lt
  have s6 := s5.below hb6 s5.lt
  have b6 := b5.below hb6 (Nat.le_of_lt s5.lt)
  have hw6 := below_next hw5 hb6
  have bp6 := (bp5.below hb6 (Nat.le_refl _)).mono hb6.size
  have bq6 := (bq5.below hb6 (Nat.le_refl _)).mono hb6.size
  clear k0 k1 k2 k3 k4 k5 k6 k7 k8 k9 k10 k11 k12 k13 c6 H5 m5 s5 b5 hw5 bp5 bq5 hb6
  have c7 := refBpdu_any a b t l2 w6 (by have := HL.out; omega)
  have H6 := Lib.hid (And.intro m6 (And.intro s6 (And.intro b6 (And.intro hw6 (And.intro bp6 bq6)))))
  clear m6 s6 b6 hw6 bp6 bq6
  go_wp2_with fail
  refine c7.mono ?_
  rintro e w7 ⟨rfl, hb7⟩
  obtain ⟨m6, s6, b6, hw6, bp6, bq6⟩ := H6.out
  have m7 := m6.below hb7 m6.lt
  have s7 := s6.below hb7 s6.lt
  have b7 := b6.below hb7 (Nat.le_of_lt s6.lt)
  have hw7 := below_next hw6 hb7
  have bp7 := (bp6.below hb7 (Nat.le_refl _)).mono hb7.size
  have bq7 := (bq6.below hb7 (Nat.le_refl _)).mono hb7.size
  clear c7 H6 m6 s6 b6 hw6 bp6 bq6 hb7
  generalize isP a t l2 = ip at *
  generalize msgP a t l2 = mp at *
  obtain ⟨k0, k1, k2, k3, k4, k5⟩ := m7.macCells
  have ev := bts_string (HV.out.1.below hw7 (Nat.le_refl _))
  have hadd : ∀ w, (Op.stringOp .add ⟨#[66, 66, 3]⟩ ⟨l.toArray⟩).run Try.prog w = .ok (strV (spB l)) w := fun w => sp_add l (by have := HL.out; omega) w
  have H7 := Lib.hid (And.intro s7 (And.intro b7 (And.intro hw7 (And.intro bp7 bq7))))
  clear m7 s7 b7 hw7 bp7 bq7
  go_wp2_with fail
  obtain ⟨s7, b7, hw7, bp7, bq7⟩ := H7.out
  have h8 := box_below w7 (.cells (rfC grpN y 0 (spB l)) 30)
  have x8 := var_new w7 (rfC grpN y 0 (spB l)) 30
  have s8 := s7.below h8 s7.lt
  have b8 := b7.below h8 (Nat.le_of_lt s7.lt)
  have hw8 := below_next hw7 h8
  have bp8 := bp7.below h8 (Nat.le_refl _)
  have bq8 := bq7.below h8 (Nat.le_refl _)
  have hle8 := h8.size
  clear k0 k1 k2 k3 k4 k5 ev hadd H7 s7 b7 hw7 bp7 bq7 h8
  change Code.wp _ _ _ _ (w7.alloc (.cells (rfC grpN y 0 (spB l)) 30))
  generalize w7.alloc (.cells (rfC grpN y 0 (spB l)) 30) = w8 at *
  generalize w7.heap.size = bx at *
  have fa0 : ∀ d os, (grow (redrawn w8 d) os).cell? ⟨sk, 0, none⟩ = some (.int .u8 (grpN 0)) := fun d os => (VarAt.grown' s8 d os).cell 0
  have fa1 : ∀ d os, (grow (redrawn w8 d) os).cell? ⟨sk, 1, none⟩ = some (.int .u8 (grpN 1)) := fun d os => (VarAt.grown' s8 d os).cell 1
  have fa2 : ∀ d os, (grow (redrawn w8 d) os).cell? ⟨sk, 2, none⟩ = some (.int .u8 (grpN 2)) := fun d os => (VarAt.grown' s8 d os).cell 2
  have fa3 : ∀ d os, (grow (redrawn w8 d) os).cell? ⟨sk, 3, none⟩ = some (.int .u8 (grpN 3)) := fun d os => (VarAt.grown' s8 d os).cell 3
  have fa4 : ∀ d os, (grow (redrawn w8 d) os).cell? ⟨sk, 4, none⟩ = some (.int .u8 (grpN 4)) := fun d os => (VarAt.grown' s8 d os).cell 4
  have fa5 : ∀ d os, (grow (redrawn w8 d) os).cell? ⟨sk, 5, none⟩ = some (.int .u8 (grpN 5)) := fun d os => (VarAt.grown' s8 d os).cell 5
  have fa6 : ∀ d os, (grow (redrawn w8 d) os).cell? ⟨sk, 6, none⟩ = some (.int .u8 (y 0)) := fun d os => (VarAt.grown' s8 d os).cell 6
  have fa7 : ∀ d os, (grow (redrawn w8 d) os).cell? ⟨sk, 7, none⟩ = some (.int .u8 (y 1)) := fun d os => (VarAt.grown' s8 d os).cell 7
  have fa8 : ∀ d os, (grow (redrawn w8 d) os).cell? ⟨sk, 8, none⟩ = some (.int .u8 (y 2)) := fun d os => (VarAt.grown' s8 d os).cell 8
  have fa9 : ∀ d os, (grow (redrawn w8 d) os).cell? ⟨sk, 9, none⟩ = some (.int .u8 (y 3)) := fun d os => (VarAt.grown' s8 d os).cell 9
  have fa10 : ∀ d os, (grow (redrawn w8 d) os).cell? ⟨sk, 10, none⟩ = some (.int .u8 (y 4)) := fun d os => (VarAt.grown' s8 d os).cell 10
  have fa11 : ∀ d os, (grow (redrawn w8 d) os).cell? ⟨sk, 11, none⟩ = some (.int .u8 (y 5)) := fun d os => (VarAt.grown' s8 d os).cell 11
  have fa12 : ∀ d os, (grow (redrawn w8 d) os).cell? ⟨sk, 12, none⟩ = some (.int .u16 0) := fun d os => (VarAt.grown' s8 d os).cell 12
  have fa13 : ∀ d os, (grow (redrawn w8 d) os).cell? ⟨sk, 13, none⟩ = some (.slice pv (spB l).length capv) := fun d os => (VarAt.grown' s8 d os).cell 13
  have rb0 : ∀ d os, (grow (redrawn w8 d) os).cell? ⟨bx, 0, none⟩ = some (.int .u8 (grpN 0)) := fun d os => (VarAt.grown' x8 d os).cell 0
  have rb1 : ∀ d os, (grow (redrawn w8 d) os).cell? ⟨bx, 1, none⟩ = some (.int .u8 (grpN 1)) := fun d os => (VarAt.grown' x8 d os).cell 1
  have rb2 : ∀ d os, (grow (redrawn w8 d) os).cell? ⟨bx, 2, none⟩ = some (.int .u8 (grpN 2)) := fun d os => (VarAt.grown' x8 d os).cell 2
  have rb3 : ∀ d os, (grow (redrawn w8 d) os).cell? ⟨bx, 3, none⟩ = some (.int .u8 (grpN 3)) := fun d os => (VarAt.grown' x8 d os).cell 3
  have rb4 : ∀ d os, (grow (redrawn w8 d) os).cell? ⟨bx, 4, none⟩ = some (.int .u8 (grpN 4)) := fun d os => (VarAt.grown' x8 d os).cell 4
  have rb5 : ∀ d os, (grow (redrawn w8 d) os).cell? ⟨bx, 5, none⟩ = some (.int .u8 (grpN 5)) := fun d os => (VarAt.grown' x8 d os).cell 5
  have rb6 : ∀ d os, (grow (redrawn w8 d) os).cell? ⟨bx, 6, none⟩ = some (.int .u8 (y 0)) := fun d os => (VarAt.grown' x8 d os).cell 6
  have rb7 : ∀ d os, (grow (redrawn w8 d) os).cell? ⟨bx, 7, none⟩ = some (.int .u8 (y 1)) := fun d os => (VarAt.grown' x8 d os).cell 7
  have rb8 : ∀ d os, (grow (redrawn w8 d) os).cell? ⟨bx, 8, none⟩ = some (.int .u8 (y 2)) := fun d os => (VarAt.grown' x8 d os).cell 8
  have rb9 : ∀ d os, (grow (redrawn w8 d) os).cell? ⟨bx, 9, none⟩ = some (.int .u8 (y 3)) := fun d os => (VarAt.grown' x8 d os).cell 9
  have rb10 : ∀ d os, (grow (redrawn w8 d) os).cell? ⟨bx, 10, none⟩ = some (.int .u8 (y 4)) := fun d os => (VarAt.grown' x8 d os).cell 10
  have rb11 : ∀ d os, (grow (redrawn w8 d) os).cell? ⟨bx, 11, none⟩ = some (.int .u8 (y 5)) := fun d os => (VarAt.grown' x8 d os).cell 11
  have rb12 : ∀ d os, (grow (redrawn w8 d) os).cell? ⟨bx, 12, none⟩ = some (.int .i64 0) := fun d os => (VarAt.grown' x8 d os).cell 12
  have rb13 : ∀ d os, (grow (redrawn w8 d) os).cell? ⟨bx, 13, none⟩ = some (strV (spB l)) := fun d os => (VarAt.grown' x8 d os).cell 13
  have ep : ∀ d os, (convert 25 9 pm).run Try.prog (grow (redrawn w8 d) os) = .ok (strV l) (grow (redrawn w8 d) os) := fun d os => bts_string (bp8.below (below_regrown w8 d os) hle8)
  have eq : ∀ d os, (convert 25 9 qm).run Try.prog (grow (redrawn w8 d) os) = .ok (strV mp) (grow (redrawn w8 d) os) := fun d os => bts_string (bq8.below (below_regrown w8 d os) hle8)
  have eb : ∀ d os, (convert 25 9 (.slice p l.length cap)).run Try.prog (grow (redrawn w8 d) os) = .ok (strV l) (grow (redrawn w8 d) os) := fun d os => bts_string (HV.out.1.below (below_next hw8 (below_regrown w8 d os)) (Nat.le_refl _))
  have rs : ∀ w', (Op.equalIn 10000 30 (rfS y (spB l)) (rfS y (spB l))).run Try.prog w' = .ok true w' := fun w' => rf_same grpN y 0 (spB l) w'
  have g := g30
  have c9 : ∀ d os, Calls Try.prog 7 #[frS y (.slice pv (spB l).length capv)] (grow (redrawn w8 d) os) fun e w'' => e = .returned (rfS y (spB l)) ∧ ∃ q : Regrown, w'' = grow (redrawn w8 q.d) q.os := fun d os => Calls.regrown_of (plain_any grpN y 0 _ (spB l) sk _ (by omega) (b8.below (below_regrown w8 d os) (Nat.le_of_lt s8.lt)) (Nat.le_trans (Nat.le_of_lt s8.lt) (below_regrown w8 d os).size))
  have H8 := Lib.hid hw8
  clear s8 x8 b8 hw8 bp8 bq8 hle8
  go_wp2_with fail
  refine wp_region_quiet_below (by kernel_rfl) (by kernel_rfl) ?_
  repeat (go_big_quiet_step (first | with_reducible exact c9 _ _))
  refine wpQuiet_nil ?_
  intro _ hw'
  obtain ⟨⟨dq, osq⟩, hw''⟩ := hw'
  subst hw''
  have HW := Lib.hid (below_next H8.out (below_regrown w8 dq osq))
  clear fa0 fa1 fa2 fa3 fa4 fa5 fa6 fa7 fa8 fa9 fa10 fa11 fa12 fa13 rb0 rb1 rb2 rb3 rb4 rb5 rb6 rb7 rb8 rb9 rb10 rb11 rb12 rb13 ep eq eb rs g c9 H8
  go_wp2_with fail
  go_ret
  exact ⟨rfl, HW.out⟩
theorem spanLaw_any (y a b : Nat → Nat) (t : Nat) (v v2 : Value) (l l2 : List UInt8) (w : World) (ht : t < 65536) (hv : Bts w w.heap.size v l) (hv2 : Bts w w.heap.size v2 l2) :
    Calls Try.prog 5 #[macV y, v, frV a b t v2] w fun e w' => e = .returned (.bool true) ∧ Below w.heap.size w w' := by
  by_cases h : 2000 < l.length ∨ 2000 < l2.length
  · obtain ⟨p, cap, rfl, hn⟩ := bts_len hv
    obtain ⟨p2, cap2, rfl, hn2⟩ := bts_len hv2
    exact spanning_long y a b t p p2 l.length l2.length cap cap2 w hn hn2 h
  · exact spanning_all y a b t v v2 l l2 w ht hv hv2 (by omega) (by omega)
end Go.Proofs.Ytfdhkbkonennjaa
