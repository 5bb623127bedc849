/- TimesUnits' whole call, arm 1. -/
import Derived.Test.YtogmacdcaoigfaaF
namespace Go.Proofs.Ytogmacdcaoigfaa
open Go.RowKit Go.Sort

set_option maxHeartbeats 4000000 in
theorem units1 (a m h d : Int) (k f r c b p : Int) (a' m' h' d' : Nat) (ha : a' < 65536) (hm : m' < 65536) (hh : h' < 65536) (hd : d' < 65536) (b1 : (decide (0 ≤ a) && decide (a ≤ 255)) = true) (b2 : (decide (0 ≤ m) && decide (m ≤ 255)) = false) (w : World) :
    Calls Try.prog 4 #[tmV a m h d, bpV k f r c b p a' m' h' d'] w fun e w' => e = .returned (.bool true) ∧ Below w.heap.size w w' := by
  obtain ⟨UA, ua1, ua2, ua3⟩ := unt_nat a
  obtain ⟨UM, um1, um2, um3⟩ := unt_nat m
  obtain ⟨UH, uh1, uh2, uh3⟩ := unt_nat h
  obtain ⟨UD, ud1, ud2, ud3⟩ := unt_nat d
  have c0 := lives_ok
  have c1 := put_any a m h d
  have c2 := of_any k f r c b p a' m' h' d' ha hm hh hd
  have c3 := of_any 0 0 0 0 0 0 UA UM UH UD ua2 um2 uh2 ud2
  have i1 := in_any a 0
  rw [b1] at i1
  have i2 := in_any m 0
  rw [b2] at i2
  have n1 := unit_any a
  have n2 := unit_any m
  have n3 := unit_any h
  have n4 := unit_any d
  rw [ua1, um1, uh1, ud1] at c1
  rw [ua1] at n1
  rw [um1] at n2
  rw [uh1] at n3
  rw [ud1] at n4
  generalize (((UA + 255) / 256 : Nat) : Int) = y1 at *
  generalize ((UM / 256 : Nat) : Int) = y2 at *
  generalize ((max (UH / 256) 1 : Nat) : Int) = y3 at *
  generalize ((UD / 256 : Nat) : Int) = y4 at *
  clear ua1 ua2 ua3 um1 um2 um3 uh1 uh2 uh3 ud1 ud2 ud3 b1 b2
  obtain ⟨Q, A, f1, f2, f3, f4⟩ := age_facts ha
  obtain ⟨Qh, X, f5, f6, f7, f8⟩ := hello_facts hh
  obtain ⟨Qm, f9, f10, f11⟩ := down_facts hm
  obtain ⟨Qd, f12, f13, f14⟩ := down_facts hd
  rw [f2, f6, f10, f13] at c2
  clear f2 f6 f10 f13 ha hm hh hd
  have hb0 := box_below w (.cells (tmC a m h d) 23)
  have hv0 := (var_new w (tmC a m h d) 23).alloc (.cells (bpC k f r c b p a' m' h' d') 37)
  have hv1 := var_new (w.alloc (.cells (tmC a m h d) 23)) (bpC k f r c b p a' m' h' d') 37
  have hb1 := hb0.alloc (by rw [alloc_size]; omega) (.cells (bpC k f r c b p a' m' h' d') 37)
  rw [alloc_size] at hv1
  have H0 := Lib.hid (And.intro hv0 (And.intro hv1 hb1))
  clear hb0 hv0 hv1 hb1
  rcases f8 with ⟨f8, rfl⟩ | ⟨f8, rfl⟩
  · rcases f4 with ⟨f4, rfl⟩ | ⟨f4, rfl⟩
    · go_enter Try.func4, Try.ntmps4
      go_wp2_with fail
      refine (c0 _).mono ?_
      rintro e w1 ⟨rfl, hb⟩
      obtain ⟨hv0, hv1, hb1⟩ := H0.out
      have v1 := Lib.hid (hv0.below hb hv0.lt)
      have v2 := Lib.hid (hv1.below hb hv1.lt)
      have HB := Lib.hid (below_next hb1 hb)
      clear hv0 hv1 hb1 hb c0 H0
      obtain ⟨k0, k1, k2, k3⟩ := v1.out.tmCells
      go_wp2_with fail
      refine (c1 _).mono ?_
      rintro e w2 ⟨rfl, hb⟩
      replace v1 := Lib.hid (v1.out.below hb v1.out.lt)
      replace v2 := Lib.hid (v2.out.below hb v2.out.lt)
      replace HB := Lib.hid (below_next HB.out hb)
      clear hb c1 k0 k1 k2 k3
      obtain ⟨k0, k1, k2, k3, k4, k5, k6, k7, k8, k9⟩ := v2.out.bpCells
      go_wp2_with fail
      refine (c2 _).mono ?_
      rintro e w3 ⟨rfl, hb⟩
      have T1 := (v1.out.below hb v1.out.lt).alloc (.cells (tmC (Q + 1) Qm 1 Qd) 23)
      have T2 := (v2.out.below hb v2.out.lt).alloc (.cells (tmC (Q + 1) Qm 1 Qd) 23)
      have T3 := var_new w3 (tmC (Q + 1) Qm 1 Qd) 23
      have TB := below_next (below_next HB.out hb) (box_below w3 (.cells (tmC (Q + 1) Qm 1 Qd) 23))
      clear hb c2 k0 k1 k2 k3 k4 k5 k6 k7 k8 k9 v1 v2 HB
      obtain ⟨k0, k1, k2, k3, k4, k5, k6, k7, k8, k9⟩ := T2.bpCells
      have V := Lib.hid (And.intro T1 (And.intro T2 (And.intro T3 TB)))
      clear k0 k1 k2 k3 k4 k5 k7 k9 T1 T2 T3 TB
      go_wp2_with fail
      refine (c3 _).mono ?_
      rintro e w4 ⟨rfl, hb⟩
      clear k6 k8 c3
      obtain ⟨T1, T2, T3, TB⟩ := V.out
      have S1 := (T1.below hb T1.lt).alloc (.cells (tmC y1 y2 y3 y4) 23)
      have S2 := (T2.below hb T2.lt).alloc (.cells (tmC y1 y2 y3 y4) 23)
      have S3 := (T3.below hb T3.lt).alloc (.cells (tmC y1 y2 y3 y4) 23)
      have S4 := var_new w4 (tmC y1 y2 y3 y4) 23
      have SB := Lib.hid (below_next (below_next TB hb) (box_below w4 (.cells (tmC y1 y2 y3 y4) 23)))
      clear T1 T2 T3 TB hb V
      obtain ⟨k0, k1, k2, k3⟩ := S1.tmCells
      obtain ⟨-, -, -, -, -, -, -, k7, -, k9⟩ := S2.bpCells
      obtain ⟨x0, x1, x2, x3⟩ := S3.tmCells
      obtain ⟨y0, y1, y2, y3⟩ := S4.tmCells
      clear S1 S2 S3 S4
      go_wp2_with fail
      refine (i1 _).mono ?_
      rintro e w' ⟨rfl, rfl⟩
      clear i1
      go_wp2_with fail
      refine (i2 _).mono ?_
      rintro e w' ⟨rfl, rfl⟩
      clear i2
      go_wp2_with fail
      refine (n1 _).mono ?_
      rintro e w' ⟨rfl, rfl⟩
      clear n1
      go_wp2_with fail
      refine (n2 _).mono ?_
      rintro e w' ⟨rfl, rfl⟩
      clear n2
      go_wp2_with fail
      refine (n3 _).mono ?_
      rintro e w' ⟨rfl, rfl⟩
      clear n3
      go_wp2_with fail
      refine (n4 _).mono ?_
      rintro e w' ⟨rfl, rfl⟩
      clear n4
      go_wp2_with fail
      go_ret
      exact ⟨ret_bool (by simp), SB.out⟩
    · go_enter Try.func4, Try.ntmps4
      go_wp2_with fail
      refine (c0 _).mono ?_
      rintro e w1 ⟨rfl, hb⟩
      obtain ⟨hv0, hv1, hb1⟩ := H0.out
      have v1 := Lib.hid (hv0.below hb hv0.lt)
      have v2 := Lib.hid (hv1.below hb hv1.lt)
      have HB := Lib.hid (below_next hb1 hb)
      clear hv0 hv1 hb1 hb c0 H0
      obtain ⟨k0, k1, k2, k3⟩ := v1.out.tmCells
      go_wp2_with fail
      refine (c1 _).mono ?_
      rintro e w2 ⟨rfl, hb⟩
      replace v1 := Lib.hid (v1.out.below hb v1.out.lt)
      replace v2 := Lib.hid (v2.out.below hb v2.out.lt)
      replace HB := Lib.hid (below_next HB.out hb)
      clear hb c1 k0 k1 k2 k3
      obtain ⟨k0, k1, k2, k3, k4, k5, k6, k7, k8, k9⟩ := v2.out.bpCells
      go_wp2_with fail
      refine (c2 _).mono ?_
      rintro e w3 ⟨rfl, hb⟩
      have T1 := (v1.out.below hb v1.out.lt).alloc (.cells (tmC Q Qm 1 Qd) 23)
      have T2 := (v2.out.below hb v2.out.lt).alloc (.cells (tmC Q Qm 1 Qd) 23)
      have T3 := var_new w3 (tmC Q Qm 1 Qd) 23
      have TB := below_next (below_next HB.out hb) (box_below w3 (.cells (tmC Q Qm 1 Qd) 23))
      clear hb c2 k0 k1 k2 k3 k4 k5 k6 k7 k8 k9 v1 v2 HB
      obtain ⟨k0, k1, k2, k3, k4, k5, k6, k7, k8, k9⟩ := T2.bpCells
      have V := Lib.hid (And.intro T1 (And.intro T2 (And.intro T3 TB)))
      clear k0 k1 k2 k3 k4 k5 k7 k9 T1 T2 T3 TB
      go_wp2_with fail
      refine (c3 _).mono ?_
      rintro e w4 ⟨rfl, hb⟩
      clear k6 k8 c3
      obtain ⟨T1, T2, T3, TB⟩ := V.out
      have S1 := (T1.below hb T1.lt).alloc (.cells (tmC y1 y2 y3 y4) 23)
      have S2 := (T2.below hb T2.lt).alloc (.cells (tmC y1 y2 y3 y4) 23)
      have S3 := (T3.below hb T3.lt).alloc (.cells (tmC y1 y2 y3 y4) 23)
      have S4 := var_new w4 (tmC y1 y2 y3 y4) 23
      have SB := Lib.hid (below_next (below_next TB hb) (box_below w4 (.cells (tmC y1 y2 y3 y4) 23)))
      clear T1 T2 T3 TB hb V
      obtain ⟨k0, k1, k2, k3⟩ := S1.tmCells
      obtain ⟨-, -, -, -, -, -, -, k7, -, k9⟩ := S2.bpCells
      obtain ⟨x0, x1, x2, x3⟩ := S3.tmCells
      obtain ⟨y0, y1, y2, y3⟩ := S4.tmCells
      clear S1 S2 S3 S4
      go_wp2_with fail
      refine (i1 _).mono ?_
      rintro e w' ⟨rfl, rfl⟩
      clear i1
      go_wp2_with fail
      refine (i2 _).mono ?_
      rintro e w' ⟨rfl, rfl⟩
      clear i2
      go_wp2_with fail
      refine (n1 _).mono ?_
      rintro e w' ⟨rfl, rfl⟩
      clear n1
      go_wp2_with fail
      refine (n2 _).mono ?_
      rintro e w' ⟨rfl, rfl⟩
      clear n2
      go_wp2_with fail
      refine (n3 _).mono ?_
      rintro e w' ⟨rfl, rfl⟩
      clear n3
      go_wp2_with fail
      refine (n4 _).mono ?_
      rintro e w' ⟨rfl, rfl⟩
      clear n4
      go_wp2_with fail
      go_ret
      exact ⟨ret_bool (by simp), SB.out⟩
  · rcases f4 with ⟨f4, rfl⟩ | ⟨f4, rfl⟩
    · go_enter Try.func4, Try.ntmps4
      go_wp2_with fail
      refine (c0 _).mono ?_
      rintro e w1 ⟨rfl, hb⟩
      obtain ⟨hv0, hv1, hb1⟩ := H0.out
      have v1 := Lib.hid (hv0.below hb hv0.lt)
      have v2 := Lib.hid (hv1.below hb hv1.lt)
      have HB := Lib.hid (below_next hb1 hb)
      clear hv0 hv1 hb1 hb c0 H0
      obtain ⟨k0, k1, k2, k3⟩ := v1.out.tmCells
      go_wp2_with fail
      refine (c1 _).mono ?_
      rintro e w2 ⟨rfl, hb⟩
      replace v1 := Lib.hid (v1.out.below hb v1.out.lt)
      replace v2 := Lib.hid (v2.out.below hb v2.out.lt)
      replace HB := Lib.hid (below_next HB.out hb)
      clear hb c1 k0 k1 k2 k3
      obtain ⟨k0, k1, k2, k3, k4, k5, k6, k7, k8, k9⟩ := v2.out.bpCells
      go_wp2_with fail
      refine (c2 _).mono ?_
      rintro e w3 ⟨rfl, hb⟩
      have T1 := (v1.out.below hb v1.out.lt).alloc (.cells (tmC (Q + 1) Qm Qh Qd) 23)
      have T2 := (v2.out.below hb v2.out.lt).alloc (.cells (tmC (Q + 1) Qm Qh Qd) 23)
      have T3 := var_new w3 (tmC (Q + 1) Qm Qh Qd) 23
      have TB := below_next (below_next HB.out hb) (box_below w3 (.cells (tmC (Q + 1) Qm Qh Qd) 23))
      clear hb c2 k0 k1 k2 k3 k4 k5 k6 k7 k8 k9 v1 v2 HB
      obtain ⟨k0, k1, k2, k3, k4, k5, k6, k7, k8, k9⟩ := T2.bpCells
      have V := Lib.hid (And.intro T1 (And.intro T2 (And.intro T3 TB)))
      clear k0 k1 k2 k3 k4 k5 k7 k9 T1 T2 T3 TB
      go_wp2_with fail
      refine (c3 _).mono ?_
      rintro e w4 ⟨rfl, hb⟩
      clear k6 k8 c3
      obtain ⟨T1, T2, T3, TB⟩ := V.out
      have S1 := (T1.below hb T1.lt).alloc (.cells (tmC y1 y2 y3 y4) 23)
      have S2 := (T2.below hb T2.lt).alloc (.cells (tmC y1 y2 y3 y4) 23)
      have S3 := (T3.below hb T3.lt).alloc (.cells (tmC y1 y2 y3 y4) 23)
      have S4 := var_new w4 (tmC y1 y2 y3 y4) 23
      have SB := Lib.hid (below_next (below_next TB hb) (box_below w4 (.cells (tmC y1 y2 y3 y4) 23)))
      clear T1 T2 T3 TB hb V
      obtain ⟨k0, k1, k2, k3⟩ := S1.tmCells
      obtain ⟨-, -, -, -, -, -, -, k7, -, k9⟩ := S2.bpCells
      obtain ⟨x0, x1, x2, x3⟩ := S3.tmCells
      obtain ⟨y0, y1, y2, y3⟩ := S4.tmCells
      clear S1 S2 S3 S4
      go_wp2_with fail
      refine (i1 _).mono ?_
      rintro e w' ⟨rfl, rfl⟩
      clear i1
      go_wp2_with fail
      refine (i2 _).mono ?_
      rintro e w' ⟨rfl, rfl⟩
      clear i2
      go_wp2_with fail
      refine (n1 _).mono ?_
      rintro e w' ⟨rfl, rfl⟩
      clear n1
      go_wp2_with fail
      refine (n2 _).mono ?_
      rintro e w' ⟨rfl, rfl⟩
      clear n2
      go_wp2_with fail
      refine (n3 _).mono ?_
      rintro e w' ⟨rfl, rfl⟩
      clear n3
      go_wp2_with fail
      refine (n4 _).mono ?_
      rintro e w' ⟨rfl, rfl⟩
      clear n4
      go_wp2_with fail
      go_ret
      exact ⟨ret_bool (by simp), SB.out⟩
    · go_enter Try.func4, Try.ntmps4
      go_wp2_with fail
      refine (c0 _).mono ?_
      rintro e w1 ⟨rfl, hb⟩
      obtain ⟨hv0, hv1, hb1⟩ := H0.out
      have v1 := Lib.hid (hv0.below hb hv0.lt)
      have v2 := Lib.hid (hv1.below hb hv1.lt)
      have HB := Lib.hid (below_next hb1 hb)
      clear hv0 hv1 hb1 hb c0 H0
      obtain ⟨k0, k1, k2, k3⟩ := v1.out.tmCells
      go_wp2_with fail
      refine (c1 _).mono ?_
      rintro e w2 ⟨rfl, hb⟩
      replace v1 := Lib.hid (v1.out.below hb v1.out.lt)
      replace v2 := Lib.hid (v2.out.below hb v2.out.lt)
      replace HB := Lib.hid (below_next HB.out hb)
      clear hb c1 k0 k1 k2 k3
      obtain ⟨k0, k1, k2, k3, k4, k5, k6, k7, k8, k9⟩ := v2.out.bpCells
      go_wp2_with fail
      refine (c2 _).mono ?_
      rintro e w3 ⟨rfl, hb⟩
      have T1 := (v1.out.below hb v1.out.lt).alloc (.cells (tmC Q Qm Qh Qd) 23)
      have T2 := (v2.out.below hb v2.out.lt).alloc (.cells (tmC Q Qm Qh Qd) 23)
      have T3 := var_new w3 (tmC Q Qm Qh Qd) 23
      have TB := below_next (below_next HB.out hb) (box_below w3 (.cells (tmC Q Qm Qh Qd) 23))
      clear hb c2 k0 k1 k2 k3 k4 k5 k6 k7 k8 k9 v1 v2 HB
      obtain ⟨k0, k1, k2, k3, k4, k5, k6, k7, k8, k9⟩ := T2.bpCells
      have V := Lib.hid (And.intro T1 (And.intro T2 (And.intro T3 TB)))
      clear k0 k1 k2 k3 k4 k5 k7 k9 T1 T2 T3 TB
      go_wp2_with fail
      refine (c3 _).mono ?_
      rintro e w4 ⟨rfl, hb⟩
      clear k6 k8 c3
      obtain ⟨T1, T2, T3, TB⟩ := V.out
      have S1 := (T1.below hb T1.lt).alloc (.cells (tmC y1 y2 y3 y4) 23)
      have S2 := (T2.below hb T2.lt).alloc (.cells (tmC y1 y2 y3 y4) 23)
      have S3 := (T3.below hb T3.lt).alloc (.cells (tmC y1 y2 y3 y4) 23)
      have S4 := var_new w4 (tmC y1 y2 y3 y4) 23
      have SB := Lib.hid (below_next (below_next TB hb) (box_below w4 (.cells (tmC y1 y2 y3 y4) 23)))
      clear T1 T2 T3 TB hb V
      obtain ⟨k0, k1, k2, k3⟩ := S1.tmCells
      obtain ⟨-, -, -, -, -, -, -, k7, -, k9⟩ := S2.bpCells
      obtain ⟨x0, x1, x2, x3⟩ := S3.tmCells
      obtain ⟨y0, y1, y2, y3⟩ := S4.tmCells
      clear S1 S2 S3 S4
      go_wp2_with fail
      refine (i1 _).mono ?_
      rintro e w' ⟨rfl, rfl⟩
      clear i1
      go_wp2_with fail
      refine (i2 _).mono ?_
      rintro e w' ⟨rfl, rfl⟩
      clear i2
      go_wp2_with fail
      refine (n1 _).mono ?_
      rintro e w' ⟨rfl, rfl⟩
      clear n1
      go_wp2_with fail
      refine (n2 _).mono ?_
      rintro e w' ⟨rfl, rfl⟩
      clear n2
      go_wp2_with fail
      refine (n3 _).mono ?_
      rintro e w' ⟨rfl, rfl⟩
      clear n3
      go_wp2_with fail
      refine (n4 _).mono ?_
      rintro e w' ⟨rfl, rfl⟩
      clear n4
      go_wp2_with fail
      go_ret
      exact ⟨ret_bool (by simp), SB.out⟩
end Go.Proofs.Ytogmacdcaoigfaa
