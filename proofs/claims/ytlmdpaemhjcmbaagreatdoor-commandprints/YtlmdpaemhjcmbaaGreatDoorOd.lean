/- Check, for any number of ports. -/
import Derived.Test.YtlmdpaemhjcmbaaGreatDoorNd
namespace Go.Proofs.YtlmdpaemhjcmbaaGreatDoor
open Go.RowKit Go.Sort

set_option maxHeartbeats 1000000 in
theorem inRangeC_all (c : Cf) (a : Option Addr) (n cap : Nat) (hx : ∀ i, c.x i < 256) (w : World) : Calls Tryz.prog 22 #[.agg (c.cells (.slice a n cap))] w fun e w' => e = .returned (.bool (rgC c n)) ∧ Below w.heap.size w w' := by
  have v := Lib.hid (var_new w (c.cells (.slice a n cap)) 28)
  have hb := Lib.hid (box_below w (.cells (c.cells (.slice a n cap)) 28))
  have c0 := isGroup_any c.x hx
  have c1 := withinC_any c.ho 1 10
  have c2 := withinC_any c.ag 10 1000000
  have m0 : (w.alloc (.cells (c.cells (.slice a n cap)) 28)).cell? ⟨w.heap.size, 0, none⟩ = some (.int .u8 (c.x 0)) := v.out.cell 0
  have m1 : (w.alloc (.cells (c.cells (.slice a n cap)) 28)).cell? ⟨w.heap.size, 1, none⟩ = some (.int .u8 (c.x 1)) := v.out.cell 1
  have m2 : (w.alloc (.cells (c.cells (.slice a n cap)) 28)).cell? ⟨w.heap.size, 2, none⟩ = some (.int .u8 (c.x 2)) := v.out.cell 2
  have m3 : (w.alloc (.cells (c.cells (.slice a n cap)) 28)).cell? ⟨w.heap.size, 3, none⟩ = some (.int .u8 (c.x 3)) := v.out.cell 3
  have m4 : (w.alloc (.cells (c.cells (.slice a n cap)) 28)).cell? ⟨w.heap.size, 4, none⟩ = some (.int .u8 (c.x 4)) := v.out.cell 4
  have m5 : (w.alloc (.cells (c.cells (.slice a n cap)) 28)).cell? ⟨w.heap.size, 5, none⟩ = some (.int .u8 (c.x 5)) := v.out.cell 5
  have k11 : ∀ w1, Below (w.alloc (.cells (c.cells (.slice a n cap)) 28)).heap.size (w.alloc (.cells (c.cells (.slice a n cap)) 28)) w1 → w1.cell? ⟨w.heap.size, 11, none⟩ = some (.int .i64 c.ho) := fun w1 h => (v.out.below h v.out.lt).cell 11
  have k13 : ∀ w1, Below (w.alloc (.cells (c.cells (.slice a n cap)) 28)).heap.size (w.alloc (.cells (c.cells (.slice a n cap)) 28)) w1 → w1.cell? ⟨w.heap.size, 13, none⟩ = some (.int .i64 c.ag) := fun w1 h => (v.out.below h v.out.lt).cell 13
  have k14 : ∀ w1, Below (w.alloc (.cells (c.cells (.slice a n cap)) 28)).heap.size (w.alloc (.cells (c.cells (.slice a n cap)) 28)) w1 → w1.cell? ⟨w.heap.size, 14, none⟩ = some (.slice a n cap) := fun w1 h => (v.out.below h v.out.lt).cell 14
  have K11 := Lib.hid k11
  have K13 := Lib.hid k13
  have K14 := Lib.hid k14
  clear k11 k13 k14 v hx
  unfold rgC
  generalize grp c.x = g at *
  generalize (decide (1 ≤ c.ho) && decide (c.ho ≤ 10)) = b1 at *
  generalize (decide (10 ≤ c.ag) && decide (c.ag ≤ 1000000)) = b2 at *
  generalize c.ho = ho at *
  generalize c.ag = ag at *
  generalize c.x = x at *
  generalize c.cells (.slice a n cap) = C at *
  cases g
  · cases b1
    · go_enter Tryz.func22, Tryz.ntmps22
      go_wp2_with fail
      refine (c0 _).mono ?_
      rintro e w1 ⟨rfl, hb1⟩
      have q11 := K11.out w1 hb1
      have q13 := K13.out w1 hb1
      have q14 := K14.out w1 hb1
      have HB := Lib.hid (below_next hb.out hb1)
      clear K11 K13 K14 hb hb1 m0 m1 m2 m3 m4 m5 c0
      go_wp2_with fail
      refine (c1 _).mono ?_
      rintro e w' ⟨rfl, rfl⟩
      go_wp2_with fail
      go_ret
      exact ⟨ret_bool (by simp), HB.out⟩
    · cases b2
      · go_enter Tryz.func22, Tryz.ntmps22
        go_wp2_with fail
        refine (c0 _).mono ?_
        rintro e w1 ⟨rfl, hb1⟩
        have q11 := K11.out w1 hb1
        have q13 := K13.out w1 hb1
        have q14 := K14.out w1 hb1
        have HB := Lib.hid (below_next hb.out hb1)
        clear K11 K13 K14 hb hb1 m0 m1 m2 m3 m4 m5 c0
        go_wp2_with fail
        refine (c1 _).mono ?_
        rintro e w' ⟨rfl, rfl⟩
        go_wp2_with fail
        refine (c2 _).mono ?_
        rintro e w' ⟨rfl, rfl⟩
        go_wp2_with fail
        go_ret
        exact ⟨ret_bool (by simp), HB.out⟩
      · by_cases hn8 : n ≤ 8
        · go_enter Tryz.func22, Tryz.ntmps22
          go_wp2_with fail
          refine (c0 _).mono ?_
          rintro e w1 ⟨rfl, hb1⟩
          have q11 := K11.out w1 hb1
          have q13 := K13.out w1 hb1
          have q14 := K14.out w1 hb1
          have HB := Lib.hid (below_next hb.out hb1)
          clear K11 K13 K14 hb hb1 m0 m1 m2 m3 m4 m5 c0
          go_wp2_with fail
          refine (c1 _).mono ?_
          rintro e w' ⟨rfl, rfl⟩
          go_wp2_with fail
          refine (c2 _).mono ?_
          rintro e w' ⟨rfl, rfl⟩
          go_wp2_with fail
          go_ret
          exact ⟨ret_bool (by simp; omega), HB.out⟩
        · go_enter Tryz.func22, Tryz.ntmps22
          go_wp2_with fail
          refine (c0 _).mono ?_
          rintro e w1 ⟨rfl, hb1⟩
          have q11 := K11.out w1 hb1
          have q13 := K13.out w1 hb1
          have q14 := K14.out w1 hb1
          have HB := Lib.hid (below_next hb.out hb1)
          clear K11 K13 K14 hb hb1 m0 m1 m2 m3 m4 m5 c0
          go_wp2_with fail
          refine (c1 _).mono ?_
          rintro e w' ⟨rfl, rfl⟩
          go_wp2_with fail
          refine (c2 _).mono ?_
          rintro e w' ⟨rfl, rfl⟩
          go_wp2_with fail
          go_ret
          exact ⟨ret_bool (by simp; omega), HB.out⟩
  · go_enter Tryz.func22, Tryz.ntmps22
    go_wp2_with fail
    refine (c0 _).mono ?_
    rintro e w1 ⟨rfl, hb1⟩
    have q11 := K11.out w1 hb1
    have q13 := K13.out w1 hb1
    have q14 := K14.out w1 hb1
    have HB := Lib.hid (below_next hb.out hb1)
    clear K11 K13 K14 hb hb1 m0 m1 m2 m3 m4 m5 c0
    go_wp2_with fail
    go_ret
    exact ⟨ret_bool (by simp), HB.out⟩
set_option maxRecDepth 20000 in
set_option maxHeartbeats 2000000 in
theorem checkC_all (c : Cf) (s : Value) (n : Nat) (P : Nat → Pc) (w : World) (hx : ∀ i, c.x i < 256) (hs : QIn w s n P) : Calls Tryz.prog 11 #[.agg (c.cells s)] w fun e w' => e = .returned (.int .i64 (cfgE c P n)) ∧ Below w.heap.size w w' := by
  have v := Lib.hid (var_new w (c.cells s) 28)
  have hb := Lib.hid (box_below w (.cells (c.cells s) 28))
  have cR := fun (w1 : World) (h : QIn w1 s n P) (hn : n ≤ 100) => checkPorts_any s n P w1 h hn
  have HS := Lib.hid (hs.below hb.out)
  have cI : ∀ w1, Calls Tryz.prog 22 #[.agg (c.cells s)] w1 fun e w' => e = .returned (.bool (rgC c n)) ∧ Below w1.heap.size w1 w' := fun w1 => by
    obtain ⟨ad, cap, rfl, _⟩ := hs
    exact inRangeC_all c ad n cap hx w1
  obtain ⟨fx0, fx1, fx2, fx3, fx4, fx5, fp, -, -, -, -, -, -, -, -⟩ := v.out.box
  have cT := check_any c.a c.m c.h c.d
  clear hs
  have HE : Hid (cfgE c P n = if stB c.pr 4096 61440 then (if inR c.a c.m c.h c.d then (if isC c.m c.h c.d then (if rgC c n then errQ P n else 4) else 5) else 4) else 4) := Lib.hid rfl
  generalize hE : cfgE c P n = E at *
  clear hE
  cases hst : stB c.pr 4096 61440
  · have c0 := bridge_not c.pr hst c.x
    rw [hst] at HE
    clear hst hx cR cI cT
    obtain ⟨x, pr, a, m, h, d, ho, rs, ag⟩ := c
    simp only at *
    generalize Cf.cells ⟨x, pr, a, m, h, d, ho, rs, ag⟩ s = C at *
    go_enter Tryz.func11, Tryz.ntmps11
    go_wp2_with fail
    refine (c0 _).mono ?_
    rintro e w1 ⟨rfl, hb1⟩
    have HB1 := Lib.hid (below_next hb.out hb1)
    clear hb1 c0
    go_wp2_with fail
    go_ret
    exact ⟨ret_int HE.out.symm, HB1.out⟩
  · obtain ⟨q, hq⟩ : ∃ q : Nat, c.pr = q := ⟨c.pr.toNat, by unfold stB at hst; simp at hst; omega⟩
    have c0 := bridge_ok q (by rw [← hq]; exact hst) c.x hx
    rw [hst] at HE
    rw [hq] at fp
    clear hst hx hq
    have HT : Hid (chT c.a c.m c.h c.d = if inR c.a c.m c.h c.d then (if isC c.m c.h c.d then 0 else 5) else 4) := Lib.hid rfl
    generalize chT c.a c.m c.h c.d = T at *
    cases h1 : inR c.a c.m c.h c.d
    · rw [h1] at HT HE
      clear h1
      have HT0 := HT.out
      clear HT
      subst HT0
      have A0 := fun (w1 : World) (h : Below (w.alloc (.cells (c.cells s) 28)).heap.size (w.alloc (.cells (c.cells s) 28)) w1) => (v.out.below h v.out.lt)
      have A1 := Lib.hid A0
      clear A0
      go_enter Tryz.func11, Tryz.ntmps11
      go_wp2_with fail
      generalize w.alloc (.cells (c.cells s) 28) = W at *
      refine (c0 _).mono ?_
      rintro e w1 ⟨rfl, hb1⟩
      obtain ⟨-, -, -, -, -, -, -, ga, gm, gh, gd, -, -, -, -⟩ := (A1.out w1 hb1).box
      have HB1 := Lib.hid hb1
      clear hb1 c0 fx0 fx1 fx2 fx3 fx4 fx5 fp
      go_wp2_with fail
      refine (cT _).mono ?_
      rintro e w2 ⟨rfl, hb2⟩
      have HB2 := Lib.hid (HB1.out.trans (hb2.mono HB1.out.size))
      clear hb2 cT HB1 ga gm gh gd
      go_wp2_with fail
      go_ret
      exact ⟨ret_int HE.out.symm, hb.out.trans (HB2.out.mono hb.out.size)⟩
    · cases h2 : isC c.m c.h c.d
      · rw [h1, h2] at HT HE
        clear h1 h2
        have HT0 := HT.out
        clear HT
        subst HT0
        have A0 := fun (w1 : World) (h : Below (w.alloc (.cells (c.cells s) 28)).heap.size (w.alloc (.cells (c.cells s) 28)) w1) => (v.out.below h v.out.lt)
        have A1 := Lib.hid A0
        clear A0
        go_enter Tryz.func11, Tryz.ntmps11
        go_wp2_with fail
        generalize w.alloc (.cells (c.cells s) 28) = W at *
        refine (c0 _).mono ?_
        rintro e w1 ⟨rfl, hb1⟩
        obtain ⟨-, -, -, -, -, -, -, ga, gm, gh, gd, -, -, -, -⟩ := (A1.out w1 hb1).box
        have HB1 := Lib.hid hb1
        clear hb1 c0 fx0 fx1 fx2 fx3 fx4 fx5 fp
        go_wp2_with fail
        refine (cT _).mono ?_
        rintro e w2 ⟨rfl, hb2⟩
        have HB2 := Lib.hid (HB1.out.trans (hb2.mono HB1.out.size))
        clear hb2 cT HB1 ga gm gh gd
        go_wp2_with fail
        go_ret
        exact ⟨ret_int HE.out.symm, hb.out.trans (HB2.out.mono hb.out.size)⟩
      · cases h3 : rgC c n
        · rw [h1, h2, h3] at HE
          rw [h1, h2] at HT
          rw [h3] at cI
          clear h1 h2 h3
          have HT0 := HT.out
          clear HT
          subst HT0
          have A0 := fun (w1 : World) (h : Below (w.alloc (.cells (c.cells s) 28)).heap.size (w.alloc (.cells (c.cells s) 28)) w1) => (v.out.below h v.out.lt)
          have A1 := Lib.hid A0
          clear A0
          go_enter Tryz.func11, Tryz.ntmps11
          go_wp2_with fail
          generalize w.alloc (.cells (c.cells s) 28) = W at *
          refine (c0 _).mono ?_
          rintro e w1 ⟨rfl, hb1⟩
          obtain ⟨-, -, -, -, -, -, -, ga, gm, gh, gd, -, -, -, -⟩ := (A1.out w1 hb1).box
          have HB1 := Lib.hid hb1
          clear hb1 c0 fx0 fx1 fx2 fx3 fx4 fx5 fp
          go_wp2_with fail
          refine (cT _).mono ?_
          rintro e w2 ⟨rfl, hb2⟩
          have HB2 := Lib.hid (HB1.out.trans (hb2.mono HB1.out.size))
          clear hb2 cT HB1 ga gm gh gd
          have V2 := A1.out w2 HB2.out
          go_wp2_with (with_reducible refine stopL 28 _ rfl ?_)
          refine Lib.hid ?_
          refine wpList_load_whole uC rfl sC rfl _ rfl rfl (range_whole V2) rfl ?_
          go_wp2_with fail
          refine (cI _).mono ?_
          rintro e w3 ⟨rfl, hb3⟩
          have HB3 := Lib.hid (HB2.out.trans (hb3.mono HB2.out.size))
          obtain ⟨-, -, -, -, -, -, -, -, -, -, -, -, -, -, gs⟩ := (A1.out w3 HB3.out).box
          clear hb3 cI HB2 V2
          go_wp2_with fail
          go_ret
          exact ⟨ret_int HE.out.symm, hb.out.trans (HB3.out.mono hb.out.size)⟩
        · have H100 := Lib.hid (show n ≤ 100 by have := rgC_n h3; omega)
          rw [h1, h2, h3] at HE
          rw [h1, h2] at HT
          rw [h3] at cI
          clear h1 h2 h3
          have HT0 := HT.out
          clear HT
          subst HT0
          have A0 := fun (w1 : World) (h : Below (w.alloc (.cells (c.cells s) 28)).heap.size (w.alloc (.cells (c.cells s) 28)) w1) => (v.out.below h v.out.lt)
          have A1 := Lib.hid A0
          clear A0
          go_enter Tryz.func11, Tryz.ntmps11
          go_wp2_with fail
          generalize w.alloc (.cells (c.cells s) 28) = W at *
          refine (c0 _).mono ?_
          rintro e w1 ⟨rfl, hb1⟩
          obtain ⟨-, -, -, -, -, -, -, ga, gm, gh, gd, -, -, -, -⟩ := (A1.out w1 hb1).box
          have HB1 := Lib.hid hb1
          clear hb1 c0 fx0 fx1 fx2 fx3 fx4 fx5 fp
          go_wp2_with fail
          refine (cT _).mono ?_
          rintro e w2 ⟨rfl, hb2⟩
          have HB2 := Lib.hid (HB1.out.trans (hb2.mono HB1.out.size))
          clear hb2 cT HB1 ga gm gh gd
          have V2 := A1.out w2 HB2.out
          go_wp2_with (with_reducible refine stopL 28 _ rfl ?_)
          refine Lib.hid ?_
          refine wpList_load_whole uC rfl sC rfl _ rfl rfl (range_whole V2) rfl ?_
          go_wp2_with fail
          refine (cI _).mono ?_
          rintro e w3 ⟨rfl, hb3⟩
          have HB3 := Lib.hid (HB2.out.trans (hb3.mono HB2.out.size))
          obtain ⟨-, -, -, -, -, -, -, -, -, -, -, -, -, -, gs⟩ := (A1.out w3 HB3.out).box
          clear hb3 cI HB2 V2
          have HS3 := HS.out.below HB3.out
          go_wp2_with fail
          refine (cR _ HS3 H100.out).mono ?_
          rintro e w4 ⟨rfl, hb4⟩
          have HB4 := Lib.hid (HB3.out.trans (hb4.mono HB3.out.size))
          clear hb4 cR HB3
          go_wp2_with fail
          go_ret
          exact ⟨ret_int HE.out.symm, hb.out.trans (HB4.out.mono hb.out.size)⟩
end Go.Proofs.YtlmdpaemhjcmbaaGreatDoor
