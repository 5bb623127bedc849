/- Contracts of Check and of the document's right. -/
import Derived.Test.YtlmdpaemhjcmbaaGreatDoorM
namespace Go.Proofs.YtlmdpaemhjcmbaaGreatDoor
open Go.RowKit Go.Sort

/-- What is wrong with a setting. -/
def cfgE (c : Cf) (P : Nat → Pc) (n : Nat) : Int := if stB c.pr 4096 61440 then (if inR c.a c.m c.h c.d then (if isC c.m c.h c.d then (if rgC c n then errQ P n else 4) else 5) else 4) else 4
theorem rgC_n {c : Cf} {n : Nat} (h : rgC c n = true) : n ≤ 8 := by unfold rgC at h; simp at h; omega
/-- The box of a setting. -/
structure BoxC (c : Cf) (s : Value) (b : Nat) (w : World) : Prop where
  x0 : w.cell? ⟨b, 0, none⟩ = some (.int .u8 (c.x 0))
  x1 : w.cell? ⟨b, 1, none⟩ = some (.int .u8 (c.x 1))
  x2 : w.cell? ⟨b, 2, none⟩ = some (.int .u8 (c.x 2))
  x3 : w.cell? ⟨b, 3, none⟩ = some (.int .u8 (c.x 3))
  x4 : w.cell? ⟨b, 4, none⟩ = some (.int .u8 (c.x 4))
  x5 : w.cell? ⟨b, 5, none⟩ = some (.int .u8 (c.x 5))
  pr : w.cell? ⟨b, 6, none⟩ = some (.int .i64 c.pr)
  a : w.cell? ⟨b, 7, none⟩ = some (.int .i64 c.a)
  m : w.cell? ⟨b, 8, none⟩ = some (.int .i64 c.m)
  h : w.cell? ⟨b, 9, none⟩ = some (.int .i64 c.h)
  d : w.cell? ⟨b, 10, none⟩ = some (.int .i64 c.d)
  ho : w.cell? ⟨b, 11, none⟩ = some (.int .i64 c.ho)
  rs : w.cell? ⟨b, 12, none⟩ = some (.bool c.rs)
  ag : w.cell? ⟨b, 13, none⟩ = some (.int .i64 c.ag)
  ps : w.cell? ⟨b, 14, none⟩ = some s
theorem VarAt.box {c : Cf} {s : Value} {b : Nat} {w : World} {t : TypeId} (h : VarAt w b (c.cells s) t) : BoxC c s b w :=
  ⟨h.cell 0, h.cell 1, h.cell 2, h.cell 3, h.cell 4, h.cell 5, h.cell 6, h.cell 7, h.cell 8, h.cell 9, h.cell 10, h.cell 11, h.cell 12, h.cell 13, h.cell 14⟩
theorem uC : Tryz.prog.underlying 28 = some (.struct (Tryz.prog.fieldsOf 28)) := by kernel_rfl
theorem sC : (Tryz.prog.info? 28).map (·.size) = some 15 := by kernel_rfl
set_option maxRecDepth 20000 in
set_option maxHeartbeats 2000000 in
theorem checkC_any (c : Cf) (s : Value) (n : Nat) (P : Nat → Pc) (w : World) (hx : ∀ i, c.x i < 256) (hs : QIn w s n P) (hn : n ≤ 100) : Calls Tryz.prog 11 #[.agg (c.cells s)] w fun e w' => e = .returned (.int .i64 (cfgE c P n)) ∧ Below w.heap.size w w' := by
  have v := Lib.hid (var_new w (c.cells s) 28)
  have hb := Lib.hid (box_below w (.cells (c.cells s) 28))
  have cR := fun (w1 : World) (h : QIn w1 s n P) => checkPorts_any s n P w1 h hn
  have HS := Lib.hid (hs.below hb.out)
  have cI : ∀ w1, Calls Tryz.prog 22 #[.agg (c.cells s)] w1 fun e w' => e = .returned (.bool (rgC c n)) ∧ Below w1.heap.size w1 w' := fun w1 => by
    obtain ⟨ad, cap, rfl, _⟩ := hs
    exact inRangeC_any c ad n cap hx hn w1
  obtain ⟨fx0, fx1, fx2, fx3, fx4, fx5, fp, -, -, -, -, -, -, -, -⟩ := v.out.box
  have cT := check_any c.a c.m c.h c.d
  clear hs hn
  have HE : Hid (cfgE c P n = if stB c.pr 4096 61440 then (if inR c.a c.m c.h c.d then (if isC c.m c.h c.d then (if rgC c n then errQ P n else 4) else 5) else 4) else 4) := Lib.hid rfl
  generalize hE : cfgE c P n = E at *
  clear hE
  cases hst : stB c.pr 4096 61440
  · have c0 := bridge_not c.pr hst c.x
    rw [hst] at HE
    clear hst hx cR cI cT
    obtain ⟨x, pr, a, m, h, d, ho, rs, ag⟩ := c
    simp only at *
    generalize Cf.cells ⟨x, pr, a, m, h, d, ho, rs, ag⟩ s = C at *
    go_enter Tryz.func11, Tryz.ntmps11
    go_wp2_with fail
    refine (c0 _).mono ?_
    rintro e w1 ⟨rfl, hb1⟩
    have HB1 := Lib.hid (below_next hb.out hb1)
    clear hb1 c0
    go_wp2_with fail
    go_ret
    exact ⟨ret_int HE.out.symm, HB1.out⟩
  · obtain ⟨q, hq⟩ : ∃ q : Nat, c.pr = q := ⟨c.pr.toNat, by unfold stB at hst; simp at hst; omega⟩
    have c0 := bridge_ok q (by rw [← hq]; exact hst) c.x hx
    rw [hst] at HE
    rw [hq] at fp
    clear hst hx hq
    have HT : Hid (chT c.a c.m c.h c.d = if inR c.a c.m c.h c.d then (if isC c.m c.h c.d then 0 else 5) else 4) := Lib.hid rfl
    generalize chT c.a c.m c.h c.d = T at *
    cases h1 : inR c.a c.m c.h c.d
    · rw [h1] at HT HE
      clear h1
      have HT0 := HT.out
      clear HT
      subst HT0
      have A0 := fun (w1 : World) (h : Below (w.alloc (.cells (c.cells s) 28)).heap.size (w.alloc (.cells (c.cells s) 28)) w1) => (v.out.below h v.out.lt)
      have A1 := Lib.hid A0
      clear A0
      go_enter Tryz.func11, Tryz.ntmps11
      go_wp2_with fail
      generalize w.alloc (.cells (c.cells s) 28) = W at *
      refine (c0 _).mono ?_
      rintro e w1 ⟨rfl, hb1⟩
      obtain ⟨-, -, -, -, -, -, -, ga, gm, gh, gd, -, -, -, -⟩ := (A1.out w1 hb1).box
      have HB1 := Lib.hid hb1
      clear hb1 c0 fx0 fx1 fx2 fx3 fx4 fx5 fp
      go_wp2_with fail
      refine (cT _).mono ?_
      rintro e w2 ⟨rfl, hb2⟩
      have HB2 := Lib.hid (HB1.out.trans (hb2.mono HB1.out.size))
      clear hb2 cT HB1 ga gm gh gd
      go_wp2_with fail
      go_ret
      exact ⟨ret_int HE.out.symm, hb.out.trans (HB2.out.mono hb.out.size)⟩
    · cases h2 : isC c.m c.h c.d
      · rw [h1, h2] at HT HE
        clear h1 h2
        have HT0 := HT.out
        clear HT
        subst HT0
        have A0 := fun (w1 : World) (h : Below (w.alloc (.cells (c.cells s) 28)).heap.size (w.alloc (.cells (c.cells s) 28)) w1) => (v.out.below h v.out.lt)
        have A1 := Lib.hid A0
        clear A0
        go_enter Tryz.func11, Tryz.ntmps11
        go_wp2_with fail
        generalize w.alloc (.cells (c.cells s) 28) = W at *
        refine (c0 _).mono ?_
        rintro e w1 ⟨rfl, hb1⟩
        obtain ⟨-, -, -, -, -, -, -, ga, gm, gh, gd, -, -, -, -⟩ := (A1.out w1 hb1).box
        have HB1 := Lib.hid hb1
        clear hb1 c0 fx0 fx1 fx2 fx3 fx4 fx5 fp
        go_wp2_with fail
        refine (cT _).mono ?_
        rintro e w2 ⟨rfl, hb2⟩
        have HB2 := Lib.hid (HB1.out.trans (hb2.mono HB1.out.size))
        clear hb2 cT HB1 ga gm gh gd
        go_wp2_with fail
        go_ret
        exact ⟨ret_int HE.out.symm, hb.out.trans (HB2.out.mono hb.out.size)⟩
      · cases h3 : rgC c n
        · rw [h1, h2, h3] at HE
          rw [h1, h2] at HT
          rw [h3] at cI
          clear h1 h2 h3
          have HT0 := HT.out
          clear HT
          subst HT0
          have A0 := fun (w1 : World) (h : Below (w.alloc (.cells (c.cells s) 28)).heap.size (w.alloc (.cells (c.cells s) 28)) w1) => (v.out.below h v.out.lt)
          have A1 := Lib.hid A0
          clear A0
          go_enter Tryz.func11, Tryz.ntmps11
          go_wp2_with fail
          generalize w.alloc (.cells (c.cells s) 28) = W at *
          refine (c0 _).mono ?_
          rintro e w1 ⟨rfl, hb1⟩
          obtain ⟨-, -, -, -, -, -, -, ga, gm, gh, gd, -, -, -, -⟩ := (A1.out w1 hb1).box
          have HB1 := Lib.hid hb1
          clear hb1 c0 fx0 fx1 fx2 fx3 fx4 fx5 fp
          go_wp2_with fail
          refine (cT _).mono ?_
          rintro e w2 ⟨rfl, hb2⟩
          have HB2 := Lib.hid (HB1.out.trans (hb2.mono HB1.out.size))
          clear hb2 cT HB1 ga gm gh gd
          have V2 := A1.out w2 HB2.out
          go_wp2_with (with_reducible refine stopL 28 _ rfl ?_)
          refine Lib.hid ?_
          refine wpList_load_whole uC rfl sC rfl _ rfl rfl (range_whole V2) rfl ?_
          go_wp2_with fail
          refine (cI _).mono ?_
          rintro e w3 ⟨rfl, hb3⟩
          have HB3 := Lib.hid (HB2.out.trans (hb3.mono HB2.out.size))
          obtain ⟨-, -, -, -, -, -, -, -, -, -, -, -, -, -, gs⟩ := (A1.out w3 HB3.out).box
          clear hb3 cI HB2 V2
          go_wp2_with fail
          go_ret
          exact ⟨ret_int HE.out.symm, hb.out.trans (HB3.out.mono hb.out.size)⟩
        · rw [h1, h2, h3] at HE
          rw [h1, h2] at HT
          rw [h3] at cI
          clear h1 h2 h3
          have HT0 := HT.out
          clear HT
          subst HT0
          have A0 := fun (w1 : World) (h : Below (w.alloc (.cells (c.cells s) 28)).heap.size (w.alloc (.cells (c.cells s) 28)) w1) => (v.out.below h v.out.lt)
          have A1 := Lib.hid A0
          clear A0
          go_enter Tryz.func11, Tryz.ntmps11
          go_wp2_with fail
          generalize w.alloc (.cells (c.cells s) 28) = W at *
          refine (c0 _).mono ?_
          rintro e w1 ⟨rfl, hb1⟩
          obtain ⟨-, -, -, -, -, -, -, ga, gm, gh, gd, -, -, -, -⟩ := (A1.out w1 hb1).box
          have HB1 := Lib.hid hb1
          clear hb1 c0 fx0 fx1 fx2 fx3 fx4 fx5 fp
          go_wp2_with fail
          refine (cT _).mono ?_
          rintro e w2 ⟨rfl, hb2⟩
          have HB2 := Lib.hid (HB1.out.trans (hb2.mono HB1.out.size))
          clear hb2 cT HB1 ga gm gh gd
          have V2 := A1.out w2 HB2.out
          go_wp2_with (with_reducible refine stopL 28 _ rfl ?_)
          refine Lib.hid ?_
          refine wpList_load_whole uC rfl sC rfl _ rfl rfl (range_whole V2) rfl ?_
          go_wp2_with fail
          refine (cI _).mono ?_
          rintro e w3 ⟨rfl, hb3⟩
          have HB3 := Lib.hid (HB2.out.trans (hb3.mono HB2.out.size))
          obtain ⟨-, -, -, -, -, -, -, -, -, -, -, -, -, -, gs⟩ := (A1.out w3 HB3.out).box
          clear hb3 cI HB2 V2
          have HS3 := HS.out.below HB3.out
          go_wp2_with fail
          refine (cR _ HS3).mono ?_
          rintro e w4 ⟨rfl, hb4⟩
          have HB4 := Lib.hid (HB3.out.trans (hb4.mono HB3.out.size))
          clear hb4 cR HB3
          go_wp2_with fail
          go_ret
          exact ⟨ret_int HE.out.symm, hb.out.trans (HB4.out.mono hb.out.size)⟩
end Go.Proofs.YtlmdpaemhjcmbaaGreatDoor
