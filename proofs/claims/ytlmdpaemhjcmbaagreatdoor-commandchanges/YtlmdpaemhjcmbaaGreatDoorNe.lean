/- Contract of the law's changed. -/
import Derived.Test.YtlmdpaemhjcmbaaGreatDoorNc
namespace Go.Proofs.YtlmdpaemhjcmbaaGreatDoor
open Go.RowKit Go.Sort

/-- What it ends with. -/
def DEnd (n : Nat) (c : Cf) (P : Nat → Pc) (E : Int) (w : World) (e : Ending) (w' : World) : Prop :=
  ∃ s', e = .returned (.tuple #[.agg (c.cells s'), .int .i64 E]) ∧ GS w' w.heap.size s' n P ∧ Below w.heap.size w w'
theorem GS.one' {w : World} {B n : Nat} {s : Value} {P : Nat → Pc} (h : GS w B s n P) : s.oneCell' = true := by
  obtain ⟨a, c, rfl⟩ := h.slice; rfl
set_option maxRecDepth 20000 in
set_option maxHeartbeats 2000000 in
theorem changed_0 (po nn : Int) (on : Bool) (mx : Nat → Nat) (c : Cf) (s : Value) (n : Nat) (P : Nat → Pc) (w : World) (hs : QIn w s n P) (hn : n ≤ 20) :
    Calls Tryz.prog 10 #[.agg (c.cells s), .agg (⟨0, po, nn, on, mx⟩ : Cd.Cm).cells] w (DEnd n { c with pr := nn } P 0 w) := by
  have C0 := Lib.hid (((var_new w (c.cells s) 28).alloc (.cells (⟨0, po, nn, on, mx⟩ : Cd.Cm).cells 33)).alloc (.cells zC 28))
  have X0 := Lib.hid (show VarAt (((w.alloc (.cells (c.cells s) 28)).alloc (.cells (⟨0, po, nn, on, mx⟩ : Cd.Cm).cells 33)).alloc (.cells zC 28)) (w.heap.size + 1) (⟨0, po, nn, on, mx⟩ : Cd.Cm).cells 33 by
    have := (var_new (w.alloc (.cells (c.cells s) 28)) (⟨0, po, nn, on, mx⟩ : Cd.Cm).cells 33).alloc (.cells zC 28)
    rwa [alloc_size] at this)
  have Z0 := Lib.hid (show VarAt (((w.alloc (.cells (c.cells s) 28)).alloc (.cells (⟨0, po, nn, on, mx⟩ : Cd.Cm).cells 33)).alloc (.cells zC 28)) (w.heap.size + 2) zC 28 by
    have := var_new ((w.alloc (.cells (c.cells s) 28)).alloc (.cells (⟨0, po, nn, on, mx⟩ : Cd.Cm).cells 33)) zC 28
    rwa [alloc_size, alloc_size] at this)
  have HB := Lib.hid (show Below w.heap.size w (((w.alloc (.cells (c.cells s) 28)).alloc (.cells (⟨0, po, nn, on, mx⟩ : Cd.Cm).cells 33)).alloc (.cells zC 28)) from (((Below.refl w.heap.size w).alloc (Nat.le_refl _) _).alloc (by rw [alloc_size]; omega) _).alloc (by rw [alloc_size, alloc_size]; omega) _)
  have HW := Lib.hid (show (((w.alloc (.cells (c.cells s) 28)).alloc (.cells (⟨0, po, nn, on, mx⟩ : Cd.Cm).cells 33)).alloc (.cells zC 28)).heap.size = w.heap.size + 3 by rw [alloc_size, alloc_size, alloc_size])
  have c1 := Lib.hid (clone_gs s n P _ (hs.below HB.out) hn)
  have f14 : (((w.alloc (.cells (c.cells s) 28)).alloc (.cells (⟨0, po, nn, on, mx⟩ : Cd.Cm).cells 33)).alloc (.cells zC 28)).cell? ⟨w.heap.size, 14, none⟩ = some s := C0.out.cell 14
  have HX := Lib.hid (rfl : (⟨0, po, nn, on, mx⟩ : Cd.Cm).cells = (⟨0, po, nn, on, mx⟩ : Cd.Cm).cells)
  clear hs
  have XC := Lib.hid (fun (w' : World) (h : VarAt w' (w.heap.size + 1) (⟨0, po, nn, on, mx⟩ : Cd.Cm).cells 33) => (show w'.cell? ⟨w.heap.size + 1, 0, none⟩ = some (.int .i64 0) ∧ w'.cell? ⟨w.heap.size + 1, 2, none⟩ = some (.int .i64 nn) ∧ w'.cell? ⟨w.heap.size + 1, 3, none⟩ = some (.bool on) from ⟨h.cell 0, h.cell 2, h.cell 3⟩))
  have HK := Lib.hid (fun (w' : World) (s' : Value) (h : VarAt w' w.heap.size (c.cells s) 28) => (show VarAt (w'.setCell ⟨w.heap.size, 14, none⟩ s') w.heap.size (c.cells s') 28 from h.set 14 s'))
  have H14 := Lib.hid (fun (w' : World) (h : VarAt w' w.heap.size (c.cells s) 28) => (show w'.cell? ⟨w.heap.size, 14, none⟩ = some s from h.cell 14))
  clear HX
  generalize hX : (⟨0, po, nn, on, mx⟩ : Cd.Cm).cells = X at *
  clear hX
  go_enter Tryz.func10, Tryz.ntmps10
  go_wp2_with fail
  generalize ((w.alloc (.cells (c.cells s) 28)).alloc (.cells X 33)).alloc (.cells zC 28) = W at *
  refine c1.out.mono ?_
  rintro e w1 ⟨s', rfl, hG, hb⟩
  obtain ⟨a', cc, rfl⟩ := hG.slice
  rw [HW.out] at hG hb
  have C1 := Lib.hid (C0.out.below hb (by omega))
  have X1 := Lib.hid (X0.out.below hb (by omega))
  have Z1 := Lib.hid (Z0.out.below hb (by omega))
  have HB1 := Lib.hid (HB.out.trans (hb.mono (by omega)))
  have O1 := Lib.hid hG.one'
  have HG := Lib.hid hG
  clear hb hG c1 C0 X0 Z0 HB HW f14
  have f14 := H14.out w1 C1.out
  have fz := C1.out.frozen 14
  go_wp2_with (with_reducible refine stopL 31 _ rfl ?_)
  have HG4 := Lib.hid (show GS (w1.setCell ⟨w.heap.size, 14, none⟩ (.slice a' n cc)) (w.heap.size + 3) (.slice a' n cc) n P from HG.out.setOther (vb := w.heap.size) (fun g n c e => by
    rcases HG.out with ⟨h, _⟩ | ⟨g', c', h, hg, _⟩
    · rw [h] at e; cases e
    · rw [h] at e; cases e; omega) 14 (.slice a' n cc))
  have V4 := Lib.hid (HK.out w1 (.slice a' n cc) C1.out)
  have X4 := Lib.hid (X1.out.set_other (p := ⟨w.heap.size, 14, none⟩) (show w.heap.size + 1 ≠ w.heap.size by omega) (.slice a' n cc))
  have Z4 := Lib.hid (Z1.out.set_other (p := ⟨w.heap.size, 14, none⟩) (show w.heap.size + 2 ≠ w.heap.size by omega) (.slice a' n cc))
  have HB4 := Lib.hid (HB1.out.setCell (p := ⟨w.heap.size, 14, none⟩) (Nat.le_refl _) (.slice a' n cc))
  clear f14 fz C1 X1 Z1 HB1 HG H14 HK
  generalize w1.setCell ⟨w.heap.size, 14, none⟩ (.slice a' n cc) = w4 at *
  refine Lib.hid ?_
  obtain ⟨k0, k2, k3⟩ := XC.out w4 X4.out
  clear XC
  have fc : w4.cell? ⟨w.heap.size, 6, none⟩ = some (.int .i64 c.pr) := V4.out.cell 6
  have ff := V4.out.frozen 6
  go_wp2_with (with_reducible refine stopL 28 _ rfl ?_)
  have V6 := Lib.hid (show VarAt (w4.setCell ⟨w.heap.size, 6, none⟩ (.int .i64 nn)) w.heap.size (({ c with pr := nn }).cells (.slice a' n cc)) 28 from V4.out.set 6 (.int .i64 nn))
  have Z6 := Lib.hid (Z4.out.set_other (p := ⟨w.heap.size, 6, none⟩) (show w.heap.size + 2 ≠ w.heap.size by omega) (.int .i64 nn))
  have HB6 := Lib.hid (HB4.out.setCell (p := ⟨w.heap.size, 6, none⟩) (Nat.le_refl _) (.int .i64 nn))
  have HG6 := Lib.hid (show GS (w4.setCell ⟨w.heap.size, 6, none⟩ (.int .i64 nn)) (w.heap.size + 3) (.slice a' n cc) n P from HG4.out.setOther (vb := w.heap.size) (fun g n c e => by
    rcases HG4.out with ⟨h, _⟩ | ⟨g', c', h, hg, _⟩
    · rw [h] at e; cases e
    · rw [h] at e; cases e; omega) 6 (.int .i64 nn))
  clear fc ff k0 k2 k3 V4 X4 Z4 HB4 HG4
  generalize w4.setCell ⟨w.heap.size, 6, none⟩ (.int .i64 nn) = w6 at *
  refine Lib.hid ?_
  refine wpList_load_whole uC rfl sC rfl _ rfl rfl (range_whole V6.out) (Cf.size _ (.slice a' n cc)) ?_
  refine wpList_store_whole sC rfl _ _ rfl rfl rfl Z6.out (Cf.one _ O1.out) (Cf.size _ (.slice a' n cc)) (by simp) ?_
  intro w9 hv9 hb9 ho9 _
  rw [putL_all _ _ (by rw [Cf.size]; rfl)] at hv9
  have V9 := Lib.hid hv9
  have B9 := Lib.hid (hb9 w.heap.size w (by omega) HB6.out)
  have G9 := Lib.hid (show GS w9 w.heap.size (.slice a' n cc) n P from by
    rcases HG6.out with h | ⟨g, c, e, hg, A, hA, h1, h2⟩
    · exact .inl h
    · exact .inr ⟨g, c, e, by omega, A, ho9 _ _ _ (by omega) hA, h1, h2⟩)
  clear hv9 hb9 ho9 V6 Z6 HG6 HB6 O1
  go_wp2_with (with_reducible refine stopE ?_)
  refine Lib.hid ?_
  obtain ⟨r0, r1, r2, r3, r4, r5, r6, r7, r8, r9, r10, r11, r12, r13, r14⟩ := V9.out.box
  exact bodyPost_ret (v := .tuple #[.agg (({ c with pr := nn }).cells (.slice a' n cc)), .int .i64 0]) (by simp [results, Tryz.results10, go_sem, r0, r1, r2, r3, r4, r5, r6, r7, r8, r9, r10, r11, r12, r13, r14, Cf.cells]) rfl ⟨_, rfl, G9.out, B9.out⟩
set_option maxRecDepth 20000 in
set_option maxHeartbeats 2000000 in
theorem changed_1 (po nn : Int) (on : Bool) (mx : Nat → Nat) (c : Cf) (s : Value) (n : Nat) (P : Nat → Pc) (w : World) (hs : QIn w s n P) (hn : n ≤ 20) :
    Calls Tryz.prog 10 #[.agg (c.cells s), .agg (⟨1, po, nn, on, mx⟩ : Cd.Cm).cells] w (DEnd n { c with m := nn } P 0 w) := by
  have C0 := Lib.hid (((var_new w (c.cells s) 28).alloc (.cells (⟨1, po, nn, on, mx⟩ : Cd.Cm).cells 33)).alloc (.cells zC 28))
  have X0 := Lib.hid (show VarAt (((w.alloc (.cells (c.cells s) 28)).alloc (.cells (⟨1, po, nn, on, mx⟩ : Cd.Cm).cells 33)).alloc (.cells zC 28)) (w.heap.size + 1) (⟨1, po, nn, on, mx⟩ : Cd.Cm).cells 33 by
    have := (var_new (w.alloc (.cells (c.cells s) 28)) (⟨1, po, nn, on, mx⟩ : Cd.Cm).cells 33).alloc (.cells zC 28)
    rwa [alloc_size] at this)
  have Z0 := Lib.hid (show VarAt (((w.alloc (.cells (c.cells s) 28)).alloc (.cells (⟨1, po, nn, on, mx⟩ : Cd.Cm).cells 33)).alloc (.cells zC 28)) (w.heap.size + 2) zC 28 by
    have := var_new ((w.alloc (.cells (c.cells s) 28)).alloc (.cells (⟨1, po, nn, on, mx⟩ : Cd.Cm).cells 33)) zC 28
    rwa [alloc_size, alloc_size] at this)
  have HB := Lib.hid (show Below w.heap.size w (((w.alloc (.cells (c.cells s) 28)).alloc (.cells (⟨1, po, nn, on, mx⟩ : Cd.Cm).cells 33)).alloc (.cells zC 28)) from (((Below.refl w.heap.size w).alloc (Nat.le_refl _) _).alloc (by rw [alloc_size]; omega) _).alloc (by rw [alloc_size, alloc_size]; omega) _)
  have HW := Lib.hid (show (((w.alloc (.cells (c.cells s) 28)).alloc (.cells (⟨1, po, nn, on, mx⟩ : Cd.Cm).cells 33)).alloc (.cells zC 28)).heap.size = w.heap.size + 3 by rw [alloc_size, alloc_size, alloc_size])
  have c1 := Lib.hid (clone_gs s n P _ (hs.below HB.out) hn)
  have f14 : (((w.alloc (.cells (c.cells s) 28)).alloc (.cells (⟨1, po, nn, on, mx⟩ : Cd.Cm).cells 33)).alloc (.cells zC 28)).cell? ⟨w.heap.size, 14, none⟩ = some s := C0.out.cell 14
  have HX := Lib.hid (rfl : (⟨1, po, nn, on, mx⟩ : Cd.Cm).cells = (⟨1, po, nn, on, mx⟩ : Cd.Cm).cells)
  clear hs
  have XC := Lib.hid (fun (w' : World) (h : VarAt w' (w.heap.size + 1) (⟨1, po, nn, on, mx⟩ : Cd.Cm).cells 33) => (show w'.cell? ⟨w.heap.size + 1, 0, none⟩ = some (.int .i64 1) ∧ w'.cell? ⟨w.heap.size + 1, 2, none⟩ = some (.int .i64 nn) ∧ w'.cell? ⟨w.heap.size + 1, 3, none⟩ = some (.bool on) from ⟨h.cell 0, h.cell 2, h.cell 3⟩))
  have HK := Lib.hid (fun (w' : World) (s' : Value) (h : VarAt w' w.heap.size (c.cells s) 28) => (show VarAt (w'.setCell ⟨w.heap.size, 14, none⟩ s') w.heap.size (c.cells s') 28 from h.set 14 s'))
  have H14 := Lib.hid (fun (w' : World) (h : VarAt w' w.heap.size (c.cells s) 28) => (show w'.cell? ⟨w.heap.size, 14, none⟩ = some s from h.cell 14))
  clear HX
  generalize hX : (⟨1, po, nn, on, mx⟩ : Cd.Cm).cells = X at *
  clear hX
  go_enter Tryz.func10, Tryz.ntmps10
  go_wp2_with fail
  generalize ((w.alloc (.cells (c.cells s) 28)).alloc (.cells X 33)).alloc (.cells zC 28) = W at *
  refine c1.out.mono ?_
  rintro e w1 ⟨s', rfl, hG, hb⟩
  obtain ⟨a', cc, rfl⟩ := hG.slice
  rw [HW.out] at hG hb
  have C1 := Lib.hid (C0.out.below hb (by omega))
  have X1 := Lib.hid (X0.out.below hb (by omega))
  have Z1 := Lib.hid (Z0.out.below hb (by omega))
  have HB1 := Lib.hid (HB.out.trans (hb.mono (by omega)))
  have O1 := Lib.hid hG.one'
  have HG := Lib.hid hG
  clear hb hG c1 C0 X0 Z0 HB HW f14
  have f14 := H14.out w1 C1.out
  have fz := C1.out.frozen 14
  go_wp2_with (with_reducible refine stopL 31 _ rfl ?_)
  have HG4 := Lib.hid (show GS (w1.setCell ⟨w.heap.size, 14, none⟩ (.slice a' n cc)) (w.heap.size + 3) (.slice a' n cc) n P from HG.out.setOther (vb := w.heap.size) (fun g n c e => by
    rcases HG.out with ⟨h, _⟩ | ⟨g', c', h, hg, _⟩
    · rw [h] at e; cases e
    · rw [h] at e; cases e; omega) 14 (.slice a' n cc))
  have V4 := Lib.hid (HK.out w1 (.slice a' n cc) C1.out)
  have X4 := Lib.hid (X1.out.set_other (p := ⟨w.heap.size, 14, none⟩) (show w.heap.size + 1 ≠ w.heap.size by omega) (.slice a' n cc))
  have Z4 := Lib.hid (Z1.out.set_other (p := ⟨w.heap.size, 14, none⟩) (show w.heap.size + 2 ≠ w.heap.size by omega) (.slice a' n cc))
  have HB4 := Lib.hid (HB1.out.setCell (p := ⟨w.heap.size, 14, none⟩) (Nat.le_refl _) (.slice a' n cc))
  clear f14 fz C1 X1 Z1 HB1 HG H14 HK
  generalize w1.setCell ⟨w.heap.size, 14, none⟩ (.slice a' n cc) = w4 at *
  refine Lib.hid ?_
  obtain ⟨k0, k2, k3⟩ := XC.out w4 X4.out
  clear XC
  have fc : w4.cell? ⟨w.heap.size, 8, none⟩ = some (.int .i64 c.m) := V4.out.cell 8
  have ff := V4.out.frozen 8
  go_wp2_with (with_reducible refine stopL 28 _ rfl ?_)
  have V6 := Lib.hid (show VarAt (w4.setCell ⟨w.heap.size, 8, none⟩ (.int .i64 nn)) w.heap.size (({ c with m := nn }).cells (.slice a' n cc)) 28 from V4.out.set 8 (.int .i64 nn))
  have Z6 := Lib.hid (Z4.out.set_other (p := ⟨w.heap.size, 8, none⟩) (show w.heap.size + 2 ≠ w.heap.size by omega) (.int .i64 nn))
  have HB6 := Lib.hid (HB4.out.setCell (p := ⟨w.heap.size, 8, none⟩) (Nat.le_refl _) (.int .i64 nn))
  have HG6 := Lib.hid (show GS (w4.setCell ⟨w.heap.size, 8, none⟩ (.int .i64 nn)) (w.heap.size + 3) (.slice a' n cc) n P from HG4.out.setOther (vb := w.heap.size) (fun g n c e => by
    rcases HG4.out with ⟨h, _⟩ | ⟨g', c', h, hg, _⟩
    · rw [h] at e; cases e
    · rw [h] at e; cases e; omega) 8 (.int .i64 nn))
  clear fc ff k0 k2 k3 V4 X4 Z4 HB4 HG4
  generalize w4.setCell ⟨w.heap.size, 8, none⟩ (.int .i64 nn) = w6 at *
  refine Lib.hid ?_
  refine wpList_load_whole uC rfl sC rfl _ rfl rfl (range_whole V6.out) (Cf.size _ (.slice a' n cc)) ?_
  refine wpList_store_whole sC rfl _ _ rfl rfl rfl Z6.out (Cf.one _ O1.out) (Cf.size _ (.slice a' n cc)) (by simp) ?_
  intro w9 hv9 hb9 ho9 _
  rw [putL_all _ _ (by rw [Cf.size]; rfl)] at hv9
  have V9 := Lib.hid hv9
  have B9 := Lib.hid (hb9 w.heap.size w (by omega) HB6.out)
  have G9 := Lib.hid (show GS w9 w.heap.size (.slice a' n cc) n P from by
    rcases HG6.out with h | ⟨g, c, e, hg, A, hA, h1, h2⟩
    · exact .inl h
    · exact .inr ⟨g, c, e, by omega, A, ho9 _ _ _ (by omega) hA, h1, h2⟩)
  clear hv9 hb9 ho9 V6 Z6 HG6 HB6 O1
  go_wp2_with (with_reducible refine stopE ?_)
  refine Lib.hid ?_
  obtain ⟨r0, r1, r2, r3, r4, r5, r6, r7, r8, r9, r10, r11, r12, r13, r14⟩ := V9.out.box
  exact bodyPost_ret (v := .tuple #[.agg (({ c with m := nn }).cells (.slice a' n cc)), .int .i64 0]) (by simp [results, Tryz.results10, go_sem, r0, r1, r2, r3, r4, r5, r6, r7, r8, r9, r10, r11, r12, r13, r14, Cf.cells]) rfl ⟨_, rfl, G9.out, B9.out⟩
set_option maxRecDepth 20000 in
set_option maxHeartbeats 2000000 in
theorem changed_2 (po nn : Int) (on : Bool) (mx : Nat → Nat) (c : Cf) (s : Value) (n : Nat) (P : Nat → Pc) (w : World) (hs : QIn w s n P) (hn : n ≤ 20) :
    Calls Tryz.prog 10 #[.agg (c.cells s), .agg (⟨2, po, nn, on, mx⟩ : Cd.Cm).cells] w (DEnd n { c with h := nn } P 0 w) := by
  have C0 := Lib.hid (((var_new w (c.cells s) 28).alloc (.cells (⟨2, po, nn, on, mx⟩ : Cd.Cm).cells 33)).alloc (.cells zC 28))
  have X0 := Lib.hid (show VarAt (((w.alloc (.cells (c.cells s) 28)).alloc (.cells (⟨2, po, nn, on, mx⟩ : Cd.Cm).cells 33)).alloc (.cells zC 28)) (w.heap.size + 1) (⟨2, po, nn, on, mx⟩ : Cd.Cm).cells 33 by
    have := (var_new (w.alloc (.cells (c.cells s) 28)) (⟨2, po, nn, on, mx⟩ : Cd.Cm).cells 33).alloc (.cells zC 28)
    rwa [alloc_size] at this)
  have Z0 := Lib.hid (show VarAt (((w.alloc (.cells (c.cells s) 28)).alloc (.cells (⟨2, po, nn, on, mx⟩ : Cd.Cm).cells 33)).alloc (.cells zC 28)) (w.heap.size + 2) zC 28 by
    have := var_new ((w.alloc (.cells (c.cells s) 28)).alloc (.cells (⟨2, po, nn, on, mx⟩ : Cd.Cm).cells 33)) zC 28
    rwa [alloc_size, alloc_size] at this)
  have HB := Lib.hid (show Below w.heap.size w (((w.alloc (.cells (c.cells s) 28)).alloc (.cells (⟨2, po, nn, on, mx⟩ : Cd.Cm).cells 33)).alloc (.cells zC 28)) from (((Below.refl w.heap.size w).alloc (Nat.le_refl _) _).alloc (by rw [alloc_size]; omega) _).alloc (by rw [alloc_size, alloc_size]; omega) _)
  have HW := Lib.hid (show (((w.alloc (.cells (c.cells s) 28)).alloc (.cells (⟨2, po, nn, on, mx⟩ : Cd.Cm).cells 33)).alloc (.cells zC 28)).heap.size = w.heap.size + 3 by rw [alloc_size, alloc_size, alloc_size])
  have c1 := Lib.hid (clone_gs s n P _ (hs.below HB.out) hn)
  have f14 : (((w.alloc (.cells (c.cells s) 28)).alloc (.cells (⟨2, po, nn, on, mx⟩ : Cd.Cm).cells 33)).alloc (.cells zC 28)).cell? ⟨w.heap.size, 14, none⟩ = some s := C0.out.cell 14
  have HX := Lib.hid (rfl : (⟨2, po, nn, on, mx⟩ : Cd.Cm).cells = (⟨2, po, nn, on, mx⟩ : Cd.Cm).cells)
  clear hs
  have XC := Lib.hid (fun (w' : World) (h : VarAt w' (w.heap.size + 1) (⟨2, po, nn, on, mx⟩ : Cd.Cm).cells 33) => (show w'.cell? ⟨w.heap.size + 1, 0, none⟩ = some (.int .i64 2) ∧ w'.cell? ⟨w.heap.size + 1, 2, none⟩ = some (.int .i64 nn) ∧ w'.cell? ⟨w.heap.size + 1, 3, none⟩ = some (.bool on) from ⟨h.cell 0, h.cell 2, h.cell 3⟩))
  have HK := Lib.hid (fun (w' : World) (s' : Value) (h : VarAt w' w.heap.size (c.cells s) 28) => (show VarAt (w'.setCell ⟨w.heap.size, 14, none⟩ s') w.heap.size (c.cells s') 28 from h.set 14 s'))
  have H14 := Lib.hid (fun (w' : World) (h : VarAt w' w.heap.size (c.cells s) 28) => (show w'.cell? ⟨w.heap.size, 14, none⟩ = some s from h.cell 14))
  clear HX
  generalize hX : (⟨2, po, nn, on, mx⟩ : Cd.Cm).cells = X at *
  clear hX
  go_enter Tryz.func10, Tryz.ntmps10
  go_wp2_with fail
  generalize ((w.alloc (.cells (c.cells s) 28)).alloc (.cells X 33)).alloc (.cells zC 28) = W at *
  refine c1.out.mono ?_
  rintro e w1 ⟨s', rfl, hG, hb⟩
  obtain ⟨a', cc, rfl⟩ := hG.slice
  rw [HW.out] at hG hb
  have C1 := Lib.hid (C0.out.below hb (by omega))
  have X1 := Lib.hid (X0.out.below hb (by omega))
  have Z1 := Lib.hid (Z0.out.below hb (by omega))
  have HB1 := Lib.hid (HB.out.trans (hb.mono (by omega)))
  have O1 := Lib.hid hG.one'
  have HG := Lib.hid hG
  clear hb hG c1 C0 X0 Z0 HB HW f14
  have f14 := H14.out w1 C1.out
  have fz := C1.out.frozen 14
  go_wp2_with (with_reducible refine stopL 31 _ rfl ?_)
  have HG4 := Lib.hid (show GS (w1.setCell ⟨w.heap.size, 14, none⟩ (.slice a' n cc)) (w.heap.size + 3) (.slice a' n cc) n P from HG.out.setOther (vb := w.heap.size) (fun g n c e => by
    rcases HG.out with ⟨h, _⟩ | ⟨g', c', h, hg, _⟩
    · rw [h] at e; cases e
    · rw [h] at e; cases e; omega) 14 (.slice a' n cc))
  have V4 := Lib.hid (HK.out w1 (.slice a' n cc) C1.out)
  have X4 := Lib.hid (X1.out.set_other (p := ⟨w.heap.size, 14, none⟩) (show w.heap.size + 1 ≠ w.heap.size by omega) (.slice a' n cc))
  have Z4 := Lib.hid (Z1.out.set_other (p := ⟨w.heap.size, 14, none⟩) (show w.heap.size + 2 ≠ w.heap.size by omega) (.slice a' n cc))
  have HB4 := Lib.hid (HB1.out.setCell (p := ⟨w.heap.size, 14, none⟩) (Nat.le_refl _) (.slice a' n cc))
  clear f14 fz C1 X1 Z1 HB1 HG H14 HK
  generalize w1.setCell ⟨w.heap.size, 14, none⟩ (.slice a' n cc) = w4 at *
  refine Lib.hid ?_
  obtain ⟨k0, k2, k3⟩ := XC.out w4 X4.out
  clear XC
  have fc : w4.cell? ⟨w.heap.size, 9, none⟩ = some (.int .i64 c.h) := V4.out.cell 9
  have ff := V4.out.frozen 9
  go_wp2_with (with_reducible refine stopL 28 _ rfl ?_)
  have V6 := Lib.hid (show VarAt (w4.setCell ⟨w.heap.size, 9, none⟩ (.int .i64 nn)) w.heap.size (({ c with h := nn }).cells (.slice a' n cc)) 28 from V4.out.set 9 (.int .i64 nn))
  have Z6 := Lib.hid (Z4.out.set_other (p := ⟨w.heap.size, 9, none⟩) (show w.heap.size + 2 ≠ w.heap.size by omega) (.int .i64 nn))
  have HB6 := Lib.hid (HB4.out.setCell (p := ⟨w.heap.size, 9, none⟩) (Nat.le_refl _) (.int .i64 nn))
  have HG6 := Lib.hid (show GS (w4.setCell ⟨w.heap.size, 9, none⟩ (.int .i64 nn)) (w.heap.size + 3) (.slice a' n cc) n P from HG4.out.setOther (vb := w.heap.size) (fun g n c e => by
    rcases HG4.out with ⟨h, _⟩ | ⟨g', c', h, hg, _⟩
    · rw [h] at e; cases e
    · rw [h] at e; cases e; omega) 9 (.int .i64 nn))
  clear fc ff k0 k2 k3 V4 X4 Z4 HB4 HG4
  generalize w4.setCell ⟨w.heap.size, 9, none⟩ (.int .i64 nn) = w6 at *
  refine Lib.hid ?_
  refine wpList_load_whole uC rfl sC rfl _ rfl rfl (range_whole V6.out) (Cf.size _ (.slice a' n cc)) ?_
  refine wpList_store_whole sC rfl _ _ rfl rfl rfl Z6.out (Cf.one _ O1.out) (Cf.size _ (.slice a' n cc)) (by simp) ?_
  intro w9 hv9 hb9 ho9 _
  rw [putL_all _ _ (by rw [Cf.size]; rfl)] at hv9
  have V9 := Lib.hid hv9
  have B9 := Lib.hid (hb9 w.heap.size w (by omega) HB6.out)
  have G9 := Lib.hid (show GS w9 w.heap.size (.slice a' n cc) n P from by
    rcases HG6.out with h | ⟨g, c, e, hg, A, hA, h1, h2⟩
    · exact .inl h
    · exact .inr ⟨g, c, e, by omega, A, ho9 _ _ _ (by omega) hA, h1, h2⟩)
  clear hv9 hb9 ho9 V6 Z6 HG6 HB6 O1
  go_wp2_with (with_reducible refine stopE ?_)
  refine Lib.hid ?_
  obtain ⟨r0, r1, r2, r3, r4, r5, r6, r7, r8, r9, r10, r11, r12, r13, r14⟩ := V9.out.box
  exact bodyPost_ret (v := .tuple #[.agg (({ c with h := nn }).cells (.slice a' n cc)), .int .i64 0]) (by simp [results, Tryz.results10, go_sem, r0, r1, r2, r3, r4, r5, r6, r7, r8, r9, r10, r11, r12, r13, r14, Cf.cells]) rfl ⟨_, rfl, G9.out, B9.out⟩
set_option maxRecDepth 20000 in
set_option maxHeartbeats 2000000 in
theorem changed_3 (po nn : Int) (on : Bool) (mx : Nat → Nat) (c : Cf) (s : Value) (n : Nat) (P : Nat → Pc) (w : World) (hs : QIn w s n P) (hn : n ≤ 20) :
    Calls Tryz.prog 10 #[.agg (c.cells s), .agg (⟨3, po, nn, on, mx⟩ : Cd.Cm).cells] w (DEnd n { c with d := nn } P 0 w) := by
  have C0 := Lib.hid (((var_new w (c.cells s) 28).alloc (.cells (⟨3, po, nn, on, mx⟩ : Cd.Cm).cells 33)).alloc (.cells zC 28))
  have X0 := Lib.hid (show VarAt (((w.alloc (.cells (c.cells s) 28)).alloc (.cells (⟨3, po, nn, on, mx⟩ : Cd.Cm).cells 33)).alloc (.cells zC 28)) (w.heap.size + 1) (⟨3, po, nn, on, mx⟩ : Cd.Cm).cells 33 by
    have := (var_new (w.alloc (.cells (c.cells s) 28)) (⟨3, po, nn, on, mx⟩ : Cd.Cm).cells 33).alloc (.cells zC 28)
    rwa [alloc_size] at this)
  have Z0 := Lib.hid (show VarAt (((w.alloc (.cells (c.cells s) 28)).alloc (.cells (⟨3, po, nn, on, mx⟩ : Cd.Cm).cells 33)).alloc (.cells zC 28)) (w.heap.size + 2) zC 28 by
    have := var_new ((w.alloc (.cells (c.cells s) 28)).alloc (.cells (⟨3, po, nn, on, mx⟩ : Cd.Cm).cells 33)) zC 28
    rwa [alloc_size, alloc_size] at this)
  have HB := Lib.hid (show Below w.heap.size w (((w.alloc (.cells (c.cells s) 28)).alloc (.cells (⟨3, po, nn, on, mx⟩ : Cd.Cm).cells 33)).alloc (.cells zC 28)) from (((Below.refl w.heap.size w).alloc (Nat.le_refl _) _).alloc (by rw [alloc_size]; omega) _).alloc (by rw [alloc_size, alloc_size]; omega) _)
  have HW := Lib.hid (show (((w.alloc (.cells (c.cells s) 28)).alloc (.cells (⟨3, po, nn, on, mx⟩ : Cd.Cm).cells 33)).alloc (.cells zC 28)).heap.size = w.heap.size + 3 by rw [alloc_size, alloc_size, alloc_size])
  have c1 := Lib.hid (clone_gs s n P _ (hs.below HB.out) hn)
  have f14 : (((w.alloc (.cells (c.cells s) 28)).alloc (.cells (⟨3, po, nn, on, mx⟩ : Cd.Cm).cells 33)).alloc (.cells zC 28)).cell? ⟨w.heap.size, 14, none⟩ = some s := C0.out.cell 14
  have HX := Lib.hid (rfl : (⟨3, po, nn, on, mx⟩ : Cd.Cm).cells = (⟨3, po, nn, on, mx⟩ : Cd.Cm).cells)
  clear hs
  have XC := Lib.hid (fun (w' : World) (h : VarAt w' (w.heap.size + 1) (⟨3, po, nn, on, mx⟩ : Cd.Cm).cells 33) => (show w'.cell? ⟨w.heap.size + 1, 0, none⟩ = some (.int .i64 3) ∧ w'.cell? ⟨w.heap.size + 1, 2, none⟩ = some (.int .i64 nn) ∧ w'.cell? ⟨w.heap.size + 1, 3, none⟩ = some (.bool on) from ⟨h.cell 0, h.cell 2, h.cell 3⟩))
  have HK := Lib.hid (fun (w' : World) (s' : Value) (h : VarAt w' w.heap.size (c.cells s) 28) => (show VarAt (w'.setCell ⟨w.heap.size, 14, none⟩ s') w.heap.size (c.cells s') 28 from h.set 14 s'))
  have H14 := Lib.hid (fun (w' : World) (h : VarAt w' w.heap.size (c.cells s) 28) => (show w'.cell? ⟨w.heap.size, 14, none⟩ = some s from h.cell 14))
  clear HX
  generalize hX : (⟨3, po, nn, on, mx⟩ : Cd.Cm).cells = X at *
  clear hX
  go_enter Tryz.func10, Tryz.ntmps10
  go_wp2_with fail
  generalize ((w.alloc (.cells (c.cells s) 28)).alloc (.cells X 33)).alloc (.cells zC 28) = W at *
  refine c1.out.mono ?_
  rintro e w1 ⟨s', rfl, hG, hb⟩
  obtain ⟨a', cc, rfl⟩ := hG.slice
  rw [HW.out] at hG hb
  have C1 := Lib.hid (C0.out.below hb (by omega))
  have X1 := Lib.hid (X0.out.below hb (by omega))
  have Z1 := Lib.hid (Z0.out.below hb (by omega))
  have HB1 := Lib.hid (HB.out.trans (hb.mono (by omega)))
  have O1 := Lib.hid hG.one'
  have HG := Lib.hid hG
  clear hb hG c1 C0 X0 Z0 HB HW f14
  have f14 := H14.out w1 C1.out
  have fz := C1.out.frozen 14
  go_wp2_with (with_reducible refine stopL 31 _ rfl ?_)
  have HG4 := Lib.hid (show GS (w1.setCell ⟨w.heap.size, 14, none⟩ (.slice a' n cc)) (w.heap.size + 3) (.slice a' n cc) n P from HG.out.setOther (vb := w.heap.size) (fun g n c e => by
    rcases HG.out with ⟨h, _⟩ | ⟨g', c', h, hg, _⟩
    · rw [h] at e; cases e
    · rw [h] at e; cases e; omega) 14 (.slice a' n cc))
  have V4 := Lib.hid (HK.out w1 (.slice a' n cc) C1.out)
  have X4 := Lib.hid (X1.out.set_other (p := ⟨w.heap.size, 14, none⟩) (show w.heap.size + 1 ≠ w.heap.size by omega) (.slice a' n cc))
  have Z4 := Lib.hid (Z1.out.set_other (p := ⟨w.heap.size, 14, none⟩) (show w.heap.size + 2 ≠ w.heap.size by omega) (.slice a' n cc))
  have HB4 := Lib.hid (HB1.out.setCell (p := ⟨w.heap.size, 14, none⟩) (Nat.le_refl _) (.slice a' n cc))
  clear f14 fz C1 X1 Z1 HB1 HG H14 HK
  generalize w1.setCell ⟨w.heap.size, 14, none⟩ (.slice a' n cc) = w4 at *
  refine Lib.hid ?_
  obtain ⟨k0, k2, k3⟩ := XC.out w4 X4.out
  clear XC
  have fc : w4.cell? ⟨w.heap.size, 10, none⟩ = some (.int .i64 c.d) := V4.out.cell 10
  have ff := V4.out.frozen 10
  go_wp2_with (with_reducible refine stopL 28 _ rfl ?_)
  have V6 := Lib.hid (show VarAt (w4.setCell ⟨w.heap.size, 10, none⟩ (.int .i64 nn)) w.heap.size (({ c with d := nn }).cells (.slice a' n cc)) 28 from V4.out.set 10 (.int .i64 nn))
  have Z6 := Lib.hid (Z4.out.set_other (p := ⟨w.heap.size, 10, none⟩) (show w.heap.size + 2 ≠ w.heap.size by omega) (.int .i64 nn))
  have HB6 := Lib.hid (HB4.out.setCell (p := ⟨w.heap.size, 10, none⟩) (Nat.le_refl _) (.int .i64 nn))
  have HG6 := Lib.hid (show GS (w4.setCell ⟨w.heap.size, 10, none⟩ (.int .i64 nn)) (w.heap.size + 3) (.slice a' n cc) n P from HG4.out.setOther (vb := w.heap.size) (fun g n c e => by
    rcases HG4.out with ⟨h, _⟩ | ⟨g', c', h, hg, _⟩
    · rw [h] at e; cases e
    · rw [h] at e; cases e; omega) 10 (.int .i64 nn))
  clear fc ff k0 k2 k3 V4 X4 Z4 HB4 HG4
  generalize w4.setCell ⟨w.heap.size, 10, none⟩ (.int .i64 nn) = w6 at *
  refine Lib.hid ?_
  refine wpList_load_whole uC rfl sC rfl _ rfl rfl (range_whole V6.out) (Cf.size _ (.slice a' n cc)) ?_
  refine wpList_store_whole sC rfl _ _ rfl rfl rfl Z6.out (Cf.one _ O1.out) (Cf.size _ (.slice a' n cc)) (by simp) ?_
  intro w9 hv9 hb9 ho9 _
  rw [putL_all _ _ (by rw [Cf.size]; rfl)] at hv9
  have V9 := Lib.hid hv9
  have B9 := Lib.hid (hb9 w.heap.size w (by omega) HB6.out)
  have G9 := Lib.hid (show GS w9 w.heap.size (.slice a' n cc) n P from by
    rcases HG6.out with h | ⟨g, c, e, hg, A, hA, h1, h2⟩
    · exact .inl h
    · exact .inr ⟨g, c, e, by omega, A, ho9 _ _ _ (by omega) hA, h1, h2⟩)
  clear hv9 hb9 ho9 V6 Z6 HG6 HB6 O1
  go_wp2_with (with_reducible refine stopE ?_)
  refine Lib.hid ?_
  obtain ⟨r0, r1, r2, r3, r4, r5, r6, r7, r8, r9, r10, r11, r12, r13, r14⟩ := V9.out.box
  exact bodyPost_ret (v := .tuple #[.agg (({ c with d := nn }).cells (.slice a' n cc)), .int .i64 0]) (by simp [results, Tryz.results10, go_sem, r0, r1, r2, r3, r4, r5, r6, r7, r8, r9, r10, r11, r12, r13, r14, Cf.cells]) rfl ⟨_, rfl, G9.out, B9.out⟩
set_option maxRecDepth 20000 in
set_option maxHeartbeats 2000000 in
theorem changed_4 (po nn : Int) (on : Bool) (mx : Nat → Nat) (c : Cf) (s : Value) (n : Nat) (P : Nat → Pc) (w : World) (hs : QIn w s n P) (hn : n ≤ 20) :
    Calls Tryz.prog 10 #[.agg (c.cells s), .agg (⟨4, po, nn, on, mx⟩ : Cd.Cm).cells] w (DEnd n { c with ho := nn } P 0 w) := by
  have C0 := Lib.hid (((var_new w (c.cells s) 28).alloc (.cells (⟨4, po, nn, on, mx⟩ : Cd.Cm).cells 33)).alloc (.cells zC 28))
  have X0 := Lib.hid (show VarAt (((w.alloc (.cells (c.cells s) 28)).alloc (.cells (⟨4, po, nn, on, mx⟩ : Cd.Cm).cells 33)).alloc (.cells zC 28)) (w.heap.size + 1) (⟨4, po, nn, on, mx⟩ : Cd.Cm).cells 33 by
    have := (var_new (w.alloc (.cells (c.cells s) 28)) (⟨4, po, nn, on, mx⟩ : Cd.Cm).cells 33).alloc (.cells zC 28)
    rwa [alloc_size] at this)
  have Z0 := Lib.hid (show VarAt (((w.alloc (.cells (c.cells s) 28)).alloc (.cells (⟨4, po, nn, on, mx⟩ : Cd.Cm).cells 33)).alloc (.cells zC 28)) (w.heap.size + 2) zC 28 by
    have := var_new ((w.alloc (.cells (c.cells s) 28)).alloc (.cells (⟨4, po, nn, on, mx⟩ : Cd.Cm).cells 33)) zC 28
    rwa [alloc_size, alloc_size] at this)
  have HB := Lib.hid (show Below w.heap.size w (((w.alloc (.cells (c.cells s) 28)).alloc (.cells (⟨4, po, nn, on, mx⟩ : Cd.Cm).cells 33)).alloc (.cells zC 28)) from (((Below.refl w.heap.size w).alloc (Nat.le_refl _) _).alloc (by rw [alloc_size]; omega) _).alloc (by rw [alloc_size, alloc_size]; omega) _)
  have HW := Lib.hid (show (((w.alloc (.cells (c.cells s) 28)).alloc (.cells (⟨4, po, nn, on, mx⟩ : Cd.Cm).cells 33)).alloc (.cells zC 28)).heap.size = w.heap.size + 3 by rw [alloc_size, alloc_size, alloc_size])
  have c1 := Lib.hid (clone_gs s n P _ (hs.below HB.out) hn)
  have f14 : (((w.alloc (.cells (c.cells s) 28)).alloc (.cells (⟨4, po, nn, on, mx⟩ : Cd.Cm).cells 33)).alloc (.cells zC 28)).cell? ⟨w.heap.size, 14, none⟩ = some s := C0.out.cell 14
  have HX := Lib.hid (rfl : (⟨4, po, nn, on, mx⟩ : Cd.Cm).cells = (⟨4, po, nn, on, mx⟩ : Cd.Cm).cells)
  clear hs
  have XC := Lib.hid (fun (w' : World) (h : VarAt w' (w.heap.size + 1) (⟨4, po, nn, on, mx⟩ : Cd.Cm).cells 33) => (show w'.cell? ⟨w.heap.size + 1, 0, none⟩ = some (.int .i64 4) ∧ w'.cell? ⟨w.heap.size + 1, 2, none⟩ = some (.int .i64 nn) ∧ w'.cell? ⟨w.heap.size + 1, 3, none⟩ = some (.bool on) from ⟨h.cell 0, h.cell 2, h.cell 3⟩))
  have HK := Lib.hid (fun (w' : World) (s' : Value) (h : VarAt w' w.heap.size (c.cells s) 28) => (show VarAt (w'.setCell ⟨w.heap.size, 14, none⟩ s') w.heap.size (c.cells s') 28 from h.set 14 s'))
  have H14 := Lib.hid (fun (w' : World) (h : VarAt w' w.heap.size (c.cells s) 28) => (show w'.cell? ⟨w.heap.size, 14, none⟩ = some s from h.cell 14))
  clear HX
  generalize hX : (⟨4, po, nn, on, mx⟩ : Cd.Cm).cells = X at *
  clear hX
  go_enter Tryz.func10, Tryz.ntmps10
  go_wp2_with fail
  generalize ((w.alloc (.cells (c.cells s) 28)).alloc (.cells X 33)).alloc (.cells zC 28) = W at *
  refine c1.out.mono ?_
  rintro e w1 ⟨s', rfl, hG, hb⟩
  obtain ⟨a', cc, rfl⟩ := hG.slice
  rw [HW.out] at hG hb
  have C1 := Lib.hid (C0.out.below hb (by omega))
  have X1 := Lib.hid (X0.out.below hb (by omega))
  have Z1 := Lib.hid (Z0.out.below hb (by omega))
  have HB1 := Lib.hid (HB.out.trans (hb.mono (by omega)))
  have O1 := Lib.hid hG.one'
  have HG := Lib.hid hG
  clear hb hG c1 C0 X0 Z0 HB HW f14
  have f14 := H14.out w1 C1.out
  have fz := C1.out.frozen 14
  go_wp2_with (with_reducible refine stopL 31 _ rfl ?_)
  have HG4 := Lib.hid (show GS (w1.setCell ⟨w.heap.size, 14, none⟩ (.slice a' n cc)) (w.heap.size + 3) (.slice a' n cc) n P from HG.out.setOther (vb := w.heap.size) (fun g n c e => by
    rcases HG.out with ⟨h, _⟩ | ⟨g', c', h, hg, _⟩
    · rw [h] at e; cases e
    · rw [h] at e; cases e; omega) 14 (.slice a' n cc))
  have V4 := Lib.hid (HK.out w1 (.slice a' n cc) C1.out)
  have X4 := Lib.hid (X1.out.set_other (p := ⟨w.heap.size, 14, none⟩) (show w.heap.size + 1 ≠ w.heap.size by omega) (.slice a' n cc))
  have Z4 := Lib.hid (Z1.out.set_other (p := ⟨w.heap.size, 14, none⟩) (show w.heap.size + 2 ≠ w.heap.size by omega) (.slice a' n cc))
  have HB4 := Lib.hid (HB1.out.setCell (p := ⟨w.heap.size, 14, none⟩) (Nat.le_refl _) (.slice a' n cc))
  clear f14 fz C1 X1 Z1 HB1 HG H14 HK
  generalize w1.setCell ⟨w.heap.size, 14, none⟩ (.slice a' n cc) = w4 at *
  refine Lib.hid ?_
  obtain ⟨k0, k2, k3⟩ := XC.out w4 X4.out
  clear XC
  have fc : w4.cell? ⟨w.heap.size, 11, none⟩ = some (.int .i64 c.ho) := V4.out.cell 11
  have ff := V4.out.frozen 11
  go_wp2_with (with_reducible refine stopL 28 _ rfl ?_)
  have V6 := Lib.hid (show VarAt (w4.setCell ⟨w.heap.size, 11, none⟩ (.int .i64 nn)) w.heap.size (({ c with ho := nn }).cells (.slice a' n cc)) 28 from V4.out.set 11 (.int .i64 nn))
  have Z6 := Lib.hid (Z4.out.set_other (p := ⟨w.heap.size, 11, none⟩) (show w.heap.size + 2 ≠ w.heap.size by omega) (.int .i64 nn))
  have HB6 := Lib.hid (HB4.out.setCell (p := ⟨w.heap.size, 11, none⟩) (Nat.le_refl _) (.int .i64 nn))
  have HG6 := Lib.hid (show GS (w4.setCell ⟨w.heap.size, 11, none⟩ (.int .i64 nn)) (w.heap.size + 3) (.slice a' n cc) n P from HG4.out.setOther (vb := w.heap.size) (fun g n c e => by
    rcases HG4.out with ⟨h, _⟩ | ⟨g', c', h, hg, _⟩
    · rw [h] at e; cases e
    · rw [h] at e; cases e; omega) 11 (.int .i64 nn))
  clear fc ff k0 k2 k3 V4 X4 Z4 HB4 HG4
  generalize w4.setCell ⟨w.heap.size, 11, none⟩ (.int .i64 nn) = w6 at *
  refine Lib.hid ?_
  refine wpList_load_whole uC rfl sC rfl _ rfl rfl (range_whole V6.out) (Cf.size _ (.slice a' n cc)) ?_
  refine wpList_store_whole sC rfl _ _ rfl rfl rfl Z6.out (Cf.one _ O1.out) (Cf.size _ (.slice a' n cc)) (by simp) ?_
  intro w9 hv9 hb9 ho9 _
  rw [putL_all _ _ (by rw [Cf.size]; rfl)] at hv9
  have V9 := Lib.hid hv9
  have B9 := Lib.hid (hb9 w.heap.size w (by omega) HB6.out)
  have G9 := Lib.hid (show GS w9 w.heap.size (.slice a' n cc) n P from by
    rcases HG6.out with h | ⟨g, c, e, hg, A, hA, h1, h2⟩
    · exact .inl h
    · exact .inr ⟨g, c, e, by omega, A, ho9 _ _ _ (by omega) hA, h1, h2⟩)
  clear hv9 hb9 ho9 V6 Z6 HG6 HB6 O1
  go_wp2_with (with_reducible refine stopE ?_)
  refine Lib.hid ?_
  obtain ⟨r0, r1, r2, r3, r4, r5, r6, r7, r8, r9, r10, r11, r12, r13, r14⟩ := V9.out.box
  exact bodyPost_ret (v := .tuple #[.agg (({ c with ho := nn }).cells (.slice a' n cc)), .int .i64 0]) (by simp [results, Tryz.results10, go_sem, r0, r1, r2, r3, r4, r5, r6, r7, r8, r9, r10, r11, r12, r13, r14, Cf.cells]) rfl ⟨_, rfl, G9.out, B9.out⟩
set_option maxRecDepth 20000 in
set_option maxHeartbeats 2000000 in
theorem changed_5 (po nn : Int) (on : Bool) (mx : Nat → Nat) (c : Cf) (s : Value) (n : Nat) (P : Nat → Pc) (w : World) (hs : QIn w s n P) (hn : n ≤ 20) :
    Calls Tryz.prog 10 #[.agg (c.cells s), .agg (⟨5, po, nn, on, mx⟩ : Cd.Cm).cells] w (DEnd n { c with rs := on } P 0 w) := by
  have C0 := Lib.hid (((var_new w (c.cells s) 28).alloc (.cells (⟨5, po, nn, on, mx⟩ : Cd.Cm).cells 33)).alloc (.cells zC 28))
  have X0 := Lib.hid (show VarAt (((w.alloc (.cells (c.cells s) 28)).alloc (.cells (⟨5, po, nn, on, mx⟩ : Cd.Cm).cells 33)).alloc (.cells zC 28)) (w.heap.size + 1) (⟨5, po, nn, on, mx⟩ : Cd.Cm).cells 33 by
    have := (var_new (w.alloc (.cells (c.cells s) 28)) (⟨5, po, nn, on, mx⟩ : Cd.Cm).cells 33).alloc (.cells zC 28)
    rwa [alloc_size] at this)
  have Z0 := Lib.hid (show VarAt (((w.alloc (.cells (c.cells s) 28)).alloc (.cells (⟨5, po, nn, on, mx⟩ : Cd.Cm).cells 33)).alloc (.cells zC 28)) (w.heap.size + 2) zC 28 by
    have := var_new ((w.alloc (.cells (c.cells s) 28)).alloc (.cells (⟨5, po, nn, on, mx⟩ : Cd.Cm).cells 33)) zC 28
    rwa [alloc_size, alloc_size] at this)
  have HB := Lib.hid (show Below w.heap.size w (((w.alloc (.cells (c.cells s) 28)).alloc (.cells (⟨5, po, nn, on, mx⟩ : Cd.Cm).cells 33)).alloc (.cells zC 28)) from (((Below.refl w.heap.size w).alloc (Nat.le_refl _) _).alloc (by rw [alloc_size]; omega) _).alloc (by rw [alloc_size, alloc_size]; omega) _)
  have HW := Lib.hid (show (((w.alloc (.cells (c.cells s) 28)).alloc (.cells (⟨5, po, nn, on, mx⟩ : Cd.Cm).cells 33)).alloc (.cells zC 28)).heap.size = w.heap.size + 3 by rw [alloc_size, alloc_size, alloc_size])
  have c1 := Lib.hid (clone_gs s n P _ (hs.below HB.out) hn)
  have f14 : (((w.alloc (.cells (c.cells s) 28)).alloc (.cells (⟨5, po, nn, on, mx⟩ : Cd.Cm).cells 33)).alloc (.cells zC 28)).cell? ⟨w.heap.size, 14, none⟩ = some s := C0.out.cell 14
  have HX := Lib.hid (rfl : (⟨5, po, nn, on, mx⟩ : Cd.Cm).cells = (⟨5, po, nn, on, mx⟩ : Cd.Cm).cells)
  clear hs
  have XC := Lib.hid (fun (w' : World) (h : VarAt w' (w.heap.size + 1) (⟨5, po, nn, on, mx⟩ : Cd.Cm).cells 33) => (show w'.cell? ⟨w.heap.size + 1, 0, none⟩ = some (.int .i64 5) ∧ w'.cell? ⟨w.heap.size + 1, 2, none⟩ = some (.int .i64 nn) ∧ w'.cell? ⟨w.heap.size + 1, 3, none⟩ = some (.bool on) from ⟨h.cell 0, h.cell 2, h.cell 3⟩))
  have HK := Lib.hid (fun (w' : World) (s' : Value) (h : VarAt w' w.heap.size (c.cells s) 28) => (show VarAt (w'.setCell ⟨w.heap.size, 14, none⟩ s') w.heap.size (c.cells s') 28 from h.set 14 s'))
  have H14 := Lib.hid (fun (w' : World) (h : VarAt w' w.heap.size (c.cells s) 28) => (show w'.cell? ⟨w.heap.size, 14, none⟩ = some s from h.cell 14))
  clear HX
  generalize hX : (⟨5, po, nn, on, mx⟩ : Cd.Cm).cells = X at *
  clear hX
  go_enter Tryz.func10, Tryz.ntmps10
  go_wp2_with fail
  generalize ((w.alloc (.cells (c.cells s) 28)).alloc (.cells X 33)).alloc (.cells zC 28) = W at *
  refine c1.out.mono ?_
  rintro e w1 ⟨s', rfl, hG, hb⟩
  obtain ⟨a', cc, rfl⟩ := hG.slice
  rw [HW.out] at hG hb
  have C1 := Lib.hid (C0.out.below hb (by omega))
  have X1 := Lib.hid (X0.out.below hb (by omega))
  have Z1 := Lib.hid (Z0.out.below hb (by omega))
  have HB1 := Lib.hid (HB.out.trans (hb.mono (by omega)))
  have O1 := Lib.hid hG.one'
  have HG := Lib.hid hG
  clear hb hG c1 C0 X0 Z0 HB HW f14
  have f14 := H14.out w1 C1.out
  have fz := C1.out.frozen 14
  go_wp2_with (with_reducible refine stopL 31 _ rfl ?_)
  have HG4 := Lib.hid (show GS (w1.setCell ⟨w.heap.size, 14, none⟩ (.slice a' n cc)) (w.heap.size + 3) (.slice a' n cc) n P from HG.out.setOther (vb := w.heap.size) (fun g n c e => by
    rcases HG.out with ⟨h, _⟩ | ⟨g', c', h, hg, _⟩
    · rw [h] at e; cases e
    · rw [h] at e; cases e; omega) 14 (.slice a' n cc))
  have V4 := Lib.hid (HK.out w1 (.slice a' n cc) C1.out)
  have X4 := Lib.hid (X1.out.set_other (p := ⟨w.heap.size, 14, none⟩) (show w.heap.size + 1 ≠ w.heap.size by omega) (.slice a' n cc))
  have Z4 := Lib.hid (Z1.out.set_other (p := ⟨w.heap.size, 14, none⟩) (show w.heap.size + 2 ≠ w.heap.size by omega) (.slice a' n cc))
  have HB4 := Lib.hid (HB1.out.setCell (p := ⟨w.heap.size, 14, none⟩) (Nat.le_refl _) (.slice a' n cc))
  clear f14 fz C1 X1 Z1 HB1 HG H14 HK
  generalize w1.setCell ⟨w.heap.size, 14, none⟩ (.slice a' n cc) = w4 at *
  refine Lib.hid ?_
  obtain ⟨k0, k2, k3⟩ := XC.out w4 X4.out
  clear XC
  have fc : w4.cell? ⟨w.heap.size, 12, none⟩ = some (.bool c.rs) := V4.out.cell 12
  have ff := V4.out.frozen 12
  go_wp2_with (with_reducible refine stopL 28 _ rfl ?_)
  have V6 := Lib.hid (show VarAt (w4.setCell ⟨w.heap.size, 12, none⟩ (.bool on)) w.heap.size (({ c with rs := on }).cells (.slice a' n cc)) 28 from V4.out.set 12 (.bool on))
  have Z6 := Lib.hid (Z4.out.set_other (p := ⟨w.heap.size, 12, none⟩) (show w.heap.size + 2 ≠ w.heap.size by omega) (.bool on))
  have HB6 := Lib.hid (HB4.out.setCell (p := ⟨w.heap.size, 12, none⟩) (Nat.le_refl _) (.bool on))
  have HG6 := Lib.hid (show GS (w4.setCell ⟨w.heap.size, 12, none⟩ (.bool on)) (w.heap.size + 3) (.slice a' n cc) n P from HG4.out.setOther (vb := w.heap.size) (fun g n c e => by
    rcases HG4.out with ⟨h, _⟩ | ⟨g', c', h, hg, _⟩
    · rw [h] at e; cases e
    · rw [h] at e; cases e; omega) 12 (.bool on))
  clear fc ff k0 k2 k3 V4 X4 Z4 HB4 HG4
  generalize w4.setCell ⟨w.heap.size, 12, none⟩ (.bool on) = w6 at *
  refine Lib.hid ?_
  refine wpList_load_whole uC rfl sC rfl _ rfl rfl (range_whole V6.out) (Cf.size _ (.slice a' n cc)) ?_
  refine wpList_store_whole sC rfl _ _ rfl rfl rfl Z6.out (Cf.one _ O1.out) (Cf.size _ (.slice a' n cc)) (by simp) ?_
  intro w9 hv9 hb9 ho9 _
  rw [putL_all _ _ (by rw [Cf.size]; rfl)] at hv9
  have V9 := Lib.hid hv9
  have B9 := Lib.hid (hb9 w.heap.size w (by omega) HB6.out)
  have G9 := Lib.hid (show GS w9 w.heap.size (.slice a' n cc) n P from by
    rcases HG6.out with h | ⟨g, c, e, hg, A, hA, h1, h2⟩
    · exact .inl h
    · exact .inr ⟨g, c, e, by omega, A, ho9 _ _ _ (by omega) hA, h1, h2⟩)
  clear hv9 hb9 ho9 V6 Z6 HG6 HB6 O1
  go_wp2_with (with_reducible refine stopE ?_)
  refine Lib.hid ?_
  obtain ⟨r0, r1, r2, r3, r4, r5, r6, r7, r8, r9, r10, r11, r12, r13, r14⟩ := V9.out.box
  exact bodyPost_ret (v := .tuple #[.agg (({ c with rs := on }).cells (.slice a' n cc)), .int .i64 0]) (by simp [results, Tryz.results10, go_sem, r0, r1, r2, r3, r4, r5, r6, r7, r8, r9, r10, r11, r12, r13, r14, Cf.cells]) rfl ⟨_, rfl, G9.out, B9.out⟩
set_option maxRecDepth 20000 in
set_option maxHeartbeats 2000000 in
theorem changed_6 (po nn : Int) (on : Bool) (mx : Nat → Nat) (c : Cf) (s : Value) (n : Nat) (P : Nat → Pc) (w : World) (hs : QIn w s n P) (hn : n ≤ 20) :
    Calls Tryz.prog 10 #[.agg (c.cells s), .agg (⟨6, po, nn, on, mx⟩ : Cd.Cm).cells] w (DEnd n { c with ag := nn } P 0 w) := by
  have C0 := Lib.hid (((var_new w (c.cells s) 28).alloc (.cells (⟨6, po, nn, on, mx⟩ : Cd.Cm).cells 33)).alloc (.cells zC 28))
  have X0 := Lib.hid (show VarAt (((w.alloc (.cells (c.cells s) 28)).alloc (.cells (⟨6, po, nn, on, mx⟩ : Cd.Cm).cells 33)).alloc (.cells zC 28)) (w.heap.size + 1) (⟨6, po, nn, on, mx⟩ : Cd.Cm).cells 33 by
    have := (var_new (w.alloc (.cells (c.cells s) 28)) (⟨6, po, nn, on, mx⟩ : Cd.Cm).cells 33).alloc (.cells zC 28)
    rwa [alloc_size] at this)
  have Z0 := Lib.hid (show VarAt (((w.alloc (.cells (c.cells s) 28)).alloc (.cells (⟨6, po, nn, on, mx⟩ : Cd.Cm).cells 33)).alloc (.cells zC 28)) (w.heap.size + 2) zC 28 by
    have := var_new ((w.alloc (.cells (c.cells s) 28)).alloc (.cells (⟨6, po, nn, on, mx⟩ : Cd.Cm).cells 33)) zC 28
    rwa [alloc_size, alloc_size] at this)
  have HB := Lib.hid (show Below w.heap.size w (((w.alloc (.cells (c.cells s) 28)).alloc (.cells (⟨6, po, nn, on, mx⟩ : Cd.Cm).cells 33)).alloc (.cells zC 28)) from (((Below.refl w.heap.size w).alloc (Nat.le_refl _) _).alloc (by rw [alloc_size]; omega) _).alloc (by rw [alloc_size, alloc_size]; omega) _)
  have HW := Lib.hid (show (((w.alloc (.cells (c.cells s) 28)).alloc (.cells (⟨6, po, nn, on, mx⟩ : Cd.Cm).cells 33)).alloc (.cells zC 28)).heap.size = w.heap.size + 3 by rw [alloc_size, alloc_size, alloc_size])
  have c1 := Lib.hid (clone_gs s n P _ (hs.below HB.out) hn)
  have f14 : (((w.alloc (.cells (c.cells s) 28)).alloc (.cells (⟨6, po, nn, on, mx⟩ : Cd.Cm).cells 33)).alloc (.cells zC 28)).cell? ⟨w.heap.size, 14, none⟩ = some s := C0.out.cell 14
  have HX := Lib.hid (rfl : (⟨6, po, nn, on, mx⟩ : Cd.Cm).cells = (⟨6, po, nn, on, mx⟩ : Cd.Cm).cells)
  clear hs
  have XC := Lib.hid (fun (w' : World) (h : VarAt w' (w.heap.size + 1) (⟨6, po, nn, on, mx⟩ : Cd.Cm).cells 33) => (show w'.cell? ⟨w.heap.size + 1, 0, none⟩ = some (.int .i64 6) ∧ w'.cell? ⟨w.heap.size + 1, 2, none⟩ = some (.int .i64 nn) ∧ w'.cell? ⟨w.heap.size + 1, 3, none⟩ = some (.bool on) from ⟨h.cell 0, h.cell 2, h.cell 3⟩))
  have HK := Lib.hid (fun (w' : World) (s' : Value) (h : VarAt w' w.heap.size (c.cells s) 28) => (show VarAt (w'.setCell ⟨w.heap.size, 14, none⟩ s') w.heap.size (c.cells s') 28 from h.set 14 s'))
  have H14 := Lib.hid (fun (w' : World) (h : VarAt w' w.heap.size (c.cells s) 28) => (show w'.cell? ⟨w.heap.size, 14, none⟩ = some s from h.cell 14))
  clear HX
  generalize hX : (⟨6, po, nn, on, mx⟩ : Cd.Cm).cells = X at *
  clear hX
  go_enter Tryz.func10, Tryz.ntmps10
  go_wp2_with fail
  generalize ((w.alloc (.cells (c.cells s) 28)).alloc (.cells X 33)).alloc (.cells zC 28) = W at *
  refine c1.out.mono ?_
  rintro e w1 ⟨s', rfl, hG, hb⟩
  obtain ⟨a', cc, rfl⟩ := hG.slice
  rw [HW.out] at hG hb
  have C1 := Lib.hid (C0.out.below hb (by omega))
  have X1 := Lib.hid (X0.out.below hb (by omega))
  have Z1 := Lib.hid (Z0.out.below hb (by omega))
  have HB1 := Lib.hid (HB.out.trans (hb.mono (by omega)))
  have O1 := Lib.hid hG.one'
  have HG := Lib.hid hG
  clear hb hG c1 C0 X0 Z0 HB HW f14
  have f14 := H14.out w1 C1.out
  have fz := C1.out.frozen 14
  go_wp2_with (with_reducible refine stopL 31 _ rfl ?_)
  have HG4 := Lib.hid (show GS (w1.setCell ⟨w.heap.size, 14, none⟩ (.slice a' n cc)) (w.heap.size + 3) (.slice a' n cc) n P from HG.out.setOther (vb := w.heap.size) (fun g n c e => by
    rcases HG.out with ⟨h, _⟩ | ⟨g', c', h, hg, _⟩
    · rw [h] at e; cases e
    · rw [h] at e; cases e; omega) 14 (.slice a' n cc))
  have V4 := Lib.hid (HK.out w1 (.slice a' n cc) C1.out)
  have X4 := Lib.hid (X1.out.set_other (p := ⟨w.heap.size, 14, none⟩) (show w.heap.size + 1 ≠ w.heap.size by omega) (.slice a' n cc))
  have Z4 := Lib.hid (Z1.out.set_other (p := ⟨w.heap.size, 14, none⟩) (show w.heap.size + 2 ≠ w.heap.size by omega) (.slice a' n cc))
  have HB4 := Lib.hid (HB1.out.setCell (p := ⟨w.heap.size, 14, none⟩) (Nat.le_refl _) (.slice a' n cc))
  clear f14 fz C1 X1 Z1 HB1 HG H14 HK
  generalize w1.setCell ⟨w.heap.size, 14, none⟩ (.slice a' n cc) = w4 at *
  refine Lib.hid ?_
  obtain ⟨k0, k2, k3⟩ := XC.out w4 X4.out
  clear XC
  have fc : w4.cell? ⟨w.heap.size, 13, none⟩ = some (.int .i64 c.ag) := V4.out.cell 13
  have ff := V4.out.frozen 13
  go_wp2_with (with_reducible refine stopL 28 _ rfl ?_)
  have V6 := Lib.hid (show VarAt (w4.setCell ⟨w.heap.size, 13, none⟩ (.int .i64 nn)) w.heap.size (({ c with ag := nn }).cells (.slice a' n cc)) 28 from V4.out.set 13 (.int .i64 nn))
  have Z6 := Lib.hid (Z4.out.set_other (p := ⟨w.heap.size, 13, none⟩) (show w.heap.size + 2 ≠ w.heap.size by omega) (.int .i64 nn))
  have HB6 := Lib.hid (HB4.out.setCell (p := ⟨w.heap.size, 13, none⟩) (Nat.le_refl _) (.int .i64 nn))
  have HG6 := Lib.hid (show GS (w4.setCell ⟨w.heap.size, 13, none⟩ (.int .i64 nn)) (w.heap.size + 3) (.slice a' n cc) n P from HG4.out.setOther (vb := w.heap.size) (fun g n c e => by
    rcases HG4.out with ⟨h, _⟩ | ⟨g', c', h, hg, _⟩
    · rw [h] at e; cases e
    · rw [h] at e; cases e; omega) 13 (.int .i64 nn))
  clear fc ff k0 k2 k3 V4 X4 Z4 HB4 HG4
  generalize w4.setCell ⟨w.heap.size, 13, none⟩ (.int .i64 nn) = w6 at *
  refine Lib.hid ?_
  refine wpList_load_whole uC rfl sC rfl _ rfl rfl (range_whole V6.out) (Cf.size _ (.slice a' n cc)) ?_
  refine wpList_store_whole sC rfl _ _ rfl rfl rfl Z6.out (Cf.one _ O1.out) (Cf.size _ (.slice a' n cc)) (by simp) ?_
  intro w9 hv9 hb9 ho9 _
  rw [putL_all _ _ (by rw [Cf.size]; rfl)] at hv9
  have V9 := Lib.hid hv9
  have B9 := Lib.hid (hb9 w.heap.size w (by omega) HB6.out)
  have G9 := Lib.hid (show GS w9 w.heap.size (.slice a' n cc) n P from by
    rcases HG6.out with h | ⟨g, c, e, hg, A, hA, h1, h2⟩
    · exact .inl h
    · exact .inr ⟨g, c, e, by omega, A, ho9 _ _ _ (by omega) hA, h1, h2⟩)
  clear hv9 hb9 ho9 V6 Z6 HG6 HB6 O1
  go_wp2_with (with_reducible refine stopE ?_)
  refine Lib.hid ?_
  obtain ⟨r0, r1, r2, r3, r4, r5, r6, r7, r8, r9, r10, r11, r12, r13, r14⟩ := V9.out.box
  exact bodyPost_ret (v := .tuple #[.agg (({ c with ag := nn }).cells (.slice a' n cc)), .int .i64 0]) (by simp [results, Tryz.results10, go_sem, r0, r1, r2, r3, r4, r5, r6, r7, r8, r9, r10, r11, r12, r13, r14, Cf.cells]) rfl ⟨_, rfl, G9.out, B9.out⟩
set_option maxRecDepth 20000 in
set_option maxHeartbeats 2000000 in
theorem changed_7 (q m : Nat) (on : Bool) (mx : Nat → Nat) (c : Cf) (s : Value) (n : Nat) (P : Nat → Pc) (w : World) (hs : QIn w s n P) (hn : n ≤ 20) (hq : q < n) (hm : m ≤ 1073741824) :
    Calls Tryz.prog 10 #[.agg (c.cells s), .agg (⟨7, (q : Int) + 1, m, on, mx⟩ : Cd.Cm).cells] w (DEnd n c (fun i => if i = q then stP ⟨7, (q : Int) + 1, m, on, mx⟩ (P q) else P i) 0 w) := by
  have hu := u32_nn m hm
  have C0 := Lib.hid (((var_new w (c.cells s) 28).alloc (.cells (⟨7, (q : Int) + 1, m, on, mx⟩ : Cd.Cm).cells 33)).alloc (.cells zC 28))
  have X0 := Lib.hid (show VarAt (((w.alloc (.cells (c.cells s) 28)).alloc (.cells (⟨7, (q : Int) + 1, m, on, mx⟩ : Cd.Cm).cells 33)).alloc (.cells zC 28)) (w.heap.size + 1) (⟨7, (q : Int) + 1, m, on, mx⟩ : Cd.Cm).cells 33 by
    have := (var_new (w.alloc (.cells (c.cells s) 28)) (⟨7, (q : Int) + 1, m, on, mx⟩ : Cd.Cm).cells 33).alloc (.cells zC 28)
    rwa [alloc_size] at this)
  have Z0 := Lib.hid (show VarAt (((w.alloc (.cells (c.cells s) 28)).alloc (.cells (⟨7, (q : Int) + 1, m, on, mx⟩ : Cd.Cm).cells 33)).alloc (.cells zC 28)) (w.heap.size + 2) zC 28 by
    have := var_new ((w.alloc (.cells (c.cells s) 28)).alloc (.cells (⟨7, (q : Int) + 1, m, on, mx⟩ : Cd.Cm).cells 33)) zC 28
    rwa [alloc_size, alloc_size] at this)
  have HB := Lib.hid (show Below w.heap.size w (((w.alloc (.cells (c.cells s) 28)).alloc (.cells (⟨7, (q : Int) + 1, m, on, mx⟩ : Cd.Cm).cells 33)).alloc (.cells zC 28)) from (((Below.refl w.heap.size w).alloc (Nat.le_refl _) _).alloc (by rw [alloc_size]; omega) _).alloc (by rw [alloc_size, alloc_size]; omega) _)
  have HW := Lib.hid (show (((w.alloc (.cells (c.cells s) 28)).alloc (.cells (⟨7, (q : Int) + 1, m, on, mx⟩ : Cd.Cm).cells 33)).alloc (.cells zC 28)).heap.size = w.heap.size + 3 by rw [alloc_size, alloc_size, alloc_size])
  have c1 := Lib.hid (clone_gs s n P _ (hs.below HB.out) hn)
  have f14 : (((w.alloc (.cells (c.cells s) 28)).alloc (.cells (⟨7, (q : Int) + 1, m, on, mx⟩ : Cd.Cm).cells 33)).alloc (.cells zC 28)).cell? ⟨w.heap.size, 14, none⟩ = some s := C0.out.cell 14
  have HX := Lib.hid (rfl : (⟨7, (q : Int) + 1, m, on, mx⟩ : Cd.Cm).cells = (⟨7, (q : Int) + 1, m, on, mx⟩ : Cd.Cm).cells)
  clear hs
  have XC := Lib.hid (fun (w' : World) (h : VarAt w' (w.heap.size + 1) (⟨7, (q : Int) + 1, m, on, mx⟩ : Cd.Cm).cells 33) => (show w'.cell? ⟨w.heap.size + 1, 0, none⟩ = some (.int .i64 7) ∧ w'.cell? ⟨w.heap.size + 1, 1, none⟩ = some (.int .i64 ((q : Int) + 1)) ∧ w'.cell? ⟨w.heap.size + 1, 2, none⟩ = some (.int .i64 m) ∧ w'.cell? ⟨w.heap.size + 1, 3, none⟩ = some (.bool on) from ⟨h.cell 0, h.cell 1, h.cell 2, h.cell 3⟩))
  have HK := Lib.hid (fun (w' : World) (s' : Value) (h : VarAt w' w.heap.size (c.cells s) 28) => (show VarAt (w'.setCell ⟨w.heap.size, 14, none⟩ s') w.heap.size (c.cells s') 28 from h.set 14 s'))
  have H14 := Lib.hid (fun (w' : World) (h : VarAt w' w.heap.size (c.cells s) 28) => (show w'.cell? ⟨w.heap.size, 14, none⟩ = some s from h.cell 14))
  clear HX
  generalize hX : (⟨7, (q : Int) + 1, m, on, mx⟩ : Cd.Cm).cells = X at *
  clear hX
  go_enter Tryz.func10, Tryz.ntmps10
  go_wp2_with fail
  generalize ((w.alloc (.cells (c.cells s) 28)).alloc (.cells X 33)).alloc (.cells zC 28) = W at *
  refine c1.out.mono ?_
  rintro e w1 ⟨s', rfl, hG, hb⟩
  obtain ⟨a', cc, rfl⟩ := hG.slice
  rw [HW.out] at hG hb
  have C1 := Lib.hid (C0.out.below hb (by omega))
  have X1 := Lib.hid (X0.out.below hb (by omega))
  have Z1 := Lib.hid (Z0.out.below hb (by omega))
  have HB1 := Lib.hid (HB.out.trans (hb.mono (by omega)))
  have O1 := Lib.hid hG.one'
  have HG := Lib.hid hG
  clear hb hG c1 C0 X0 Z0 HB HW f14
  have f14 := H14.out w1 C1.out
  have fz := C1.out.frozen 14
  go_wp2_with (with_reducible refine stopL 31 _ rfl ?_)
  have HG4 := Lib.hid (show GS (w1.setCell ⟨w.heap.size, 14, none⟩ (.slice a' n cc)) (w.heap.size + 3) (.slice a' n cc) n P from HG.out.setOther (vb := w.heap.size) (fun g n c e => by
    rcases HG.out with ⟨h, _⟩ | ⟨g', c', h, hg, _⟩
    · rw [h] at e; cases e
    · rw [h] at e; cases e; omega) 14 (.slice a' n cc))
  have V4 := Lib.hid (HK.out w1 (.slice a' n cc) C1.out)
  have X4 := Lib.hid (X1.out.set_other (p := ⟨w.heap.size, 14, none⟩) (show w.heap.size + 1 ≠ w.heap.size by omega) (.slice a' n cc))
  have Z4 := Lib.hid (Z1.out.set_other (p := ⟨w.heap.size, 14, none⟩) (show w.heap.size + 2 ≠ w.heap.size by omega) (.slice a' n cc))
  have HB4 := Lib.hid (HB1.out.setCell (p := ⟨w.heap.size, 14, none⟩) (Nat.le_refl _) (.slice a' n cc))
  clear f14 fz C1 X1 Z1 HB1 HG H14 HK
  generalize w1.setCell ⟨w.heap.size, 14, none⟩ (.slice a' n cc) = w4 at *
  refine Lib.hid ?_
  obtain ⟨k0, k1, k2, k3⟩ := XC.out w4 X4.out
  clear XC
  obtain ⟨g, rfl, hg, hO⟩ : ∃ g, a' = some ⟨g, 0, none⟩ ∧ w.heap.size + 3 ≤ g ∧ Own5 w4 g n P := by
    rcases HG4.out with ⟨_, h⟩ | ⟨g, c, h, hg, ho⟩
    · exact absurd h (by omega)
    · cases h; exact ⟨g, rfl, hg, ho⟩
  have fs : w4.cell? ⟨w.heap.size, 14, none⟩ = some (.slice (some ⟨g, 0, none⟩) n cc) := V4.out.cell 14
  have hix := idx26 g 0 n cc q hq
  have fc := own5_cell hO (k := 0) hq (by omega)
  have ff := own5_frozen hO (q * 5)
  simp at fc
  have HO := Lib.hid hO
  clear hO
  go_wp2_with (with_reducible refine stopL 28 _ rfl ?_)
  have V6 := Lib.hid (V4.out.set_other (p := ⟨g, q * 5, none⟩) (show w.heap.size ≠ g by omega) (.int .i64 m))
  have Z6 := Lib.hid (Z4.out.set_other (p := ⟨g, q * 5, none⟩) (show w.heap.size + 2 ≠ g by omega) (.int .i64 m))
  have HB6 := Lib.hid (HB4.out.setCell (p := ⟨g, q * 5, none⟩) (show w.heap.size ≤ g by omega) (.int .i64 m))
  have HG6 := Lib.hid (show GS (w4.setCell ⟨g, q * 5, none⟩ (.int .i64 m)) (w.heap.size + 3) (.slice (some ⟨g, 0, none⟩) n cc) n (fun i => if i = q then stP ⟨7, (q : Int) + 1, m, on, mx⟩ (P q) else P i) from .inr ⟨g, cc, rfl, hg, own5_set HO.out (k := 0) hq (by omega) (by generalize P q = p; obtain ⟨p0, p1, p2, p3, p4⟩ := p; rfl)⟩)
  clear fc ff fs hix k0 k1 k2 k3 V4 X4 Z4 HB4 HG4 HO hg
  generalize w4.setCell ⟨g, q * 5, none⟩ (.int .i64 m) = w6 at *
  refine Lib.hid ?_
  refine wpList_load_whole uC rfl sC rfl _ rfl rfl (range_whole V6.out) (Cf.size _ (.slice (some ⟨g, 0, none⟩) n cc)) ?_
  refine wpList_store_whole sC rfl _ _ rfl rfl rfl Z6.out (Cf.one _ O1.out) (Cf.size _ (.slice (some ⟨g, 0, none⟩) n cc)) (by simp) ?_
  intro w9 hv9 hb9 ho9 _
  rw [putL_all _ _ (by rw [Cf.size]; rfl)] at hv9
  have V9 := Lib.hid hv9
  have B9 := Lib.hid (hb9 w.heap.size w (by omega) HB6.out)
  have G9 := Lib.hid (show GS w9 w.heap.size (.slice (some ⟨g, 0, none⟩) n cc) n (fun i => if i = q then stP ⟨7, (q : Int) + 1, m, on, mx⟩ (P q) else P i) from by
    rcases HG6.out with h | ⟨g9, c, e, hg, A, hA, h1, h2⟩
    · exact .inl h
    · exact .inr ⟨g9, c, e, by omega, A, ho9 _ _ _ (by omega) hA, h1, h2⟩)
  clear hv9 hb9 ho9 V6 Z6 HG6 HB6 O1
  go_wp2_with (with_reducible refine stopE ?_)
  refine Lib.hid ?_
  obtain ⟨r0, r1, r2, r3, r4, r5, r6, r7, r8, r9, r10, r11, r12, r13, r14⟩ := V9.out.box
  exact bodyPost_ret (v := .tuple #[.agg ((c).cells (.slice (some ⟨g, 0, none⟩) n cc)), .int .i64 0]) (by simp [results, Tryz.results10, go_sem, r0, r1, r2, r3, r4, r5, r6, r7, r8, r9, r10, r11, r12, r13, r14, Cf.cells]) rfl ⟨_, rfl, G9.out, B9.out⟩
set_option maxRecDepth 20000 in
set_option maxHeartbeats 2000000 in
theorem changed_8 (q m : Nat) (on : Bool) (mx : Nat → Nat) (c : Cf) (s : Value) (n : Nat) (P : Nat → Pc) (w : World) (hs : QIn w s n P) (hn : n ≤ 20) (hq : q < n) (hm : m ≤ 1073741824) :
    Calls Tryz.prog 10 #[.agg (c.cells s), .agg (⟨8, (q : Int) + 1, m, on, mx⟩ : Cd.Cm).cells] w (DEnd n c (fun i => if i = q then stP ⟨8, (q : Int) + 1, m, on, mx⟩ (P q) else P i) 0 w) := by
  have hu := u32_nn m hm
  have C0 := Lib.hid (((var_new w (c.cells s) 28).alloc (.cells (⟨8, (q : Int) + 1, m, on, mx⟩ : Cd.Cm).cells 33)).alloc (.cells zC 28))
  have X0 := Lib.hid (show VarAt (((w.alloc (.cells (c.cells s) 28)).alloc (.cells (⟨8, (q : Int) + 1, m, on, mx⟩ : Cd.Cm).cells 33)).alloc (.cells zC 28)) (w.heap.size + 1) (⟨8, (q : Int) + 1, m, on, mx⟩ : Cd.Cm).cells 33 by
    have := (var_new (w.alloc (.cells (c.cells s) 28)) (⟨8, (q : Int) + 1, m, on, mx⟩ : Cd.Cm).cells 33).alloc (.cells zC 28)
    rwa [alloc_size] at this)
  have Z0 := Lib.hid (show VarAt (((w.alloc (.cells (c.cells s) 28)).alloc (.cells (⟨8, (q : Int) + 1, m, on, mx⟩ : Cd.Cm).cells 33)).alloc (.cells zC 28)) (w.heap.size + 2) zC 28 by
    have := var_new ((w.alloc (.cells (c.cells s) 28)).alloc (.cells (⟨8, (q : Int) + 1, m, on, mx⟩ : Cd.Cm).cells 33)) zC 28
    rwa [alloc_size, alloc_size] at this)
  have HB := Lib.hid (show Below w.heap.size w (((w.alloc (.cells (c.cells s) 28)).alloc (.cells (⟨8, (q : Int) + 1, m, on, mx⟩ : Cd.Cm).cells 33)).alloc (.cells zC 28)) from (((Below.refl w.heap.size w).alloc (Nat.le_refl _) _).alloc (by rw [alloc_size]; omega) _).alloc (by rw [alloc_size, alloc_size]; omega) _)
  have HW := Lib.hid (show (((w.alloc (.cells (c.cells s) 28)).alloc (.cells (⟨8, (q : Int) + 1, m, on, mx⟩ : Cd.Cm).cells 33)).alloc (.cells zC 28)).heap.size = w.heap.size + 3 by rw [alloc_size, alloc_size, alloc_size])
  have c1 := Lib.hid (clone_gs s n P _ (hs.below HB.out) hn)
  have f14 : (((w.alloc (.cells (c.cells s) 28)).alloc (.cells (⟨8, (q : Int) + 1, m, on, mx⟩ : Cd.Cm).cells 33)).alloc (.cells zC 28)).cell? ⟨w.heap.size, 14, none⟩ = some s := C0.out.cell 14
  have HX := Lib.hid (rfl : (⟨8, (q : Int) + 1, m, on, mx⟩ : Cd.Cm).cells = (⟨8, (q : Int) + 1, m, on, mx⟩ : Cd.Cm).cells)
  clear hs
  have XC := Lib.hid (fun (w' : World) (h : VarAt w' (w.heap.size + 1) (⟨8, (q : Int) + 1, m, on, mx⟩ : Cd.Cm).cells 33) => (show w'.cell? ⟨w.heap.size + 1, 0, none⟩ = some (.int .i64 8) ∧ w'.cell? ⟨w.heap.size + 1, 1, none⟩ = some (.int .i64 ((q : Int) + 1)) ∧ w'.cell? ⟨w.heap.size + 1, 2, none⟩ = some (.int .i64 m) ∧ w'.cell? ⟨w.heap.size + 1, 3, none⟩ = some (.bool on) from ⟨h.cell 0, h.cell 1, h.cell 2, h.cell 3⟩))
  have HK := Lib.hid (fun (w' : World) (s' : Value) (h : VarAt w' w.heap.size (c.cells s) 28) => (show VarAt (w'.setCell ⟨w.heap.size, 14, none⟩ s') w.heap.size (c.cells s') 28 from h.set 14 s'))
  have H14 := Lib.hid (fun (w' : World) (h : VarAt w' w.heap.size (c.cells s) 28) => (show w'.cell? ⟨w.heap.size, 14, none⟩ = some s from h.cell 14))
  clear HX
  generalize hX : (⟨8, (q : Int) + 1, m, on, mx⟩ : Cd.Cm).cells = X at *
  clear hX
  go_enter Tryz.func10, Tryz.ntmps10
  go_wp2_with fail
  generalize ((w.alloc (.cells (c.cells s) 28)).alloc (.cells X 33)).alloc (.cells zC 28) = W at *
  refine c1.out.mono ?_
  rintro e w1 ⟨s', rfl, hG, hb⟩
  obtain ⟨a', cc, rfl⟩ := hG.slice
  rw [HW.out] at hG hb
  have C1 := Lib.hid (C0.out.below hb (by omega))
  have X1 := Lib.hid (X0.out.below hb (by omega))
  have Z1 := Lib.hid (Z0.out.below hb (by omega))
  have HB1 := Lib.hid (HB.out.trans (hb.mono (by omega)))
  have O1 := Lib.hid hG.one'
  have HG := Lib.hid hG
  clear hb hG c1 C0 X0 Z0 HB HW f14
  have f14 := H14.out w1 C1.out
  have fz := C1.out.frozen 14
  go_wp2_with (with_reducible refine stopL 31 _ rfl ?_)
  have HG4 := Lib.hid (show GS (w1.setCell ⟨w.heap.size, 14, none⟩ (.slice a' n cc)) (w.heap.size + 3) (.slice a' n cc) n P from HG.out.setOther (vb := w.heap.size) (fun g n c e => by
    rcases HG.out with ⟨h, _⟩ | ⟨g', c', h, hg, _⟩
    · rw [h] at e; cases e
    · rw [h] at e; cases e; omega) 14 (.slice a' n cc))
  have V4 := Lib.hid (HK.out w1 (.slice a' n cc) C1.out)
  have X4 := Lib.hid (X1.out.set_other (p := ⟨w.heap.size, 14, none⟩) (show w.heap.size + 1 ≠ w.heap.size by omega) (.slice a' n cc))
  have Z4 := Lib.hid (Z1.out.set_other (p := ⟨w.heap.size, 14, none⟩) (show w.heap.size + 2 ≠ w.heap.size by omega) (.slice a' n cc))
  have HB4 := Lib.hid (HB1.out.setCell (p := ⟨w.heap.size, 14, none⟩) (Nat.le_refl _) (.slice a' n cc))
  clear f14 fz C1 X1 Z1 HB1 HG H14 HK
  generalize w1.setCell ⟨w.heap.size, 14, none⟩ (.slice a' n cc) = w4 at *
  refine Lib.hid ?_
  obtain ⟨k0, k1, k2, k3⟩ := XC.out w4 X4.out
  clear XC
  obtain ⟨g, rfl, hg, hO⟩ : ∃ g, a' = some ⟨g, 0, none⟩ ∧ w.heap.size + 3 ≤ g ∧ Own5 w4 g n P := by
    rcases HG4.out with ⟨_, h⟩ | ⟨g, c, h, hg, ho⟩
    · exact absurd h (by omega)
    · cases h; exact ⟨g, rfl, hg, ho⟩
  have fs : w4.cell? ⟨w.heap.size, 14, none⟩ = some (.slice (some ⟨g, 0, none⟩) n cc) := V4.out.cell 14
  have hix := idx26 g 0 n cc q hq
  have fc := own5_cell hO (k := 1) hq (by omega)
  have ff := own5_frozen hO (q * 5 + 1)
  simp at fc
  have HO := Lib.hid hO
  clear hO
  go_wp2_with (with_reducible refine stopL 28 _ rfl ?_)
  have V6 := Lib.hid (V4.out.set_other (p := ⟨g, q * 5 + 1, none⟩) (show w.heap.size ≠ g by omega) (.int .u32 m))
  have Z6 := Lib.hid (Z4.out.set_other (p := ⟨g, q * 5 + 1, none⟩) (show w.heap.size + 2 ≠ g by omega) (.int .u32 m))
  have HB6 := Lib.hid (HB4.out.setCell (p := ⟨g, q * 5 + 1, none⟩) (show w.heap.size ≤ g by omega) (.int .u32 m))
  have HG6 := Lib.hid (show GS (w4.setCell ⟨g, q * 5 + 1, none⟩ (.int .u32 m)) (w.heap.size + 3) (.slice (some ⟨g, 0, none⟩) n cc) n (fun i => if i = q then stP ⟨8, (q : Int) + 1, m, on, mx⟩ (P q) else P i) from .inr ⟨g, cc, rfl, hg, own5_set HO.out (k := 1) hq (by omega) (by generalize P q = p; obtain ⟨p0, p1, p2, p3, p4⟩ := p; rfl)⟩)
  clear fc ff fs hix k0 k1 k2 k3 V4 X4 Z4 HB4 HG4 HO hg
  generalize w4.setCell ⟨g, q * 5 + 1, none⟩ (.int .u32 m) = w6 at *
  refine Lib.hid ?_
  refine wpList_load_whole uC rfl sC rfl _ rfl rfl (range_whole V6.out) (Cf.size _ (.slice (some ⟨g, 0, none⟩) n cc)) ?_
  refine wpList_store_whole sC rfl _ _ rfl rfl rfl Z6.out (Cf.one _ O1.out) (Cf.size _ (.slice (some ⟨g, 0, none⟩) n cc)) (by simp) ?_
  intro w9 hv9 hb9 ho9 _
  rw [putL_all _ _ (by rw [Cf.size]; rfl)] at hv9
  have V9 := Lib.hid hv9
  have B9 := Lib.hid (hb9 w.heap.size w (by omega) HB6.out)
  have G9 := Lib.hid (show GS w9 w.heap.size (.slice (some ⟨g, 0, none⟩) n cc) n (fun i => if i = q then stP ⟨8, (q : Int) + 1, m, on, mx⟩ (P q) else P i) from by
    rcases HG6.out with h | ⟨g9, c, e, hg, A, hA, h1, h2⟩
    · exact .inl h
    · exact .inr ⟨g9, c, e, by omega, A, ho9 _ _ _ (by omega) hA, h1, h2⟩)
  clear hv9 hb9 ho9 V6 Z6 HG6 HB6 O1
  go_wp2_with (with_reducible refine stopE ?_)
  refine Lib.hid ?_
  obtain ⟨r0, r1, r2, r3, r4, r5, r6, r7, r8, r9, r10, r11, r12, r13, r14⟩ := V9.out.box
  exact bodyPost_ret (v := .tuple #[.agg ((c).cells (.slice (some ⟨g, 0, none⟩) n cc)), .int .i64 0]) (by simp [results, Tryz.results10, go_sem, r0, r1, r2, r3, r4, r5, r6, r7, r8, r9, r10, r11, r12, r13, r14, Cf.cells]) rfl ⟨_, rfl, G9.out, B9.out⟩
set_option maxRecDepth 20000 in
set_option maxHeartbeats 2000000 in
theorem changed_9 (q m : Nat) (on : Bool) (mx : Nat → Nat) (c : Cf) (s : Value) (n : Nat) (P : Nat → Pc) (w : World) (hs : QIn w s n P) (hn : n ≤ 20) (hq : q < n) (hm : m ≤ 1073741824) :
    Calls Tryz.prog 10 #[.agg (c.cells s), .agg (⟨9, (q : Int) + 1, m, on, mx⟩ : Cd.Cm).cells] w (DEnd n c (fun i => if i = q then stP ⟨9, (q : Int) + 1, m, on, mx⟩ (P q) else P i) 0 w) := by
  have hu := u32_nn m hm
  have C0 := Lib.hid (((var_new w (c.cells s) 28).alloc (.cells (⟨9, (q : Int) + 1, m, on, mx⟩ : Cd.Cm).cells 33)).alloc (.cells zC 28))
  have X0 := Lib.hid (show VarAt (((w.alloc (.cells (c.cells s) 28)).alloc (.cells (⟨9, (q : Int) + 1, m, on, mx⟩ : Cd.Cm).cells 33)).alloc (.cells zC 28)) (w.heap.size + 1) (⟨9, (q : Int) + 1, m, on, mx⟩ : Cd.Cm).cells 33 by
    have := (var_new (w.alloc (.cells (c.cells s) 28)) (⟨9, (q : Int) + 1, m, on, mx⟩ : Cd.Cm).cells 33).alloc (.cells zC 28)
    rwa [alloc_size] at this)
  have Z0 := Lib.hid (show VarAt (((w.alloc (.cells (c.cells s) 28)).alloc (.cells (⟨9, (q : Int) + 1, m, on, mx⟩ : Cd.Cm).cells 33)).alloc (.cells zC 28)) (w.heap.size + 2) zC 28 by
    have := var_new ((w.alloc (.cells (c.cells s) 28)).alloc (.cells (⟨9, (q : Int) + 1, m, on, mx⟩ : Cd.Cm).cells 33)) zC 28
    rwa [alloc_size, alloc_size] at this)
  have HB := Lib.hid (show Below w.heap.size w (((w.alloc (.cells (c.cells s) 28)).alloc (.cells (⟨9, (q : Int) + 1, m, on, mx⟩ : Cd.Cm).cells 33)).alloc (.cells zC 28)) from (((Below.refl w.heap.size w).alloc (Nat.le_refl _) _).alloc (by rw [alloc_size]; omega) _).alloc (by rw [alloc_size, alloc_size]; omega) _)
  have HW := Lib.hid (show (((w.alloc (.cells (c.cells s) 28)).alloc (.cells (⟨9, (q : Int) + 1, m, on, mx⟩ : Cd.Cm).cells 33)).alloc (.cells zC 28)).heap.size = w.heap.size + 3 by rw [alloc_size, alloc_size, alloc_size])
  have c1 := Lib.hid (clone_gs s n P _ (hs.below HB.out) hn)
  have f14 : (((w.alloc (.cells (c.cells s) 28)).alloc (.cells (⟨9, (q : Int) + 1, m, on, mx⟩ : Cd.Cm).cells 33)).alloc (.cells zC 28)).cell? ⟨w.heap.size, 14, none⟩ = some s := C0.out.cell 14
  have HX := Lib.hid (rfl : (⟨9, (q : Int) + 1, m, on, mx⟩ : Cd.Cm).cells = (⟨9, (q : Int) + 1, m, on, mx⟩ : Cd.Cm).cells)
  clear hs
  have XC := Lib.hid (fun (w' : World) (h : VarAt w' (w.heap.size + 1) (⟨9, (q : Int) + 1, m, on, mx⟩ : Cd.Cm).cells 33) => (show w'.cell? ⟨w.heap.size + 1, 0, none⟩ = some (.int .i64 9) ∧ w'.cell? ⟨w.heap.size + 1, 1, none⟩ = some (.int .i64 ((q : Int) + 1)) ∧ w'.cell? ⟨w.heap.size + 1, 2, none⟩ = some (.int .i64 m) ∧ w'.cell? ⟨w.heap.size + 1, 3, none⟩ = some (.bool on) from ⟨h.cell 0, h.cell 1, h.cell 2, h.cell 3⟩))
  have HK := Lib.hid (fun (w' : World) (s' : Value) (h : VarAt w' w.heap.size (c.cells s) 28) => (show VarAt (w'.setCell ⟨w.heap.size, 14, none⟩ s') w.heap.size (c.cells s') 28 from h.set 14 s'))
  have H14 := Lib.hid (fun (w' : World) (h : VarAt w' w.heap.size (c.cells s) 28) => (show w'.cell? ⟨w.heap.size, 14, none⟩ = some s from h.cell 14))
  clear HX
  generalize hX : (⟨9, (q : Int) + 1, m, on, mx⟩ : Cd.Cm).cells = X at *
  clear hX
  go_enter Tryz.func10, Tryz.ntmps10
  go_wp2_with fail
  generalize ((w.alloc (.cells (c.cells s) 28)).alloc (.cells X 33)).alloc (.cells zC 28) = W at *
  refine c1.out.mono ?_
  rintro e w1 ⟨s', rfl, hG, hb⟩
  obtain ⟨a', cc, rfl⟩ := hG.slice
  rw [HW.out] at hG hb
  have C1 := Lib.hid (C0.out.below hb (by omega))
  have X1 := Lib.hid (X0.out.below hb (by omega))
  have Z1 := Lib.hid (Z0.out.below hb (by omega))
  have HB1 := Lib.hid (HB.out.trans (hb.mono (by omega)))
  have O1 := Lib.hid hG.one'
  have HG := Lib.hid hG
  clear hb hG c1 C0 X0 Z0 HB HW f14
  have f14 := H14.out w1 C1.out
  have fz := C1.out.frozen 14
  go_wp2_with (with_reducible refine stopL 31 _ rfl ?_)
  have HG4 := Lib.hid (show GS (w1.setCell ⟨w.heap.size, 14, none⟩ (.slice a' n cc)) (w.heap.size + 3) (.slice a' n cc) n P from HG.out.setOther (vb := w.heap.size) (fun g n c e => by
    rcases HG.out with ⟨h, _⟩ | ⟨g', c', h, hg, _⟩
    · rw [h] at e; cases e
    · rw [h] at e; cases e; omega) 14 (.slice a' n cc))
  have V4 := Lib.hid (HK.out w1 (.slice a' n cc) C1.out)
  have X4 := Lib.hid (X1.out.set_other (p := ⟨w.heap.size, 14, none⟩) (show w.heap.size + 1 ≠ w.heap.size by omega) (.slice a' n cc))
  have Z4 := Lib.hid (Z1.out.set_other (p := ⟨w.heap.size, 14, none⟩) (show w.heap.size + 2 ≠ w.heap.size by omega) (.slice a' n cc))
  have HB4 := Lib.hid (HB1.out.setCell (p := ⟨w.heap.size, 14, none⟩) (Nat.le_refl _) (.slice a' n cc))
  clear f14 fz C1 X1 Z1 HB1 HG H14 HK
  generalize w1.setCell ⟨w.heap.size, 14, none⟩ (.slice a' n cc) = w4 at *
  refine Lib.hid ?_
  obtain ⟨k0, k1, k2, k3⟩ := XC.out w4 X4.out
  clear XC
  obtain ⟨g, rfl, hg, hO⟩ : ∃ g, a' = some ⟨g, 0, none⟩ ∧ w.heap.size + 3 ≤ g ∧ Own5 w4 g n P := by
    rcases HG4.out with ⟨_, h⟩ | ⟨g, c, h, hg, ho⟩
    · exact absurd h (by omega)
    · cases h; exact ⟨g, rfl, hg, ho⟩
  have fs : w4.cell? ⟨w.heap.size, 14, none⟩ = some (.slice (some ⟨g, 0, none⟩) n cc) := V4.out.cell 14
  have hix := idx26 g 0 n cc q hq
  have fc := own5_cell hO (k := 2) hq (by omega)
  have ff := own5_frozen hO (q * 5 + 2)
  simp at fc
  have HO := Lib.hid hO
  clear hO
  go_wp2_with (with_reducible refine stopL 28 _ rfl ?_)
  have V6 := Lib.hid (V4.out.set_other (p := ⟨g, q * 5 + 2, none⟩) (show w.heap.size ≠ g by omega) (.bool on))
  have Z6 := Lib.hid (Z4.out.set_other (p := ⟨g, q * 5 + 2, none⟩) (show w.heap.size + 2 ≠ g by omega) (.bool on))
  have HB6 := Lib.hid (HB4.out.setCell (p := ⟨g, q * 5 + 2, none⟩) (show w.heap.size ≤ g by omega) (.bool on))
  have HG6 := Lib.hid (show GS (w4.setCell ⟨g, q * 5 + 2, none⟩ (.bool on)) (w.heap.size + 3) (.slice (some ⟨g, 0, none⟩) n cc) n (fun i => if i = q then stP ⟨9, (q : Int) + 1, m, on, mx⟩ (P q) else P i) from .inr ⟨g, cc, rfl, hg, own5_set HO.out (k := 2) hq (by omega) (by generalize P q = p; obtain ⟨p0, p1, p2, p3, p4⟩ := p; rfl)⟩)
  clear fc ff fs hix k0 k1 k2 k3 V4 X4 Z4 HB4 HG4 HO hg
  generalize w4.setCell ⟨g, q * 5 + 2, none⟩ (.bool on) = w6 at *
  refine Lib.hid ?_
  refine wpList_load_whole uC rfl sC rfl _ rfl rfl (range_whole V6.out) (Cf.size _ (.slice (some ⟨g, 0, none⟩) n cc)) ?_
  refine wpList_store_whole sC rfl _ _ rfl rfl rfl Z6.out (Cf.one _ O1.out) (Cf.size _ (.slice (some ⟨g, 0, none⟩) n cc)) (by simp) ?_
  intro w9 hv9 hb9 ho9 _
  rw [putL_all _ _ (by rw [Cf.size]; rfl)] at hv9
  have V9 := Lib.hid hv9
  have B9 := Lib.hid (hb9 w.heap.size w (by omega) HB6.out)
  have G9 := Lib.hid (show GS w9 w.heap.size (.slice (some ⟨g, 0, none⟩) n cc) n (fun i => if i = q then stP ⟨9, (q : Int) + 1, m, on, mx⟩ (P q) else P i) from by
    rcases HG6.out with h | ⟨g9, c, e, hg, A, hA, h1, h2⟩
    · exact .inl h
    · exact .inr ⟨g9, c, e, by omega, A, ho9 _ _ _ (by omega) hA, h1, h2⟩)
  clear hv9 hb9 ho9 V6 Z6 HG6 HB6 O1
  go_wp2_with (with_reducible refine stopE ?_)
  refine Lib.hid ?_
  obtain ⟨r0, r1, r2, r3, r4, r5, r6, r7, r8, r9, r10, r11, r12, r13, r14⟩ := V9.out.box
  exact bodyPost_ret (v := .tuple #[.agg ((c).cells (.slice (some ⟨g, 0, none⟩) n cc)), .int .i64 0]) (by simp [results, Tryz.results10, go_sem, r0, r1, r2, r3, r4, r5, r6, r7, r8, r9, r10, r11, r12, r13, r14, Cf.cells]) rfl ⟨_, rfl, G9.out, B9.out⟩
set_option maxRecDepth 20000 in
set_option maxHeartbeats 2000000 in
theorem changed_10 (q m : Nat) (on : Bool) (mx : Nat → Nat) (c : Cf) (s : Value) (n : Nat) (P : Nat → Pc) (w : World) (hs : QIn w s n P) (hn : n ≤ 20) (hq : q < n) (hm : m ≤ 1073741824) :
    Calls Tryz.prog 10 #[.agg (c.cells s), .agg (⟨10, (q : Int) + 1, m, on, mx⟩ : Cd.Cm).cells] w (DEnd n c (fun i => if i = q then stP ⟨10, (q : Int) + 1, m, on, mx⟩ (P q) else P i) 0 w) := by
  have hu := u32_nn m hm
  have C0 := Lib.hid (((var_new w (c.cells s) 28).alloc (.cells (⟨10, (q : Int) + 1, m, on, mx⟩ : Cd.Cm).cells 33)).alloc (.cells zC 28))
  have X0 := Lib.hid (show VarAt (((w.alloc (.cells (c.cells s) 28)).alloc (.cells (⟨10, (q : Int) + 1, m, on, mx⟩ : Cd.Cm).cells 33)).alloc (.cells zC 28)) (w.heap.size + 1) (⟨10, (q : Int) + 1, m, on, mx⟩ : Cd.Cm).cells 33 by
    have := (var_new (w.alloc (.cells (c.cells s) 28)) (⟨10, (q : Int) + 1, m, on, mx⟩ : Cd.Cm).cells 33).alloc (.cells zC 28)
    rwa [alloc_size] at this)
  have Z0 := Lib.hid (show VarAt (((w.alloc (.cells (c.cells s) 28)).alloc (.cells (⟨10, (q : Int) + 1, m, on, mx⟩ : Cd.Cm).cells 33)).alloc (.cells zC 28)) (w.heap.size + 2) zC 28 by
    have := var_new ((w.alloc (.cells (c.cells s) 28)).alloc (.cells (⟨10, (q : Int) + 1, m, on, mx⟩ : Cd.Cm).cells 33)) zC 28
    rwa [alloc_size, alloc_size] at this)
  have HB := Lib.hid (show Below w.heap.size w (((w.alloc (.cells (c.cells s) 28)).alloc (.cells (⟨10, (q : Int) + 1, m, on, mx⟩ : Cd.Cm).cells 33)).alloc (.cells zC 28)) from (((Below.refl w.heap.size w).alloc (Nat.le_refl _) _).alloc (by rw [alloc_size]; omega) _).alloc (by rw [alloc_size, alloc_size]; omega) _)
  have HW := Lib.hid (show (((w.alloc (.cells (c.cells s) 28)).alloc (.cells (⟨10, (q : Int) + 1, m, on, mx⟩ : Cd.Cm).cells 33)).alloc (.cells zC 28)).heap.size = w.heap.size + 3 by rw [alloc_size, alloc_size, alloc_size])
  have c1 := Lib.hid (clone_gs s n P _ (hs.below HB.out) hn)
  have f14 : (((w.alloc (.cells (c.cells s) 28)).alloc (.cells (⟨10, (q : Int) + 1, m, on, mx⟩ : Cd.Cm).cells 33)).alloc (.cells zC 28)).cell? ⟨w.heap.size, 14, none⟩ = some s := C0.out.cell 14
  have HX := Lib.hid (rfl : (⟨10, (q : Int) + 1, m, on, mx⟩ : Cd.Cm).cells = (⟨10, (q : Int) + 1, m, on, mx⟩ : Cd.Cm).cells)
  clear hs
  have XC := Lib.hid (fun (w' : World) (h : VarAt w' (w.heap.size + 1) (⟨10, (q : Int) + 1, m, on, mx⟩ : Cd.Cm).cells 33) => (show w'.cell? ⟨w.heap.size + 1, 0, none⟩ = some (.int .i64 10) ∧ w'.cell? ⟨w.heap.size + 1, 1, none⟩ = some (.int .i64 ((q : Int) + 1)) ∧ w'.cell? ⟨w.heap.size + 1, 2, none⟩ = some (.int .i64 m) ∧ w'.cell? ⟨w.heap.size + 1, 3, none⟩ = some (.bool on) from ⟨h.cell 0, h.cell 1, h.cell 2, h.cell 3⟩))
  have HK := Lib.hid (fun (w' : World) (s' : Value) (h : VarAt w' w.heap.size (c.cells s) 28) => (show VarAt (w'.setCell ⟨w.heap.size, 14, none⟩ s') w.heap.size (c.cells s') 28 from h.set 14 s'))
  have H14 := Lib.hid (fun (w' : World) (h : VarAt w' w.heap.size (c.cells s) 28) => (show w'.cell? ⟨w.heap.size, 14, none⟩ = some s from h.cell 14))
  clear HX
  generalize hX : (⟨10, (q : Int) + 1, m, on, mx⟩ : Cd.Cm).cells = X at *
  clear hX
  go_enter Tryz.func10, Tryz.ntmps10
  go_wp2_with fail
  generalize ((w.alloc (.cells (c.cells s) 28)).alloc (.cells X 33)).alloc (.cells zC 28) = W at *
  refine c1.out.mono ?_
  rintro e w1 ⟨s', rfl, hG, hb⟩
  obtain ⟨a', cc, rfl⟩ := hG.slice
  rw [HW.out] at hG hb
  have C1 := Lib.hid (C0.out.below hb (by omega))
  have X1 := Lib.hid (X0.out.below hb (by omega))
  have Z1 := Lib.hid (Z0.out.below hb (by omega))
  have HB1 := Lib.hid (HB.out.trans (hb.mono (by omega)))
  have O1 := Lib.hid hG.one'
  have HG := Lib.hid hG
  clear hb hG c1 C0 X0 Z0 HB HW f14
  have f14 := H14.out w1 C1.out
  have fz := C1.out.frozen 14
  go_wp2_with (with_reducible refine stopL 31 _ rfl ?_)
  have HG4 := Lib.hid (show GS (w1.setCell ⟨w.heap.size, 14, none⟩ (.slice a' n cc)) (w.heap.size + 3) (.slice a' n cc) n P from HG.out.setOther (vb := w.heap.size) (fun g n c e => by
    rcases HG.out with ⟨h, _⟩ | ⟨g', c', h, hg, _⟩
    · rw [h] at e; cases e
    · rw [h] at e; cases e; omega) 14 (.slice a' n cc))
  have V4 := Lib.hid (HK.out w1 (.slice a' n cc) C1.out)
  have X4 := Lib.hid (X1.out.set_other (p := ⟨w.heap.size, 14, none⟩) (show w.heap.size + 1 ≠ w.heap.size by omega) (.slice a' n cc))
  have Z4 := Lib.hid (Z1.out.set_other (p := ⟨w.heap.size, 14, none⟩) (show w.heap.size + 2 ≠ w.heap.size by omega) (.slice a' n cc))
  have HB4 := Lib.hid (HB1.out.setCell (p := ⟨w.heap.size, 14, none⟩) (Nat.le_refl _) (.slice a' n cc))
  clear f14 fz C1 X1 Z1 HB1 HG H14 HK
  generalize w1.setCell ⟨w.heap.size, 14, none⟩ (.slice a' n cc) = w4 at *
  refine Lib.hid ?_
  obtain ⟨k0, k1, k2, k3⟩ := XC.out w4 X4.out
  clear XC
  obtain ⟨g, rfl, hg, hO⟩ : ∃ g, a' = some ⟨g, 0, none⟩ ∧ w.heap.size + 3 ≤ g ∧ Own5 w4 g n P := by
    rcases HG4.out with ⟨_, h⟩ | ⟨g, c, h, hg, ho⟩
    · exact absurd h (by omega)
    · cases h; exact ⟨g, rfl, hg, ho⟩
  have fs : w4.cell? ⟨w.heap.size, 14, none⟩ = some (.slice (some ⟨g, 0, none⟩) n cc) := V4.out.cell 14
  have hix := idx26 g 0 n cc q hq
  have fc := own5_cell hO (k := 3) hq (by omega)
  have ff := own5_frozen hO (q * 5 + 3)
  simp at fc
  have HO := Lib.hid hO
  clear hO
  go_wp2_with (with_reducible refine stopL 28 _ rfl ?_)
  have V6 := Lib.hid (V4.out.set_other (p := ⟨g, q * 5 + 3, none⟩) (show w.heap.size ≠ g by omega) (.bool on))
  have Z6 := Lib.hid (Z4.out.set_other (p := ⟨g, q * 5 + 3, none⟩) (show w.heap.size + 2 ≠ g by omega) (.bool on))
  have HB6 := Lib.hid (HB4.out.setCell (p := ⟨g, q * 5 + 3, none⟩) (show w.heap.size ≤ g by omega) (.bool on))
  have HG6 := Lib.hid (show GS (w4.setCell ⟨g, q * 5 + 3, none⟩ (.bool on)) (w.heap.size + 3) (.slice (some ⟨g, 0, none⟩) n cc) n (fun i => if i = q then stP ⟨10, (q : Int) + 1, m, on, mx⟩ (P q) else P i) from .inr ⟨g, cc, rfl, hg, own5_set HO.out (k := 3) hq (by omega) (by generalize P q = p; obtain ⟨p0, p1, p2, p3, p4⟩ := p; rfl)⟩)
  clear fc ff fs hix k0 k1 k2 k3 V4 X4 Z4 HB4 HG4 HO hg
  generalize w4.setCell ⟨g, q * 5 + 3, none⟩ (.bool on) = w6 at *
  refine Lib.hid ?_
  refine wpList_load_whole uC rfl sC rfl _ rfl rfl (range_whole V6.out) (Cf.size _ (.slice (some ⟨g, 0, none⟩) n cc)) ?_
  refine wpList_store_whole sC rfl _ _ rfl rfl rfl Z6.out (Cf.one _ O1.out) (Cf.size _ (.slice (some ⟨g, 0, none⟩) n cc)) (by simp) ?_
  intro w9 hv9 hb9 ho9 _
  rw [putL_all _ _ (by rw [Cf.size]; rfl)] at hv9
  have V9 := Lib.hid hv9
  have B9 := Lib.hid (hb9 w.heap.size w (by omega) HB6.out)
  have G9 := Lib.hid (show GS w9 w.heap.size (.slice (some ⟨g, 0, none⟩) n cc) n (fun i => if i = q then stP ⟨10, (q : Int) + 1, m, on, mx⟩ (P q) else P i) from by
    rcases HG6.out with h | ⟨g9, c, e, hg, A, hA, h1, h2⟩
    · exact .inl h
    · exact .inr ⟨g9, c, e, by omega, A, ho9 _ _ _ (by omega) hA, h1, h2⟩)
  clear hv9 hb9 ho9 V6 Z6 HG6 HB6 O1
  go_wp2_with (with_reducible refine stopE ?_)
  refine Lib.hid ?_
  obtain ⟨r0, r1, r2, r3, r4, r5, r6, r7, r8, r9, r10, r11, r12, r13, r14⟩ := V9.out.box
  exact bodyPost_ret (v := .tuple #[.agg ((c).cells (.slice (some ⟨g, 0, none⟩) n cc)), .int .i64 0]) (by simp [results, Tryz.results10, go_sem, r0, r1, r2, r3, r4, r5, r6, r7, r8, r9, r10, r11, r12, r13, r14, Cf.cells]) rfl ⟨_, rfl, G9.out, B9.out⟩
set_option maxRecDepth 20000 in
set_option maxHeartbeats 2000000 in
theorem changed_11 (q m : Nat) (on : Bool) (mx : Nat → Nat) (c : Cf) (s : Value) (n : Nat) (P : Nat → Pc) (w : World) (hs : QIn w s n P) (hn : n ≤ 20) (hq : q < n) (hm : m ≤ 1073741824) :
    Calls Tryz.prog 10 #[.agg (c.cells s), .agg (⟨11, (q : Int) + 1, m, on, mx⟩ : Cd.Cm).cells] w (DEnd n c (fun i => if i = q then stP ⟨11, (q : Int) + 1, m, on, mx⟩ (P q) else P i) 0 w) := by
  have hu := u32_nn m hm
  have C0 := Lib.hid (((var_new w (c.cells s) 28).alloc (.cells (⟨11, (q : Int) + 1, m, on, mx⟩ : Cd.Cm).cells 33)).alloc (.cells zC 28))
  have X0 := Lib.hid (show VarAt (((w.alloc (.cells (c.cells s) 28)).alloc (.cells (⟨11, (q : Int) + 1, m, on, mx⟩ : Cd.Cm).cells 33)).alloc (.cells zC 28)) (w.heap.size + 1) (⟨11, (q : Int) + 1, m, on, mx⟩ : Cd.Cm).cells 33 by
    have := (var_new (w.alloc (.cells (c.cells s) 28)) (⟨11, (q : Int) + 1, m, on, mx⟩ : Cd.Cm).cells 33).alloc (.cells zC 28)
    rwa [alloc_size] at this)
  have Z0 := Lib.hid (show VarAt (((w.alloc (.cells (c.cells s) 28)).alloc (.cells (⟨11, (q : Int) + 1, m, on, mx⟩ : Cd.Cm).cells 33)).alloc (.cells zC 28)) (w.heap.size + 2) zC 28 by
    have := var_new ((w.alloc (.cells (c.cells s) 28)).alloc (.cells (⟨11, (q : Int) + 1, m, on, mx⟩ : Cd.Cm).cells 33)) zC 28
    rwa [alloc_size, alloc_size] at this)
  have HB := Lib.hid (show Below w.heap.size w (((w.alloc (.cells (c.cells s) 28)).alloc (.cells (⟨11, (q : Int) + 1, m, on, mx⟩ : Cd.Cm).cells 33)).alloc (.cells zC 28)) from (((Below.refl w.heap.size w).alloc (Nat.le_refl _) _).alloc (by rw [alloc_size]; omega) _).alloc (by rw [alloc_size, alloc_size]; omega) _)
  have HW := Lib.hid (show (((w.alloc (.cells (c.cells s) 28)).alloc (.cells (⟨11, (q : Int) + 1, m, on, mx⟩ : Cd.Cm).cells 33)).alloc (.cells zC 28)).heap.size = w.heap.size + 3 by rw [alloc_size, alloc_size, alloc_size])
  have c1 := Lib.hid (clone_gs s n P _ (hs.below HB.out) hn)
  have f14 : (((w.alloc (.cells (c.cells s) 28)).alloc (.cells (⟨11, (q : Int) + 1, m, on, mx⟩ : Cd.Cm).cells 33)).alloc (.cells zC 28)).cell? ⟨w.heap.size, 14, none⟩ = some s := C0.out.cell 14
  have HX := Lib.hid (rfl : (⟨11, (q : Int) + 1, m, on, mx⟩ : Cd.Cm).cells = (⟨11, (q : Int) + 1, m, on, mx⟩ : Cd.Cm).cells)
  clear hs
  have XC := Lib.hid (fun (w' : World) (h : VarAt w' (w.heap.size + 1) (⟨11, (q : Int) + 1, m, on, mx⟩ : Cd.Cm).cells 33) => (show w'.cell? ⟨w.heap.size + 1, 0, none⟩ = some (.int .i64 11) ∧ w'.cell? ⟨w.heap.size + 1, 1, none⟩ = some (.int .i64 ((q : Int) + 1)) ∧ w'.cell? ⟨w.heap.size + 1, 2, none⟩ = some (.int .i64 m) ∧ w'.cell? ⟨w.heap.size + 1, 3, none⟩ = some (.bool on) from ⟨h.cell 0, h.cell 1, h.cell 2, h.cell 3⟩))
  have HK := Lib.hid (fun (w' : World) (s' : Value) (h : VarAt w' w.heap.size (c.cells s) 28) => (show VarAt (w'.setCell ⟨w.heap.size, 14, none⟩ s') w.heap.size (c.cells s') 28 from h.set 14 s'))
  have H14 := Lib.hid (fun (w' : World) (h : VarAt w' w.heap.size (c.cells s) 28) => (show w'.cell? ⟨w.heap.size, 14, none⟩ = some s from h.cell 14))
  clear HX
  generalize hX : (⟨11, (q : Int) + 1, m, on, mx⟩ : Cd.Cm).cells = X at *
  clear hX
  go_enter Tryz.func10, Tryz.ntmps10
  go_wp2_with fail
  generalize ((w.alloc (.cells (c.cells s) 28)).alloc (.cells X 33)).alloc (.cells zC 28) = W at *
  refine c1.out.mono ?_
  rintro e w1 ⟨s', rfl, hG, hb⟩
  obtain ⟨a', cc, rfl⟩ := hG.slice
  rw [HW.out] at hG hb
  have C1 := Lib.hid (C0.out.below hb (by omega))
  have X1 := Lib.hid (X0.out.below hb (by omega))
  have Z1 := Lib.hid (Z0.out.below hb (by omega))
  have HB1 := Lib.hid (HB.out.trans (hb.mono (by omega)))
  have O1 := Lib.hid hG.one'
  have HG := Lib.hid hG
  clear hb hG c1 C0 X0 Z0 HB HW f14
  have f14 := H14.out w1 C1.out
  have fz := C1.out.frozen 14
  go_wp2_with (with_reducible refine stopL 31 _ rfl ?_)
  have HG4 := Lib.hid (show GS (w1.setCell ⟨w.heap.size, 14, none⟩ (.slice a' n cc)) (w.heap.size + 3) (.slice a' n cc) n P from HG.out.setOther (vb := w.heap.size) (fun g n c e => by
    rcases HG.out with ⟨h, _⟩ | ⟨g', c', h, hg, _⟩
    · rw [h] at e; cases e
    · rw [h] at e; cases e; omega) 14 (.slice a' n cc))
  have V4 := Lib.hid (HK.out w1 (.slice a' n cc) C1.out)
  have X4 := Lib.hid (X1.out.set_other (p := ⟨w.heap.size, 14, none⟩) (show w.heap.size + 1 ≠ w.heap.size by omega) (.slice a' n cc))
  have Z4 := Lib.hid (Z1.out.set_other (p := ⟨w.heap.size, 14, none⟩) (show w.heap.size + 2 ≠ w.heap.size by omega) (.slice a' n cc))
  have HB4 := Lib.hid (HB1.out.setCell (p := ⟨w.heap.size, 14, none⟩) (Nat.le_refl _) (.slice a' n cc))
  clear f14 fz C1 X1 Z1 HB1 HG H14 HK
  generalize w1.setCell ⟨w.heap.size, 14, none⟩ (.slice a' n cc) = w4 at *
  refine Lib.hid ?_
  obtain ⟨k0, k1, k2, k3⟩ := XC.out w4 X4.out
  clear XC
  obtain ⟨g, rfl, hg, hO⟩ : ∃ g, a' = some ⟨g, 0, none⟩ ∧ w.heap.size + 3 ≤ g ∧ Own5 w4 g n P := by
    rcases HG4.out with ⟨_, h⟩ | ⟨g, c, h, hg, ho⟩
    · exact absurd h (by omega)
    · cases h; exact ⟨g, rfl, hg, ho⟩
  have fs : w4.cell? ⟨w.heap.size, 14, none⟩ = some (.slice (some ⟨g, 0, none⟩) n cc) := V4.out.cell 14
  have hix := idx26 g 0 n cc q hq
  have fc := own5_cell hO (k := 4) hq (by omega)
  have ff := own5_frozen hO (q * 5 + 4)
  simp at fc
  have HO := Lib.hid hO
  clear hO
  go_wp2_with (with_reducible refine stopL 28 _ rfl ?_)
  have V6 := Lib.hid (V4.out.set_other (p := ⟨g, q * 5 + 4, none⟩) (show w.heap.size ≠ g by omega) (.int .i64 m))
  have Z6 := Lib.hid (Z4.out.set_other (p := ⟨g, q * 5 + 4, none⟩) (show w.heap.size + 2 ≠ g by omega) (.int .i64 m))
  have HB6 := Lib.hid (HB4.out.setCell (p := ⟨g, q * 5 + 4, none⟩) (show w.heap.size ≤ g by omega) (.int .i64 m))
  have HG6 := Lib.hid (show GS (w4.setCell ⟨g, q * 5 + 4, none⟩ (.int .i64 m)) (w.heap.size + 3) (.slice (some ⟨g, 0, none⟩) n cc) n (fun i => if i = q then stP ⟨11, (q : Int) + 1, m, on, mx⟩ (P q) else P i) from .inr ⟨g, cc, rfl, hg, own5_set HO.out (k := 4) hq (by omega) (by generalize P q = p; obtain ⟨p0, p1, p2, p3, p4⟩ := p; rfl)⟩)
  clear fc ff fs hix k0 k1 k2 k3 V4 X4 Z4 HB4 HG4 HO hg
  generalize w4.setCell ⟨g, q * 5 + 4, none⟩ (.int .i64 m) = w6 at *
  refine Lib.hid ?_
  refine wpList_load_whole uC rfl sC rfl _ rfl rfl (range_whole V6.out) (Cf.size _ (.slice (some ⟨g, 0, none⟩) n cc)) ?_
  refine wpList_store_whole sC rfl _ _ rfl rfl rfl Z6.out (Cf.one _ O1.out) (Cf.size _ (.slice (some ⟨g, 0, none⟩) n cc)) (by simp) ?_
  intro w9 hv9 hb9 ho9 _
  rw [putL_all _ _ (by rw [Cf.size]; rfl)] at hv9
  have V9 := Lib.hid hv9
  have B9 := Lib.hid (hb9 w.heap.size w (by omega) HB6.out)
  have G9 := Lib.hid (show GS w9 w.heap.size (.slice (some ⟨g, 0, none⟩) n cc) n (fun i => if i = q then stP ⟨11, (q : Int) + 1, m, on, mx⟩ (P q) else P i) from by
    rcases HG6.out with h | ⟨g9, c, e, hg, A, hA, h1, h2⟩
    · exact .inl h
    · exact .inr ⟨g9, c, e, by omega, A, ho9 _ _ _ (by omega) hA, h1, h2⟩)
  clear hv9 hb9 ho9 V6 Z6 HG6 HB6 O1
  go_wp2_with (with_reducible refine stopE ?_)
  refine Lib.hid ?_
  obtain ⟨r0, r1, r2, r3, r4, r5, r6, r7, r8, r9, r10, r11, r12, r13, r14⟩ := V9.out.box
  exact bodyPost_ret (v := .tuple #[.agg ((c).cells (.slice (some ⟨g, 0, none⟩) n cc)), .int .i64 0]) (by simp [results, Tryz.results10, go_sem, r0, r1, r2, r3, r4, r5, r6, r7, r8, r9, r10, r11, r12, r13, r14, Cf.cells]) rfl ⟨_, rfl, G9.out, B9.out⟩
set_option maxRecDepth 20000 in
set_option maxHeartbeats 2000000 in
theorem changed_bad (x : Cd.Cm) (h12 : 12 ≤ x.wh) (c : Cf) (s : Value) (n : Nat) (P : Nat → Pc) (w : World) (hs : QIn w s n P) (hn : n ≤ 20)  :
    Calls Tryz.prog 10 #[.agg (c.cells s), .agg x.cells] w (DEnd n c P 1 w) := by
  have C0 := Lib.hid (((var_new w (c.cells s) 28).alloc (.cells x.cells 33)).alloc (.cells zC 28))
  have X0 := Lib.hid (show VarAt (((w.alloc (.cells (c.cells s) 28)).alloc (.cells x.cells 33)).alloc (.cells zC 28)) (w.heap.size + 1) x.cells 33 by
    have := (var_new (w.alloc (.cells (c.cells s) 28)) x.cells 33).alloc (.cells zC 28)
    rwa [alloc_size] at this)
  have Z0 := Lib.hid (show VarAt (((w.alloc (.cells (c.cells s) 28)).alloc (.cells x.cells 33)).alloc (.cells zC 28)) (w.heap.size + 2) zC 28 by
    have := var_new ((w.alloc (.cells (c.cells s) 28)).alloc (.cells x.cells 33)) zC 28
    rwa [alloc_size, alloc_size] at this)
  have HB := Lib.hid (show Below w.heap.size w (((w.alloc (.cells (c.cells s) 28)).alloc (.cells x.cells 33)).alloc (.cells zC 28)) from (((Below.refl w.heap.size w).alloc (Nat.le_refl _) _).alloc (by rw [alloc_size]; omega) _).alloc (by rw [alloc_size, alloc_size]; omega) _)
  have HW := Lib.hid (show (((w.alloc (.cells (c.cells s) 28)).alloc (.cells x.cells 33)).alloc (.cells zC 28)).heap.size = w.heap.size + 3 by rw [alloc_size, alloc_size, alloc_size])
  have c1 := Lib.hid (clone_gs s n P _ (hs.below HB.out) hn)
  have f14 : (((w.alloc (.cells (c.cells s) 28)).alloc (.cells x.cells 33)).alloc (.cells zC 28)).cell? ⟨w.heap.size, 14, none⟩ = some s := C0.out.cell 14
  have HX := Lib.hid (rfl : x.cells = x.cells)
  clear hs
  have XC := Lib.hid (fun (w' : World) (h : VarAt w' (w.heap.size + 1) x.cells 33) => (show w'.cell? ⟨w.heap.size + 1, 0, none⟩ = some (.int .i64 x.wh) ∧ w'.cell? ⟨w.heap.size + 1, 1, none⟩ = some (.int .i64 x.po) from ⟨h.cell 0, h.cell 1⟩))
  have HK := Lib.hid (fun (w' : World) (s' : Value) (h : VarAt w' w.heap.size (c.cells s) 28) => (show VarAt (w'.setCell ⟨w.heap.size, 14, none⟩ s') w.heap.size (c.cells s') 28 from h.set 14 s'))
  have H14 := Lib.hid (fun (w' : World) (h : VarAt w' w.heap.size (c.cells s) 28) => (show w'.cell? ⟨w.heap.size, 14, none⟩ = some s from h.cell 14))
  clear HX
  generalize hX : x.cells = X at *
  clear hX
  go_enter Tryz.func10, Tryz.ntmps10
  go_wp2_with fail
  generalize ((w.alloc (.cells (c.cells s) 28)).alloc (.cells X 33)).alloc (.cells zC 28) = W at *
  refine c1.out.mono ?_
  rintro e w1 ⟨s', rfl, hG, hb⟩
  obtain ⟨a', cc, rfl⟩ := hG.slice
  rw [HW.out] at hG hb
  have C1 := Lib.hid (C0.out.below hb (by omega))
  have X1 := Lib.hid (X0.out.below hb (by omega))
  have Z1 := Lib.hid (Z0.out.below hb (by omega))
  have HB1 := Lib.hid (HB.out.trans (hb.mono (by omega)))
  have O1 := Lib.hid hG.one'
  have HG := Lib.hid hG
  clear hb hG c1 C0 X0 Z0 HB HW f14
  have f14 := H14.out w1 C1.out
  have fz := C1.out.frozen 14
  go_wp2_with (with_reducible refine stopL 31 _ rfl ?_)
  have HG4 := Lib.hid (show GS (w1.setCell ⟨w.heap.size, 14, none⟩ (.slice a' n cc)) (w.heap.size + 3) (.slice a' n cc) n P from HG.out.setOther (vb := w.heap.size) (fun g n c e => by
    rcases HG.out with ⟨h, _⟩ | ⟨g', c', h, hg, _⟩
    · rw [h] at e; cases e
    · rw [h] at e; cases e; omega) 14 (.slice a' n cc))
  have V4 := Lib.hid (HK.out w1 (.slice a' n cc) C1.out)
  have X4 := Lib.hid (X1.out.set_other (p := ⟨w.heap.size, 14, none⟩) (show w.heap.size + 1 ≠ w.heap.size by omega) (.slice a' n cc))
  have Z4 := Lib.hid (Z1.out.set_other (p := ⟨w.heap.size, 14, none⟩) (show w.heap.size + 2 ≠ w.heap.size by omega) (.slice a' n cc))
  have HB4 := Lib.hid (HB1.out.setCell (p := ⟨w.heap.size, 14, none⟩) (Nat.le_refl _) (.slice a' n cc))
  clear f14 fz C1 X1 Z1 HB1 HG H14 HK
  generalize w1.setCell ⟨w.heap.size, 14, none⟩ (.slice a' n cc) = w4 at *
  refine Lib.hid ?_
  obtain ⟨k0, k1⟩ := XC.out w4 X4.out
  clear XC
  have hwf := decide_eq_false (show ¬ x.wh ≤ 11 by omega)
  generalize x.wh = wh at *
  go_wp2_with (with_reducible refine stopL 28 _ rfl ?_)
  have V6 := V4
  have Z6 := Z4
  have HB6 := HB4
  have HG6 := HG4
  clear V4 Z4 HB4 HG4
  refine Lib.hid ?_
  refine wpList_load_whole uC rfl sC rfl _ rfl rfl (range_whole V6.out) (Cf.size _ (.slice a' n cc)) ?_
  refine wpList_store_whole sC rfl _ _ rfl rfl rfl Z6.out (Cf.one _ O1.out) (Cf.size _ (.slice a' n cc)) (by simp) ?_
  intro w9 hv9 hb9 ho9 _
  rw [putL_all _ _ (by rw [Cf.size]; rfl)] at hv9
  have V9 := Lib.hid hv9
  have B9 := Lib.hid (hb9 w.heap.size w (by omega) HB6.out)
  have G9 := Lib.hid (show GS w9 w.heap.size (.slice a' n cc) n P from by
    rcases HG6.out with h | ⟨g, c, e, hg, A, hA, h1, h2⟩
    · exact .inl h
    · exact .inr ⟨g, c, e, by omega, A, ho9 _ _ _ (by omega) hA, h1, h2⟩)
  clear hv9 hb9 ho9 V6 Z6 HG6 HB6 O1
  go_wp2_with (with_reducible refine stopE ?_)
  refine Lib.hid ?_
  obtain ⟨r0, r1, r2, r3, r4, r5, r6, r7, r8, r9, r10, r11, r12, r13, r14⟩ := V9.out.box
  exact bodyPost_ret (v := .tuple #[.agg ((c).cells (.slice a' n cc)), .int .i64 1]) (by simp [results, Tryz.results10, go_sem, r0, r1, r2, r3, r4, r5, r6, r7, r8, r9, r10, r11, r12, r13, r14, Cf.cells]) rfl ⟨_, rfl, G9.out, B9.out⟩
set_option maxRecDepth 20000 in
set_option maxHeartbeats 2000000 in
theorem changed_none1 (x : Cd.Cm) (h7 : 7 ≤ x.wh) (h11 : x.wh ≤ 11) (c : Cf) (s : Value) (n : Nat) (P : Nat → Pc) (w : World) (hs : QIn w s n P) (hn : n ≤ 20) (hp : x.po < 1) :
    Calls Tryz.prog 10 #[.agg (c.cells s), .agg x.cells] w (DEnd n c P 6 w) := by
  have C0 := Lib.hid (((var_new w (c.cells s) 28).alloc (.cells x.cells 33)).alloc (.cells zC 28))
  have X0 := Lib.hid (show VarAt (((w.alloc (.cells (c.cells s) 28)).alloc (.cells x.cells 33)).alloc (.cells zC 28)) (w.heap.size + 1) x.cells 33 by
    have := (var_new (w.alloc (.cells (c.cells s) 28)) x.cells 33).alloc (.cells zC 28)
    rwa [alloc_size] at this)
  have Z0 := Lib.hid (show VarAt (((w.alloc (.cells (c.cells s) 28)).alloc (.cells x.cells 33)).alloc (.cells zC 28)) (w.heap.size + 2) zC 28 by
    have := var_new ((w.alloc (.cells (c.cells s) 28)).alloc (.cells x.cells 33)) zC 28
    rwa [alloc_size, alloc_size] at this)
  have HB := Lib.hid (show Below w.heap.size w (((w.alloc (.cells (c.cells s) 28)).alloc (.cells x.cells 33)).alloc (.cells zC 28)) from (((Below.refl w.heap.size w).alloc (Nat.le_refl _) _).alloc (by rw [alloc_size]; omega) _).alloc (by rw [alloc_size, alloc_size]; omega) _)
  have HW := Lib.hid (show (((w.alloc (.cells (c.cells s) 28)).alloc (.cells x.cells 33)).alloc (.cells zC 28)).heap.size = w.heap.size + 3 by rw [alloc_size, alloc_size, alloc_size])
  have c1 := Lib.hid (clone_gs s n P _ (hs.below HB.out) hn)
  have f14 : (((w.alloc (.cells (c.cells s) 28)).alloc (.cells x.cells 33)).alloc (.cells zC 28)).cell? ⟨w.heap.size, 14, none⟩ = some s := C0.out.cell 14
  have HX := Lib.hid (rfl : x.cells = x.cells)
  clear hs
  have XC := Lib.hid (fun (w' : World) (h : VarAt w' (w.heap.size + 1) x.cells 33) => (show w'.cell? ⟨w.heap.size + 1, 0, none⟩ = some (.int .i64 x.wh) ∧ w'.cell? ⟨w.heap.size + 1, 1, none⟩ = some (.int .i64 x.po) from ⟨h.cell 0, h.cell 1⟩))
  have HK := Lib.hid (fun (w' : World) (s' : Value) (h : VarAt w' w.heap.size (c.cells s) 28) => (show VarAt (w'.setCell ⟨w.heap.size, 14, none⟩ s') w.heap.size (c.cells s') 28 from h.set 14 s'))
  have H14 := Lib.hid (fun (w' : World) (h : VarAt w' w.heap.size (c.cells s) 28) => (show w'.cell? ⟨w.heap.size, 14, none⟩ = some s from h.cell 14))
  clear HX
  generalize hX : x.cells = X at *
  clear hX
  go_enter Tryz.func10, Tryz.ntmps10
  go_wp2_with fail
  generalize ((w.alloc (.cells (c.cells s) 28)).alloc (.cells X 33)).alloc (.cells zC 28) = W at *
  refine c1.out.mono ?_
  rintro e w1 ⟨s', rfl, hG, hb⟩
  obtain ⟨a', cc, rfl⟩ := hG.slice
  rw [HW.out] at hG hb
  have C1 := Lib.hid (C0.out.below hb (by omega))
  have X1 := Lib.hid (X0.out.below hb (by omega))
  have Z1 := Lib.hid (Z0.out.below hb (by omega))
  have HB1 := Lib.hid (HB.out.trans (hb.mono (by omega)))
  have O1 := Lib.hid hG.one'
  have HG := Lib.hid hG
  clear hb hG c1 C0 X0 Z0 HB HW f14
  have f14 := H14.out w1 C1.out
  have fz := C1.out.frozen 14
  go_wp2_with (with_reducible refine stopL 31 _ rfl ?_)
  have HG4 := Lib.hid (show GS (w1.setCell ⟨w.heap.size, 14, none⟩ (.slice a' n cc)) (w.heap.size + 3) (.slice a' n cc) n P from HG.out.setOther (vb := w.heap.size) (fun g n c e => by
    rcases HG.out with ⟨h, _⟩ | ⟨g', c', h, hg, _⟩
    · rw [h] at e; cases e
    · rw [h] at e; cases e; omega) 14 (.slice a' n cc))
  have V4 := Lib.hid (HK.out w1 (.slice a' n cc) C1.out)
  have X4 := Lib.hid (X1.out.set_other (p := ⟨w.heap.size, 14, none⟩) (show w.heap.size + 1 ≠ w.heap.size by omega) (.slice a' n cc))
  have Z4 := Lib.hid (Z1.out.set_other (p := ⟨w.heap.size, 14, none⟩) (show w.heap.size + 2 ≠ w.heap.size by omega) (.slice a' n cc))
  have HB4 := Lib.hid (HB1.out.setCell (p := ⟨w.heap.size, 14, none⟩) (Nat.le_refl _) (.slice a' n cc))
  clear f14 fz C1 X1 Z1 HB1 HG H14 HK
  generalize w1.setCell ⟨w.heap.size, 14, none⟩ (.slice a' n cc) = w4 at *
  refine Lib.hid ?_
  obtain ⟨k0, k1⟩ := XC.out w4 X4.out
  clear XC
  have fs : w4.cell? ⟨w.heap.size, 14, none⟩ = some (.slice a' n cc) := V4.out.cell 14
  go_wp2_with (with_reducible refine stopL 28 _ rfl ?_)
  have V6 := V4
  have Z6 := Z4
  have HB6 := HB4
  have HG6 := HG4
  clear V4 Z4 HB4 HG4
  refine Lib.hid ?_
  refine wpList_load_whole uC rfl sC rfl _ rfl rfl (range_whole V6.out) (Cf.size _ (.slice a' n cc)) ?_
  refine wpList_store_whole sC rfl _ _ rfl rfl rfl Z6.out (Cf.one _ O1.out) (Cf.size _ (.slice a' n cc)) (by simp) ?_
  intro w9 hv9 hb9 ho9 _
  rw [putL_all _ _ (by rw [Cf.size]; rfl)] at hv9
  have V9 := Lib.hid hv9
  have B9 := Lib.hid (hb9 w.heap.size w (by omega) HB6.out)
  have G9 := Lib.hid (show GS w9 w.heap.size (.slice a' n cc) n P from by
    rcases HG6.out with h | ⟨g, c, e, hg, A, hA, h1, h2⟩
    · exact .inl h
    · exact .inr ⟨g, c, e, by omega, A, ho9 _ _ _ (by omega) hA, h1, h2⟩)
  clear hv9 hb9 ho9 V6 Z6 HG6 HB6 O1
  go_wp2_with (with_reducible refine stopE ?_)
  refine Lib.hid ?_
  obtain ⟨r0, r1, r2, r3, r4, r5, r6, r7, r8, r9, r10, r11, r12, r13, r14⟩ := V9.out.box
  exact bodyPost_ret (v := .tuple #[.agg ((c).cells (.slice a' n cc)), .int .i64 6]) (by simp [results, Tryz.results10, go_sem, r0, r1, r2, r3, r4, r5, r6, r7, r8, r9, r10, r11, r12, r13, r14, Cf.cells]) rfl ⟨_, rfl, G9.out, B9.out⟩
set_option maxRecDepth 20000 in
set_option maxHeartbeats 2000000 in
theorem changed_none2 (x : Cd.Cm) (h7 : 7 ≤ x.wh) (h11 : x.wh ≤ 11) (c : Cf) (s : Value) (n : Nat) (P : Nat → Pc) (w : World) (hs : QIn w s n P) (hn : n ≤ 20) (hp : 1 ≤ x.po) (hq : (n : Int) < x.po) :
    Calls Tryz.prog 10 #[.agg (c.cells s), .agg x.cells] w (DEnd n c P 6 w) := by
  have C0 := Lib.hid (((var_new w (c.cells s) 28).alloc (.cells x.cells 33)).alloc (.cells zC 28))
  have X0 := Lib.hid (show VarAt (((w.alloc (.cells (c.cells s) 28)).alloc (.cells x.cells 33)).alloc (.cells zC 28)) (w.heap.size + 1) x.cells 33 by
    have := (var_new (w.alloc (.cells (c.cells s) 28)) x.cells 33).alloc (.cells zC 28)
    rwa [alloc_size] at this)
  have Z0 := Lib.hid (show VarAt (((w.alloc (.cells (c.cells s) 28)).alloc (.cells x.cells 33)).alloc (.cells zC 28)) (w.heap.size + 2) zC 28 by
    have := var_new ((w.alloc (.cells (c.cells s) 28)).alloc (.cells x.cells 33)) zC 28
    rwa [alloc_size, alloc_size] at this)
  have HB := Lib.hid (show Below w.heap.size w (((w.alloc (.cells (c.cells s) 28)).alloc (.cells x.cells 33)).alloc (.cells zC 28)) from (((Below.refl w.heap.size w).alloc (Nat.le_refl _) _).alloc (by rw [alloc_size]; omega) _).alloc (by rw [alloc_size, alloc_size]; omega) _)
  have HW := Lib.hid (show (((w.alloc (.cells (c.cells s) 28)).alloc (.cells x.cells 33)).alloc (.cells zC 28)).heap.size = w.heap.size + 3 by rw [alloc_size, alloc_size, alloc_size])
  have c1 := Lib.hid (clone_gs s n P _ (hs.below HB.out) hn)
  have f14 : (((w.alloc (.cells (c.cells s) 28)).alloc (.cells x.cells 33)).alloc (.cells zC 28)).cell? ⟨w.heap.size, 14, none⟩ = some s := C0.out.cell 14
  have HX := Lib.hid (rfl : x.cells = x.cells)
  clear hs
  have XC := Lib.hid (fun (w' : World) (h : VarAt w' (w.heap.size + 1) x.cells 33) => (show w'.cell? ⟨w.heap.size + 1, 0, none⟩ = some (.int .i64 x.wh) ∧ w'.cell? ⟨w.heap.size + 1, 1, none⟩ = some (.int .i64 x.po) from ⟨h.cell 0, h.cell 1⟩))
  have HK := Lib.hid (fun (w' : World) (s' : Value) (h : VarAt w' w.heap.size (c.cells s) 28) => (show VarAt (w'.setCell ⟨w.heap.size, 14, none⟩ s') w.heap.size (c.cells s') 28 from h.set 14 s'))
  have H14 := Lib.hid (fun (w' : World) (h : VarAt w' w.heap.size (c.cells s) 28) => (show w'.cell? ⟨w.heap.size, 14, none⟩ = some s from h.cell 14))
  clear HX
  generalize hX : x.cells = X at *
  clear hX
  go_enter Tryz.func10, Tryz.ntmps10
  go_wp2_with fail
  generalize ((w.alloc (.cells (c.cells s) 28)).alloc (.cells X 33)).alloc (.cells zC 28) = W at *
  refine c1.out.mono ?_
  rintro e w1 ⟨s', rfl, hG, hb⟩
  obtain ⟨a', cc, rfl⟩ := hG.slice
  rw [HW.out] at hG hb
  have C1 := Lib.hid (C0.out.below hb (by omega))
  have X1 := Lib.hid (X0.out.below hb (by omega))
  have Z1 := Lib.hid (Z0.out.below hb (by omega))
  have HB1 := Lib.hid (HB.out.trans (hb.mono (by omega)))
  have O1 := Lib.hid hG.one'
  have HG := Lib.hid hG
  clear hb hG c1 C0 X0 Z0 HB HW f14
  have f14 := H14.out w1 C1.out
  have fz := C1.out.frozen 14
  go_wp2_with (with_reducible refine stopL 31 _ rfl ?_)
  have HG4 := Lib.hid (show GS (w1.setCell ⟨w.heap.size, 14, none⟩ (.slice a' n cc)) (w.heap.size + 3) (.slice a' n cc) n P from HG.out.setOther (vb := w.heap.size) (fun g n c e => by
    rcases HG.out with ⟨h, _⟩ | ⟨g', c', h, hg, _⟩
    · rw [h] at e; cases e
    · rw [h] at e; cases e; omega) 14 (.slice a' n cc))
  have V4 := Lib.hid (HK.out w1 (.slice a' n cc) C1.out)
  have X4 := Lib.hid (X1.out.set_other (p := ⟨w.heap.size, 14, none⟩) (show w.heap.size + 1 ≠ w.heap.size by omega) (.slice a' n cc))
  have Z4 := Lib.hid (Z1.out.set_other (p := ⟨w.heap.size, 14, none⟩) (show w.heap.size + 2 ≠ w.heap.size by omega) (.slice a' n cc))
  have HB4 := Lib.hid (HB1.out.setCell (p := ⟨w.heap.size, 14, none⟩) (Nat.le_refl _) (.slice a' n cc))
  clear f14 fz C1 X1 Z1 HB1 HG H14 HK
  generalize w1.setCell ⟨w.heap.size, 14, none⟩ (.slice a' n cc) = w4 at *
  refine Lib.hid ?_
  obtain ⟨k0, k1⟩ := XC.out w4 X4.out
  clear XC
  have fs : w4.cell? ⟨w.heap.size, 14, none⟩ = some (.slice a' n cc) := V4.out.cell 14
  go_wp2_with (with_reducible refine stopL 28 _ rfl ?_)
  have V6 := V4
  have Z6 := Z4
  have HB6 := HB4
  have HG6 := HG4
  clear V4 Z4 HB4 HG4
  refine Lib.hid ?_
  refine wpList_load_whole uC rfl sC rfl _ rfl rfl (range_whole V6.out) (Cf.size _ (.slice a' n cc)) ?_
  refine wpList_store_whole sC rfl _ _ rfl rfl rfl Z6.out (Cf.one _ O1.out) (Cf.size _ (.slice a' n cc)) (by simp) ?_
  intro w9 hv9 hb9 ho9 _
  rw [putL_all _ _ (by rw [Cf.size]; rfl)] at hv9
  have V9 := Lib.hid hv9
  have B9 := Lib.hid (hb9 w.heap.size w (by omega) HB6.out)
  have G9 := Lib.hid (show GS w9 w.heap.size (.slice a' n cc) n P from by
    rcases HG6.out with h | ⟨g, c, e, hg, A, hA, h1, h2⟩
    · exact .inl h
    · exact .inr ⟨g, c, e, by omega, A, ho9 _ _ _ (by omega) hA, h1, h2⟩)
  clear hv9 hb9 ho9 V6 Z6 HG6 HB6 O1
  go_wp2_with (with_reducible refine stopE ?_)
  refine Lib.hid ?_
  obtain ⟨r0, r1, r2, r3, r4, r5, r6, r7, r8, r9, r10, r11, r12, r13, r14⟩ := V9.out.box
  exact bodyPost_ret (v := .tuple #[.agg ((c).cells (.slice a' n cc)), .int .i64 6]) (by simp [results, Tryz.results10, go_sem, r0, r1, r2, r3, r4, r5, r6, r7, r8, r9, r10, r11, r12, r13, r14, Cf.cells]) rfl ⟨_, rfl, G9.out, B9.out⟩
theorem changed_any (x : Cd.Cm) (hr : Cd.Rt x) (c : Cf) (s : Value) (n : Nat) (P : Nat → Pc) (w : World) (hs : QIn w s n P) (hn : n ≤ 20) :
    Calls Tryz.prog 10 #[.agg (c.cells s), .agg x.cells] w (DEnd n (if stE n x = 0 then stC x c else c) (if stE n x = 0 then stQ x P else P) (stE n x) w) := by
  have hw0 := hr.w0
  have hw1 := hr.w1
  by_cases h6 : x.wh ≤ 6
  · have hE : stE n x = 0 := by unfold stE; rw [if_pos h6]
    rw [hE, if_pos rfl, if_pos rfl, stQ_lo x P h6]
    obtain ⟨wh, po, nn, on, mx⟩ := x
    simp only at h6 hw0
    rcases (show wh = 0 ∨ wh = 1 ∨ wh = 2 ∨ wh = 3 ∨ wh = 4 ∨ wh = 5 ∨ wh = 6 by omega) with rfl | rfl | rfl | rfl | rfl | rfl | rfl
    · exact changed_0 po nn on mx c s n P w hs hn
    · exact changed_1 po nn on mx c s n P w hs hn
    · exact changed_2 po nn on mx c s n P w hs hn
    · exact changed_3 po nn on mx c s n P w hs hn
    · exact changed_4 po nn on mx c s n P w hs hn
    · exact changed_5 po nn on mx c s n P w hs hn
    · exact changed_6 po nn on mx c s n P w hs hn
  · by_cases h11 : x.wh ≤ 11
    · have hC : stC x c = c := stC_hi x c (by omega)
      rw [hC, show (if stE n x = 0 then c else c) = c by split <;> rfl]
      by_cases hp : 1 ≤ x.po ∧ x.po ≤ n
      · have hE : stE n x = 0 := by unfold stE; rw [if_neg h6, if_pos h11, if_pos hp]
        obtain ⟨q, hq⟩ : ∃ q : Nat, x.po = (q : Int) + 1 := ⟨(x.po - 1).toNat, by omega⟩
        obtain ⟨m, hm⟩ : ∃ m : Nat, x.nn = m := ⟨x.nn.toNat, by have := hr.nn0; omega⟩
        have hm1 : m ≤ 1073741824 := by have := hr.nn1; omega
        have hqn : q < n := by omega
        rw [hE, if_pos rfl, stQ_at x P q (by omega) h11 hq]
        obtain ⟨wh, po, nn, on, mx⟩ := x
        simp only at hq hm h6 h11
        subst hq hm
        rcases (show wh = 7 ∨ wh = 8 ∨ wh = 9 ∨ wh = 10 ∨ wh = 11 by omega) with rfl | rfl | rfl | rfl | rfl
        · exact changed_7 q m on mx c s n P w hs hn hqn hm1
        · exact changed_8 q m on mx c s n P w hs hn hqn hm1
        · exact changed_9 q m on mx c s n P w hs hn hqn hm1
        · exact changed_10 q m on mx c s n P w hs hn hqn hm1
        · exact changed_11 q m on mx c s n P w hs hn hqn hm1
      · have hE : stE n x = 6 := by unfold stE; rw [if_neg h6, if_pos h11, if_neg hp]
        rw [hE, if_neg (by decide)]
        by_cases h1 : x.po < 1
        · exact changed_none1 x (by omega) h11 c s n P w hs hn h1
        · exact changed_none2 x (by omega) h11 c s n P w hs hn (by omega) (by omega)
    · have hE : stE n x = 1 := by unfold stE; rw [if_neg h6, if_neg h11]
      rw [hE, if_neg (by decide), if_neg (by decide)]
      exact changed_bad x (by omega) c s n P w hs hn
end Go.Proofs.YtlmdpaemhjcmbaaGreatDoor
