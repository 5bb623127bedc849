/- ether.Read. -/
import Derived.Test.YtfdhkbkonennjaaM
namespace Go.Proofs.Ytfdhkbkonennjaa
open Go.RowKit Go.Sort

/-- A whole frame stored. -/
abbrev fr14 (w : World) (b : Nat) (x y : Nat → Nat) (t : Nat) (v : Value) : World := (((((((((((((w.setCell ⟨b, 0, none⟩ (.int .u8 (x 0))).setCell ⟨b, 1, none⟩ (.int .u8 (x 1))).setCell ⟨b, 2, none⟩ (.int .u8 (x 2))).setCell ⟨b, 3, none⟩ (.int .u8 (x 3))).setCell ⟨b, 4, none⟩ (.int .u8 (x 4))).setCell ⟨b, 5, none⟩ (.int .u8 (x 5))).setCell ⟨b, 6, none⟩ (.int .u8 (y 0))).setCell ⟨b, 7, none⟩ (.int .u8 (y 1))).setCell ⟨b, 8, none⟩ (.int .u8 (y 2))).setCell ⟨b, 9, none⟩ (.int .u8 (y 3))).setCell ⟨b, 10, none⟩ (.int .u8 (y 4))).setCell ⟨b, 11, none⟩ (.int .u8 (y 5))).setCell ⟨b, 12, none⟩ (.int .u16 t)).setCell ⟨b, 13, none⟩ v
theorem fr14_below {B : Nat} {w0 w : World} {b : Nat} (x y : Nat → Nat) (t : Nat) (v : Value) (h : Below B w0 w) (hb : B ≤ b) : Below B w0 (fr14 w b x y t v) := (((((((((((((h.setCell (p := ⟨b, 0, none⟩) hb _).setCell (p := ⟨b, 1, none⟩) hb _).setCell (p := ⟨b, 2, none⟩) hb _).setCell (p := ⟨b, 3, none⟩) hb _).setCell (p := ⟨b, 4, none⟩) hb _).setCell (p := ⟨b, 5, none⟩) hb _).setCell (p := ⟨b, 6, none⟩) hb _).setCell (p := ⟨b, 7, none⟩) hb _).setCell (p := ⟨b, 8, none⟩) hb _).setCell (p := ⟨b, 9, none⟩) hb _).setCell (p := ⟨b, 10, none⟩) hb _).setCell (p := ⟨b, 11, none⟩) hb _).setCell (p := ⟨b, 12, none⟩) hb _).setCell (p := ⟨b, 13, none⟩) hb _
theorem fr14_other {w : World} {b k : Nat} {xs : Array Value} {s : TypeId} (x y : Nat → Nat) (t : Nat) (v : Value) (h : VarAt w k xs s) (hb : k ≠ b) : VarAt (fr14 w b x y t v) k xs s := (((((((((((((h.set_other (a := ⟨b, 0, none⟩) hb _).set_other (a := ⟨b, 1, none⟩) hb _).set_other (a := ⟨b, 2, none⟩) hb _).set_other (a := ⟨b, 3, none⟩) hb _).set_other (a := ⟨b, 4, none⟩) hb _).set_other (a := ⟨b, 5, none⟩) hb _).set_other (a := ⟨b, 6, none⟩) hb _).set_other (a := ⟨b, 7, none⟩) hb _).set_other (a := ⟨b, 8, none⟩) hb _).set_other (a := ⟨b, 9, none⟩) hb _).set_other (a := ⟨b, 10, none⟩) hb _).set_other (a := ⟨b, 11, none⟩) hb _).set_other (a := ⟨b, 12, none⟩) hb _).set_other (a := ⟨b, 13, none⟩) hb _
theorem fr14_fr {w : World} {b : Nat} {x0 y0 : Nat → Nat} {t0 : Nat} {v0 : Value} (x y : Nat → Nat) (t : Nat) (v : Value) (h : VarAt w b (frC x0 y0 t0 v0) 27) : VarAt (fr14 w b x y t v) b (frC x y t v) 27 := ((six6_fr y (six0_fr x h)).set 12 _).set 13 _
theorem fr14_bts {w : World} {A B b : Nat} {u : Value} {l : List UInt8} (x y : Nat → Nat) (t : Nat) (v : Value) (h : Bts w B u l) (hf : Far A u) (hb : b < A) : Bts (fr14 w b x y t v) B u l := (((((((((((((h.set hf (c := ⟨b, 0, none⟩) hb _).set hf (c := ⟨b, 1, none⟩) hb _).set hf (c := ⟨b, 2, none⟩) hb _).set hf (c := ⟨b, 3, none⟩) hb _).set hf (c := ⟨b, 4, none⟩) hb _).set hf (c := ⟨b, 5, none⟩) hb _).set hf (c := ⟨b, 6, none⟩) hb _).set hf (c := ⟨b, 7, none⟩) hb _).set hf (c := ⟨b, 8, none⟩) hb _).set hf (c := ⟨b, 9, none⟩) hb _).set hf (c := ⟨b, 10, none⟩) hb _).set hf (c := ⟨b, 11, none⟩) hb _).set hf (c := ⟨b, 12, none⟩) hb _).set hf (c := ⟨b, 13, none⟩) hb _
theorem setCell_size (w : World) (a : Addr) (u : Value) : (w.setCell a u).heap.size = w.heap.size := by simp [World.setCell]
theorem fr14_size (w : World) (b : Nat) (x y : Nat → Nat) (t : Nat) (v : Value) : (fr14 w b x y t v).heap.size = w.heap.size := by simp only [setCell_size]

/-- Memory when ether.Read calls octet.Read. -/
abbrev frZ : Array Value := #[.int .u8 0, .int .u8 0, .int .u8 0, .int .u8 0, .int .u8 0, .int .u8 0, .int .u8 0, .int .u8 0, .int .u8 0, .int .u8 0, .int .u8 0, .int .u8 0, .int .u16 0, .slice none 0 0]
abbrev readW (w : World) (v : Value) : World := ((w.alloc (.cells #[v] 25)).alloc (.cells frZ 27)).alloc (.cells frZ 27)
theorem readW_facts (w : World) (v : Value) : OneAt (readW w v) w.heap.size v 25 ∧ VarAt (readW w v) (w.heap.size + 1) frZ 27 ∧ VarAt (readW w v) (w.heap.size + 2) frZ 27 ∧ Below w.heap.size w (readW w v) ∧ (readW w v).heap.size = w.heap.size + 3 := by
  refine ⟨((var_new w _ _).alloc _).alloc _, ?_, ?_, ((box_below _ _).alloc (by rw [alloc_size]; omega) _).alloc (by rw [alloc_size, alloc_size]; omega) _, by rw [alloc_size, alloc_size, alloc_size]⟩
  · have := var_new (w.alloc (.cells #[v] 25)) frZ 27
    rw [alloc_size] at this
    exact this.alloc _
  · have := var_new ((w.alloc (.cells #[v] 25)).alloc (.cells frZ 27)) frZ 27
    rwa [alloc_size, alloc_size] at this
theorem rs_of_in {w W w1 : World} {vr : Value} {l : List UInt8} {b : Nat} (hW : VarAt W (w.heap.size + 2) frZ 27) (hs : W.heap.size = w.heap.size + 3) (h : InRead W.heap.size W l b vr w1) :
    RS (w.heap.size + 2) W.heap.size b W (fun _ => 0) (fun _ => 0) 0 (.slice none 0 0) vr l w1 :=
  ⟨h.below.mono (by omega), hW.below h.below (by omega), h.rd, h.bts, h.far, h.res, h.stop, h.own, by omega, h.lt⟩

set_option maxRecDepth 20000 in
set_option maxHeartbeats 4000000 in
theorem eread_ok (v : Value) (l : List UInt8) (w : World) (hv : Bts w w.heap.size v l) (hE : rdE l = 0) :
    Calls Try.prog 11 #[v] w fun e w' => ∃ bv, e = .returned (.tuple #[frV (byt l) (byt (l.drop 6)) (rdT l) bv, .int .i64 0]) ∧ Bts w' w'.heap.size bv (rdB l) ∧ Far w.heap.size bv ∧ Below w.heap.size w w' := by
  have hmf : ∀ (fn : Fn) (first cap : Array Value) (w : World), (Instr.makeFunc fn first cap).run Try.prog w = .ok (.func fn first cap) w := fun _ _ _ _ => rfl
  obtain ⟨p, cap, rfl, -⟩ := bts_len hv
  obtain ⟨f1, f2, f3, hb, hs⟩ := readW_facts w (.slice p l.length cap)
  have hl := (rdE_ok hE).2.1
  have k0 : (readW w (.slice p l.length cap)).cell? ⟨w.heap.size, 0, none⟩ = some (.slice p l.length cap) := f1.cell 0
  have c := read_ret 22 #[ptr (w.heap.size + 2), ptr w.heap.size] (.slice p l.length cap) l (readW w (.slice p l.length cap)) (fun w2 => Below (w.heap.size + 2) (readW w (.slice p l.length cap)) w2 ∧ ∃ bv, VarAt w2 (w.heap.size + 2) (frC (byt l) (byt (l.drop 6)) (rdT l) bv) 27 ∧ Bts w2 w2.heap.size bv (rdB l) ∧ Far ((readW w (.slice p l.length cap)).heap.size + 3) bv)
    (fun _ _ => rfl) ((hv.below hb (Nat.le_refl _)).mono (by omega)) (by omega)
    (fun b vr w1 hin => (closure_ok (w.heap.size + 2) (readW w (.slice p l.length cap)).heap.size b w.heap.size (readW w (.slice p l.length cap)) vr (.slice p l.length cap) l w1 (rs_of_in f3 hs hin) f1 (by omega) (hv.below hb (Nat.le_refl _)) hE).mono fun e w2 h => ⟨h.1, h.2.1, h.2.2⟩)
  have F2 := Lib.hid f2
  have HB := Lib.hid hb
  clear f1 f2 f3 hb hv hE k0
  go_enter Try.func11, Try.ntmps11
  go_wp2_with fail
  refine c.mono ?_
  rintro e w3 ⟨rfl, w2, ⟨hb2, bv, fr2, bt2, far2⟩, rfl⟩
  have FF : Far w.heap.size bv := fun a n c h => by have := far2 a n c h; omega
  obtain ⟨p2, cap2, rfl, -⟩ := bts_len bt2
  have f2 := F2.out.below hb2 (by omega)
  have far3 : Far (w.heap.size + 2) (.slice p2 (rdB l).length cap2) := fun a n c h => by have := far2 a n c h; omega
  have g2 := f2.set_other (a := ⟨(readW w (.slice p l.length cap)).heap.size, 0, none⟩) (by simp) (.int .i64 0)
  have r2 := fr2.set_other (a := ⟨(readW w (.slice p l.length cap)).heap.size, 0, none⟩) (by simp) (.int .i64 0)
  have b2 := bt2.set far2 (c := ⟨(readW w (.slice p l.length cap)).heap.size, 0, none⟩) (by simp) (.int .i64 0)
  have hb3 := (HB.out.trans (hb2.mono (by omega))).setCell (p := ⟨(readW w (.slice p l.length cap)).heap.size, 0, none⟩) (by show w.heap.size ≤ (readW w (.slice p l.length cap)).heap.size; omega) (.int .i64 0)
  rw [← setCell_size w2 ⟨(readW w (.slice p l.length cap)).heap.size, 0, none⟩ (.int .i64 0)] at b2
  clear f2 fr2 bt2 far2 hb2 c F2 HB
  generalize w2.setCell ⟨(readW w (.slice p l.length cap)).heap.size, 0, none⟩ (.int .i64 0) = W3 at *
  obtain ⟨k0, k1, k2, k3, k4, k5, k6, k7, k8, k9, k10, k11, k12, k13⟩ := VarAt.frCells (b := w.heap.size + 1 + 1) r2
  obtain ⟨j0, j1, j2, j3, j4, j5, j6, j7, j8, j9, j10, j11, j12, j13⟩ := VarAt.frCells (x := fun _ => 0) (y := fun _ => 0) (t := 0) (v := .slice none 0 0) g2
  have f0 := g2.frozen
  have R1 := Lib.hid (fr14_fr (byt l) (byt (l.drop 6)) (rdT l) (.slice p2 (rdB l).length cap2) (x0 := fun _ => 0) (y0 := fun _ => 0) (t0 := 0) (v0 := .slice none 0 0) g2)
  have hlt2 := g2.lt
  have B1 := fr14_bts (b := w.heap.size + 1) (byt l) (byt (l.drop 6)) (rdT l) (.slice p2 (rdB l).length cap2) b2 far3 (by omega)
  rw [← fr14_size W3 (w.heap.size + 1) (byt l) (byt (l.drop 6)) (rdT l) (.slice p2 (rdB l).length cap2)] at B1
  have HB1 := Lib.hid B1
  have HB3 := Lib.hid (fr14_below (byt l) (byt (l.drop 6)) (rdT l) (.slice p2 (rdB l).length cap2) hb3 (show w.heap.size ≤ w.heap.size + 1 by omega))
  have HFF := Lib.hid FF
  clear r2 g2 b2 hb3 B1 FF far3
  go_wp2_with fail
  change bodyPost Try.prog Try.f11 _ _ _ (fr14 W3 (w.heap.size + 1) (byt l) (byt (l.drop 6)) (rdT l) (.slice p2 (rdB l).length cap2))
  generalize fr14 W3 (w.heap.size + 1) (byt l) (byt (l.drop 6)) (rdT l) (.slice p2 (rdB l).length cap2) = W4 at *
  clear k0 k1 k2 k3 k4 k5 k6 k7 k8 k9 k10 k11 k12 k13 j0 j1 j2 j3 j4 j5 j6 j7 j8 j9 j10 j11 j12 j13 f0
  obtain ⟨k0, k1, k2, k3, k4, k5, k6, k7, k8, k9, k10, k11, k12, k13⟩ := R1.out.frCells
  exact bodyPost_ret (v := .tuple #[frV (byt l) (byt (l.drop 6)) (rdT l) (.slice p2 (rdB l).length cap2), .int .i64 0]) (by simp [results, Try.results11, go_sem, k0, k1, k2, k3, k4, k5, k6, k7, k8, k9, k10, k11, k12, k13]) rfl ⟨_, rfl, HB1.out, HFF.out, HB3.out⟩

abbrev frz14 (w : World) (b : Nat) : World := (((((((((((((w.setCell ⟨b, 0, none⟩ (.int .u8 0)).setCell ⟨b, 1, none⟩ (.int .u8 0)).setCell ⟨b, 2, none⟩ (.int .u8 0)).setCell ⟨b, 3, none⟩ (.int .u8 0)).setCell ⟨b, 4, none⟩ (.int .u8 0)).setCell ⟨b, 5, none⟩ (.int .u8 0)).setCell ⟨b, 6, none⟩ (.int .u8 0)).setCell ⟨b, 7, none⟩ (.int .u8 0)).setCell ⟨b, 8, none⟩ (.int .u8 0)).setCell ⟨b, 9, none⟩ (.int .u8 0)).setCell ⟨b, 10, none⟩ (.int .u8 0)).setCell ⟨b, 11, none⟩ (.int .u8 0)).setCell ⟨b, 12, none⟩ (.int .u16 0)).setCell ⟨b, 13, none⟩ (.slice none 0 0)
theorem frz14_eq (w : World) (b : Nat) : fr14 w b (fun _ => 0) (fun _ => 0) 0 (.slice none 0 0) = frz14 w b := by simp only [fr14, frz14, Int.natCast_zero]
set_option maxRecDepth 20000 in
set_option maxHeartbeats 4000000 in
theorem eread_bad (v : Value) (l : List UInt8) (w : World) (hv : Bts w w.heap.size v l) (hl : l.length ≤ 10000) (hE : rdE l ≠ 0) :
    Calls Try.prog 11 #[v] w fun e w' => e = .returned (.tuple #[frV (fun _ => 0) (fun _ => 0) 0 (.slice none 0 0), .int .i64 (rdE l)]) ∧ Below w.heap.size w w' := by
  have hmf : ∀ (fn : Fn) (first cap : Array Value) (w : World), (Instr.makeFunc fn first cap).run Try.prog w = .ok (.func fn first cap) w := fun _ _ _ _ => rfl
  obtain ⟨p, cap, rfl, -⟩ := bts_len hv
  obtain ⟨f1, f2, f3, hb, hs⟩ := readW_facts w (.slice p l.length cap)
  have c := read_stop 22 #[ptr (w.heap.size + 2), ptr w.heap.size] (.slice p l.length cap) l (rdE l) (readW w (.slice p l.length cap)) (fun w2 => Below (w.heap.size + 2) (readW w (.slice p l.length cap)) w2)
    (fun _ _ => rfl) ((hv.below hb (Nat.le_refl _)).mono (by omega)) (by omega)
    (fun b vr w1 hin => closure_bad (w.heap.size + 2) (readW w (.slice p l.length cap)).heap.size b w.heap.size (readW w (.slice p l.length cap)) vr l w1 (rs_of_in f3 hs hin) hl hE)
  have F2 := Lib.hid f2
  have HB := Lib.hid hb
  have hE' : (rdE l : Int) = 2 ∨ (rdE l : Int) = 3 := by
    unfold rdE at hE ⊢; repeat' split <;> simp_all
  generalize ((rdE l : Nat) : Int) = x at c hE' ⊢
  clear f1 f2 f3 hb hv hE hl
  rcases hE' with rfl | rfl
  · go_enter Try.func11, Try.ntmps11
    go_wp2_with fail
    refine c.mono ?_
    rintro e w3 ⟨rfl, w2, hb2, rfl⟩
    have f2 := F2.out.below hb2 (by omega)
    have g1 := f2.set_other (a := ⟨(readW w (.slice p l.length cap)).heap.size, 0, none⟩) (by simp) (.int .i64 2)
    have hb3 := (HB.out.trans (hb2.mono (by omega))).setCell (p := ⟨(readW w (.slice p l.length cap)).heap.size, 0, none⟩) (by show w.heap.size ≤ (readW w (.slice p l.length cap)).heap.size; omega) (.int .i64 2)
    clear f2 hb2 c F2 HB
    generalize w2.setCell ⟨(readW w (.slice p l.length cap)).heap.size, 0, none⟩ (.int .i64 2) = W3 at *
    obtain ⟨x0, y0, t0, p0, n0, c0, g2⟩ : ∃ x0 y0 t0 p0 n0 c0, VarAt W3 (w.heap.size + 1) (frC x0 y0 t0 (.slice p0 n0 c0)) 27 := ⟨fun _ => 0, fun _ => 0, 0, none, 0, 0, g1⟩
    clear g1
    obtain ⟨j0, j1, j2, j3, j4, j5, j6, j7, j8, j9, j10, j11, j12, j13⟩ := g2.frCells
    have f0 := g2.frozen
    have R1 := Lib.hid (fr14_fr (fun _ => 0) (fun _ => 0) 0 (.slice none 0 0) g2)
    have HB3 := Lib.hid (fr14_below (fun _ => 0) (fun _ => 0) 0 (.slice none 0 0) hb3 (show w.heap.size ≤ w.heap.size + 1 by omega))
    rw [frz14_eq] at R1 HB3
    clear g2 hb3 hs
    go_wp2_with fail
    change bodyPost Try.prog Try.f11 _ _ _ (frz14 W3 (w.heap.size + 1))
    generalize frz14 W3 (w.heap.size + 1) = W4 at *
    clear j0 j1 j2 j3 j4 j5 j6 j7 j8 j9 j10 j11 j12 j13 f0
    obtain ⟨k0, k1, k2, k3, k4, k5, k6, k7, k8, k9, k10, k11, k12, k13⟩ := R1.out.frCells
    exact bodyPost_ret (v := .tuple #[frV (fun _ => 0) (fun _ => 0) 0 (.slice none 0 0), .int .i64 2]) (by simp [results, Try.results11, go_sem, k0, k1, k2, k3, k4, k5, k6, k7, k8, k9, k10, k11, k12, k13]) rfl ⟨rfl, HB3.out⟩
  · go_enter Try.func11, Try.ntmps11
    go_wp2_with fail
    refine c.mono ?_
    rintro e w3 ⟨rfl, w2, hb2, rfl⟩
    have f2 := F2.out.below hb2 (by omega)
    have g1 := f2.set_other (a := ⟨(readW w (.slice p l.length cap)).heap.size, 0, none⟩) (by simp) (.int .i64 3)
    have hb3 := (HB.out.trans (hb2.mono (by omega))).setCell (p := ⟨(readW w (.slice p l.length cap)).heap.size, 0, none⟩) (by show w.heap.size ≤ (readW w (.slice p l.length cap)).heap.size; omega) (.int .i64 3)
    clear f2 hb2 c F2 HB
    generalize w2.setCell ⟨(readW w (.slice p l.length cap)).heap.size, 0, none⟩ (.int .i64 3) = W3 at *
    obtain ⟨x0, y0, t0, p0, n0, c0, g2⟩ : ∃ x0 y0 t0 p0 n0 c0, VarAt W3 (w.heap.size + 1) (frC x0 y0 t0 (.slice p0 n0 c0)) 27 := ⟨fun _ => 0, fun _ => 0, 0, none, 0, 0, g1⟩
    clear g1
    obtain ⟨j0, j1, j2, j3, j4, j5, j6, j7, j8, j9, j10, j11, j12, j13⟩ := g2.frCells
    have f0 := g2.frozen
    have R1 := Lib.hid (fr14_fr (fun _ => 0) (fun _ => 0) 0 (.slice none 0 0) g2)
    have HB3 := Lib.hid (fr14_below (fun _ => 0) (fun _ => 0) 0 (.slice none 0 0) hb3 (show w.heap.size ≤ w.heap.size + 1 by omega))
    rw [frz14_eq] at R1 HB3
    clear g2 hb3 hs
    go_wp2_with fail
    change bodyPost Try.prog Try.f11 _ _ _ (frz14 W3 (w.heap.size + 1))
    generalize frz14 W3 (w.heap.size + 1) = W4 at *
    clear j0 j1 j2 j3 j4 j5 j6 j7 j8 j9 j10 j11 j12 j13 f0
    obtain ⟨k0, k1, k2, k3, k4, k5, k6, k7, k8, k9, k10, k11, k12, k13⟩ := R1.out.frCells
    exact bodyPost_ret (v := .tuple #[frV (fun _ => 0) (fun _ => 0) 0 (.slice none 0 0), .int .i64 3]) (by simp [results, Try.results11, go_sem, k0, k1, k2, k3, k4, k5, k6, k7, k8, k9, k10, k11, k12, k13]) rfl ⟨rfl, HB3.out⟩
end Go.Proofs.Ytfdhkbkonennjaa
