/- bpdu.Read. -/
import Derived.Test.YtdhmiekheecicaaDoorS1
import Derived.Test.YtdhmiekheecicaaDoorS3
namespace Go.Proofs.YtdhmiekheecicaaDoor
open Go.RowKit Go.Sort Go.Lib

theorem readMessage_any {n s : Nat} {w0 w : World} {l : List UInt8} {v : Value} (hS : St n s w0 l v w) (he : Env w0) {k : Int} {f r c b p a m h d : Nat} (hM : Msg l k f r c b p a m h d) :
    Calls Tryd.prog 22 #[ptr n] w (Tells n s w0 l k f r c b p a m h d) := by
  by_cases h0 : hdE l = 0
  · rcases hM with ⟨hk, rfl, rfl, rfl, rfl, rfl, rfl, rfl, rfl, rfl, rfl⟩ | ⟨hk, rfl, rfl, rfl, rfl, rfl, rfl, rfl, rfl, hM⟩
    · exact readMessage_tcn hS he h0 hk
    · have hlt : fd l 4 1 < 256 := fd_lt l 4 1
      rcases hM with ⟨k3, hr, rfl, rfl⟩ | ⟨hn, rfl, rfl⟩
      · exact readMessage_body3 hS he h0 k3 (Lib.hid rfl) (Lib.hid rfl) (Lib.hid rfl) (Lib.hid rfl) (Lib.hid rfl) (Lib.hid rfl) (Lib.hid rfl) (Lib.hid rfl) (Lib.hid rfl) fun W hW => asConfig_same _ _ _ _ _ _ _ _ _ hlt hr W hW
      · rcases kd_cases l with h1 | h1 | h1 | h1
        · exact absurd h1 hk
        · exact readMessage_body1 hS he h0 h1 (Lib.hid rfl) (Lib.hid rfl) (Lib.hid rfl) (Lib.hid rfl) (Lib.hid rfl) (Lib.hid rfl) (Lib.hid rfl) (Lib.hid rfl) (Lib.hid rfl) fun W hW => asConfig_cut _ _ _ _ _ _ _ _ _ _ hlt (.inl rfl) W hW
        · have hr : roleOf (fd l 4 1) = 0 := by
            by_cases hz : roleOf (fd l 4 1) = 0
            · exact hz
            · exact absurd ⟨h1, hz⟩ hn
          exact readMessage_body3 hS he h0 h1 (Lib.hid rfl) (Lib.hid rfl) (Lib.hid rfl) (Lib.hid rfl) (Lib.hid rfl) (Lib.hid rfl) (Lib.hid rfl) (Lib.hid rfl) (Lib.hid rfl) fun W hW => asConfig_cut _ _ _ _ _ _ _ _ _ _ hlt (.inr ⟨rfl, hr⟩) W hW
        · exact absurd h1 (hd_kd h0).1
  · exact readMessage_head hS he h0

set_option maxRecDepth 20000 in
set_option maxHeartbeats 2000000 in
theorem closure_any {n s g : Nat} {w1 : World} {l : List UInt8} {v : Value} (hS : St n s w1 l v w1) (he : Env w1) (hg : VarAt w1 g bpZ 31) (hgn : g < n) {k : Int} {f r c b p a m h d : Nat} (hM : Msg l k f r c b p a m h d) :
    Calls Tryd.prog 21 #[ptr n, ptr g] w1 fun e w2 => (mE l = 0 ∧ e = .returned (.tuple #[]) ∧ ∃ w', Below n w1 w' ∧ w2 = bp10 w' g k f r c b p a m h d) ∨ (mE l ≠ 0 ∧ Stops n s w1 (mE l) e w2) := by
  have c1 := readMessage_any hS he hM
  clear hS he hM
  have G := Lib.hid hg
  clear hg
  go_enter Tryd.func21, Tryd.ntmps21
  go_wp2_with fail
  refine c1.mono ?_
  intro e w2 hE
  rcases hE.symm with ⟨h0, rfl, w3, hs⟩ | ⟨h0, rfl, hb⟩
  · exact ⟨rfl, .inr ⟨h0, rfl, w3, hs⟩⟩
  have z4 := G.out.below hb hgn
  obtain ⟨j0, j1, j2, j3, j4, j5, j6, j7, j8, j9⟩ := z4.bp
  have f0 := z4.frozen
  have H0 := Lib.hid h0
  have HB := Lib.hid hb
  clear z4 G c1 hE h0 hb
  go_wp2_with fail
  go_end0
  exact .inl ⟨H0.out, rfl, w2, HB.out, rfl⟩

theorem st_in {W w1 : World} {vr : Value} {l : List UInt8} {n : Nat} (h : InRead W.heap.size W l n vr w1) (hl : l.length ≤ 10000) : St n (W.heap.size + 1) w1 l vr w1 :=
  have h1 := h.lt
  ⟨h.rd, h.bts, h.stop, Kept.refl _ _, h.rd.lt, by omega, hl⟩

set_option maxRecDepth 20000 in
set_option maxHeartbeats 4000000 in
theorem bread_ok (v : Value) (l : List UInt8) (w : World) (hv : Bts w w.heap.size v l) (hl : l.length ≤ 10000) (he : Env w) (hE : mE l = 0) {k : Int} {f r c b p a m h d : Nat} (hM : Msg l k f r c b p a m h d) :
    Calls Tryd.prog 10 #[v] w fun e w' => e = .returned (.tuple #[bpV k f r c b p a m h d, .int .i64 0]) ∧ Below w.heap.size w w' := by
  have hmf : ∀ (fn : Fn) (first cap : Array Value) (w : World), (Instr.makeFunc fn first cap).run Tryd.prog w = .ok (.func fn first cap) w := fun _ _ _ _ => rfl
  obtain ⟨-, p0, cap, rfl, -⟩ := bts_parts hv
  obtain ⟨f1, f2, hb⟩ := two_facts w
  have hs : (twoW w).heap.size = w.heap.size + 2 := by rw [alloc_size, alloc_size]
  have c := read_ret 21 #[ptr (w.heap.size + 1)] (.slice p0 l.length cap) l (twoW w) (fun w2 => Below (w.heap.size + 1) (twoW w) w2 ∧ VarAt w2 (w.heap.size + 1) (bpC k f r c b p a m h d) 31)
    (fun _ _ => rfl) ((hv.below hb (Nat.le_refl _)).mono (by omega)) hl
    (fun n vr w1 hin => (closure_any (st_in hin hl) ((he.below hb).low hin.below (by omega)) (f2.below hin.below (by omega)) (by have := hin.lt; omega) hM).mono fun e w2 hx => by
      have hn := hin.lt
      rcases hx with ⟨-, rfl, w', hb', rfl⟩ | ⟨h0, -⟩
      · have hz := f2.below hin.below (show w.heap.size + 1 < (twoW w).heap.size by omega)
        exact ⟨rfl, bp10_other _ _ _ _ _ _ _ _ _ _ (hin.res.below hb' (by omega)) (by omega), bp10_below _ _ _ _ _ _ _ _ _ _ ((hin.below.mono (show w.heap.size + 1 ≤ (twoW w).heap.size by omega)).trans (hb'.mono (by omega))) (Nat.le_refl _), bp10_at _ _ _ _ _ _ _ _ _ _ (hz.below hb' (by omega))⟩
      · exact absurd hE h0)
  have F1 := Lib.hid f1
  have HB := Lib.hid hb
  clear f1 f2 hb hv hE hM he
  go_enter Tryd.func10, Tryd.ntmps10
  go_wp2_with fail
  refine c.mono ?_
  rintro e w3 ⟨rfl, w2, ⟨hb2, x2⟩, rfl⟩
  have y1 := (F1.out.below hb2 (by omega)).set_other (a := ⟨(twoW w).heap.size, 0, none⟩) (by show w.heap.size ≠ (twoW w).heap.size; omega) (.int .i64 0)
  have y2 := x2.set_other (a := ⟨(twoW w).heap.size, 0, none⟩) (by show w.heap.size + 1 ≠ (twoW w).heap.size; omega) (.int .i64 0)
  have hb3 := (HB.out.trans (hb2.mono (by omega))).setCell (p := ⟨(twoW w).heap.size, 0, none⟩) (by show w.heap.size ≤ (twoW w).heap.size; omega) (.int .i64 0)
  clear c hb2 x2 F1 HB
  generalize w2.setCell ⟨(twoW w).heap.size, 0, none⟩ (.int .i64 0) = W3 at *
  obtain ⟨k0, k1, k2, k3, k4, k5, k6, k7, k8, k9⟩ := y2.bp
  obtain ⟨j0, j1, j2, j3, j4, j5, j6, j7, j8, j9⟩ := y1.bp
  have f0 := y1.frozen
  have R1 := Lib.hid (bp10_at k f r c b p a m h d y1)
  have R2 := Lib.hid (bp10_below k f r c b p a m h d hb3 (Nat.le_refl _))
  clear y1 y2 hb3 hs
  go_wp2_with fail
  change bodyPost Tryd.prog Tryd.f10 _ _ _ (bp10 W3 w.heap.size k f r c b p a m h d)
  generalize bp10 W3 w.heap.size k f r c b p a m h d = W9 at *
  clear k0 k1 k2 k3 k4 k5 k6 k7 k8 k9 j0 j1 j2 j3 j4 j5 j6 j7 j8 j9 f0
  obtain ⟨k0, k1, k2, k3, k4, k5, k6, k7, k8, k9⟩ := R1.out.bp
  exact bodyPost_ret (v := .tuple #[bpV k f r c b p a m h d, .int .i64 0]) (by simp [results, Tryd.results10, go_sem, k0, k1, k2, k3, k4, k5, k6, k7, k8, k9]) rfl ⟨rfl, R2.out⟩

set_option maxRecDepth 20000 in
set_option maxHeartbeats 4000000 in
theorem bread_bad (v : Value) (l : List UInt8) (w : World) (hv : Bts w w.heap.size v l) (hl : l.length ≤ 10000) (he : Env w) (hE : mE l ≠ 0) {k : Int} {f r c b p a m h d : Nat} (hM : Msg l k f r c b p a m h d) :
    Calls Tryd.prog 10 #[v] w fun e w' => e = .returned (.tuple #[bpV 0 0 0 0 0 0 0 0 0 0, .int .i64 (mE l)]) ∧ Below w.heap.size w w' := by
  have hmf : ∀ (fn : Fn) (first cap : Array Value) (w : World), (Instr.makeFunc fn first cap).run Tryd.prog w = .ok (.func fn first cap) w := fun _ _ _ _ => rfl
  obtain ⟨-, p0, cap, rfl, -⟩ := bts_parts hv
  obtain ⟨f1, f2, hb⟩ := two_facts w
  have hs : (twoW w).heap.size = w.heap.size + 2 := by rw [alloc_size, alloc_size]
  have c := read_stop 21 #[ptr (w.heap.size + 1)] (.slice p0 l.length cap) l (mE l) (twoW w) (fun w2 => Below (w.heap.size + 2) (twoW w) w2)
    (fun _ _ => rfl) ((hv.below hb (Nat.le_refl _)).mono (by omega)) hl
    (fun n vr w1 hin => (closure_any (st_in hin hl) ((he.below hb).low hin.below (by omega)) (f2.below hin.below (by omega)) (by have := hin.lt; omega) hM).mono fun e w2 hx => by
      have hn := hin.lt
      rcases hx with ⟨h0, -⟩ | ⟨-, rfl, w', hb', rfl⟩
      · exact absurd h0 hE
      · exact ⟨rfl, (hin.res.below hb' (by omega)).set_other (a := ⟨(twoW w).heap.size + 1, 0, none⟩) (by show (twoW w).heap.size ≠ (twoW w).heap.size + 1; omega) _, (hin.stop.below hb' (by omega)).set 0 _, (hin.own.below hb' (by omega)).set_other (a := ⟨(twoW w).heap.size + 1, 0, none⟩) (by show (twoW w).heap.size + 2 ≠ (twoW w).heap.size + 1; omega) _,
          ((hin.below.mono (show w.heap.size + 2 ≤ (twoW w).heap.size by omega)).trans (hb'.mono (by omega))).setCell (p := ⟨(twoW w).heap.size + 1, 0, none⟩) (by show w.heap.size + 2 ≤ (twoW w).heap.size + 1; omega) _⟩)
  have F1 := Lib.hid f1
  have F2 := Lib.hid f2
  have HB := Lib.hid hb
  clear f1 f2 hb hv hE hM he
  generalize mE l = X at *
  go_enter Tryd.func10, Tryd.ntmps10
  go_wp2_with fail
  refine c.mono ?_
  rintro e w3 ⟨rfl, w2, hb2, rfl⟩
  have y1 := (F1.out.below hb2 (by omega)).set_other (a := ⟨(twoW w).heap.size, 0, none⟩) (by show w.heap.size ≠ (twoW w).heap.size; omega) (.int .i64 X)
  have y2 := (F2.out.below hb2 (by omega)).set_other (a := ⟨(twoW w).heap.size, 0, none⟩) (by show w.heap.size + 1 ≠ (twoW w).heap.size; omega) (.int .i64 X)
  have hb3 := (HB.out.trans (hb2.mono (by omega))).setCell (p := ⟨(twoW w).heap.size, 0, none⟩) (by show w.heap.size ≤ (twoW w).heap.size; omega) (.int .i64 X)
  clear c hb2 F1 F2 HB
  generalize w2.setCell ⟨(twoW w).heap.size, 0, none⟩ (.int .i64 X) = W3 at *
  obtain ⟨k0, k1, k2, k3, k4, k5, k6, k7, k8, k9⟩ := y2.bp
  obtain ⟨j0, j1, j2, j3, j4, j5, j6, j7, j8, j9⟩ := y1.bp
  have f0 := y1.frozen
  have R1 := Lib.hid (bp10_at 0 0 0 0 0 0 0 0 0 0 y1)
  have R2 := Lib.hid (bp10_below 0 0 0 0 0 0 0 0 0 0 hb3 (Nat.le_refl _))
  clear y1 y2 hb3 hs
  go_wp2_with fail
  change bodyPost Tryd.prog Tryd.f10 _ _ _ (bp10 W3 w.heap.size 0 0 0 0 0 0 0 0 0 0)
  generalize bp10 W3 w.heap.size 0 0 0 0 0 0 0 0 0 0 = W9 at *
  clear k0 k1 k2 k3 k4 k5 k6 k7 k8 k9 j0 j1 j2 j3 j4 j5 j6 j7 j8 j9 f0
  obtain ⟨k0, k1, k2, k3, k4, k5, k6, k7, k8, k9⟩ := R1.out.bp
  exact bodyPost_ret (v := .tuple #[bpV 0 0 0 0 0 0 0 0 0 0, .int .i64 X]) (by simp [results, Tryd.results10, go_sem, k0, k1, k2, k3, k4, k5, k6, k7, k8, k9]) rfl ⟨rfl, R2.out⟩
end Go.Proofs.YtdhmiekheecicaaDoor
