/- The reference's Read: what stops it ahead of the body. -/
import Derived.Test.YtdhmiekheecicaaDoorY
namespace Go.Proofs.YtdhmiekheecicaaDoor
open Go.RowKit Go.Sort Go.Lib

theorem two_bytes {l : List UInt8} (h : 2 ≤ l.length) : numOf (l.take 2) = 256 * byt l 0 + byt l 1 := by
  obtain ⟨a, b, m, rfl⟩ : ∃ a b m, l = a :: b :: m := by
    match l, h with
    | a :: b :: m, _ => exact ⟨a, b, m, rfl⟩
  simp [byt, numOf]
theorem fd_one {l : List UInt8} {k : Nat} (h : k < l.length) : fd l k 1 = byt l k := by
  have := num1 (l := l.drop k) (by rw [List.length_drop]; omega)
  rw [byt_drop] at this
  exact this
theorem bts_cells {W : World} {B : Nat} {v : Value} {l : List UInt8} (h : Bts W B v l) (h4 : 1 ≤ l.length) : ∃ g o cap, v = .slice (some ⟨g, o, none⟩) l.length cap ∧ l.length ≤ cap ∧ cap ≤ maxLen ∧ ∀ j, j < l.length → W.cell? ⟨g, o + j, none⟩ = some (.int .u8 (byt l j)) := by
  obtain ⟨_, p, cap, rfl, h1, h2, hc⟩ := bts_parts h
  obtain ⟨g, o, rfl, _⟩ := hc 0 (by omega)
  refine ⟨g, o, cap, rfl, h1, h2, fun j hj => ?_⟩
  obtain ⟨g', o', he, hx⟩ := hc j hj
  cases he
  rw [hx]
  simp [byt, List.getD, hj]
/-- What the reference's Read leaves. -/
def Refs (w : World) (k f r c b p a m h d : Int) (x : Int) (e : Ending) (w' : World) : Prop := e = .returned (.tuple #[bpV k f r c b p a m h d, .int .i64 x]) ∧ Below w.heap.size w w'
set_option maxRecDepth 20000 in
set_option maxHeartbeats 4000000 in
theorem refRead_short (v : Value) (l : List UInt8) (w : World) (hv : Bts w w.heap.size v l) (h4 : l.length < 4) :
    Calls Tryd.prog 12 #[v] w (Refs w 0 0 0 0 0 0 0 0 0 0 2) := by
  obtain ⟨p0, cap, rfl, hn⟩ := bts_len hv
  have z := var_new w bpZ 31
  have hb := box_below w (.cells bpZ 31)
  clear hv
  generalize hW0 : w.alloc (.cells bpZ 31) = W0 at *
  have hL : decide ((l.length : Int) < 4) = true := by simp; omega
  obtain ⟨j0, j1, j2, j3, j4, j5, j6, j7, j8, j9⟩ := z.bp
  have f0 := z.frozen
  have R1 := Lib.hid (bp10_at 0 0 0 0 0 0 0 0 0 0 z)
  have R2 := Lib.hid (bp10_below 0 0 0 0 0 0 0 0 0 0 hb (Nat.le_refl _))
  clear z hb
  go_enter Tryd.func12, Tryd.ntmps12
  go_wp2_with fail
  change bodyPost Tryd.prog Tryd.f12 _ _ _ (bp10 W0 w.heap.size 0 0 0 0 0 0 0 0 0 0)
  generalize bp10 W0 w.heap.size 0 0 0 0 0 0 0 0 0 0 = W9 at *
  clear j0 j1 j2 j3 j4 j5 j6 j7 j8 j9 f0
  obtain ⟨k0, k1, k2, k3, k4, k5, k6, k7, k8, k9⟩ := R1.out.bp
  exact bodyPost_ret (v := .tuple #[bpV 0 0 0 0 0 0 0 0 0 0, .int .i64 2]) (by simp [results, Tryd.results12, go_sem, k0, k1, k2, k3, k4, k5, k6, k7, k8, k9]) rfl ⟨rfl, R2.out⟩
set_option maxRecDepth 20000 in
set_option maxHeartbeats 4000000 in
theorem refRead_head (v : Value) (l : List UInt8) (w : World) (hv : Bts w w.heap.size v l) (h4 : 4 ≤ l.length) (hx : ¬ (byt l 0 = 0 ∧ byt l 1 = 0)) :
    Calls Tryd.prog 12 #[v] w (Refs w 0 0 0 0 0 0 0 0 0 0 3) := by
  have hb := box_below w (.cells bpZ 31)
  have hvW := hv.below hb (Nat.le_refl _)
  have hln : (l.length : Int) ≤ 9223372036854775807 := by obtain ⟨_, _, _, h⟩ := bts_len hv; omega
  obtain ⟨g, o, cap, rfl, h1, h2, hc⟩ := bts_cells hvW (by omega)
  have z := var_new w bpZ 31
  clear hv hvW h1 h2
  generalize hW0 : w.alloc (.cells bpZ 31) = W0 at *
  have c0 : W0.cell? ⟨g, o, none⟩ = some (.int .u8 (byt l 0)) := hc 0 (by omega)
  have c1 : W0.cell? ⟨g, o + 1, none⟩ = some (.int .u8 (byt l 1)) := hc 1 (by omega)
  have c2 : W0.cell? ⟨g, o + 2, none⟩ = some (.int .u8 (byt l 2)) := hc 2 (by omega)
  have c3 : W0.cell? ⟨g, o + 3, none⟩ = some (.int .u8 (byt l 3)) := hc 3 (by omega)
  have b0 := byt_lt l 0
  have b1 := byt_lt l 1
  have b2 := byt_lt l 2
  have b3 := byt_lt l 3
  have hL : decide ((l.length : Int) < 4) = false := by simp; omega
  clear hc
  generalize byt l 0 = x0 at *
  generalize byt l 1 = x1 at *
  generalize byt l 2 = x2 at *
  generalize byt l 3 = x3 at *
  clear c2 c3 b2 b3
  by_cases t0 : x0 = 0
  · subst t0
    replace c0 : W0.cell? ⟨g, o, none⟩ = some (.int .u8 0) := c0
    have t1 : ¬ x1 = 0 := fun h => hx ⟨rfl, h⟩
    have n1 : ((x1 : Int) != 0) = true := by simp [t1]
    clear hx t1
    obtain ⟨j0, j1, j2, j3, j4, j5, j6, j7, j8, j9⟩ := z.bp
    have f0 := z.frozen
    have R1 := Lib.hid (bp10_at 0 0 0 0 0 0 0 0 0 0 z)
    have R2 := Lib.hid (bp10_below 0 0 0 0 0 0 0 0 0 0 hb (Nat.le_refl _))
    clear z hb
    go_enter Tryd.func12, Tryd.ntmps12
    go_wp2_with fail
    change bodyPost Tryd.prog Tryd.f12 _ _ _ (bp10 W0 w.heap.size 0 0 0 0 0 0 0 0 0 0)
    generalize bp10 W0 w.heap.size 0 0 0 0 0 0 0 0 0 0 = W9 at *
    clear j0 j1 j2 j3 j4 j5 j6 j7 j8 j9 f0
    obtain ⟨k0, k1, k2, k3, k4, k5, k6, k7, k8, k9⟩ := R1.out.bp
    exact bodyPost_ret (v := .tuple #[bpV 0 0 0 0 0 0 0 0 0 0, .int .i64 3]) (by simp [results, Tryd.results12, go_sem, k0, k1, k2, k3, k4, k5, k6, k7, k8, k9]) rfl ⟨rfl, R2.out⟩
  · have n0 : ((x0 : Int) != 0) = true := by simp [t0]
    clear hx t0 c1
    obtain ⟨j0, j1, j2, j3, j4, j5, j6, j7, j8, j9⟩ := z.bp
    have f0 := z.frozen
    have R1 := Lib.hid (bp10_at 0 0 0 0 0 0 0 0 0 0 z)
    have R2 := Lib.hid (bp10_below 0 0 0 0 0 0 0 0 0 0 hb (Nat.le_refl _))
    clear z hb
    go_enter Tryd.func12, Tryd.ntmps12
    go_wp2_with fail
    change bodyPost Tryd.prog Tryd.f12 _ _ _ (bp10 W0 w.heap.size 0 0 0 0 0 0 0 0 0 0)
    generalize bp10 W0 w.heap.size 0 0 0 0 0 0 0 0 0 0 = W9 at *
    clear j0 j1 j2 j3 j4 j5 j6 j7 j8 j9 f0
    obtain ⟨k0, k1, k2, k3, k4, k5, k6, k7, k8, k9⟩ := R1.out.bp
    exact bodyPost_ret (v := .tuple #[bpV 0 0 0 0 0 0 0 0 0 0, .int .i64 3]) (by simp [results, Tryd.results12, go_sem, k0, k1, k2, k3, k4, k5, k6, k7, k8, k9]) rfl ⟨rfl, R2.out⟩
set_option maxRecDepth 20000 in
set_option maxHeartbeats 4000000 in
theorem refRead_tcn (v : Value) (l : List UInt8) (w : World) (hv : Bts w w.heap.size v l) (h4 : 4 ≤ l.length) (e0 : byt l 0 = 0) (e1 : byt l 1 = 0) (e3 : byt l 3 = 128) :
    Calls Tryd.prog 12 #[v] w (Refs w 2 0 0 0 0 0 0 0 0 0 0) := by
  have hb := box_below w (.cells bpZ 31)
  have hvW := hv.below hb (Nat.le_refl _)
  have hln : (l.length : Int) ≤ 9223372036854775807 := by obtain ⟨_, _, _, h⟩ := bts_len hv; omega
  obtain ⟨g, o, cap, rfl, h1, h2, hc⟩ := bts_cells hvW (by omega)
  have z := var_new w bpZ 31
  clear hv hvW h1 h2
  generalize hW0 : w.alloc (.cells bpZ 31) = W0 at *
  have c0 : W0.cell? ⟨g, o, none⟩ = some (.int .u8 (byt l 0)) := hc 0 (by omega)
  have c1 : W0.cell? ⟨g, o + 1, none⟩ = some (.int .u8 (byt l 1)) := hc 1 (by omega)
  have c2 : W0.cell? ⟨g, o + 2, none⟩ = some (.int .u8 (byt l 2)) := hc 2 (by omega)
  have c3 : W0.cell? ⟨g, o + 3, none⟩ = some (.int .u8 (byt l 3)) := hc 3 (by omega)
  have b0 := byt_lt l 0
  have b1 := byt_lt l 1
  have b2 := byt_lt l 2
  have b3 := byt_lt l 3
  have hL : decide ((l.length : Int) < 4) = false := by simp; omega
  clear hc
  generalize byt l 0 = x0 at *
  generalize byt l 1 = x1 at *
  generalize byt l 2 = x2 at *
  generalize byt l 3 = x3 at *
  subst e0 e1
  replace c0 : W0.cell? ⟨g, o, none⟩ = some (.int .u8 0) := c0
  replace c1 : W0.cell? ⟨g, o + 1, none⟩ = some (.int .u8 0) := c1
  clear b0 b1
  subst e3
  replace c3 : W0.cell? ⟨g, o + 3, none⟩ = some (.int .u8 128) := c3
  clear c2 b2 b3
  obtain ⟨j0, j1, j2, j3, j4, j5, j6, j7, j8, j9⟩ := z.bp
  have f0 := z.frozen
  have R1 := Lib.hid (bp10_at 2 0 0 0 0 0 0 0 0 0 z)
  have R2 := Lib.hid (bp10_below 2 0 0 0 0 0 0 0 0 0 hb (Nat.le_refl _))
  clear z hb
  go_enter Tryd.func12, Tryd.ntmps12
  go_wp2_with fail
  change bodyPost Tryd.prog Tryd.f12 _ _ _ (bp10 W0 w.heap.size 2 0 0 0 0 0 0 0 0 0)
  generalize bp10 W0 w.heap.size 2 0 0 0 0 0 0 0 0 0 = W9 at *
  clear j0 j1 j2 j3 j4 j5 j6 j7 j8 j9 f0
  obtain ⟨k0, k1, k2, k3, k4, k5, k6, k7, k8, k9⟩ := R1.out.bp
  exact bodyPost_ret (v := .tuple #[bpV 2 0 0 0 0 0 0 0 0 0, .int .i64 0]) (by simp [results, Tryd.results12, go_sem, k0, k1, k2, k3, k4, k5, k6, k7, k8, k9]) rfl ⟨rfl, R2.out⟩
set_option maxRecDepth 20000 in
set_option maxHeartbeats 4000000 in
theorem refRead_form (v : Value) (l : List UInt8) (w : World) (hv : Bts w w.heap.size v l) (h4 : 4 ≤ l.length) (e0 : byt l 0 = 0) (e1 : byt l 1 = 0) (e3 : ¬ byt l 3 = 128) (e4 : ¬ byt l 3 = 0) (e5 : ¬ (byt l 3 = 2 ∧ 2 ≤ byt l 2)) :
    Calls Tryd.prog 12 #[v] w (Refs w 0 0 0 0 0 0 0 0 0 0 3) := by
  have hb := box_below w (.cells bpZ 31)
  have hvW := hv.below hb (Nat.le_refl _)
  have hln : (l.length : Int) ≤ 9223372036854775807 := by obtain ⟨_, _, _, h⟩ := bts_len hv; omega
  obtain ⟨g, o, cap, rfl, h1, h2, hc⟩ := bts_cells hvW (by omega)
  have z := var_new w bpZ 31
  clear hv hvW h1 h2
  generalize hW0 : w.alloc (.cells bpZ 31) = W0 at *
  have c0 : W0.cell? ⟨g, o, none⟩ = some (.int .u8 (byt l 0)) := hc 0 (by omega)
  have c1 : W0.cell? ⟨g, o + 1, none⟩ = some (.int .u8 (byt l 1)) := hc 1 (by omega)
  have c2 : W0.cell? ⟨g, o + 2, none⟩ = some (.int .u8 (byt l 2)) := hc 2 (by omega)
  have c3 : W0.cell? ⟨g, o + 3, none⟩ = some (.int .u8 (byt l 3)) := hc 3 (by omega)
  have b0 := byt_lt l 0
  have b1 := byt_lt l 1
  have b2 := byt_lt l 2
  have b3 := byt_lt l 3
  have hL : decide ((l.length : Int) < 4) = false := by simp; omega
  clear hc
  generalize byt l 0 = x0 at *
  generalize byt l 1 = x1 at *
  generalize byt l 2 = x2 at *
  generalize byt l 3 = x3 at *
  subst e0 e1
  replace c0 : W0.cell? ⟨g, o, none⟩ = some (.int .u8 0) := c0
  replace c1 : W0.cell? ⟨g, o + 1, none⟩ = some (.int .u8 0) := c1
  clear b0 b1
  by_cases t : x3 = 2
  · subst t
    replace c3 : W0.cell? ⟨g, o + 3, none⟩ = some (.int .u8 2) := c3
    have t2 : ¬ 2 ≤ x2 := fun h => e5 ⟨rfl, h⟩
    have n2 : decide ((x2 : Int) ≥ 2) = false := by simp; omega
    have n2' : decide ((2 : Int) ≤ (x2 : Int)) = false := n2
    clear e5 e3 e4 t2 b3
    obtain ⟨j0, j1, j2, j3, j4, j5, j6, j7, j8, j9⟩ := z.bp
    have f0 := z.frozen
    have R1 := Lib.hid (bp10_at 0 0 0 0 0 0 0 0 0 0 z)
    have R2 := Lib.hid (bp10_below 0 0 0 0 0 0 0 0 0 0 hb (Nat.le_refl _))
    clear z hb
    go_enter Tryd.func12, Tryd.ntmps12
    go_wp2_with fail
    change bodyPost Tryd.prog Tryd.f12 _ _ _ (bp10 W0 w.heap.size 0 0 0 0 0 0 0 0 0 0)
    generalize bp10 W0 w.heap.size 0 0 0 0 0 0 0 0 0 0 = W9 at *
    clear j0 j1 j2 j3 j4 j5 j6 j7 j8 j9 f0
    obtain ⟨k0, k1, k2, k3, k4, k5, k6, k7, k8, k9⟩ := R1.out.bp
    exact bodyPost_ret (v := .tuple #[bpV 0 0 0 0 0 0 0 0 0 0, .int .i64 3]) (by simp [results, Tryd.results12, go_sem, k0, k1, k2, k3, k4, k5, k6, k7, k8, k9]) rfl ⟨rfl, R2.out⟩
  · have n3 : ((x3 : Int) == 128) = false := by simp; omega
    have n0 : ((x3 : Int) != 0) = true := by simp [e4]
    have n2 : ((x3 : Int) == 2) = false := by simp; omega
    clear e5 c2 b2 e3 e4 t
    obtain ⟨j0, j1, j2, j3, j4, j5, j6, j7, j8, j9⟩ := z.bp
    have f0 := z.frozen
    have R1 := Lib.hid (bp10_at 0 0 0 0 0 0 0 0 0 0 z)
    have R2 := Lib.hid (bp10_below 0 0 0 0 0 0 0 0 0 0 hb (Nat.le_refl _))
    clear z hb
    go_enter Tryd.func12, Tryd.ntmps12
    go_wp2_with fail
    change bodyPost Tryd.prog Tryd.f12 _ _ _ (bp10 W0 w.heap.size 0 0 0 0 0 0 0 0 0 0)
    generalize bp10 W0 w.heap.size 0 0 0 0 0 0 0 0 0 0 = W9 at *
    clear j0 j1 j2 j3 j4 j5 j6 j7 j8 j9 f0
    obtain ⟨k0, k1, k2, k3, k4, k5, k6, k7, k8, k9⟩ := R1.out.bp
    exact bodyPost_ret (v := .tuple #[bpV 0 0 0 0 0 0 0 0 0 0, .int .i64 3]) (by simp [results, Tryd.results12, go_sem, k0, k1, k2, k3, k4, k5, k6, k7, k8, k9]) rfl ⟨rfl, R2.out⟩
set_option maxRecDepth 20000 in
set_option maxHeartbeats 4000000 in
theorem refRead_cut1 (v : Value) (l : List UInt8) (w : World) (hv : Bts w w.heap.size v l) (h4 : 4 ≤ l.length) (e0 : byt l 0 = 0) (e1 : byt l 1 = 0) (e3 : byt l 3 = 0) (hk : l.length < 35) :
    Calls Tryd.prog 12 #[v] w (Refs w 0 0 0 0 0 0 0 0 0 0 2) := by
  have hb := box_below w (.cells bpZ 31)
  have hvW := hv.below hb (Nat.le_refl _)
  have hln : (l.length : Int) ≤ 9223372036854775807 := by obtain ⟨_, _, _, h⟩ := bts_len hv; omega
  obtain ⟨g, o, cap, rfl, h1, h2, hc⟩ := bts_cells hvW (by omega)
  have z := var_new w bpZ 31
  clear hv hvW h1 h2
  generalize hW0 : w.alloc (.cells bpZ 31) = W0 at *
  have c0 : W0.cell? ⟨g, o, none⟩ = some (.int .u8 (byt l 0)) := hc 0 (by omega)
  have c1 : W0.cell? ⟨g, o + 1, none⟩ = some (.int .u8 (byt l 1)) := hc 1 (by omega)
  have c2 : W0.cell? ⟨g, o + 2, none⟩ = some (.int .u8 (byt l 2)) := hc 2 (by omega)
  have c3 : W0.cell? ⟨g, o + 3, none⟩ = some (.int .u8 (byt l 3)) := hc 3 (by omega)
  have b0 := byt_lt l 0
  have b1 := byt_lt l 1
  have b2 := byt_lt l 2
  have b3 := byt_lt l 3
  have hL : decide ((l.length : Int) < 4) = false := by simp; omega
  clear hc
  generalize byt l 0 = x0 at *
  generalize byt l 1 = x1 at *
  generalize byt l 2 = x2 at *
  generalize byt l 3 = x3 at *
  subst e0 e1
  replace c0 : W0.cell? ⟨g, o, none⟩ = some (.int .u8 0) := c0
  replace c1 : W0.cell? ⟨g, o + 1, none⟩ = some (.int .u8 0) := c1
  clear b0 b1
  subst e3
  replace c3 : W0.cell? ⟨g, o + 3, none⟩ = some (.int .u8 0) := c3
  have hL2 : decide ((l.length : Int) < 35) = true := by simp; omega
  clear hk hln c2 b2 b3
  obtain ⟨j0, j1, j2, j3, j4, j5, j6, j7, j8, j9⟩ := z.bp
  have f0 := z.frozen
  have R1 := Lib.hid (bp10_at 0 0 0 0 0 0 0 0 0 0 z)
  have R2 := Lib.hid (bp10_below 0 0 0 0 0 0 0 0 0 0 hb (Nat.le_refl _))
  clear z hb
  go_enter Tryd.func12, Tryd.ntmps12
  go_wp2_with fail
  change bodyPost Tryd.prog Tryd.f12 _ _ _ (bp10 W0 w.heap.size 0 0 0 0 0 0 0 0 0 0)
  generalize bp10 W0 w.heap.size 0 0 0 0 0 0 0 0 0 0 = W9 at *
  clear j0 j1 j2 j3 j4 j5 j6 j7 j8 j9 f0
  obtain ⟨k0, k1, k2, k3, k4, k5, k6, k7, k8, k9⟩ := R1.out.bp
  exact bodyPost_ret (v := .tuple #[bpV 0 0 0 0 0 0 0 0 0 0, .int .i64 2]) (by simp [results, Tryd.results12, go_sem, k0, k1, k2, k3, k4, k5, k6, k7, k8, k9]) rfl ⟨rfl, R2.out⟩
set_option maxRecDepth 20000 in
set_option maxHeartbeats 4000000 in
theorem refRead_cut3 (v : Value) (l : List UInt8) (w : World) (hv : Bts w w.heap.size v l) (h4 : 4 ≤ l.length) (e0 : byt l 0 = 0) (e1 : byt l 1 = 0) (e3 : byt l 3 = 2) (e2 : 2 ≤ byt l 2) (hk : l.length < 36) :
    Calls Tryd.prog 12 #[v] w (Refs w 0 0 0 0 0 0 0 0 0 0 2) := by
  have hb := box_below w (.cells bpZ 31)
  have hvW := hv.below hb (Nat.le_refl _)
  have hln : (l.length : Int) ≤ 9223372036854775807 := by obtain ⟨_, _, _, h⟩ := bts_len hv; omega
  obtain ⟨g, o, cap, rfl, h1, h2, hc⟩ := bts_cells hvW (by omega)
  have z := var_new w bpZ 31
  clear hv hvW h1 h2
  generalize hW0 : w.alloc (.cells bpZ 31) = W0 at *
  have c0 : W0.cell? ⟨g, o, none⟩ = some (.int .u8 (byt l 0)) := hc 0 (by omega)
  have c1 : W0.cell? ⟨g, o + 1, none⟩ = some (.int .u8 (byt l 1)) := hc 1 (by omega)
  have c2 : W0.cell? ⟨g, o + 2, none⟩ = some (.int .u8 (byt l 2)) := hc 2 (by omega)
  have c3 : W0.cell? ⟨g, o + 3, none⟩ = some (.int .u8 (byt l 3)) := hc 3 (by omega)
  have b0 := byt_lt l 0
  have b1 := byt_lt l 1
  have b2 := byt_lt l 2
  have b3 := byt_lt l 3
  have hL : decide ((l.length : Int) < 4) = false := by simp; omega
  clear hc
  generalize byt l 0 = x0 at *
  generalize byt l 1 = x1 at *
  generalize byt l 2 = x2 at *
  generalize byt l 3 = x3 at *
  subst e0 e1
  replace c0 : W0.cell? ⟨g, o, none⟩ = some (.int .u8 0) := c0
  replace c1 : W0.cell? ⟨g, o + 1, none⟩ = some (.int .u8 0) := c1
  clear b0 b1
  subst e3
  replace c3 : W0.cell? ⟨g, o + 3, none⟩ = some (.int .u8 2) := c3
  have n2 : decide ((x2 : Int) ≥ 2) = true := by simp; omega
  have n2' : decide ((2 : Int) ≤ (x2 : Int)) = true := n2
  by_cases hk5 : l.length < 35
  · have hL2 : decide ((l.length : Int) < 35) = true := by simp; omega
    clear hk hk5 hln b3
    obtain ⟨j0, j1, j2, j3, j4, j5, j6, j7, j8, j9⟩ := z.bp
    have f0 := z.frozen
    have R1 := Lib.hid (bp10_at 0 0 0 0 0 0 0 0 0 0 z)
    have R2 := Lib.hid (bp10_below 0 0 0 0 0 0 0 0 0 0 hb (Nat.le_refl _))
    clear z hb
    go_enter Tryd.func12, Tryd.ntmps12
    go_wp2_with fail
    change bodyPost Tryd.prog Tryd.f12 _ _ _ (bp10 W0 w.heap.size 0 0 0 0 0 0 0 0 0 0)
    generalize bp10 W0 w.heap.size 0 0 0 0 0 0 0 0 0 0 = W9 at *
    clear j0 j1 j2 j3 j4 j5 j6 j7 j8 j9 f0
    obtain ⟨k0, k1, k2, k3, k4, k5, k6, k7, k8, k9⟩ := R1.out.bp
    exact bodyPost_ret (v := .tuple #[bpV 0 0 0 0 0 0 0 0 0 0, .int .i64 2]) (by simp [results, Tryd.results12, go_sem, k0, k1, k2, k3, k4, k5, k6, k7, k8, k9]) rfl ⟨rfl, R2.out⟩
  · have hL2 : decide ((l.length : Int) < 35) = false := by simp; omega
    have hL3 : decide ((l.length : Int) < 36) = true := by simp; omega
    clear hk hk5 hln b3
    obtain ⟨j0, j1, j2, j3, j4, j5, j6, j7, j8, j9⟩ := z.bp
    have f0 := z.frozen
    have R1 := Lib.hid (bp10_at 0 0 0 0 0 0 0 0 0 0 z)
    have R2 := Lib.hid (bp10_below 0 0 0 0 0 0 0 0 0 0 hb (Nat.le_refl _))
    clear z hb
    go_enter Tryd.func12, Tryd.ntmps12
    go_wp2_with fail
    change bodyPost Tryd.prog Tryd.f12 _ _ _ (bp10 W0 w.heap.size 0 0 0 0 0 0 0 0 0 0)
    generalize bp10 W0 w.heap.size 0 0 0 0 0 0 0 0 0 0 = W9 at *
    clear j0 j1 j2 j3 j4 j5 j6 j7 j8 j9 f0
    obtain ⟨k0, k1, k2, k3, k4, k5, k6, k7, k8, k9⟩ := R1.out.bp
    exact bodyPost_ret (v := .tuple #[bpV 0 0 0 0 0 0 0 0 0 0, .int .i64 2]) (by simp [results, Tryd.results12, go_sem, k0, k1, k2, k3, k4, k5, k6, k7, k8, k9]) rfl ⟨rfl, R2.out⟩
end Go.Proofs.YtdhmiekheecicaaDoor
