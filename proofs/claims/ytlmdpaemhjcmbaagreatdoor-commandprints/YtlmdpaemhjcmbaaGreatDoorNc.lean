/- A command done to a setting of one's own. -/
import Derived.Test.YtlmdpaemhjcmbaaGreatDoorNb
namespace Go.Proofs.YtlmdpaemhjcmbaaGreatDoor
open Go.RowKit Go.Sort

theorem changePort_any (x : Cd.Cm) (hr : Cd.Rt x) (h7 : 7 ≤ x.wh) (h11 : x.wh ≤ 11) (s : Value) (n : Nat) (P : Nat → Pc) (w : World) (B : Nat) (hs : GS w B s n P) (hB : B ≤ w.heap.size) (hn : n ≤ 20) :
    Calls Tryz.prog 32 #[.agg x.cells, s] w fun e w' => e = .returned (.int .i64 (okE n x)) ∧ GS w' B s n (if okE n x = 0 then stQ x P else P) ∧ Below B w w' ∧ Kept w w' s := by
  by_cases hp : 1 ≤ x.po ∧ x.po ≤ n
  · have ho : okE n x = 0 := by unfold okE; rw [if_pos hp]
    rw [ho, if_pos rfl]
    rcases hs with ⟨rfl, rfl⟩ | ⟨g, c, rfl, hg, hO⟩
    · exact absurd hp (by omega)
    · obtain ⟨q, hq⟩ : ∃ q : Nat, x.po = (q : Int) + 1 := ⟨(x.po - 1).toNat, by omega⟩
      obtain ⟨m, hm⟩ : ∃ m : Nat, x.nn = m := ⟨x.nn.toNat, by have := hr.nn0; omega⟩
      have hm1 : m ≤ 1073741824 := by have := hr.nn1; omega
      have hqn : q < n := by omega
      rw [stQ_at x P q h7 h11 hq]
      obtain ⟨wh, po, nn, on, mx⟩ := x
      simp only at hq hm h7 h11
      subst hq hm
      have fin : ∀ (k : Nat) (v : Value), k < 5 → (stP ⟨wh, (q : Int) + 1, m, on, mx⟩ (P q)).cells = (P q).cells.setIfInBounds k v → ∀ e w', (e = Ending.returned (.int .i64 0) ∧ ∃ w1, Below w.heap.size w w1 ∧ w' = w1.setCell ⟨g, q * 5 + k, none⟩ v) →
          e = .returned (.int .i64 0) ∧ GS w' B (.slice (some ⟨g, 0, none⟩) n c) n (fun i => if i = q then stP ⟨wh, (q : Int) + 1, m, on, mx⟩ (P q) else P i) ∧ Below B w w' ∧ Kept w w' (.slice (some ⟨g, 0, none⟩) n c) := by
        rintro k v hk hc e w' ⟨rfl, w1, hb, rfl⟩
        refine ⟨rfl, .inr ⟨g, c, rfl, hg, own5_set (hO.below hb hO.lt) hqn hk hc⟩, (hb.mono hB).setCell hg v, fun b hbl hne => ?_⟩
        rw [Below.heap_setCell _ _ _ _ (hne g n c rfl)]
        exact hb.block b hbl
      generalize P q = p at *
      obtain ⟨p0, p1, p2, p3, p4⟩ := p
      rcases (show wh = 7 ∨ wh = 8 ∨ wh = 9 ∨ wh = 10 ∨ wh = 11 by omega) with rfl | rfl | rfl | rfl | rfl
      · exact (changePort_7 q m on mx g n c P w hO hqn hn hm1).mono (fin 0 _ (by omega) rfl)
      · exact (changePort_8 q m on mx g n c P w hO hqn hn hm1).mono (fin 1 _ (by omega) rfl)
      · exact (changePort_9 q m on mx g n c P w hO hqn hn hm1).mono (fin 2 _ (by omega) rfl)
      · exact (changePort_10 q m on mx g n c P w hO hqn hn hm1).mono (fin 3 _ (by omega) rfl)
      · exact (changePort_11 q m on mx g n c P w hO hqn hn hm1).mono (fin 4 _ (by omega) rfl)
  · have ho : okE n x = 6 := by unfold okE; rw [if_neg hp]
    rw [ho, if_neg (by decide)]
    refine (changePort_not x s n P w hs.qin hp).mono ?_
    rintro e w' ⟨rfl, hb⟩
    exact ⟨rfl, hs.below hb (Nat.le_refl _), hb.mono hB, Kept.of s hb⟩
theorem yields33 {ops : Array Oper} {S : World → Prop} {op : Oper} {a : Act} {X : Array Value} (hX : X.size = 10) (hw : Region.wanted op (yielded ops a.tmps) = true) (x : Operand) (ho : op.op = .load 33 x) {b : Nat} (hx : a.eval x = .pointer (some ⟨b, 0, none⟩))
    (hS : ∀ w, S w → VarAt w b X 33) : YieldsIf Tryz.prog ops S op (.agg X) a := by
  have := yieldsIf_load_mid (P := Tryz.prog) (ops := ops) hw 33 x ho b 0 hx X.toList _ (fun w h => range_whole (hS w h)) Cd.u26 rfl (by rw [Cd.s26]; simp [hX])
  simpa using this
set_option maxRecDepth 20000 in
set_option maxHeartbeats 1000000 in
theorem change_0 (po nn : Int) (on : Bool) (mx : Nat → Nat) (c : Cf) (s : Value) (vb : Nat) (w : World) (hv : VarAt w vb (c.cells s) 28) :
    Calls Tryz.prog 19 #[.agg (⟨0, po, nn, on, mx⟩ : Cd.Cm).cells, .pointer (some ⟨vb, 0, none⟩)] w fun e w' => e = .returned (.int .i64 0) ∧ ∃ w1, Below w.heap.size w w1 ∧ w' = w1.setCell ⟨vb, 6, none⟩ (.int .i64 nn) := by
  have v := var_new w (⟨0, po, nn, on, mx⟩ : Cd.Cm).cells 33
  have k0 : (w.alloc (.cells (⟨0, po, nn, on, mx⟩ : Cd.Cm).cells 33)).cell? ⟨w.heap.size, 0, none⟩ = some (.int .i64 0) := v.cell 0
  have k2 : (w.alloc (.cells (⟨0, po, nn, on, mx⟩ : Cd.Cm).cells 33)).cell? ⟨w.heap.size, 2, none⟩ = some (.int .i64 nn) := v.cell 2
  have k3 : (w.alloc (.cells (⟨0, po, nn, on, mx⟩ : Cd.Cm).cells 33)).cell? ⟨w.heap.size, 3, none⟩ = some (.bool on) := v.cell 3
  have hb := Lib.hid (box_below w (.cells (⟨0, po, nn, on, mx⟩ : Cd.Cm).cells 33))
  have ho := hv.below hb.out hv.lt
  have fc : (w.alloc (.cells (⟨0, po, nn, on, mx⟩ : Cd.Cm).cells 33)).cell? ⟨vb, 6, none⟩ = some (.int .i64 c.pr) := ho.cell 6
  have ff := ho.frozen 6
  clear v hv ho
  generalize (⟨0, po, nn, on, mx⟩ : Cd.Cm).cells = X at *
  go_enter Tryz.func19, Tryz.ntmps19
  go_wp2_with fail
  go_ret
  exact ⟨rfl, _, hb.out, rfl⟩
set_option maxRecDepth 20000 in
set_option maxHeartbeats 1000000 in
theorem change_1 (po nn : Int) (on : Bool) (mx : Nat → Nat) (c : Cf) (s : Value) (vb : Nat) (w : World) (hv : VarAt w vb (c.cells s) 28) :
    Calls Tryz.prog 19 #[.agg (⟨1, po, nn, on, mx⟩ : Cd.Cm).cells, .pointer (some ⟨vb, 0, none⟩)] w fun e w' => e = .returned (.int .i64 0) ∧ ∃ w1, Below w.heap.size w w1 ∧ w' = w1.setCell ⟨vb, 8, none⟩ (.int .i64 nn) := by
  have v := var_new w (⟨1, po, nn, on, mx⟩ : Cd.Cm).cells 33
  have k0 : (w.alloc (.cells (⟨1, po, nn, on, mx⟩ : Cd.Cm).cells 33)).cell? ⟨w.heap.size, 0, none⟩ = some (.int .i64 1) := v.cell 0
  have k2 : (w.alloc (.cells (⟨1, po, nn, on, mx⟩ : Cd.Cm).cells 33)).cell? ⟨w.heap.size, 2, none⟩ = some (.int .i64 nn) := v.cell 2
  have k3 : (w.alloc (.cells (⟨1, po, nn, on, mx⟩ : Cd.Cm).cells 33)).cell? ⟨w.heap.size, 3, none⟩ = some (.bool on) := v.cell 3
  have hb := Lib.hid (box_below w (.cells (⟨1, po, nn, on, mx⟩ : Cd.Cm).cells 33))
  have ho := hv.below hb.out hv.lt
  have fc : (w.alloc (.cells (⟨1, po, nn, on, mx⟩ : Cd.Cm).cells 33)).cell? ⟨vb, 8, none⟩ = some (.int .i64 c.m) := ho.cell 8
  have ff := ho.frozen 8
  clear v hv ho
  generalize (⟨1, po, nn, on, mx⟩ : Cd.Cm).cells = X at *
  go_enter Tryz.func19, Tryz.ntmps19
  go_wp2_with fail
  go_ret
  exact ⟨rfl, _, hb.out, rfl⟩
set_option maxRecDepth 20000 in
set_option maxHeartbeats 1000000 in
theorem change_2 (po nn : Int) (on : Bool) (mx : Nat → Nat) (c : Cf) (s : Value) (vb : Nat) (w : World) (hv : VarAt w vb (c.cells s) 28) :
    Calls Tryz.prog 19 #[.agg (⟨2, po, nn, on, mx⟩ : Cd.Cm).cells, .pointer (some ⟨vb, 0, none⟩)] w fun e w' => e = .returned (.int .i64 0) ∧ ∃ w1, Below w.heap.size w w1 ∧ w' = w1.setCell ⟨vb, 9, none⟩ (.int .i64 nn) := by
  have v := var_new w (⟨2, po, nn, on, mx⟩ : Cd.Cm).cells 33
  have k0 : (w.alloc (.cells (⟨2, po, nn, on, mx⟩ : Cd.Cm).cells 33)).cell? ⟨w.heap.size, 0, none⟩ = some (.int .i64 2) := v.cell 0
  have k2 : (w.alloc (.cells (⟨2, po, nn, on, mx⟩ : Cd.Cm).cells 33)).cell? ⟨w.heap.size, 2, none⟩ = some (.int .i64 nn) := v.cell 2
  have k3 : (w.alloc (.cells (⟨2, po, nn, on, mx⟩ : Cd.Cm).cells 33)).cell? ⟨w.heap.size, 3, none⟩ = some (.bool on) := v.cell 3
  have hb := Lib.hid (box_below w (.cells (⟨2, po, nn, on, mx⟩ : Cd.Cm).cells 33))
  have ho := hv.below hb.out hv.lt
  have fc : (w.alloc (.cells (⟨2, po, nn, on, mx⟩ : Cd.Cm).cells 33)).cell? ⟨vb, 9, none⟩ = some (.int .i64 c.h) := ho.cell 9
  have ff := ho.frozen 9
  clear v hv ho
  generalize (⟨2, po, nn, on, mx⟩ : Cd.Cm).cells = X at *
  go_enter Tryz.func19, Tryz.ntmps19
  go_wp2_with fail
  go_ret
  exact ⟨rfl, _, hb.out, rfl⟩
set_option maxRecDepth 20000 in
set_option maxHeartbeats 1000000 in
theorem change_3 (po nn : Int) (on : Bool) (mx : Nat → Nat) (c : Cf) (s : Value) (vb : Nat) (w : World) (hv : VarAt w vb (c.cells s) 28) :
    Calls Tryz.prog 19 #[.agg (⟨3, po, nn, on, mx⟩ : Cd.Cm).cells, .pointer (some ⟨vb, 0, none⟩)] w fun e w' => e = .returned (.int .i64 0) ∧ ∃ w1, Below w.heap.size w w1 ∧ w' = w1.setCell ⟨vb, 10, none⟩ (.int .i64 nn) := by
  have v := var_new w (⟨3, po, nn, on, mx⟩ : Cd.Cm).cells 33
  have k0 : (w.alloc (.cells (⟨3, po, nn, on, mx⟩ : Cd.Cm).cells 33)).cell? ⟨w.heap.size, 0, none⟩ = some (.int .i64 3) := v.cell 0
  have k2 : (w.alloc (.cells (⟨3, po, nn, on, mx⟩ : Cd.Cm).cells 33)).cell? ⟨w.heap.size, 2, none⟩ = some (.int .i64 nn) := v.cell 2
  have k3 : (w.alloc (.cells (⟨3, po, nn, on, mx⟩ : Cd.Cm).cells 33)).cell? ⟨w.heap.size, 3, none⟩ = some (.bool on) := v.cell 3
  have hb := Lib.hid (box_below w (.cells (⟨3, po, nn, on, mx⟩ : Cd.Cm).cells 33))
  have ho := hv.below hb.out hv.lt
  have fc : (w.alloc (.cells (⟨3, po, nn, on, mx⟩ : Cd.Cm).cells 33)).cell? ⟨vb, 10, none⟩ = some (.int .i64 c.d) := ho.cell 10
  have ff := ho.frozen 10
  clear v hv ho
  generalize (⟨3, po, nn, on, mx⟩ : Cd.Cm).cells = X at *
  go_enter Tryz.func19, Tryz.ntmps19
  go_wp2_with fail
  go_ret
  exact ⟨rfl, _, hb.out, rfl⟩
set_option maxRecDepth 20000 in
set_option maxHeartbeats 1000000 in
theorem change_4 (po nn : Int) (on : Bool) (mx : Nat → Nat) (c : Cf) (s : Value) (vb : Nat) (w : World) (hv : VarAt w vb (c.cells s) 28) :
    Calls Tryz.prog 19 #[.agg (⟨4, po, nn, on, mx⟩ : Cd.Cm).cells, .pointer (some ⟨vb, 0, none⟩)] w fun e w' => e = .returned (.int .i64 0) ∧ ∃ w1, Below w.heap.size w w1 ∧ w' = w1.setCell ⟨vb, 11, none⟩ (.int .i64 nn) := by
  have v := var_new w (⟨4, po, nn, on, mx⟩ : Cd.Cm).cells 33
  have k0 : (w.alloc (.cells (⟨4, po, nn, on, mx⟩ : Cd.Cm).cells 33)).cell? ⟨w.heap.size, 0, none⟩ = some (.int .i64 4) := v.cell 0
  have k2 : (w.alloc (.cells (⟨4, po, nn, on, mx⟩ : Cd.Cm).cells 33)).cell? ⟨w.heap.size, 2, none⟩ = some (.int .i64 nn) := v.cell 2
  have k3 : (w.alloc (.cells (⟨4, po, nn, on, mx⟩ : Cd.Cm).cells 33)).cell? ⟨w.heap.size, 3, none⟩ = some (.bool on) := v.cell 3
  have hb := Lib.hid (box_below w (.cells (⟨4, po, nn, on, mx⟩ : Cd.Cm).cells 33))
  have ho := hv.below hb.out hv.lt
  have fc : (w.alloc (.cells (⟨4, po, nn, on, mx⟩ : Cd.Cm).cells 33)).cell? ⟨vb, 11, none⟩ = some (.int .i64 c.ho) := ho.cell 11
  have ff := ho.frozen 11
  clear v hv ho
  generalize (⟨4, po, nn, on, mx⟩ : Cd.Cm).cells = X at *
  go_enter Tryz.func19, Tryz.ntmps19
  go_wp2_with fail
  go_ret
  exact ⟨rfl, _, hb.out, rfl⟩
set_option maxRecDepth 20000 in
set_option maxHeartbeats 1000000 in
theorem change_5 (po nn : Int) (on : Bool) (mx : Nat → Nat) (c : Cf) (s : Value) (vb : Nat) (w : World) (hv : VarAt w vb (c.cells s) 28) :
    Calls Tryz.prog 19 #[.agg (⟨5, po, nn, on, mx⟩ : Cd.Cm).cells, .pointer (some ⟨vb, 0, none⟩)] w fun e w' => e = .returned (.int .i64 0) ∧ ∃ w1, Below w.heap.size w w1 ∧ w' = w1.setCell ⟨vb, 12, none⟩ (.bool on) := by
  have v := var_new w (⟨5, po, nn, on, mx⟩ : Cd.Cm).cells 33
  have k0 : (w.alloc (.cells (⟨5, po, nn, on, mx⟩ : Cd.Cm).cells 33)).cell? ⟨w.heap.size, 0, none⟩ = some (.int .i64 5) := v.cell 0
  have k2 : (w.alloc (.cells (⟨5, po, nn, on, mx⟩ : Cd.Cm).cells 33)).cell? ⟨w.heap.size, 2, none⟩ = some (.int .i64 nn) := v.cell 2
  have k3 : (w.alloc (.cells (⟨5, po, nn, on, mx⟩ : Cd.Cm).cells 33)).cell? ⟨w.heap.size, 3, none⟩ = some (.bool on) := v.cell 3
  have hb := Lib.hid (box_below w (.cells (⟨5, po, nn, on, mx⟩ : Cd.Cm).cells 33))
  have ho := hv.below hb.out hv.lt
  have fc : (w.alloc (.cells (⟨5, po, nn, on, mx⟩ : Cd.Cm).cells 33)).cell? ⟨vb, 12, none⟩ = some (.bool c.rs) := ho.cell 12
  have ff := ho.frozen 12
  clear v hv ho
  generalize (⟨5, po, nn, on, mx⟩ : Cd.Cm).cells = X at *
  go_enter Tryz.func19, Tryz.ntmps19
  go_wp2_with fail
  go_ret
  exact ⟨rfl, _, hb.out, rfl⟩
set_option maxRecDepth 20000 in
set_option maxHeartbeats 1000000 in
theorem change_6 (po nn : Int) (on : Bool) (mx : Nat → Nat) (c : Cf) (s : Value) (vb : Nat) (w : World) (hv : VarAt w vb (c.cells s) 28) :
    Calls Tryz.prog 19 #[.agg (⟨6, po, nn, on, mx⟩ : Cd.Cm).cells, .pointer (some ⟨vb, 0, none⟩)] w fun e w' => e = .returned (.int .i64 0) ∧ ∃ w1, Below w.heap.size w w1 ∧ w' = w1.setCell ⟨vb, 13, none⟩ (.int .i64 nn) := by
  have v := var_new w (⟨6, po, nn, on, mx⟩ : Cd.Cm).cells 33
  have k0 : (w.alloc (.cells (⟨6, po, nn, on, mx⟩ : Cd.Cm).cells 33)).cell? ⟨w.heap.size, 0, none⟩ = some (.int .i64 6) := v.cell 0
  have k2 : (w.alloc (.cells (⟨6, po, nn, on, mx⟩ : Cd.Cm).cells 33)).cell? ⟨w.heap.size, 2, none⟩ = some (.int .i64 nn) := v.cell 2
  have k3 : (w.alloc (.cells (⟨6, po, nn, on, mx⟩ : Cd.Cm).cells 33)).cell? ⟨w.heap.size, 3, none⟩ = some (.bool on) := v.cell 3
  have hb := Lib.hid (box_below w (.cells (⟨6, po, nn, on, mx⟩ : Cd.Cm).cells 33))
  have ho := hv.below hb.out hv.lt
  have fc : (w.alloc (.cells (⟨6, po, nn, on, mx⟩ : Cd.Cm).cells 33)).cell? ⟨vb, 13, none⟩ = some (.int .i64 c.ag) := ho.cell 13
  have ff := ho.frozen 13
  clear v hv ho
  generalize (⟨6, po, nn, on, mx⟩ : Cd.Cm).cells = X at *
  go_enter Tryz.func19, Tryz.ntmps19
  go_wp2_with fail
  go_ret
  exact ⟨rfl, _, hb.out, rfl⟩
set_option maxRecDepth 20000 in
set_option maxHeartbeats 1000000 in
theorem change_not (x : Cd.Cm) (h12 : 12 ≤ x.wh) (p : Value) (w : World) :
    Calls Tryz.prog 19 #[.agg x.cells, p] w fun e w' => e = .returned (.int .i64 1) ∧ Below w.heap.size w w' := by
  have v := var_new w x.cells 33
  have k0 : (w.alloc (.cells x.cells 33)).cell? ⟨w.heap.size, 0, none⟩ = some (.int .i64 x.wh) := v.cell 0
  have hb := Lib.hid (box_below w (.cells x.cells 33))
  clear v
  generalize x.cells = X at *
  generalize x.wh = wh at *
  go_enter Tryz.func19, Tryz.ntmps19
  go_wp2_with fail
  go_ret
  exact ⟨rfl, hb.out⟩
set_option maxRecDepth 20000 in
set_option maxHeartbeats 1000000 in
theorem change_7 (x : Cd.Cm) (hr : Cd.Rt x) (hw : x.wh = 7) (c : Cf) (s : Value) (n : Nat) (P : Nat → Pc) (vb B : Nat) (w : World) (hv : VarAt w vb (c.cells s) 28) (hs : GS w B s n P) (hB : B ≤ w.heap.size) (hne : ∀ g n c, s = .slice (some ⟨g, 0, none⟩) n c → vb ≠ g) (hn : n ≤ 20) :
    Calls Tryz.prog 19 #[.agg x.cells, .pointer (some ⟨vb, 0, none⟩)] w fun e w' => e = .returned (.int .i64 (okE n x)) ∧ GS w' B s n (if okE n x = 0 then stQ x P else P) ∧ Below B w w' ∧ VarAt w' vb (c.cells s) 28 := by
  have v := var_new w x.cells 33
  have k0 : (w.alloc (.cells x.cells 33)).cell? ⟨w.heap.size, 0, none⟩ = some (.int .i64 7) := by rw [← hw]; exact v.cell 0
  have hb := box_below w (.cells x.cells 33)
  have HS0 := Lib.hid (show VarAt (w.alloc (.cells x.cells 33)).drew w.heap.size x.cells 33 ∧ VarAt (w.alloc (.cells x.cells 33)).drew vb (c.cells s) 28 from ⟨v.drew, (hv.below hb hv.lt).drew⟩)
  have HG := Lib.hid (show GS (w.alloc (.cells x.cells 33)).drew B s n P from hs.below hb.drew (Nat.le_refl _))
  have HN := Lib.hid (show ∀ g n c, s = .slice (some ⟨g, 0, none⟩) n c → w.heap.size ≠ g from by
    rintro g n c rfl
    rcases hs with ⟨h, _⟩ | ⟨g', c', h, _, ho⟩
    · cases h
    · cases h; have := ho.lt; omega)
  have HB := Lib.hid (show Below B w (w.alloc (.cells x.cells 33)).drew from (hb.mono hB).drew)
  have HZ := Lib.hid (show B ≤ (w.alloc (.cells x.cells 33)).drew.heap.size by show B ≤ (w.alloc (.cells x.cells 33)).heap.size; rw [alloc_size]; omega)
  have cp := Lib.hid (fun w' (h : GS w' B s n P) (hB : B ≤ w'.heap.size) => changePort_any x hr (by omega) (by omega) s n P w' B h hB hn)
  have HX := Lib.hid (show x.cells.size = 10 from rfl)
  clear v hb hv hs hB hw
  generalize x.cells = X at *
  generalize okE n x = E at *
  generalize (if E = 0 then stQ x P else P) = P' at *
  go_enter Tryz.func19, Tryz.ntmps19
  go_wp2_with fail
  generalize w.alloc (.cells X 33) = W at *
  refine wp_region_held_drew (S := fun w' => VarAt w' w.heap.size X 33 ∧ VarAt w' vb (c.cells s) 28) (by kernel_rfl) HS0.out (fun hS => ?_)
  refine wpAnyH_take (i := 0) (v := .agg X) rfl (by kernel_rfl) (by kernel_rfl) (by kernel_rfl) (fun _ _ _ h => h) (yields33 HX.out (by rfl) _ rfl rfl (fun w9 h9 => h9.1)) hS ?_
  try simp only [Act.put, List.getElem_toArray, List.getElem_cons_zero, List.getElem_cons_succ, List.setIfInBounds_toArray, List.set_cons_zero, List.set_cons_succ]
  refine wpAnyH_take (i := 1) (v := ?_) rfl (by kernel_rfl) (by kernel_rfl) (by kernel_rfl) (fun _ _ _ h => h) (Or.inl ⟨by rfl, ?_⟩) hS ?_
  rotate_left
  · (intro w9 hS9; go_simp; try with_reducible rfl)
  try simp only [Act.put, List.getElem_toArray, List.getElem_cons_zero, List.getElem_cons_succ, List.setIfInBounds_toArray, List.set_cons_zero, List.set_cons_succ]
  refine wpAnyH_take (i := 2) (v := ?_) rfl (by kernel_rfl) (by kernel_rfl) (by kernel_rfl) (fun _ _ _ h => h) (Or.inl ⟨by rfl, ?_⟩) hS ?_
  rotate_left
  · (intro w9 hS9; go_simp; try with_reducible rfl)
  try simp only [Act.put, List.getElem_toArray, List.getElem_cons_zero, List.getElem_cons_succ, List.setIfInBounds_toArray, List.set_cons_zero, List.set_cons_succ]
  refine wpAnyH_take (i := 3) (v := ?_) rfl (by kernel_rfl) (by kernel_rfl) (by kernel_rfl) (fun _ _ _ h => h) (Or.inl ⟨by rfl, ?_⟩) hS ?_
  rotate_left
  · (intro w9 hS9; go_simp; try with_reducible rfl)
  try simp only [Act.put, List.getElem_toArray, List.getElem_cons_zero, List.getElem_cons_succ, List.setIfInBounds_toArray, List.set_cons_zero, List.set_cons_succ]
  refine wpAnyH_take (i := 4) (v := ?_) rfl (by kernel_rfl) (by kernel_rfl) (by kernel_rfl) (fun _ _ _ h => h) (Or.inl ⟨by rfl, ?_⟩) hS ?_
  rotate_left
  · (intro w9 hS9; have q : w9.cell? ⟨vb, 14, none⟩ = some s := hS9.2.cell 14; go_simp; try with_reducible rfl)
  try simp only [Act.put, List.getElem_toArray, List.getElem_cons_zero, List.getElem_cons_succ, List.setIfInBounds_toArray, List.set_cons_zero, List.set_cons_succ]
  refine wpAnyH_ready (rs := [5]) (by kernel_rfl) (by simp) (AllReadyH.cons rfl (fun K hK => ?_) AllReadyH.nil)
  go_simp
  refine (cp.out _ HG.out HZ.out).mono ?_
  rintro e w1 ⟨rfl, hg1, hb1, hk1⟩
  have HG1 := Lib.hid hg1
  have HB1 := Lib.hid (HB.out.trans hb1)
  refine hK.out _ _ ⟨(hk1 _ hS.1.lt HN.out).trans hS.1, (hk1 _ hS.2.lt hne).trans hS.2⟩ (fun hS => ?_)
  have HV1 := Lib.hid hS.2
  clear hK cp K hg1 hb1 hk1 HG HB HS0
  refine wpAnyH_take (i := 6) (v := ?_) rfl (by kernel_rfl) (by kernel_rfl) (by kernel_rfl) (fun _ _ _ h => h) (Or.inl ⟨by rfl, ?_⟩) hS ?_
  rotate_left
  · (intro w9 hS9; go_simp; try with_reducible rfl)
  try simp only [Act.put, List.getElem_toArray, List.getElem_cons_zero, List.getElem_cons_succ, List.setIfInBounds_toArray, List.set_cons_zero, List.set_cons_succ]
  refine wpAnyH_done (by kernel_rfl) ?_ _
  go_wp2_with fail
  go_ret
  exact ⟨rfl, HG1.out, HB1.out, HV1.out⟩
set_option maxRecDepth 20000 in
set_option maxHeartbeats 1000000 in
theorem change_8 (x : Cd.Cm) (hr : Cd.Rt x) (hw : x.wh = 8) (c : Cf) (s : Value) (n : Nat) (P : Nat → Pc) (vb B : Nat) (w : World) (hv : VarAt w vb (c.cells s) 28) (hs : GS w B s n P) (hB : B ≤ w.heap.size) (hne : ∀ g n c, s = .slice (some ⟨g, 0, none⟩) n c → vb ≠ g) (hn : n ≤ 20) :
    Calls Tryz.prog 19 #[.agg x.cells, .pointer (some ⟨vb, 0, none⟩)] w fun e w' => e = .returned (.int .i64 (okE n x)) ∧ GS w' B s n (if okE n x = 0 then stQ x P else P) ∧ Below B w w' ∧ VarAt w' vb (c.cells s) 28 := by
  have v := var_new w x.cells 33
  have k0 : (w.alloc (.cells x.cells 33)).cell? ⟨w.heap.size, 0, none⟩ = some (.int .i64 8) := by rw [← hw]; exact v.cell 0
  have hb := box_below w (.cells x.cells 33)
  have HS0 := Lib.hid (show VarAt (w.alloc (.cells x.cells 33)).drew w.heap.size x.cells 33 ∧ VarAt (w.alloc (.cells x.cells 33)).drew vb (c.cells s) 28 from ⟨v.drew, (hv.below hb hv.lt).drew⟩)
  have HG := Lib.hid (show GS (w.alloc (.cells x.cells 33)).drew B s n P from hs.below hb.drew (Nat.le_refl _))
  have HN := Lib.hid (show ∀ g n c, s = .slice (some ⟨g, 0, none⟩) n c → w.heap.size ≠ g from by
    rintro g n c rfl
    rcases hs with ⟨h, _⟩ | ⟨g', c', h, _, ho⟩
    · cases h
    · cases h; have := ho.lt; omega)
  have HB := Lib.hid (show Below B w (w.alloc (.cells x.cells 33)).drew from (hb.mono hB).drew)
  have HZ := Lib.hid (show B ≤ (w.alloc (.cells x.cells 33)).drew.heap.size by show B ≤ (w.alloc (.cells x.cells 33)).heap.size; rw [alloc_size]; omega)
  have cp := Lib.hid (fun w' (h : GS w' B s n P) (hB : B ≤ w'.heap.size) => changePort_any x hr (by omega) (by omega) s n P w' B h hB hn)
  have HX := Lib.hid (show x.cells.size = 10 from rfl)
  clear v hb hv hs hB hw
  generalize x.cells = X at *
  generalize okE n x = E at *
  generalize (if E = 0 then stQ x P else P) = P' at *
  go_enter Tryz.func19, Tryz.ntmps19
  go_wp2_with fail
  generalize w.alloc (.cells X 33) = W at *
  refine wp_region_held_drew (S := fun w' => VarAt w' w.heap.size X 33 ∧ VarAt w' vb (c.cells s) 28) (by kernel_rfl) HS0.out (fun hS => ?_)
  refine wpAnyH_take (i := 0) (v := .agg X) rfl (by kernel_rfl) (by kernel_rfl) (by kernel_rfl) (fun _ _ _ h => h) (yields33 HX.out (by rfl) _ rfl rfl (fun w9 h9 => h9.1)) hS ?_
  try simp only [Act.put, List.getElem_toArray, List.getElem_cons_zero, List.getElem_cons_succ, List.setIfInBounds_toArray, List.set_cons_zero, List.set_cons_succ]
  refine wpAnyH_take (i := 1) (v := ?_) rfl (by kernel_rfl) (by kernel_rfl) (by kernel_rfl) (fun _ _ _ h => h) (Or.inl ⟨by rfl, ?_⟩) hS ?_
  rotate_left
  · (intro w9 hS9; go_simp; try with_reducible rfl)
  try simp only [Act.put, List.getElem_toArray, List.getElem_cons_zero, List.getElem_cons_succ, List.setIfInBounds_toArray, List.set_cons_zero, List.set_cons_succ]
  refine wpAnyH_take (i := 2) (v := ?_) rfl (by kernel_rfl) (by kernel_rfl) (by kernel_rfl) (fun _ _ _ h => h) (Or.inl ⟨by rfl, ?_⟩) hS ?_
  rotate_left
  · (intro w9 hS9; go_simp; try with_reducible rfl)
  try simp only [Act.put, List.getElem_toArray, List.getElem_cons_zero, List.getElem_cons_succ, List.setIfInBounds_toArray, List.set_cons_zero, List.set_cons_succ]
  refine wpAnyH_take (i := 3) (v := ?_) rfl (by kernel_rfl) (by kernel_rfl) (by kernel_rfl) (fun _ _ _ h => h) (Or.inl ⟨by rfl, ?_⟩) hS ?_
  rotate_left
  · (intro w9 hS9; go_simp; try with_reducible rfl)
  try simp only [Act.put, List.getElem_toArray, List.getElem_cons_zero, List.getElem_cons_succ, List.setIfInBounds_toArray, List.set_cons_zero, List.set_cons_succ]
  refine wpAnyH_take (i := 4) (v := ?_) rfl (by kernel_rfl) (by kernel_rfl) (by kernel_rfl) (fun _ _ _ h => h) (Or.inl ⟨by rfl, ?_⟩) hS ?_
  rotate_left
  · (intro w9 hS9; have q : w9.cell? ⟨vb, 14, none⟩ = some s := hS9.2.cell 14; go_simp; try with_reducible rfl)
  try simp only [Act.put, List.getElem_toArray, List.getElem_cons_zero, List.getElem_cons_succ, List.setIfInBounds_toArray, List.set_cons_zero, List.set_cons_succ]
  refine wpAnyH_ready (rs := [5]) (by kernel_rfl) (by simp) (AllReadyH.cons rfl (fun K hK => ?_) AllReadyH.nil)
  go_simp
  refine (cp.out _ HG.out HZ.out).mono ?_
  rintro e w1 ⟨rfl, hg1, hb1, hk1⟩
  have HG1 := Lib.hid hg1
  have HB1 := Lib.hid (HB.out.trans hb1)
  refine hK.out _ _ ⟨(hk1 _ hS.1.lt HN.out).trans hS.1, (hk1 _ hS.2.lt hne).trans hS.2⟩ (fun hS => ?_)
  have HV1 := Lib.hid hS.2
  clear hK cp K hg1 hb1 hk1 HG HB HS0
  refine wpAnyH_take (i := 6) (v := ?_) rfl (by kernel_rfl) (by kernel_rfl) (by kernel_rfl) (fun _ _ _ h => h) (Or.inl ⟨by rfl, ?_⟩) hS ?_
  rotate_left
  · (intro w9 hS9; go_simp; try with_reducible rfl)
  try simp only [Act.put, List.getElem_toArray, List.getElem_cons_zero, List.getElem_cons_succ, List.setIfInBounds_toArray, List.set_cons_zero, List.set_cons_succ]
  refine wpAnyH_done (by kernel_rfl) ?_ _
  go_wp2_with fail
  go_ret
  exact ⟨rfl, HG1.out, HB1.out, HV1.out⟩
set_option maxRecDepth 20000 in
set_option maxHeartbeats 1000000 in
theorem change_9 (x : Cd.Cm) (hr : Cd.Rt x) (hw : x.wh = 9) (c : Cf) (s : Value) (n : Nat) (P : Nat → Pc) (vb B : Nat) (w : World) (hv : VarAt w vb (c.cells s) 28) (hs : GS w B s n P) (hB : B ≤ w.heap.size) (hne : ∀ g n c, s = .slice (some ⟨g, 0, none⟩) n c → vb ≠ g) (hn : n ≤ 20) :
    Calls Tryz.prog 19 #[.agg x.cells, .pointer (some ⟨vb, 0, none⟩)] w fun e w' => e = .returned (.int .i64 (okE n x)) ∧ GS w' B s n (if okE n x = 0 then stQ x P else P) ∧ Below B w w' ∧ VarAt w' vb (c.cells s) 28 := by
  have v := var_new w x.cells 33
  have k0 : (w.alloc (.cells x.cells 33)).cell? ⟨w.heap.size, 0, none⟩ = some (.int .i64 9) := by rw [← hw]; exact v.cell 0
  have hb := box_below w (.cells x.cells 33)
  have HS0 := Lib.hid (show VarAt (w.alloc (.cells x.cells 33)).drew w.heap.size x.cells 33 ∧ VarAt (w.alloc (.cells x.cells 33)).drew vb (c.cells s) 28 from ⟨v.drew, (hv.below hb hv.lt).drew⟩)
  have HG := Lib.hid (show GS (w.alloc (.cells x.cells 33)).drew B s n P from hs.below hb.drew (Nat.le_refl _))
  have HN := Lib.hid (show ∀ g n c, s = .slice (some ⟨g, 0, none⟩) n c → w.heap.size ≠ g from by
    rintro g n c rfl
    rcases hs with ⟨h, _⟩ | ⟨g', c', h, _, ho⟩
    · cases h
    · cases h; have := ho.lt; omega)
  have HB := Lib.hid (show Below B w (w.alloc (.cells x.cells 33)).drew from (hb.mono hB).drew)
  have HZ := Lib.hid (show B ≤ (w.alloc (.cells x.cells 33)).drew.heap.size by show B ≤ (w.alloc (.cells x.cells 33)).heap.size; rw [alloc_size]; omega)
  have cp := Lib.hid (fun w' (h : GS w' B s n P) (hB : B ≤ w'.heap.size) => changePort_any x hr (by omega) (by omega) s n P w' B h hB hn)
  have HX := Lib.hid (show x.cells.size = 10 from rfl)
  clear v hb hv hs hB hw
  generalize x.cells = X at *
  generalize okE n x = E at *
  generalize (if E = 0 then stQ x P else P) = P' at *
  go_enter Tryz.func19, Tryz.ntmps19
  go_wp2_with fail
  generalize w.alloc (.cells X 33) = W at *
  refine wp_region_held_drew (S := fun w' => VarAt w' w.heap.size X 33 ∧ VarAt w' vb (c.cells s) 28) (by kernel_rfl) HS0.out (fun hS => ?_)
  refine wpAnyH_take (i := 0) (v := .agg X) rfl (by kernel_rfl) (by kernel_rfl) (by kernel_rfl) (fun _ _ _ h => h) (yields33 HX.out (by rfl) _ rfl rfl (fun w9 h9 => h9.1)) hS ?_
  try simp only [Act.put, List.getElem_toArray, List.getElem_cons_zero, List.getElem_cons_succ, List.setIfInBounds_toArray, List.set_cons_zero, List.set_cons_succ]
  refine wpAnyH_take (i := 1) (v := ?_) rfl (by kernel_rfl) (by kernel_rfl) (by kernel_rfl) (fun _ _ _ h => h) (Or.inl ⟨by rfl, ?_⟩) hS ?_
  rotate_left
  · (intro w9 hS9; go_simp; try with_reducible rfl)
  try simp only [Act.put, List.getElem_toArray, List.getElem_cons_zero, List.getElem_cons_succ, List.setIfInBounds_toArray, List.set_cons_zero, List.set_cons_succ]
  refine wpAnyH_take (i := 2) (v := ?_) rfl (by kernel_rfl) (by kernel_rfl) (by kernel_rfl) (fun _ _ _ h => h) (Or.inl ⟨by rfl, ?_⟩) hS ?_
  rotate_left
  · (intro w9 hS9; go_simp; try with_reducible rfl)
  try simp only [Act.put, List.getElem_toArray, List.getElem_cons_zero, List.getElem_cons_succ, List.setIfInBounds_toArray, List.set_cons_zero, List.set_cons_succ]
  refine wpAnyH_take (i := 3) (v := ?_) rfl (by kernel_rfl) (by kernel_rfl) (by kernel_rfl) (fun _ _ _ h => h) (Or.inl ⟨by rfl, ?_⟩) hS ?_
  rotate_left
  · (intro w9 hS9; go_simp; try with_reducible rfl)
  try simp only [Act.put, List.getElem_toArray, List.getElem_cons_zero, List.getElem_cons_succ, List.setIfInBounds_toArray, List.set_cons_zero, List.set_cons_succ]
  refine wpAnyH_take (i := 4) (v := ?_) rfl (by kernel_rfl) (by kernel_rfl) (by kernel_rfl) (fun _ _ _ h => h) (Or.inl ⟨by rfl, ?_⟩) hS ?_
  rotate_left
  · (intro w9 hS9; have q : w9.cell? ⟨vb, 14, none⟩ = some s := hS9.2.cell 14; go_simp; try with_reducible rfl)
  try simp only [Act.put, List.getElem_toArray, List.getElem_cons_zero, List.getElem_cons_succ, List.setIfInBounds_toArray, List.set_cons_zero, List.set_cons_succ]
  refine wpAnyH_ready (rs := [5]) (by kernel_rfl) (by simp) (AllReadyH.cons rfl (fun K hK => ?_) AllReadyH.nil)
  go_simp
  refine (cp.out _ HG.out HZ.out).mono ?_
  rintro e w1 ⟨rfl, hg1, hb1, hk1⟩
  have HG1 := Lib.hid hg1
  have HB1 := Lib.hid (HB.out.trans hb1)
  refine hK.out _ _ ⟨(hk1 _ hS.1.lt HN.out).trans hS.1, (hk1 _ hS.2.lt hne).trans hS.2⟩ (fun hS => ?_)
  have HV1 := Lib.hid hS.2
  clear hK cp K hg1 hb1 hk1 HG HB HS0
  refine wpAnyH_take (i := 6) (v := ?_) rfl (by kernel_rfl) (by kernel_rfl) (by kernel_rfl) (fun _ _ _ h => h) (Or.inl ⟨by rfl, ?_⟩) hS ?_
  rotate_left
  · (intro w9 hS9; go_simp; try with_reducible rfl)
  try simp only [Act.put, List.getElem_toArray, List.getElem_cons_zero, List.getElem_cons_succ, List.setIfInBounds_toArray, List.set_cons_zero, List.set_cons_succ]
  refine wpAnyH_done (by kernel_rfl) ?_ _
  go_wp2_with fail
  go_ret
  exact ⟨rfl, HG1.out, HB1.out, HV1.out⟩
set_option maxRecDepth 20000 in
set_option maxHeartbeats 1000000 in
theorem change_10 (x : Cd.Cm) (hr : Cd.Rt x) (hw : x.wh = 10) (c : Cf) (s : Value) (n : Nat) (P : Nat → Pc) (vb B : Nat) (w : World) (hv : VarAt w vb (c.cells s) 28) (hs : GS w B s n P) (hB : B ≤ w.heap.size) (hne : ∀ g n c, s = .slice (some ⟨g, 0, none⟩) n c → vb ≠ g) (hn : n ≤ 20) :
    Calls Tryz.prog 19 #[.agg x.cells, .pointer (some ⟨vb, 0, none⟩)] w fun e w' => e = .returned (.int .i64 (okE n x)) ∧ GS w' B s n (if okE n x = 0 then stQ x P else P) ∧ Below B w w' ∧ VarAt w' vb (c.cells s) 28 := by
  have v := var_new w x.cells 33
  have k0 : (w.alloc (.cells x.cells 33)).cell? ⟨w.heap.size, 0, none⟩ = some (.int .i64 10) := by rw [← hw]; exact v.cell 0
  have hb := box_below w (.cells x.cells 33)
  have HS0 := Lib.hid (show VarAt (w.alloc (.cells x.cells 33)).drew w.heap.size x.cells 33 ∧ VarAt (w.alloc (.cells x.cells 33)).drew vb (c.cells s) 28 from ⟨v.drew, (hv.below hb hv.lt).drew⟩)
  have HG := Lib.hid (show GS (w.alloc (.cells x.cells 33)).drew B s n P from hs.below hb.drew (Nat.le_refl _))
  have HN := Lib.hid (show ∀ g n c, s = .slice (some ⟨g, 0, none⟩) n c → w.heap.size ≠ g from by
    rintro g n c rfl
    rcases hs with ⟨h, _⟩ | ⟨g', c', h, _, ho⟩
    · cases h
    · cases h; have := ho.lt; omega)
  have HB := Lib.hid (show Below B w (w.alloc (.cells x.cells 33)).drew from (hb.mono hB).drew)
  have HZ := Lib.hid (show B ≤ (w.alloc (.cells x.cells 33)).drew.heap.size by show B ≤ (w.alloc (.cells x.cells 33)).heap.size; rw [alloc_size]; omega)
  have cp := Lib.hid (fun w' (h : GS w' B s n P) (hB : B ≤ w'.heap.size) => changePort_any x hr (by omega) (by omega) s n P w' B h hB hn)
  have HX := Lib.hid (show x.cells.size = 10 from rfl)
  clear v hb hv hs hB hw
  generalize x.cells = X at *
  generalize okE n x = E at *
  generalize (if E = 0 then stQ x P else P) = P' at *
  go_enter Tryz.func19, Tryz.ntmps19
  go_wp2_with fail
  generalize w.alloc (.cells X 33) = W at *
  refine wp_region_held_drew (S := fun w' => VarAt w' w.heap.size X 33 ∧ VarAt w' vb (c.cells s) 28) (by kernel_rfl) HS0.out (fun hS => ?_)
  refine wpAnyH_take (i := 0) (v := .agg X) rfl (by kernel_rfl) (by kernel_rfl) (by kernel_rfl) (fun _ _ _ h => h) (yields33 HX.out (by rfl) _ rfl rfl (fun w9 h9 => h9.1)) hS ?_
  try simp only [Act.put, List.getElem_toArray, List.getElem_cons_zero, List.getElem_cons_succ, List.setIfInBounds_toArray, List.set_cons_zero, List.set_cons_succ]
  refine wpAnyH_take (i := 1) (v := ?_) rfl (by kernel_rfl) (by kernel_rfl) (by kernel_rfl) (fun _ _ _ h => h) (Or.inl ⟨by rfl, ?_⟩) hS ?_
  rotate_left
  · (intro w9 hS9; go_simp; try with_reducible rfl)
  try simp only [Act.put, List.getElem_toArray, List.getElem_cons_zero, List.getElem_cons_succ, List.setIfInBounds_toArray, List.set_cons_zero, List.set_cons_succ]
  refine wpAnyH_take (i := 2) (v := ?_) rfl (by kernel_rfl) (by kernel_rfl) (by kernel_rfl) (fun _ _ _ h => h) (Or.inl ⟨by rfl, ?_⟩) hS ?_
  rotate_left
  · (intro w9 hS9; go_simp; try with_reducible rfl)
  try simp only [Act.put, List.getElem_toArray, List.getElem_cons_zero, List.getElem_cons_succ, List.setIfInBounds_toArray, List.set_cons_zero, List.set_cons_succ]
  refine wpAnyH_take (i := 3) (v := ?_) rfl (by kernel_rfl) (by kernel_rfl) (by kernel_rfl) (fun _ _ _ h => h) (Or.inl ⟨by rfl, ?_⟩) hS ?_
  rotate_left
  · (intro w9 hS9; go_simp; try with_reducible rfl)
  try simp only [Act.put, List.getElem_toArray, List.getElem_cons_zero, List.getElem_cons_succ, List.setIfInBounds_toArray, List.set_cons_zero, List.set_cons_succ]
  refine wpAnyH_take (i := 4) (v := ?_) rfl (by kernel_rfl) (by kernel_rfl) (by kernel_rfl) (fun _ _ _ h => h) (Or.inl ⟨by rfl, ?_⟩) hS ?_
  rotate_left
  · (intro w9 hS9; have q : w9.cell? ⟨vb, 14, none⟩ = some s := hS9.2.cell 14; go_simp; try with_reducible rfl)
  try simp only [Act.put, List.getElem_toArray, List.getElem_cons_zero, List.getElem_cons_succ, List.setIfInBounds_toArray, List.set_cons_zero, List.set_cons_succ]
  refine wpAnyH_ready (rs := [5]) (by kernel_rfl) (by simp) (AllReadyH.cons rfl (fun K hK => ?_) AllReadyH.nil)
  go_simp
  refine (cp.out _ HG.out HZ.out).mono ?_
  rintro e w1 ⟨rfl, hg1, hb1, hk1⟩
  have HG1 := Lib.hid hg1
  have HB1 := Lib.hid (HB.out.trans hb1)
  refine hK.out _ _ ⟨(hk1 _ hS.1.lt HN.out).trans hS.1, (hk1 _ hS.2.lt hne).trans hS.2⟩ (fun hS => ?_)
  have HV1 := Lib.hid hS.2
  clear hK cp K hg1 hb1 hk1 HG HB HS0
  refine wpAnyH_take (i := 6) (v := ?_) rfl (by kernel_rfl) (by kernel_rfl) (by kernel_rfl) (fun _ _ _ h => h) (Or.inl ⟨by rfl, ?_⟩) hS ?_
  rotate_left
  · (intro w9 hS9; go_simp; try with_reducible rfl)
  try simp only [Act.put, List.getElem_toArray, List.getElem_cons_zero, List.getElem_cons_succ, List.setIfInBounds_toArray, List.set_cons_zero, List.set_cons_succ]
  refine wpAnyH_done (by kernel_rfl) ?_ _
  go_wp2_with fail
  go_ret
  exact ⟨rfl, HG1.out, HB1.out, HV1.out⟩
set_option maxRecDepth 20000 in
set_option maxHeartbeats 1000000 in
theorem change_11 (x : Cd.Cm) (hr : Cd.Rt x) (hw : x.wh = 11) (c : Cf) (s : Value) (n : Nat) (P : Nat → Pc) (vb B : Nat) (w : World) (hv : VarAt w vb (c.cells s) 28) (hs : GS w B s n P) (hB : B ≤ w.heap.size) (hne : ∀ g n c, s = .slice (some ⟨g, 0, none⟩) n c → vb ≠ g) (hn : n ≤ 20) :
    Calls Tryz.prog 19 #[.agg x.cells, .pointer (some ⟨vb, 0, none⟩)] w fun e w' => e = .returned (.int .i64 (okE n x)) ∧ GS w' B s n (if okE n x = 0 then stQ x P else P) ∧ Below B w w' ∧ VarAt w' vb (c.cells s) 28 := by
  have v := var_new w x.cells 33
  have k0 : (w.alloc (.cells x.cells 33)).cell? ⟨w.heap.size, 0, none⟩ = some (.int .i64 11) := by rw [← hw]; exact v.cell 0
  have hb := box_below w (.cells x.cells 33)
  have HS0 := Lib.hid (show VarAt (w.alloc (.cells x.cells 33)).drew w.heap.size x.cells 33 ∧ VarAt (w.alloc (.cells x.cells 33)).drew vb (c.cells s) 28 from ⟨v.drew, (hv.below hb hv.lt).drew⟩)
  have HG := Lib.hid (show GS (w.alloc (.cells x.cells 33)).drew B s n P from hs.below hb.drew (Nat.le_refl _))
  have HN := Lib.hid (show ∀ g n c, s = .slice (some ⟨g, 0, none⟩) n c → w.heap.size ≠ g from by
    rintro g n c rfl
    rcases hs with ⟨h, _⟩ | ⟨g', c', h, _, ho⟩
    · cases h
    · cases h; have := ho.lt; omega)
  have HB := Lib.hid (show Below B w (w.alloc (.cells x.cells 33)).drew from (hb.mono hB).drew)
  have HZ := Lib.hid (show B ≤ (w.alloc (.cells x.cells 33)).drew.heap.size by show B ≤ (w.alloc (.cells x.cells 33)).heap.size; rw [alloc_size]; omega)
  have cp := Lib.hid (fun w' (h : GS w' B s n P) (hB : B ≤ w'.heap.size) => changePort_any x hr (by omega) (by omega) s n P w' B h hB hn)
  have HX := Lib.hid (show x.cells.size = 10 from rfl)
  clear v hb hv hs hB hw
  generalize x.cells = X at *
  generalize okE n x = E at *
  generalize (if E = 0 then stQ x P else P) = P' at *
  go_enter Tryz.func19, Tryz.ntmps19
  go_wp2_with fail
  generalize w.alloc (.cells X 33) = W at *
  refine wp_region_held_drew (S := fun w' => VarAt w' w.heap.size X 33 ∧ VarAt w' vb (c.cells s) 28) (by kernel_rfl) HS0.out (fun hS => ?_)
  refine wpAnyH_take (i := 0) (v := .agg X) rfl (by kernel_rfl) (by kernel_rfl) (by kernel_rfl) (fun _ _ _ h => h) (yields33 HX.out (by rfl) _ rfl rfl (fun w9 h9 => h9.1)) hS ?_
  try simp only [Act.put, List.getElem_toArray, List.getElem_cons_zero, List.getElem_cons_succ, List.setIfInBounds_toArray, List.set_cons_zero, List.set_cons_succ]
  refine wpAnyH_take (i := 1) (v := ?_) rfl (by kernel_rfl) (by kernel_rfl) (by kernel_rfl) (fun _ _ _ h => h) (Or.inl ⟨by rfl, ?_⟩) hS ?_
  rotate_left
  · (intro w9 hS9; go_simp; try with_reducible rfl)
  try simp only [Act.put, List.getElem_toArray, List.getElem_cons_zero, List.getElem_cons_succ, List.setIfInBounds_toArray, List.set_cons_zero, List.set_cons_succ]
  refine wpAnyH_take (i := 2) (v := ?_) rfl (by kernel_rfl) (by kernel_rfl) (by kernel_rfl) (fun _ _ _ h => h) (Or.inl ⟨by rfl, ?_⟩) hS ?_
  rotate_left
  · (intro w9 hS9; go_simp; try with_reducible rfl)
  try simp only [Act.put, List.getElem_toArray, List.getElem_cons_zero, List.getElem_cons_succ, List.setIfInBounds_toArray, List.set_cons_zero, List.set_cons_succ]
  refine wpAnyH_take (i := 3) (v := ?_) rfl (by kernel_rfl) (by kernel_rfl) (by kernel_rfl) (fun _ _ _ h => h) (Or.inl ⟨by rfl, ?_⟩) hS ?_
  rotate_left
  · (intro w9 hS9; go_simp; try with_reducible rfl)
  try simp only [Act.put, List.getElem_toArray, List.getElem_cons_zero, List.getElem_cons_succ, List.setIfInBounds_toArray, List.set_cons_zero, List.set_cons_succ]
  refine wpAnyH_take (i := 4) (v := ?_) rfl (by kernel_rfl) (by kernel_rfl) (by kernel_rfl) (fun _ _ _ h => h) (Or.inl ⟨by rfl, ?_⟩) hS ?_
  rotate_left
  · (intro w9 hS9; have q : w9.cell? ⟨vb, 14, none⟩ = some s := hS9.2.cell 14; go_simp; try with_reducible rfl)
  try simp only [Act.put, List.getElem_toArray, List.getElem_cons_zero, List.getElem_cons_succ, List.setIfInBounds_toArray, List.set_cons_zero, List.set_cons_succ]
  refine wpAnyH_ready (rs := [5]) (by kernel_rfl) (by simp) (AllReadyH.cons rfl (fun K hK => ?_) AllReadyH.nil)
  go_simp
  refine (cp.out _ HG.out HZ.out).mono ?_
  rintro e w1 ⟨rfl, hg1, hb1, hk1⟩
  have HG1 := Lib.hid hg1
  have HB1 := Lib.hid (HB.out.trans hb1)
  refine hK.out _ _ ⟨(hk1 _ hS.1.lt HN.out).trans hS.1, (hk1 _ hS.2.lt hne).trans hS.2⟩ (fun hS => ?_)
  have HV1 := Lib.hid hS.2
  clear hK cp K hg1 hb1 hk1 HG HB HS0
  refine wpAnyH_take (i := 6) (v := ?_) rfl (by kernel_rfl) (by kernel_rfl) (by kernel_rfl) (fun _ _ _ h => h) (Or.inl ⟨by rfl, ?_⟩) hS ?_
  rotate_left
  · (intro w9 hS9; go_simp; try with_reducible rfl)
  try simp only [Act.put, List.getElem_toArray, List.getElem_cons_zero, List.getElem_cons_succ, List.setIfInBounds_toArray, List.set_cons_zero, List.set_cons_succ]
  refine wpAnyH_done (by kernel_rfl) ?_ _
  go_wp2_with fail
  go_ret
  exact ⟨rfl, HG1.out, HB1.out, HV1.out⟩
theorem stQ_lo (x : Cd.Cm) (P : Nat → Pc) (h : x.wh ≤ 6) : stQ x P = P := by
  funext i; unfold stQ; rw [if_neg (by omega)]
theorem stC_hi (x : Cd.Cm) (c : Cf) (h : 7 ≤ x.wh) : stC x c = c := by
  unfold stC
  rw [if_neg (by omega), if_neg (by omega), if_neg (by omega), if_neg (by omega), if_neg (by omega), if_neg (by omega), if_neg (by omega)]
theorem GS.setOther {w : World} {B n : Nat} {s : Value} {P : Nat → Pc} (h : GS w B s n P) {vb : Nat} (hne : ∀ g n c, s = .slice (some ⟨g, 0, none⟩) n c → vb ≠ g) (k : Nat) (u : Value) : GS (w.setCell ⟨vb, k, none⟩ u) B s n P := by
  rcases h with h | ⟨g, c, e, hg, A, hv, hs, hc⟩
  · exact .inl h
  · exact .inr ⟨g, c, e, hg, A, hv.set_other (p := ⟨vb, k, none⟩) (fun h => hne g n c e h.symm) u, hs, hc⟩
theorem change_any (x : Cd.Cm) (hr : Cd.Rt x) (c : Cf) (s : Value) (n : Nat) (P : Nat → Pc) (vb B : Nat) (w : World) (hv : VarAt w vb (c.cells s) 28) (hs : GS w B s n P) (hB : B ≤ vb) (hne : ∀ g n c, s = .slice (some ⟨g, 0, none⟩) n c → vb ≠ g) (hn : n ≤ 20) :
    Calls Tryz.prog 19 #[.agg x.cells, .pointer (some ⟨vb, 0, none⟩)] w fun e w' => e = .returned (.int .i64 (stE n x)) ∧ VarAt w' vb ((if stE n x = 0 then stC x c else c).cells s) 28 ∧ GS w' B s n (if stE n x = 0 then stQ x P else P) ∧ Below B w w' := by
  have hw0 := hr.w0
  have hw1 := hr.w1
  have hBw : B ≤ w.heap.size := Nat.le_trans hB (Nat.le_of_lt hv.lt)
  by_cases h6 : x.wh ≤ 6
  · have hE : stE n x = 0 := by unfold stE; rw [if_pos h6]
    rw [hE, if_pos rfl, if_pos rfl, stQ_lo x P h6]
    have fin : ∀ (k : Nat) (v : Value), (stC x c).cells s = (c.cells s).setIfInBounds k v → ∀ e w', (e = Ending.returned (.int .i64 0) ∧ ∃ w1, Below w.heap.size w w1 ∧ w' = w1.setCell ⟨vb, k, none⟩ v) →
        e = .returned (.int .i64 0) ∧ VarAt w' vb ((stC x c).cells s) 28 ∧ GS w' B s n P ∧ Below B w w' := by
      rintro k v hc e w' ⟨rfl, w1, hb, rfl⟩
      exact ⟨rfl, by rw [hc]; exact (hv.below hb hv.lt).set k v, (hs.below hb (Nat.le_refl _)).setOther hne k v, (hb.mono hBw).setCell hB v⟩
    obtain ⟨wh, po, nn, on, mx⟩ := x
    simp only at h6 hw0
    rcases (show wh = 0 ∨ wh = 1 ∨ wh = 2 ∨ wh = 3 ∨ wh = 4 ∨ wh = 5 ∨ wh = 6 by omega) with rfl | rfl | rfl | rfl | rfl | rfl | rfl
    · exact (change_0 po nn on mx c s vb w hv).mono (fin 6 _ rfl)
    · exact (change_1 po nn on mx c s vb w hv).mono (fin 8 _ rfl)
    · exact (change_2 po nn on mx c s vb w hv).mono (fin 9 _ rfl)
    · exact (change_3 po nn on mx c s vb w hv).mono (fin 10 _ rfl)
    · exact (change_4 po nn on mx c s vb w hv).mono (fin 11 _ rfl)
    · exact (change_5 po nn on mx c s vb w hv).mono (fin 12 _ rfl)
    · exact (change_6 po nn on mx c s vb w hv).mono (fin 13 _ rfl)
  · by_cases h11 : x.wh ≤ 11
    · have hE : stE n x = okE n x := by unfold stE okE; rw [if_neg h6, if_pos h11]
      have hC : (if okE n x = 0 then stC x c else c) = c := by rw [stC_hi x c (by omega)]; split <;> rfl
      rw [hE, hC]
      have fin : ∀ e w', (e = Ending.returned (.int .i64 (okE n x)) ∧ GS w' B s n (if okE n x = 0 then stQ x P else P) ∧ Below B w w' ∧ VarAt w' vb (c.cells s) 28) →
          e = .returned (.int .i64 (okE n x)) ∧ VarAt w' vb (c.cells s) 28 ∧ GS w' B s n (if okE n x = 0 then stQ x P else P) ∧ Below B w w' := fun e w' ⟨a, b, d, f⟩ => ⟨a, f, b, d⟩
      rcases (show x.wh = 7 ∨ x.wh = 8 ∨ x.wh = 9 ∨ x.wh = 10 ∨ x.wh = 11 by omega) with e | e | e | e | e
      · exact (change_7 x hr e c s n P vb B w hv hs hBw hne hn).mono fin
      · exact (change_8 x hr e c s n P vb B w hv hs hBw hne hn).mono fin
      · exact (change_9 x hr e c s n P vb B w hv hs hBw hne hn).mono fin
      · exact (change_10 x hr e c s n P vb B w hv hs hBw hne hn).mono fin
      · exact (change_11 x hr e c s n P vb B w hv hs hBw hne hn).mono fin
    · have hE : stE n x = 1 := by unfold stE; rw [if_neg h6, if_neg h11]
      rw [hE, if_neg (by decide), if_neg (by decide)]
      refine (change_not x (by omega) _ w).mono ?_
      rintro e w' ⟨rfl, hb⟩
      exact ⟨rfl, hv.below hb hv.lt, hs.below hb (Nat.le_refl _), hb.mono hBw⟩
end Go.Proofs.YtlmdpaemhjcmbaaGreatDoor
