/- Slices of ports of one's own, or none; Clone and Copy of any setting; what a command does to a setting. -/
import Derived.Test.YtlmdpaemhjcmbaaGreatDoorW
import Derived.Test.YtlmdpaemhjcmbaaGreatDoorDRg
namespace Go.Proofs.YtlmdpaemhjcmbaaGreatDoor
open Go.RowKit Go.Sort

/-- A slice of ports that this call has made, or none at all. -/
def GS (w : World) (B : Nat) (s : Value) (n : Nat) (P : Nat → Pc) : Prop := (s = .slice none 0 0 ∧ n = 0) ∨ ∃ g c, s = .slice (some ⟨g, 0, none⟩) n c ∧ B ≤ g ∧ Own5 w g n P
theorem GS.below {w w' : World} {B B' n : Nat} {s : Value} {P : Nat → Pc} (h : GS w B s n P) (hb : Below B' w w') (hB : w.heap.size ≤ B') : GS w' B s n P := by
  rcases h with h | ⟨g, c, e, hg, ho⟩
  · exact .inl h
  · exact .inr ⟨g, c, e, hg, ho.below hb (Nat.lt_of_lt_of_le ho.lt hB)⟩
theorem GS.weak {w : World} {B B' n : Nat} {s : Value} {P : Nat → Pc} (h : GS w B s n P) (hB : B' ≤ B) : GS w B' s n P := by
  rcases h with h | ⟨g, c, e, hg, ho⟩
  · exact .inl h
  · exact .inr ⟨g, c, e, Nat.le_trans hB hg, ho⟩
theorem GS.qin {w : World} {B n : Nat} {s : Value} {P : Nat → Pc} (h : GS w B s n P) : QIn w s n P := by
  rcases h with ⟨rfl, rfl⟩ | ⟨g, c, rfl, _, ho⟩
  · exact ⟨none, 0, rfl, fun _ => ⟨rfl, rfl⟩, fun h => absurd h (by omega)⟩
  · exact ho.in
theorem GS.slice {w : World} {B n : Nat} {s : Value} {P : Nat → Pc} (h : GS w B s n P) : ∃ a c, s = .slice a n c := by
  rcases h with ⟨rfl, rfl⟩ | ⟨g, c, rfl, _, _⟩
  · exact ⟨_, _, rfl⟩
  · exact ⟨_, _, rfl⟩
theorem clone_nil (w : World) : Calls Tryz.prog 18 #[.slice none 0 0] w fun e w' => e = .returned (.slice none 0 0) ∧ w = w' := by
  have eN : ∀ w, (binOp .eql 26 (.slice none 0 0) (.slice none 0 0)).run Tryz.prog w = .ok (.bool true) w := fun w => by kernel_rfl
  go_enter Tryz.func18, Tryz.ntmps18
  go_wp2_with fail
  go_ret
  exact ⟨rfl, rfl⟩
theorem clone_gs (s : Value) (n : Nat) (P : Nat → Pc) (w : World) (hs : QIn w s n P) (hn : n ≤ 20) :
    Calls Tryz.prog 18 #[s] w fun e w' => ∃ s', e = .returned s' ∧ GS w' w.heap.size s' n P ∧ Below w.heap.size w w' := by
  have hs' := hs
  obtain ⟨a, c, rfl, h0, _⟩ := hs
  cases a with
  | none =>
    obtain ⟨rfl, rfl⟩ := h0 rfl
    refine (clone_nil w).mono ?_
    rintro e w' ⟨rfl, rfl⟩
    exact ⟨_, rfl, .inl ⟨rfl, rfl⟩, Below.refl _ _⟩
  | some ad =>
    refine (clone_any ad n c P w hs' hn).mono ?_
    rintro e w' ⟨g, c', rfl, hg, ho, hb⟩
    exact ⟨_, rfl, .inr ⟨g, c', rfl, hg, ho⟩, hb⟩
set_option maxRecDepth 20000 in
set_option maxHeartbeats 1000000 in
theorem copy_nil (c : Cf) (w : World) :
    Calls Tryz.prog 8 #[.agg (c.cells (.slice none 0 0))] w fun e w' => e = .returned (.agg (c.cells (.slice none 0 0))) ∧ Below w.heap.size w w' := by
  have C0 := Lib.hid ((var_new w (c.cells (.slice none 0 0)) 28).alloc (.cells zC 28))
  have Z0 := Lib.hid (show VarAt ((w.alloc (.cells (c.cells (.slice none 0 0)) 28)).alloc (.cells zC 28)) (w.heap.size + 1) zC 28 by
    have := var_new (w.alloc (.cells (c.cells (.slice none 0 0)) 28)) zC 28
    rwa [alloc_size] at this)
  have HB := Lib.hid (show Below w.heap.size w ((w.alloc (.cells (c.cells (.slice none 0 0)) 28)).alloc (.cells zC 28)) from ((Below.refl w.heap.size w).alloc (Nat.le_refl _) _).alloc (by rw [alloc_size]; omega) _)
  have f14 : ((w.alloc (.cells (c.cells (.slice none 0 0)) 28)).alloc (.cells zC 28)).cell? ⟨w.heap.size, 14, none⟩ = some (.slice none 0 0) := C0.out.cell 14
  have fz := C0.out.frozen
  have CX := Lib.hid (show VarAt (((w.alloc (.cells (c.cells (.slice none 0 0)) 28)).alloc (.cells zC 28)).setCell ⟨w.heap.size, 14, none⟩ (.slice none 0 0)) w.heap.size (c.cells (.slice none 0 0)) 28 from C0.out.set 14 _)
  have CL := Lib.hid (Cf.size c (.slice none 0 0))
  have CO := Lib.hid (Cf.one c (s := .slice none 0 0) rfl)
  generalize c.cells (.slice none 0 0) = C at *
  go_enter Tryz.func8, Tryz.ntmps8
  go_wp2_with fail
  generalize (w.alloc (.cells C 28)).alloc (.cells zC 28) = W at *
  refine (clone_nil _).mono ?_
  rintro e w1 ⟨rfl, rfl⟩
  go_wp2_with (with_reducible refine stopL 28 _ rfl ?_)
  have Z3 := Z0.out.set_other (p := ⟨w.heap.size, 14, none⟩) (show w.heap.size + 1 ≠ w.heap.size by omega) (.slice none 0 0)
  have HB3 := HB.out.setCell (p := ⟨w.heap.size, 14, none⟩) (Nat.le_refl _) (.slice none 0 0)
  clear f14 fz C0 Z0 HB
  generalize W.setCell ⟨w.heap.size, 14, none⟩ (.slice none 0 0) = w4 at *
  refine Lib.hid ?_
  refine wpList_load_whole uC rfl sC rfl _ rfl rfl (range_whole CX.out) CL.out ?_
  refine wpList_store_whole sC rfl _ _ rfl rfl rfl Z3 CO.out CL.out (by simp) ?_
  intro w5 hv5 hb5 ho5 _
  rw [putL_all _ _ (by rw [CL.out]; rfl)] at hv5
  have V6 := Lib.hid hv5
  have B7 := Lib.hid (hb5 w.heap.size w (by omega) HB3)
  clear hv5 ho5 hb5 Z3 HB3
  go_wp2_with (with_reducible refine stopE ?_)
  refine Lib.hid ?_
  exact bodyPost_ret (v := .agg C) (results_cell_row (p := 2) (ty := 28) rfl _ _ (w.heap.size + 1) 28 _ (0, 0) _ rfl V6.out uC rfl (by rw [sC]; simp [CL.out])) rfl ⟨rfl, B7.out⟩
theorem copy_gs (c : Cf) (s : Value) (n : Nat) (P : Nat → Pc) (w : World) (hs : QIn w s n P) (hn : n ≤ 20) :
    Calls Tryz.prog 8 #[.agg (c.cells s)] w fun e w' => ∃ s', e = .returned (.agg (c.cells s')) ∧ GS w' w.heap.size s' n P ∧ Below w.heap.size w w' := by
  have hs' := hs
  obtain ⟨a, cp, rfl, h0, _⟩ := hs
  cases a with
  | none =>
    obtain ⟨rfl, rfl⟩ := h0 rfl
    refine (copy_nil c w).mono ?_
    rintro e w' ⟨rfl, hb⟩
    exact ⟨_, rfl, .inl ⟨rfl, rfl⟩, hb⟩
  | some ad =>
    refine (copyC_any c ad n cp P w hs' hn).mono ?_
    rintro e w' ⟨g, c', rfl, hg, ho, hb⟩
    exact ⟨_, rfl, .inr ⟨g, c', rfl, hg, ho⟩, hb⟩

/-- A command does to a bridge's own setting. -/
def stC (x : Cd.Cm) (c : Cf) : Cf :=
  if x.wh = 0 then { c with pr := x.nn } else if x.wh = 1 then { c with m := x.nn } else if x.wh = 2 then { c with h := x.nn } else if x.wh = 3 then { c with d := x.nn }
  else if x.wh = 4 then { c with ho := x.nn } else if x.wh = 5 then { c with rs := x.on } else if x.wh = 6 then { c with ag := x.nn } else c
/-- .. to a port's. -/
def stP (x : Cd.Cm) (p : Pc) : Pc :=
  if x.wh = 7 then { p with pr := x.nn } else if x.wh = 8 then { p with co := x.nn.toNat } else if x.wh = 9 then { p with ed := x.on } else if x.wh = 10 then { p with au := x.on } else if x.wh = 11 then { p with pt := x.nn } else p
/-- .. to all ports. -/
def stQ (x : Cd.Cm) (P : Nat → Pc) : Nat → Pc := fun i => if 7 ≤ x.wh ∧ x.wh ≤ 11 ∧ ((i : Int) + 1 = x.po) then stP x (P i) else P i
/-- What is wrong with it. -/
def stE (n : Nat) (x : Cd.Cm) : Int := if x.wh ≤ 6 then 0 else if x.wh ≤ 11 then (if 1 ≤ x.po ∧ x.po ≤ n then 0 else 6) else 1
/-- Commands, one behind the other. -/
def runE (n : Nat) (L : Nat → Cd.Cm) : Nat → Int
  | 0 => 0
  | k + 1 => if runE n L k = 0 then stE n (L k) else runE n L k
def runC (n : Nat) (L : Nat → Cd.Cm) (c : Cf) : Nat → Cf
  | 0 => c
  | k + 1 => if runE n L k = 0 ∧ stE n (L k) = 0 then stC (L k) (runC n L c k) else runC n L c k
def runP (n : Nat) (L : Nat → Cd.Cm) (P : Nat → Pc) : Nat → (Nat → Pc)
  | 0 => P
  | k + 1 => if runE n L k = 0 ∧ stE n (L k) = 0 then stQ (L k) (runP n L P k) else runP n L P k
theorem runE_bad {n : Nat} {L : Nat → Cd.Cm} {k : Nat} (h : runE n L k ≠ 0) : ∀ j, k ≤ j → runE n L j = runE n L k
  | 0, hj => by rw [show k = 0 by omega]
  | j + 1, hj => by
    by_cases e : k = j + 1
    · rw [e]
    · have ih := runE_bad h j (by omega)
      rw [runE, if_neg (by rw [ih]; exact h), ih]
end Go.Proofs.YtlmdpaemhjcmbaaGreatDoor
