/- Contracts of PathCost, TwoEnds and Apply. -/
import Derived.Test.YtiebiajpeocecaaM
import Derived.Test.YtiebiajpeocecaaFt
namespace Go.Proofs.Ytiebiajpeocecaa
open Go.RowKit Go.Sort

/-- A link: its speed, by its bits, and whether it has two ends. -/
abbrev lkV (s : Nat) (two : Bool) : Value := .agg #[.float .f64 s, .bool two]
/-- What the way through a port costs. -/
def costP (p : Pc) (s : Nat) : Nat := if p.co = 0 then (if rt s then costX s else 200000000) else p.co
set_option maxRecDepth 20000 in
set_option maxHeartbeats 1000000 in
theorem pathCost_any (p : Pc) (s : Nat) (two : Bool) (w : World) : Calls Try.prog 15 #[p.val, lkV s two] w fun e w' => e = .returned (.int .u32 (costP p s)) ∧ Below w.heap.size w w' := by
  obtain ⟨pr, co, ed, au, pt⟩ := p
  have hb := Lib.hid (((Below.refl w.heap.size w).alloc (Nat.le_refl _) (.cells (⟨pr, co, ed, au, pt⟩ : Pc).cells 34)).alloc (by rw [alloc_size]; omega) (.cells #[.float .f64 s, .bool two] 61))
  by_cases h0 : co = 0
  · subst h0
    cases hr : rt s
    · have HE : Hid (costP ⟨pr, 0, ed, au, pt⟩ s = 200000000) := Lib.hid (by unfold costP; simp [hr])
      have c := fun w => cost_bad s w hr
      unfold cEnd at c
      clear hr
      go_enter Try.func15, Try.ntmps15
      go_wp2_with (first | (go_at_call 27; refine (c _).mono ?_; rintro e w' ⟨rfl, rfl⟩))
      go_ret
      exact ⟨ret_int (by rw [HE.out]; rfl), hb.out⟩
    · have HE : Hid (costP ⟨pr, 0, ed, au, pt⟩ s = costX s) := Lib.hid (by unfold costP; simp [hr])
      have c := fun w => cost_rt s w hr
      unfold cEnd at c
      clear hr
      go_enter Try.func15, Try.ntmps15
      go_wp2_with (first | (go_at_call 27; refine (c _).mono ?_; rintro e w' ⟨rfl, rfl⟩))
      go_ret
      exact ⟨ret_int (by rw [HE.out]), hb.out⟩
  · have HE : Hid (costP ⟨pr, co, ed, au, pt⟩ s = co) := Lib.hid (by unfold costP; simp [h0])
    have h1 : ((co : Int) != 0) = true := by simp [h0]
    clear h0
    go_enter Try.func15, Try.ntmps15
    go_wp2_with fail
    go_ret
    exact ⟨ret_int (by rw [HE.out]), hb.out⟩
/-- Does a port's link count as one of two ends? -/
def twoP (p : Pc) (two : Bool) : Bool := p.pt == 1 || (p.pt != 2 && two)
set_option maxHeartbeats 1000000 in
theorem twoEnds_any (p : Pc) (s : Nat) (two : Bool) (w : World) : Calls Try.prog 16 #[p.val, lkV s two] w fun e w' => e = .returned (.bool (twoP p two)) ∧ Below w.heap.size w w' := by
  obtain ⟨pr, co, ed, au, pt⟩ := p
  have hb := Lib.hid (((Below.refl w.heap.size w).alloc (Nat.le_refl _) (.cells (⟨pr, co, ed, au, pt⟩ : Pc).cells 34)).alloc (by rw [alloc_size]; omega) (.cells #[.float .f64 s, .bool two] 61))
  unfold twoP
  simp only
  cases h1 : (pt == 1)
  · cases h2 : (pt == 2)
    · go_enter Try.func16, Try.ntmps16
      go_wp2_with fail
      go_ret
      exact ⟨ret_bool (by simp [bne, h2]), hb.out⟩
    · go_enter Try.func16, Try.ntmps16
      go_wp2_with fail
      go_ret
      exact ⟨ret_bool (by simp [bne, h2]), hb.out⟩
  · go_enter Try.func16, Try.ntmps16
    go_wp2_with fail
    go_ret
    exact ⟨ret_bool (by simp), hb.out⟩
/-- A port's identifier, and what is wrong with it. -/
def idP (p k : Int) : Nat := if ptB p k then p.toNat / 16 * 4096 + k.toNat else 0
def erP (p k : Int) : Int := if ptB p k then 0 else 4
theorem port_any (p k : Int) (w : World) : Calls Try.prog 26 #[.int .i64 p, .int .i64 k] w fun e w' => e = .returned (.tuple #[.int .u16 (idP p k), .int .i64 (erP p k)]) ∧ w = w' := by
  unfold idP erP
  cases h : ptB p k
  · exact port_not p k h w
  · obtain ⟨q, rfl⟩ : ∃ q : Nat, p = q := ⟨p.toNat, by unfold ptB stB at h; simp at h; omega⟩
    obtain ⟨r, rfl⟩ : ∃ r : Nat, k = r := ⟨k.toNat, by unfold ptB at h; simp at h; omega⟩
    exact port_ok q r h w
theorem VarAt.cells5 {w : World} {b : Nat} {p : Pc} (h : VarAt w b p.cells 34) : w.cell? ⟨b, 0, none⟩ = some (.int .i64 p.pr) ∧ w.cell? ⟨b, 1, none⟩ = some (.int .u32 p.co) ∧ w.cell? ⟨b, 2, none⟩ = some (.bool p.ed) ∧ w.cell? ⟨b, 3, none⟩ = some (.bool p.au) ∧ w.cell? ⟨b, 4, none⟩ = some (.int .i64 p.pt) := ⟨h.cell 0, h.cell 1, h.cell 2, h.cell 3, h.cell 4⟩
theorem VarAt.cells2 {w : World} {b : Nat} {s : Nat} {two : Bool} (h : VarAt w b #[.float .f64 s, .bool two] 61) : w.cell? ⟨b, 0, none⟩ = some (.float .f64 s) ∧ w.cell? ⟨b, 1, none⟩ = some (.bool two) := ⟨h.cell 0, h.cell 1⟩
theorem VarAt.some {w : World} {b : Nat} {xs : Array Value} {t : TypeId} (h : VarAt w b xs t) {k : Nat} (hk : k < xs.size) : ∃ v, w.cell? ⟨b, k, none⟩ = Option.some v := ⟨_, (h.cell k).trans (Array.getElem?_eq_getElem hk)⟩
/-- The five cells of a port that are set. -/
def newA (xs : Array Value) (id cost : Nat) (ed au two : Bool) : Array Value := ((((xs.setIfInBounds 0 (.int .u16 id)).setIfInBounds 1 (.int .u32 cost)).setIfInBounds 3 (.bool ed)).setIfInBounds 4 (.bool au)).setIfInBounds 5 (.bool two)
set_option maxRecDepth 20000 in
set_option maxHeartbeats 2000000 in
theorem apply_any (p : Pc) (s : Nat) (two : Bool) (k : Int) (xs : Array Value) (b Bl : Nat) (w : World) (hv : VarAt w b xs 54) (hx : xs.size = 90) (hB : Bl ≤ b) : Calls Try.prog 14 #[p.val, .pointer (some ⟨b, 0, none⟩), .int .i64 k, lkV s two] w fun e w' => e = .returned (.tuple #[]) ∧ VarAt w' b (newA xs (idP p.pr k) (costP p s) p.ed p.au (twoP p two)) 54 ∧ Below Bl w w' ∧ ∀ q ys t, q ≠ b → VarAt w q ys t → VarAt w' q ys t := by
  have c1 := port_any p.pr k
  have c2 := pathCost_any p s two
  have c3 := twoEnds_any p s two
  obtain ⟨pr, co, ed, au, pt⟩ := p
  simp only at *
  unfold newA
  have hsz : b < w.heap.size := hv.lt
  generalize idP pr k = I at *
  generalize erP pr k = R at *
  generalize costP ⟨pr, co, ed, au, pt⟩ s = C at *
  generalize twoP ⟨pr, co, ed, au, pt⟩ two = T at *
  have P0 := Lib.hid ((var_new w (⟨pr, co, ed, au, pt⟩ : Pc).cells 34).alloc (.cells #[.float .f64 s, .bool two] 61))
  have L0 := Lib.hid (show VarAt ((w.alloc (.cells (⟨pr, co, ed, au, pt⟩ : Pc).cells 34)).alloc (.cells #[.float .f64 s, .bool two] 61)) (w.heap.size + 1) #[.float .f64 s, .bool two] 61 by
    have := var_new (w.alloc (.cells (⟨pr, co, ed, au, pt⟩ : Pc).cells 34)) #[.float .f64 s, .bool two] 61
    rwa [alloc_size] at this)
  have V := Lib.hid ((hv.alloc (.cells (⟨pr, co, ed, au, pt⟩ : Pc).cells 34)).alloc (.cells #[.float .f64 s, .bool two] 61))
  have HO := Lib.hid (fun q ys t (h : VarAt w q ys t) => (h.alloc (.cells (⟨pr, co, ed, au, pt⟩ : Pc).cells 34)).alloc (.cells #[.float .f64 s, .bool two] 61))
  have HB := Lib.hid (show Below Bl w ((w.alloc (.cells (⟨pr, co, ed, au, pt⟩ : Pc).cells 34)).alloc (.cells #[.float .f64 s, .bool two] 61)) from ((Below.refl Bl w).alloc (by omega) _).alloc (by rw [alloc_size]; omega) _)
  clear hv
  go_enter Try.func14, Try.ntmps14
  obtain ⟨b0, b1, b2, b3, b4⟩ := P0.out.cells5
  go_wp2_with fail
  generalize (w.alloc (.cells (⟨pr, co, ed, au, pt⟩ : Pc).cells 34)).alloc (.cells #[.float .f64 s, .bool two] 61) = W at *
  refine (c1 _).mono ?_
  rintro e w' ⟨rfl, rfl⟩
  obtain ⟨v0, f0⟩ := V.out.some (k := 0) (by omega)
  have fz := V.out.frozen
  clear b0 b1 b2 b3 b4 c1
  go_wp2_with (with_reducible refine stopL 34 _ rfl ?_)
  clear f0 fz
  have V1 := Lib.hid (V.out.set 0 (.int .u16 I))
  have P1 := Lib.hid (P0.out.set_other (p := ⟨b, 0, none⟩) (show w.heap.size ≠ b by omega) (.int .u16 I))
  have L1 := Lib.hid (L0.out.set_other (p := ⟨b, 0, none⟩) (show w.heap.size + 1 ≠ b by omega) (.int .u16 I))
  have HB1 := Lib.hid (HB.out.setCell (p := ⟨b, 0, none⟩) hB (.int .u16 I))
  have HO1 := Lib.hid (fun q ys t (hq : q ≠ b) (h : VarAt w q ys t) => (HO.out q ys t h).set_other (p := ⟨b, 0, none⟩) hq (.int .u16 I))
  generalize W.setCell ⟨b, 0, none⟩ (.int .u16 I) = W1 at *
  clear V P0 L0 HB
  obtain ⟨b0, b1, b2, b3, b4⟩ := P1.out.cells5
  obtain ⟨d0, d1⟩ := L1.out.cells2
  refine Lib.hid ?_
  go_wp2_with fail
  clear b0 b1 b2 b3 b4 d0 d1
  refine (c2 _).mono ?_
  rintro e w2 ⟨rfl, hb⟩
  have hl := V1.out.lt
  have V2 := Lib.hid (V1.out.below hb V1.out.lt)
  have P2 := Lib.hid (P1.out.below hb P1.out.lt)
  have L2 := Lib.hid (L1.out.below hb L1.out.lt)
  have HO2 := Lib.hid (fun q ys t (hq : q ≠ b) (h : VarAt w q ys t) => (HO1.out q ys t hq h).below hb (HO1.out q ys t hq h).lt)
  have HB2 := Lib.hid (HB1.out.trans (hb.mono (Nat.le_trans hB (Nat.le_of_lt V1.out.lt))))
  clear hb V1 P1 L1 HB1 c2
  obtain ⟨v0, f0⟩ := V2.out.some (k := 1) (by simp only [Array.size_setIfInBounds]; omega)
  have fz := V2.out.frozen
  obtain ⟨b0, b1, b2, b3, b4⟩ := P2.out.cells5
  obtain ⟨d0, d1⟩ := L2.out.cells2
  obtain ⟨v3, f3⟩ := V2.out.some (k := 3) (by simp only [Array.size_setIfInBounds]; omega)
  obtain ⟨v4, f4⟩ := V2.out.some (k := 4) (by simp only [Array.size_setIfInBounds]; omega)
  have hne : ¬ b = w.heap.size := by omega
  have hne1 : ¬ b = w.heap.size + 1 := by omega
  have hne2 : ¬ w.heap.size = b := by omega
  have hne3 : ¬ w.heap.size + 1 = b := by omega
  go_wp2_with fail
  have V5 := Lib.hid (((V2.out.set 1 (.int .u32 C)).set 3 (.bool ed)).set 4 (.bool au))
  have HB5 := Lib.hid (((HB2.out.setCell (p := ⟨b, 1, none⟩) hB (.int .u32 C)).setCell (p := ⟨b, 3, none⟩) hB (.bool ed)).setCell (p := ⟨b, 4, none⟩) hB (.bool au))
  have HO5 := Lib.hid (fun q ys t (hq : q ≠ b) (h : VarAt w q ys t) => (((HO2.out q ys t hq h).set_other (p := ⟨b, 1, none⟩) hq (.int .u32 C)).set_other (p := ⟨b, 3, none⟩) hq (.bool ed)).set_other (p := ⟨b, 4, none⟩) hq (.bool au))
  clear b0 b1 b2 b3 b4 d0 d1 f0 f3 f4 fz V2 P2 L2 HB2 hne hne1 hne2 hne3
  generalize ((w2.setCell ⟨b, 1, none⟩ (.int .u32 C)).setCell ⟨b, 3, none⟩ (.bool ed)).setCell ⟨b, 4, none⟩ (.bool au) = W5 at *
  refine (c3 _).mono ?_
  rintro e w6 ⟨rfl, hb⟩
  have V6 := Lib.hid (V5.out.below hb V5.out.lt)
  have HO6 := Lib.hid (fun q ys t (hq : q ≠ b) (h : VarAt w q ys t) => (HO5.out q ys t hq h).below hb (HO5.out q ys t hq h).lt)
  have HB6 := Lib.hid (HB5.out.trans (hb.mono (Nat.le_trans hB (Nat.le_of_lt V5.out.lt))))
  clear hb V5 HB5 c3
  obtain ⟨v0, f0⟩ := V6.out.some (k := 5) (by simp only [Array.size_setIfInBounds]; omega)
  have fz := V6.out.frozen
  go_wp2_with fail
  have V7 := V6.out.set 5 (.bool T)
  have HB7 := HB6.out.setCell (p := ⟨b, 5, none⟩) hB (.bool T)
  go_end0
  exact ⟨rfl, V7, HB7, fun q ys t hq h => (HO6.out q ys t hq h).set_other (p := ⟨b, 5, none⟩) hq _⟩
end Go.Proofs.Ytiebiajpeocecaa
