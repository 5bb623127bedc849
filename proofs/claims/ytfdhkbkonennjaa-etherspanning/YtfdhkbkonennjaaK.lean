/- The contracts of what ether.Read's closure calls: checkSize, readMac, readFrom, readNumber, bodySize. -/
import Derived.Test.YtfdhkbkonennjaaJ
namespace Go.Proofs.Ytfdhkbkonennjaa
open Go.RowKit Go.Sort

/-- The bytes of a list, as an address. -/
def byt (l : List UInt8) (i : Nat) : Nat := (l.getD i 0).toNat
theorem byt_lt (l : List UInt8) (i : Nat) : byt l i < 256 := (l.getD i 0).toNat_lt
theorem mac_of_num {l : List UInt8} (h : 6 ≤ l.length) : macV (ofN (numOf (l.take 6))) = macV (byt l) := by
  obtain ⟨a, b, c, d, e, f, m, rfl⟩ : ∃ a b c d e f m, l = a :: b :: c :: d :: e :: f :: m := by
    match l, h with
    | a :: b :: c :: d :: e :: f :: m, _ => exact ⟨a, b, c, d, e, f, m, rfl⟩
  have ha := a.toNat_lt; have hb := b.toNat_lt; have hc := c.toNat_lt; have hd := d.toNat_lt; have he := e.toNat_lt; have hf := f.toNat_lt
  simp only [macV, Value.agg.injEq, byt, ofN, numOf, List.take_succ_cons, List.take_zero, List.foldl_cons, List.foldl_nil, List.getD_cons_zero, List.getD_cons_succ, Nat.sub_self, Nat.reduceSub, Nat.reducePow, Nat.pow_zero]
  generalize a.toNat = a at *; generalize b.toNat = b at *; generalize c.toNat = c at *; generalize d.toNat = d at *; generalize e.toNat = e at *; generalize f.toNat = f at *
  congr 1
  simp only [List.cons.injEq, Value.int.injEq, true_and, and_true]
  refine ⟨?_, ?_, ?_, ?_, ?_, ?_⟩ <;> omega
theorem num2 {l : List UInt8} (h : 2 ≤ l.length) : numOf (l.take 2) = 256 * byt l 0 + byt l 1 := by
  obtain ⟨a, b, m, rfl⟩ : ∃ a b m, l = a :: b :: m := by
    match l, h with
    | a :: b :: m, _ => exact ⟨a, b, m, rfl⟩
  simp [byt, numOf]

/-- All blocks but one are as they were. -/
structure Kept (b : Nat) (w w' : World) : Prop where
  os : w'.os = w.os
  tape : w'.tape = w.tape
  output : w'.output = w.output
  size : w.heap.size ≤ w'.heap.size
  block : ∀ k, k < w.heap.size → k ≠ b → w'.heap[k]? = w.heap[k]?
theorem kept_of_below {b : Nat} {w w' : World} (h : Below w.heap.size w w') : Kept b w w' := ⟨h.os, h.tape, h.output, h.size, fun k hk _ => h.block k hk⟩
theorem Kept.below {b : Nat} {w w' : World} (h : Kept b w w') (hb : b ≤ w.heap.size) : Below b w w' := ⟨h.os, h.tape, h.output, h.size, fun k hk => h.block k (by omega) (by omega)⟩
theorem Kept.trans {b : Nat} {w w1 w2 : World} (h : Kept b w w1) (k : Kept b w1 w2) : Kept b w w2 :=
  ⟨k.os.trans h.os, k.tape.trans h.tape, k.output.trans h.output, Nat.le_trans h.size k.size, fun j hj hne => (k.block j (Nat.lt_of_lt_of_le hj h.size) hne).trans (h.block j hj hne)⟩
theorem Kept.set {b : Nat} {w w' : World} (h : Kept b w w') {a : Addr} (ha : w.heap.size ≤ a.block ∨ a.block = b) (u : Value) : Kept b w (w'.setCell a u) :=
  ⟨h.os, h.tape, h.output, by simpa [World.setCell] using h.size, fun k hk hne => by rw [Below.heap_setCell _ _ _ _ (by omega)]; exact h.block k hk hne⟩
theorem kept_of_adv {b : Nat} {w w' : World} {v : Value} (h : Adv b w v w') : Kept b w w' := by
  obtain ⟨w2, h1, rfl⟩ := h
  exact (kept_of_below (b := b) h1).set (a := ⟨b, 0, none⟩) (.inr rfl) v
theorem VarAt.kept {w w' : World} {k b : Nat} {xs : Array Value} {t : TypeId} (h : VarAt w k xs t) (hk : Kept b w w') (hne : k ≠ b) : VarAt w' k xs t := (hk.block k h.lt hne).trans h

abbrev six0 (w : World) (b : Nat) (x : Nat → Nat) : World := (((((w.setCell ⟨b, 0, none⟩ (.int .u8 (x 0))).setCell ⟨b, 1, none⟩ (.int .u8 (x 1))).setCell ⟨b, 2, none⟩ (.int .u8 (x 2))).setCell ⟨b, 3, none⟩ (.int .u8 (x 3))).setCell ⟨b, 4, none⟩ (.int .u8 (x 4))).setCell ⟨b, 5, none⟩ (.int .u8 (x 5))
abbrev six6 (w : World) (b : Nat) (x : Nat → Nat) : World := (((((w.setCell ⟨b, 6, none⟩ (.int .u8 (x 0))).setCell ⟨b, 7, none⟩ (.int .u8 (x 1))).setCell ⟨b, 8, none⟩ (.int .u8 (x 2))).setCell ⟨b, 9, none⟩ (.int .u8 (x 3))).setCell ⟨b, 10, none⟩ (.int .u8 (x 4))).setCell ⟨b, 11, none⟩ (.int .u8 (x 5))
theorem six0_below {B : Nat} {w0 w : World} {b : Nat} (x : Nat → Nat) (h : Below B w0 w) (hb : B ≤ b) : Below B w0 (six0 w b x) := (((((h.setCell (p := ⟨b, 0, none⟩) hb _).setCell (p := ⟨b, 1, none⟩) hb _).setCell (p := ⟨b, 2, none⟩) hb _).setCell (p := ⟨b, 3, none⟩) hb _).setCell (p := ⟨b, 4, none⟩) hb _).setCell (p := ⟨b, 5, none⟩) hb _
theorem six6_below {B : Nat} {w0 w : World} {b : Nat} (x : Nat → Nat) (h : Below B w0 w) (hb : B ≤ b) : Below B w0 (six6 w b x) := (((((h.setCell (p := ⟨b, 6, none⟩) hb _).setCell (p := ⟨b, 7, none⟩) hb _).setCell (p := ⟨b, 8, none⟩) hb _).setCell (p := ⟨b, 9, none⟩) hb _).setCell (p := ⟨b, 10, none⟩) hb _).setCell (p := ⟨b, 11, none⟩) hb _
theorem six0_other {w : World} {b k : Nat} {xs : Array Value} {t : TypeId} (x : Nat → Nat) (h : VarAt w k xs t) (hne : k ≠ b) : VarAt (six0 w b x) k xs t := (((((h.set_other (a := ⟨b, 0, none⟩) hne _).set_other (a := ⟨b, 1, none⟩) hne _).set_other (a := ⟨b, 2, none⟩) hne _).set_other (a := ⟨b, 3, none⟩) hne _).set_other (a := ⟨b, 4, none⟩) hne _).set_other (a := ⟨b, 5, none⟩) hne _
theorem six6_other {w : World} {b k : Nat} {xs : Array Value} {t : TypeId} (x : Nat → Nat) (h : VarAt w k xs t) (hne : k ≠ b) : VarAt (six6 w b x) k xs t := (((((h.set_other (a := ⟨b, 6, none⟩) hne _).set_other (a := ⟨b, 7, none⟩) hne _).set_other (a := ⟨b, 8, none⟩) hne _).set_other (a := ⟨b, 9, none⟩) hne _).set_other (a := ⟨b, 10, none⟩) hne _).set_other (a := ⟨b, 11, none⟩) hne _
theorem six0_fr {w : World} {b : Nat} {x0 y : Nat → Nat} {t : Nat} {v : Value} (x : Nat → Nat) (h : VarAt w b (frC x0 y t v) 27) : VarAt (six0 w b x) b (frC x y t v) 27 := (((((h.set 0 _).set 1 _).set 2 _).set 3 _).set 4 _).set 5 _
theorem six6_fr {w : World} {b : Nat} {x y0 : Nat → Nat} {t : Nat} {v : Value} (y : Nat → Nat) (h : VarAt w b (frC x y0 t v) 27) : VarAt (six6 w b y) b (frC x y t v) 27 := (((((h.set 6 _).set 7 _).set 8 _).set 9 _).set 10 _).set 11 _
theorem six0_kept {c : Nat} {w0 w : World} {b : Nat} (x : Nat → Nat) (h : Kept c w0 w) (hb : w0.heap.size ≤ b) : Kept c w0 (six0 w b x) := (((((h.set (a := ⟨b, 0, none⟩) (.inl hb) _).set (a := ⟨b, 1, none⟩) (.inl hb) _).set (a := ⟨b, 2, none⟩) (.inl hb) _).set (a := ⟨b, 3, none⟩) (.inl hb) _).set (a := ⟨b, 4, none⟩) (.inl hb) _).set (a := ⟨b, 5, none⟩) (.inl hb) _
theorem mac_cells {w : World} {b : Nat} {x : Nat → Nat} {t : TypeId} (h : VarAt w b #[.int .u8 (x 0), .int .u8 (x 1), .int .u8 (x 2), .int .u8 (x 3), .int .u8 (x 4), .int .u8 (x 5)] t) : w.cell? ⟨b, 0, none⟩ = some (.int .u8 (x 0)) ∧ w.cell? ⟨b, 1, none⟩ = some (.int .u8 (x 1)) ∧ w.cell? ⟨b, 2, none⟩ = some (.int .u8 (x 2)) ∧ w.cell? ⟨b, 3, none⟩ = some (.int .u8 (x 3)) ∧ w.cell? ⟨b, 4, none⟩ = some (.int .u8 (x 4)) ∧ w.cell? ⟨b, 5, none⟩ = some (.int .u8 (x 5)) := ⟨h.cell 0, h.cell 1, h.cell 2, h.cell 3, h.cell 4, h.cell 5⟩

/-- A reading that was stopped with a number. -/
def Stops (b s : Nat) (w : World) (x : Int) (e : Ending) (w' : World) : Prop := e = stopped s ∧ ∃ w2, Below b w w2 ∧ w' = w2.setCell ⟨s, 0, none⟩ (.int .i64 x)

theorem check_ok (b s : Nat) (v : Value) (l : List UInt8) (w : World) (hr : RdAt w b v s) (hv : Bts w b v l) (h1 : 60 ≤ l.length) (h2 : l.length ≤ 1514) :
    Calls Try.prog 23 #[ptr b] w fun x w' => x = .returned (.tuple #[]) ∧ w = w' := by
  have c := left_any b s v l b w hr hv
  clear hr hv
  go_enter Try.func23, Try.ntmps23
  go_wp2_with fail
  refine c.mono ?_; rintro e w1 ⟨rfl, rfl⟩
  go_wp2_with fail
  refine c.mono ?_; rintro e w1 ⟨rfl, rfl⟩
  go_wp2_with fail
  go_end0
  exact ⟨rfl, rfl⟩
theorem check_short (b s : Nat) (v : Value) (l : List UInt8) (w : World) (e0 : Int) (hr : RdAt w b v s) (hv : Bts w b v l) (hs : OneAt w s (.int .i64 e0) 66) (hsb : s < b) (h1 : l.length < 60) :
    Calls Try.prog 23 #[ptr b] w (Stops b s w 2) := by
  have c := left_any b s v l b w hr hv
  have c2 := stop_any b s v 2 e0 w hr hs hsb
  clear hr hv hs
  go_enter Try.func23, Try.ntmps23
  go_wp2_with fail
  refine c.mono ?_; rintro e w1 ⟨rfl, rfl⟩
  go_wp2_with fail
  refine c2.mono ?_; rintro e w1 ⟨rfl, rfl⟩
  exact ⟨rfl, rfl, _, Below.refl _ _, rfl⟩
theorem check_long (b s : Nat) (v : Value) (l : List UInt8) (w : World) (e0 : Int) (hr : RdAt w b v s) (hv : Bts w b v l) (hs : OneAt w s (.int .i64 e0) 66) (hsb : s < b) (h1 : 1514 < l.length) (h2 : l.length ≤ 10000) :
    Calls Try.prog 23 #[ptr b] w (Stops b s w 3) := by
  have c := left_any b s v l b w hr hv
  have c2 := stop_any b s v 3 e0 w hr hs hsb
  clear hr hv hs
  go_enter Try.func23, Try.ntmps23
  go_wp2_with fail
  refine c.mono ?_; rintro e w1 ⟨rfl, rfl⟩
  go_wp2_with fail
  refine c.mono ?_; rintro e w1 ⟨rfl, rfl⟩
  go_wp2_with fail
  refine c2.mono ?_; rintro e w1 ⟨rfl, rfl⟩
  exact ⟨rfl, rfl, _, Below.refl _ _, rfl⟩

/-- What a field that was read leaves of its reading. -/
def Took (b s : Nat) (w : World) (v : Value) (l : List UInt8) (n : Nat) (w' : World) : Prop := Kept b w w' ∧ ∃ v2, RdAt w' b v2 s ∧ Bts w' b v2 (l.drop n) ∧ ∀ A, Far A v → Far A v2

abbrev mac0 : Array Value := #[.int .u8 0, .int .u8 0, .int .u8 0, .int .u8 0, .int .u8 0, .int .u8 0]
theorem six0_mac {w : World} {b : Nat} {t : TypeId} (x : Nat → Nat) (h : VarAt w b mac0 t) : VarAt (six0 w b x) b #[.int .u8 (x 0), .int .u8 (x 1), .int .u8 (x 2), .int .u8 (x 3), .int .u8 (x 4), .int .u8 (x 5)] t := (((((h.set 0 _).set 1 _).set 2 _).set 3 _).set 4 _).set 5 _
set_option maxHeartbeats 1000000 in
theorem readMac_ok (b s : Nat) (v : Value) (l : List UInt8) (w : World) (hr : RdAt w b v s) (hv : Bts w b v l) (h6 : 6 ≤ l.length) (hl : l.length ≤ 10000) :
    Calls Try.prog 24 #[ptr b] w fun x w' => x = .returned (macV (byt l)) ∧ Took b s w v l 6 w' := by
  have hlt := hr.lt
  have hb := Lib.hid (box_below w (.cells mac0 23))
  have hz := Lib.hid (var_new w mac0 23)
  have c := number_ok b s v l 6 (w.alloc (.cells mac0 23)) (hr.alloc _) (hv.below (box_below _ _) (by omega)) h6 (by omega) (by omega)
  have hnum := numOf_lt (l.take 6)
  rw [List.length_take, Nat.min_eq_left h6] at hnum
  clear hr hv
  go_enter Try.func24, Try.ntmps24
  go_wp2_with fail
  refine c.mono ?_
  rintro e w1 ⟨v2, rfl, hb1, rd1, bt1, far1, adv1⟩
  have k1 := kept_of_adv adv1
  have z1 := hz.out.kept k1 (by omega)
  have c2 := of_any (numOf (l.take 6)) (by omega) w1
  rw [mac_of_num h6] at c2
  have K1 := Lib.hid ((kept_of_below hb.out (b := b)).trans k1)
  have Z1 := Lib.hid z1
  have RD1 := Lib.hid rd1
  have BT1 := Lib.hid bt1
  have FAR1 := Lib.hid far1
  clear k1 z1 rd1 bt1 far1 adv1 hb1 c hb hz
  go_wp2_with fail
  refine c2.mono ?_
  rintro e w2 ⟨rfl, hb2⟩
  have Z2 := Z1.out.below hb2 Z1.out.lt
  have rd2 := RD1.out.below hb2 RD1.out.lt
  obtain ⟨q0, q1, q2, q3, q4, q5⟩ := mac_cells (x := fun _ => 0) Z2
  have f0 := Z2.frozen
  have hs1 := K1.out.size
  have K2 := Lib.hid (six0_kept (byt l) (K1.out.trans (kept_of_below hb2)) (Nat.le_refl _))
  have RD2 := Lib.hid (six0_other (byt l) rd2 (show b ≠ w.heap.size by omega))
  have BT2 := Lib.hid (BT1.out.below (six0_below (byt l) (hb2.mono (show b ≤ w1.heap.size by omega)) (show b ≤ w.heap.size by omega)) (Nat.le_refl _))
  have Z3 := Lib.hid (six0_mac (byt l) Z2)
  clear Z2 Z1 rd2 RD1 BT1 K1 c2 hb2
  go_wp2
  change bodyPost Try.prog Try.f24 _ _ _ (six0 w2 w.heap.size (byt l))
  generalize six0 w2 w.heap.size (byt l) = W3 at *
  clear q0 q1 q2 q3 q4 q5 f0
  obtain ⟨q0, q1, q2, q3, q4, q5⟩ := mac_cells Z3.out
  exact bodyPost_ret (v := macV (byt l)) (by simp [results, Try.results24, go_sem, q0, q1, q2, q3, q4, q5]) rfl ⟨rfl, K2.out, v2, RD2.out, BT2.out, FAR1.out⟩
end Go.Proofs.Ytfdhkbkonennjaa
