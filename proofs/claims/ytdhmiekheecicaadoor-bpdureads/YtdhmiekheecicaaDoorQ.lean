/- The contract of readBody. -/
import Derived.Test.YtdhmiekheecicaaDoorO
namespace Go.Proofs.YtdhmiekheecicaaDoor
open Go.RowKit Go.Sort

/-- The number of n bytes behind k. -/
def fd (l : List UInt8) (k n : Nat) : Nat := numOf ((l.drop k).take n)
theorem fd_lt (l : List UInt8) (k n : Nat) : fd l k n < 256 ^ n := by
  have h := numOf_lt ((l.drop k).take n)
  have : 256 ^ ((l.drop k).take n).length ≤ 256 ^ n := Nat.pow_le_pow_right (by omega) (by rw [List.length_take]; omega)
  unfold fd
  omega
/-- A message that is nothing. -/
abbrev bpZ : Array Value := bpC 0 0 0 0 0 0 0 0 0 0
abbrev twoW (w : World) : World := (w.alloc (.cells bpZ 31)).alloc (.cells bpZ 31)
theorem two_facts (w : World) : VarAt (twoW w) w.heap.size bpZ 31 ∧ VarAt (twoW w) (w.heap.size + 1) bpZ 31 ∧ Below w.heap.size w (twoW w) := by
  refine ⟨(var_new w _ _).alloc _, ?_, (box_below _ _).alloc (by rw [alloc_size]; omega) _⟩
  have := var_new (w.alloc (.cells bpZ 31)) bpZ 31
  rwa [alloc_size] at this
/-- A whole message stored. -/
abbrev bp10 (w : World) (g : Nat) (k f r c b p a m h d : Int) : World := (((((((((w.setCell ⟨g, 0, none⟩ (.int .i64 k)).setCell ⟨g, 1, none⟩ (.int .u8 f)).setCell ⟨g, 2, none⟩ (.int .u64 r)).setCell ⟨g, 3, none⟩ (.int .u32 c)).setCell ⟨g, 4, none⟩ (.int .u64 b)).setCell ⟨g, 5, none⟩ (.int .u16 p)).setCell ⟨g, 6, none⟩ (.int .u16 a)).setCell ⟨g, 7, none⟩ (.int .u16 m)).setCell ⟨g, 8, none⟩ (.int .u16 h)).setCell ⟨g, 9, none⟩ (.int .u16 d)
theorem bp5a_at {w : World} {g : Nat} {k' f' r' c' b' p' a' m' h' d' : Int} {t : TypeId} (k f r c b : Int) (x : VarAt w g (bpC k' f' r' c' b' p' a' m' h' d') t) : VarAt (((((w.setCell ⟨g, 0, none⟩ (.int .i64 k)).setCell ⟨g, 1, none⟩ (.int .u8 f)).setCell ⟨g, 2, none⟩ (.int .u64 r)).setCell ⟨g, 3, none⟩ (.int .u32 c)).setCell ⟨g, 4, none⟩ (.int .u64 b)) g (bpC k f r c b p' a' m' h' d') t := by
  have x0 : VarAt _ g (bpC k f' r' c' b' p' a' m' h' d') t := x.set 0 (.int .i64 k)
  have x1 : VarAt _ g (bpC k f r' c' b' p' a' m' h' d') t := x0.set 1 (.int .u8 f)
  have x2 : VarAt _ g (bpC k f r c' b' p' a' m' h' d') t := x1.set 2 (.int .u64 r)
  have x3 : VarAt _ g (bpC k f r c b' p' a' m' h' d') t := x2.set 3 (.int .u32 c)
  exact x3.set 4 (.int .u64 b)
theorem bp5b_at {w : World} {g : Nat} {k f r c b p' a' m' h' d' : Int} {t : TypeId} (p a m h d : Int) (x : VarAt w g (bpC k f r c b p' a' m' h' d') t) : VarAt (((((w.setCell ⟨g, 5, none⟩ (.int .u16 p)).setCell ⟨g, 6, none⟩ (.int .u16 a)).setCell ⟨g, 7, none⟩ (.int .u16 m)).setCell ⟨g, 8, none⟩ (.int .u16 h)).setCell ⟨g, 9, none⟩ (.int .u16 d)) g (bpC k f r c b p a m h d) t := by
  have x0 : VarAt _ g (bpC k f r c b p a' m' h' d') t := x.set 5 (.int .u16 p)
  have x1 : VarAt _ g (bpC k f r c b p a m' h' d') t := x0.set 6 (.int .u16 a)
  have x2 : VarAt _ g (bpC k f r c b p a m h' d') t := x1.set 7 (.int .u16 m)
  have x3 : VarAt _ g (bpC k f r c b p a m h d') t := x2.set 8 (.int .u16 h)
  exact x3.set 9 (.int .u16 d)
theorem bp10_at {w : World} {g : Nat} {k' f' r' c' b' p' a' m' h' d' : Int} {t : TypeId} (k f r c b p a m h d : Int) (x : VarAt w g (bpC k' f' r' c' b' p' a' m' h' d') t) : VarAt (bp10 w g k f r c b p a m h d) g (bpC k f r c b p a m h d) t :=
  bp5b_at p a m h d (bp5a_at k f r c b x)
theorem bp10_other {w : World} {g j : Nat} {xs : Array Value} {t : TypeId} (k f r c b p a m h d : Int) (x : VarAt w j xs t) (hj : j ≠ g) : VarAt (bp10 w g k f r c b p a m h d) j xs t :=
  (((((((((x.set_other (a := ⟨g, 0, none⟩) hj _).set_other (a := ⟨g, 1, none⟩) hj _).set_other (a := ⟨g, 2, none⟩) hj _).set_other (a := ⟨g, 3, none⟩) hj _).set_other (a := ⟨g, 4, none⟩) hj _).set_other (a := ⟨g, 5, none⟩) hj _).set_other (a := ⟨g, 6, none⟩) hj _).set_other (a := ⟨g, 7, none⟩) hj _).set_other (a := ⟨g, 8, none⟩) hj _).set_other (a := ⟨g, 9, none⟩) hj _
theorem bp10_below {B : Nat} {w0 w : World} {g : Nat} (k f r c b p a m h d : Int) (x : Below B w0 w) (hg : B ≤ g) : Below B w0 (bp10 w g k f r c b p a m h d) :=
  (((((((((x.setCell (p := ⟨g, 0, none⟩) hg _).setCell (p := ⟨g, 1, none⟩) hg _).setCell (p := ⟨g, 2, none⟩) hg _).setCell (p := ⟨g, 3, none⟩) hg _).setCell (p := ⟨g, 4, none⟩) hg _).setCell (p := ⟨g, 5, none⟩) hg _).setCell (p := ⟨g, 6, none⟩) hg _).setCell (p := ⟨g, 7, none⟩) hg _).setCell (p := ⟨g, 8, none⟩) hg _).setCell (p := ⟨g, 9, none⟩) hg _
theorem bp10_st {n s : Nat} {w0 w : World} {l : List UInt8} {v : Value} {g : Nat} (k f r c b p a m h d : Int) (x : St n s w0 l v w) (hg : w0.heap.size ≤ g) : St n s w0 l v (bp10 w g k f r c b p a m h d) :=
  (((((((((x.set hg 0 _).set hg 1 _).set hg 2 _).set hg 3 _).set hg 4 _).set hg 5 _).set hg 6 _).set hg 7 _).set hg 8 _).set hg 9 _
theorem kept_bp10 {n : Nat} {w0 w : World} {g : Nat} (k f r c b p a m h d : Int) (x : Kept n w0 w) (hg : w0.heap.size ≤ g) : Kept n w0 (bp10 w g k f r c b p a m h d) :=
  (((((((((x.set (a := ⟨g, 0, none⟩) (.inl hg) _).set (a := ⟨g, 1, none⟩) (.inl hg) _).set (a := ⟨g, 2, none⟩) (.inl hg) _).set (a := ⟨g, 3, none⟩) (.inl hg) _).set (a := ⟨g, 4, none⟩) (.inl hg) _).set (a := ⟨g, 5, none⟩) (.inl hg) _).set (a := ⟨g, 6, none⟩) (.inl hg) _).set (a := ⟨g, 7, none⟩) (.inl hg) _).set (a := ⟨g, 8, none⟩) (.inl hg) _).set (a := ⟨g, 9, none⟩) (.inl hg) _
theorem bp10_size (w : World) (g : Nat) (k f r c b p a m h d : Int) : (bp10 w g k f r c b p a m h d).heap.size = w.heap.size := by simp only [setCell_size]

set_option maxRecDepth 20000 in
set_option maxHeartbeats 4000000 in
theorem readBody_any {b s : Nat} {w0 w : World} {l : List UInt8} {v : Value} (h : St b s w0 l v w) :
    Calls Tryd.prog 29 #[ptr b] w fun e w' => (31 ≤ l.length ∧ ∃ v', e = .returned (bpV 0 (fd l 0 1) (fd l 1 8) (fd l 9 4) (fd l 13 8) (fd l 21 2) (fd l 23 2) (fd l 25 2) (fd l 27 2) (fd l 29 2)) ∧ St b s w0 (l.drop 31) v' w' ∧ Kept b w w') ∨ (l.length < 31 ∧ Stops b s w0 2 e w') := by
  obtain ⟨z1, z2, tb⟩ := two_facts w
  have S0 := h.grown tb
  have hbw := h.rd.lt
  have hw0 := h.kept.size
  have Z1 := Lib.hid z1
  have K0 := Lib.hid (kept_of_below (b := b) tb)
  have c1 := S0.num 1 (by omega)
  clear h S0 z1 tb
  go_enter Tryd.func29, Tryd.ntmps29
  go_wp2_with fail
  refine c1.mono ?_
  intro e w1 hE
  rcases hE.symm with ⟨hc, hs⟩ | ⟨-, v1, rfl, S1, kp⟩
  · clear c1 hE
    obtain ⟨rfl, hs⟩ := hs
    exact ⟨rfl, .inr ⟨by omega, rfl, hs⟩⟩
  clear c1 hE
  have y2 := z2.kept kp (by omega)
  have Y1 := Lib.hid (Z1.out.kept kp (by omega))
  have KK := Lib.hid (K0.out.trans kp)
  have hlt : fd l 0 1 < 256 := fd_lt l 0 1
  have e0 : l.take 1 = (l.drop 0).take 1 := rfl
  rw [e0]
  clear e0
  rw [show numOf (List.take 1 (List.drop 0 l)) = fd l 0 1 from rfl]
  generalize hX : fd l 0 1 = F at *
  have EF := Lib.hid hX
  have q1 : w1.cell? ⟨w.heap.size + 1, 1, none⟩ = some (.int .u8 0) := y2.cell 1
  have q2 := y2.frozen 1
  have t2 : VarAt _ (w.heap.size + 1) (bpC 0 (F : Nat) 0 0 0 0 0 0 0 0) 31 := y2.set 1 (.int .u8 (F : Nat))
  have T1 := Lib.hid (Y1.out.set_other (a := ⟨w.heap.size + 1, 1, none⟩) (by show w.heap.size ≠ w.heap.size + 1; omega) (.int .u8 (F : Nat)))
  have TS := S1.set (g := w.heap.size + 1) (by omega) 1 (.int .u8 (F : Nat))
  have TK := Lib.hid (KK.out.set (a := ⟨w.heap.size + 1, 1, none⟩) (.inl (by show w.heap.size ≤ w.heap.size + 1; omega)) (.int .u8 (F : Nat)))
  have T2 := Lib.hid t2
  have TS2 := Lib.hid TS
  clear hX y2 Y1 S1 kp z2 Z1 K0 KK t2 TS
  have c2 := TS2.out.num 8 (by omega)
  go_wp2_with fail
  clear q1 q2 hlt
  have z2 := T2.out
  have Z1 := Lib.hid T1.out
  have K1 := Lib.hid TK.out
  clear T1 T2 TS2 TK
  generalize w1.setCell ⟨w.heap.size + 1, 1, none⟩ (.int .u8 (F : Nat)) = W1 at *
  refine c2.mono ?_
  intro e w2 hE
  rcases hE.symm with ⟨hc, hs⟩ | ⟨-, v2, rfl, S2, kp⟩
  · clear c2 hE
    obtain ⟨rfl, hs⟩ := hs
    exact ⟨rfl, .inr ⟨by rw [List.length_drop] at hc; omega, rfl, hs⟩⟩
  clear c2 hE
  have y2 := z2.kept kp (by omega)
  have Y1 := Lib.hid (Z1.out.kept kp (by omega))
  have KK := Lib.hid (K1.out.trans kp)
  have hlt : fd l 1 8 < 18446744073709551616 := fd_lt l 1 8
  rw [List.drop_drop] at S2
  rw [show numOf (List.take 8 (List.drop 1 l)) = fd l 1 8 from rfl]
  generalize hX : fd l 1 8 = R at *
  have ER := Lib.hid hX
  have q1 : w2.cell? ⟨w.heap.size + 1, 2, none⟩ = some (.int .u64 0) := y2.cell 2
  have q2 := y2.frozen 2
  have t2 : VarAt _ (w.heap.size + 1) (bpC 0 (F : Nat) (R : Nat) 0 0 0 0 0 0 0) 31 := y2.set 2 (.int .u64 (R : Nat))
  have T1 := Lib.hid (Y1.out.set_other (a := ⟨w.heap.size + 1, 2, none⟩) (by show w.heap.size ≠ w.heap.size + 1; omega) (.int .u64 (R : Nat)))
  have TS := S2.set (g := w.heap.size + 1) (by omega) 2 (.int .u64 (R : Nat))
  have TK := Lib.hid (KK.out.set (a := ⟨w.heap.size + 1, 2, none⟩) (.inl (by show w.heap.size ≤ w.heap.size + 1; omega)) (.int .u64 (R : Nat)))
  have T2 := Lib.hid t2
  have TS2 := Lib.hid TS
  clear hX y2 Y1 S2 kp z2 Z1 K1 KK t2 TS
  have c3 := TS2.out.num 4 (by omega)
  go_wp2_with fail
  clear q1 q2 hlt
  have z2 := T2.out
  have Z1 := Lib.hid T1.out
  have K2 := Lib.hid TK.out
  clear T1 T2 TS2 TK
  generalize w2.setCell ⟨w.heap.size + 1, 2, none⟩ (.int .u64 (R : Nat)) = W2 at *
  refine c3.mono ?_
  intro e w3 hE
  rcases hE.symm with ⟨hc, hs⟩ | ⟨-, v3, rfl, S3, kp⟩
  · clear c3 hE
    obtain ⟨rfl, hs⟩ := hs
    exact ⟨rfl, .inr ⟨by rw [List.length_drop] at hc; omega, rfl, hs⟩⟩
  clear c3 hE
  have y2 := z2.kept kp (by omega)
  have Y1 := Lib.hid (Z1.out.kept kp (by omega))
  have KK := Lib.hid (K2.out.trans kp)
  have hlt : fd l 9 4 < 4294967296 := fd_lt l 9 4
  rw [List.drop_drop] at S3
  rw [show numOf (List.take 4 (List.drop 9 l)) = fd l 9 4 from rfl]
  generalize hX : fd l 9 4 = C at *
  have EC := Lib.hid hX
  have q1 : w3.cell? ⟨w.heap.size + 1, 3, none⟩ = some (.int .u32 0) := y2.cell 3
  have q2 := y2.frozen 3
  have t2 : VarAt _ (w.heap.size + 1) (bpC 0 (F : Nat) (R : Nat) (C : Nat) 0 0 0 0 0 0) 31 := y2.set 3 (.int .u32 (C : Nat))
  have T1 := Lib.hid (Y1.out.set_other (a := ⟨w.heap.size + 1, 3, none⟩) (by show w.heap.size ≠ w.heap.size + 1; omega) (.int .u32 (C : Nat)))
  have TS := S3.set (g := w.heap.size + 1) (by omega) 3 (.int .u32 (C : Nat))
  have TK := Lib.hid (KK.out.set (a := ⟨w.heap.size + 1, 3, none⟩) (.inl (by show w.heap.size ≤ w.heap.size + 1; omega)) (.int .u32 (C : Nat)))
  have T2 := Lib.hid t2
  have TS2 := Lib.hid TS
  clear hX y2 Y1 S3 kp z2 Z1 K2 KK t2 TS
  have c4 := TS2.out.num 8 (by omega)
  go_wp2_with fail
  clear q1 q2 hlt
  have z2 := T2.out
  have Z1 := Lib.hid T1.out
  have K3 := Lib.hid TK.out
  clear T1 T2 TS2 TK
  generalize w3.setCell ⟨w.heap.size + 1, 3, none⟩ (.int .u32 (C : Nat)) = W3 at *
  refine c4.mono ?_
  intro e w4 hE
  rcases hE.symm with ⟨hc, hs⟩ | ⟨-, v4, rfl, S4, kp⟩
  · clear c4 hE
    obtain ⟨rfl, hs⟩ := hs
    exact ⟨rfl, .inr ⟨by rw [List.length_drop] at hc; omega, rfl, hs⟩⟩
  clear c4 hE
  have y2 := z2.kept kp (by omega)
  have Y1 := Lib.hid (Z1.out.kept kp (by omega))
  have KK := Lib.hid (K3.out.trans kp)
  have hlt : fd l 13 8 < 18446744073709551616 := fd_lt l 13 8
  rw [List.drop_drop] at S4
  rw [show numOf (List.take 8 (List.drop 13 l)) = fd l 13 8 from rfl]
  generalize hX : fd l 13 8 = B at *
  have EB := Lib.hid hX
  have q1 : w4.cell? ⟨w.heap.size + 1, 4, none⟩ = some (.int .u64 0) := y2.cell 4
  have q2 := y2.frozen 4
  have t2 : VarAt _ (w.heap.size + 1) (bpC 0 (F : Nat) (R : Nat) (C : Nat) (B : Nat) 0 0 0 0 0) 31 := y2.set 4 (.int .u64 (B : Nat))
  have T1 := Lib.hid (Y1.out.set_other (a := ⟨w.heap.size + 1, 4, none⟩) (by show w.heap.size ≠ w.heap.size + 1; omega) (.int .u64 (B : Nat)))
  have TS := S4.set (g := w.heap.size + 1) (by omega) 4 (.int .u64 (B : Nat))
  have TK := Lib.hid (KK.out.set (a := ⟨w.heap.size + 1, 4, none⟩) (.inl (by show w.heap.size ≤ w.heap.size + 1; omega)) (.int .u64 (B : Nat)))
  have T2 := Lib.hid t2
  have TS2 := Lib.hid TS
  clear hX y2 Y1 S4 kp z2 Z1 K3 KK t2 TS
  have c5 := TS2.out.num 2 (by omega)
  go_wp2_with fail
  clear q1 q2 hlt
  have z2 := T2.out
  have Z1 := Lib.hid T1.out
  have K4 := Lib.hid TK.out
  clear T1 T2 TS2 TK
  generalize w4.setCell ⟨w.heap.size + 1, 4, none⟩ (.int .u64 (B : Nat)) = W4 at *
  refine c5.mono ?_
  intro e w5 hE
  rcases hE.symm with ⟨hc, hs⟩ | ⟨-, v5, rfl, S5, kp⟩
  · clear c5 hE
    obtain ⟨rfl, hs⟩ := hs
    exact ⟨rfl, .inr ⟨by rw [List.length_drop] at hc; omega, rfl, hs⟩⟩
  clear c5 hE
  have y2 := z2.kept kp (by omega)
  have Y1 := Lib.hid (Z1.out.kept kp (by omega))
  have KK := Lib.hid (K4.out.trans kp)
  have hlt : fd l 21 2 < 65536 := fd_lt l 21 2
  rw [List.drop_drop] at S5
  rw [show numOf (List.take 2 (List.drop 21 l)) = fd l 21 2 from rfl]
  generalize hX : fd l 21 2 = P at *
  have EP := Lib.hid hX
  have q1 : w5.cell? ⟨w.heap.size + 1, 5, none⟩ = some (.int .u16 0) := y2.cell 5
  have q2 := y2.frozen 5
  have t2 : VarAt _ (w.heap.size + 1) (bpC 0 (F : Nat) (R : Nat) (C : Nat) (B : Nat) (P : Nat) 0 0 0 0) 31 := y2.set 5 (.int .u16 (P : Nat))
  have T1 := Lib.hid (Y1.out.set_other (a := ⟨w.heap.size + 1, 5, none⟩) (by show w.heap.size ≠ w.heap.size + 1; omega) (.int .u16 (P : Nat)))
  have TS := S5.set (g := w.heap.size + 1) (by omega) 5 (.int .u16 (P : Nat))
  have TK := Lib.hid (KK.out.set (a := ⟨w.heap.size + 1, 5, none⟩) (.inl (by show w.heap.size ≤ w.heap.size + 1; omega)) (.int .u16 (P : Nat)))
  have T2 := Lib.hid t2
  have TS2 := Lib.hid TS
  clear hX y2 Y1 S5 kp z2 Z1 K4 KK t2 TS
  have c6 := TS2.out.num 2 (by omega)
  go_wp2_with fail
  clear q1 q2 hlt
  have z2 := T2.out
  have Z1 := Lib.hid T1.out
  have K5 := Lib.hid TK.out
  clear T1 T2 TS2 TK
  generalize w5.setCell ⟨w.heap.size + 1, 5, none⟩ (.int .u16 (P : Nat)) = W5 at *
  refine c6.mono ?_
  intro e w6 hE
  rcases hE.symm with ⟨hc, hs⟩ | ⟨-, v6, rfl, S6, kp⟩
  · clear c6 hE
    obtain ⟨rfl, hs⟩ := hs
    exact ⟨rfl, .inr ⟨by rw [List.length_drop] at hc; omega, rfl, hs⟩⟩
  clear c6 hE
  have y2 := z2.kept kp (by omega)
  have Y1 := Lib.hid (Z1.out.kept kp (by omega))
  have KK := Lib.hid (K5.out.trans kp)
  have hlt : fd l 23 2 < 65536 := fd_lt l 23 2
  rw [List.drop_drop] at S6
  rw [show numOf (List.take 2 (List.drop 23 l)) = fd l 23 2 from rfl]
  generalize hX : fd l 23 2 = A at *
  have EA := Lib.hid hX
  have q1 : w6.cell? ⟨w.heap.size + 1, 6, none⟩ = some (.int .u16 0) := y2.cell 6
  have q2 := y2.frozen 6
  have t2 : VarAt _ (w.heap.size + 1) (bpC 0 (F : Nat) (R : Nat) (C : Nat) (B : Nat) (P : Nat) (A : Nat) 0 0 0) 31 := y2.set 6 (.int .u16 (A : Nat))
  have T1 := Lib.hid (Y1.out.set_other (a := ⟨w.heap.size + 1, 6, none⟩) (by show w.heap.size ≠ w.heap.size + 1; omega) (.int .u16 (A : Nat)))
  have TS := S6.set (g := w.heap.size + 1) (by omega) 6 (.int .u16 (A : Nat))
  have TK := Lib.hid (KK.out.set (a := ⟨w.heap.size + 1, 6, none⟩) (.inl (by show w.heap.size ≤ w.heap.size + 1; omega)) (.int .u16 (A : Nat)))
  have T2 := Lib.hid t2
  have TS2 := Lib.hid TS
  clear hX y2 Y1 S6 kp z2 Z1 K5 KK t2 TS
  have c7 := TS2.out.num 2 (by omega)
  go_wp2_with fail
  clear q1 q2 hlt
  have z2 := T2.out
  have Z1 := Lib.hid T1.out
  have K6 := Lib.hid TK.out
  clear T1 T2 TS2 TK
  generalize w6.setCell ⟨w.heap.size + 1, 6, none⟩ (.int .u16 (A : Nat)) = W6 at *
  refine c7.mono ?_
  intro e w7 hE
  rcases hE.symm with ⟨hc, hs⟩ | ⟨-, v7, rfl, S7, kp⟩
  · clear c7 hE
    obtain ⟨rfl, hs⟩ := hs
    exact ⟨rfl, .inr ⟨by rw [List.length_drop] at hc; omega, rfl, hs⟩⟩
  clear c7 hE
  have y2 := z2.kept kp (by omega)
  have Y1 := Lib.hid (Z1.out.kept kp (by omega))
  have KK := Lib.hid (K6.out.trans kp)
  have hlt : fd l 25 2 < 65536 := fd_lt l 25 2
  rw [List.drop_drop] at S7
  rw [show numOf (List.take 2 (List.drop 25 l)) = fd l 25 2 from rfl]
  generalize hX : fd l 25 2 = M at *
  have EM := Lib.hid hX
  have q1 : w7.cell? ⟨w.heap.size + 1, 7, none⟩ = some (.int .u16 0) := y2.cell 7
  have q2 := y2.frozen 7
  have t2 : VarAt _ (w.heap.size + 1) (bpC 0 (F : Nat) (R : Nat) (C : Nat) (B : Nat) (P : Nat) (A : Nat) (M : Nat) 0 0) 31 := y2.set 7 (.int .u16 (M : Nat))
  have T1 := Lib.hid (Y1.out.set_other (a := ⟨w.heap.size + 1, 7, none⟩) (by show w.heap.size ≠ w.heap.size + 1; omega) (.int .u16 (M : Nat)))
  have TS := S7.set (g := w.heap.size + 1) (by omega) 7 (.int .u16 (M : Nat))
  have TK := Lib.hid (KK.out.set (a := ⟨w.heap.size + 1, 7, none⟩) (.inl (by show w.heap.size ≤ w.heap.size + 1; omega)) (.int .u16 (M : Nat)))
  have T2 := Lib.hid t2
  have TS2 := Lib.hid TS
  clear hX y2 Y1 S7 kp z2 Z1 K6 KK t2 TS
  have c8 := TS2.out.num 2 (by omega)
  go_wp2_with fail
  clear q1 q2 hlt
  have z2 := T2.out
  have Z1 := Lib.hid T1.out
  have K7 := Lib.hid TK.out
  clear T1 T2 TS2 TK
  generalize w7.setCell ⟨w.heap.size + 1, 7, none⟩ (.int .u16 (M : Nat)) = W7 at *
  refine c8.mono ?_
  intro e w8 hE
  rcases hE.symm with ⟨hc, hs⟩ | ⟨-, v8, rfl, S8, kp⟩
  · clear c8 hE
    obtain ⟨rfl, hs⟩ := hs
    exact ⟨rfl, .inr ⟨by rw [List.length_drop] at hc; omega, rfl, hs⟩⟩
  clear c8 hE
  have y2 := z2.kept kp (by omega)
  have Y1 := Lib.hid (Z1.out.kept kp (by omega))
  have KK := Lib.hid (K7.out.trans kp)
  have hlt : fd l 27 2 < 65536 := fd_lt l 27 2
  rw [List.drop_drop] at S8
  rw [show numOf (List.take 2 (List.drop 27 l)) = fd l 27 2 from rfl]
  generalize hX : fd l 27 2 = H at *
  have EH := Lib.hid hX
  have q1 : w8.cell? ⟨w.heap.size + 1, 8, none⟩ = some (.int .u16 0) := y2.cell 8
  have q2 := y2.frozen 8
  have t2 : VarAt _ (w.heap.size + 1) (bpC 0 (F : Nat) (R : Nat) (C : Nat) (B : Nat) (P : Nat) (A : Nat) (M : Nat) (H : Nat) 0) 31 := y2.set 8 (.int .u16 (H : Nat))
  have T1 := Lib.hid (Y1.out.set_other (a := ⟨w.heap.size + 1, 8, none⟩) (by show w.heap.size ≠ w.heap.size + 1; omega) (.int .u16 (H : Nat)))
  have TS := S8.set (g := w.heap.size + 1) (by omega) 8 (.int .u16 (H : Nat))
  have TK := Lib.hid (KK.out.set (a := ⟨w.heap.size + 1, 8, none⟩) (.inl (by show w.heap.size ≤ w.heap.size + 1; omega)) (.int .u16 (H : Nat)))
  have T2 := Lib.hid t2
  have TS2 := Lib.hid TS
  clear hX y2 Y1 S8 kp z2 Z1 K7 KK t2 TS
  have c9 := TS2.out.num 2 (by omega)
  go_wp2_with fail
  clear q1 q2 hlt
  have z2 := T2.out
  have Z1 := Lib.hid T1.out
  have K8 := Lib.hid TK.out
  clear T1 T2 TS2 TK
  generalize w8.setCell ⟨w.heap.size + 1, 8, none⟩ (.int .u16 (H : Nat)) = W8 at *
  refine c9.mono ?_
  intro e w9 hE
  rcases hE.symm with ⟨hc, hs⟩ | ⟨hlast, v9, rfl, S9, kp⟩
  · clear c9 hE
    obtain ⟨rfl, hs⟩ := hs
    exact ⟨rfl, .inr ⟨by rw [List.length_drop] at hc; omega, rfl, hs⟩⟩
  clear c9 hE
  have HL := Lib.hid (show 31 ≤ l.length by rw [List.length_drop] at hlast; omega)
  clear hlast
  have y2 := z2.kept kp (by omega)
  have Y1 := Lib.hid (Z1.out.kept kp (by omega))
  have KK := Lib.hid (K8.out.trans kp)
  have hlt : fd l 29 2 < 65536 := fd_lt l 29 2
  rw [List.drop_drop] at S9
  rw [show numOf (List.take 2 (List.drop 29 l)) = fd l 29 2 from rfl]
  generalize hX : fd l 29 2 = D at *
  have ED := Lib.hid hX
  have q1 : w9.cell? ⟨w.heap.size + 1, 9, none⟩ = some (.int .u16 0) := y2.cell 9
  have q2 := y2.frozen 9
  have t2 : VarAt _ (w.heap.size + 1) (bpC 0 (F : Nat) (R : Nat) (C : Nat) (B : Nat) (P : Nat) (A : Nat) (M : Nat) (H : Nat) (D : Nat)) 31 := y2.set 9 (.int .u16 (D : Nat))
  have T1 := Lib.hid (Y1.out.set_other (a := ⟨w.heap.size + 1, 9, none⟩) (by show w.heap.size ≠ w.heap.size + 1; omega) (.int .u16 (D : Nat)))
  have TS := S9.set (g := w.heap.size + 1) (by omega) 9 (.int .u16 (D : Nat))
  have TK := Lib.hid (KK.out.set (a := ⟨w.heap.size + 1, 9, none⟩) (.inl (by show w.heap.size ≤ w.heap.size + 1; omega)) (.int .u16 (D : Nat)))
  have T2 := Lib.hid t2
  have TS2 := Lib.hid TS
  clear hX y2 Y1 S9 kp z2 Z1 K8 KK t2 TS
  obtain ⟨k0, k1, k2, k3, k4, k5, k6, k7, k8, k9⟩ := T2.out.bp
  obtain ⟨j0, j1, j2, j3, j4, j5, j6, j7, j8, j9⟩ := T1.out.bp
  have f0 := T1.out.frozen
  have R1 := Lib.hid (bp10_at 0 F R C B P A M H D T1.out)
  have R2 := Lib.hid (bp10_st 0 F R C B P A M H D TS2.out (show w0.heap.size ≤ w.heap.size by omega))
  have R3 := Lib.hid (kept_bp10 0 F R C B P A M H D TK.out (Nat.le_refl w.heap.size))
  clear T1 T2 TS2 TK
  go_wp2_with fail
  change bodyPost Tryd.prog Tryd.f29 _ _ _ (bp10 (w9.setCell ⟨w.heap.size + 1, 9, none⟩ (.int .u16 (D : Nat))) w.heap.size 0 F R C B P A M H D)
  generalize bp10 (w9.setCell ⟨w.heap.size + 1, 9, none⟩ (.int .u16 (D : Nat))) w.heap.size 0 F R C B P A M H D = W9 at *
  clear k0 k1 k2 k3 k4 k5 k6 k7 k8 k9 j0 j1 j2 j3 j4 j5 j6 j7 j8 j9 f0 q1 q2
  obtain ⟨k0, k1, k2, k3, k4, k5, k6, k7, k8, k9⟩ := R1.out.bp
  refine bodyPost_ret (v := bpV 0 F R C B P A M H D) (by simp [results, Tryd.results29, go_sem, k0, k1, k2, k3, k4, k5, k6, k7, k8, k9]) rfl (.inl ⟨HL.out, v9, ?_, R2.out, R3.out⟩)
  rw [EF.out, ER.out, EC.out, EB.out, EP.out, EA.out, EM.out, EH.out, ED.out]
end Go.Proofs.YtdhmiekheecicaaDoor
