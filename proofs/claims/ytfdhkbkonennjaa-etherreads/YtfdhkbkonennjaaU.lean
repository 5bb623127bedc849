/- EtherReads: of any bytes. -/
import Derived.Test.YtfdhkbkonennjaaV
import Derived.Test.YtfdhkbkonennjaaT
namespace Go.Proofs.Ytfdhkbkonennjaa
open Go.RowKit Go.Sort

set_option maxRecDepth 20000 in
set_option maxHeartbeats 4000000 in
theorem ereads_long (p : Option Addr) (n cap : Nat) (w : World) (hn : n ≤ 9223372036854775807) (hl : 2000 < n) :
    Calls Try.prog 4 #[.slice p n cap] w fun e w' => e = .returned (.bool true) ∧ Below w.heap.size w w' := by
  have t1 : decide ((2000 : Int) < (n : Int)) = true := by simp; omega
  clear hl hn
  go_enter Try.func4, Try.ntmps4
  go_wp2_with fail
  refine (lives_any _).mono ?_
  rintro e w1 ⟨rfl, hb1⟩
  have HB1 := Lib.hid hb1
  clear hb1
  go_wp2_with fail
  refine (lives_any _).mono ?_
  rintro e w2 ⟨rfl, hb2⟩
  have HB2 := Lib.hid (below_next HB1.out hb2)
  clear hb2 HB1
  go_wp2_with fail
  go_ret
  exact ⟨rfl, HB2.out⟩

/-- What ether.Read gives, with or without an error. -/
def rX (l : List UInt8) : Nat → Nat := if rdE l = 0 then byt l else fun _ => 0
def rY (l : List UInt8) : Nat → Nat := if rdE l = 0 then byt (l.drop 6) else fun _ => 0
def rTy (l : List UInt8) : Nat := if rdE l = 0 then rdT l else 0
def rBd (l : List UInt8) : List UInt8 := if rdE l = 0 then rdB l else []
theorem rdV_all (l : List UInt8) : rdV l = rfV (rX l) (rY l) (rTy l) (rBd l) := by
  unfold rdV rX rY rTy rBd
  by_cases h : rdE l = 0
  · simp only [if_pos h]
  · simp only [if_neg h]
theorem rTy_lt (l : List UInt8) : rTy l < 65536 := by
  unfold rTy
  split
  · unfold rdT
    have := numAt_lt (l.drop 12)
    unfold rdN
    split <;> omega
  · omega
theorem rBd_len (l : List UInt8) : (rBd l).length ≤ l.length := by
  unfold rBd
  split
  · unfold rdB
    rw [List.length_take, List.length_drop]
    omega
  · simp
theorem far_nil (A : Nat) : Far A (.slice none 0 0) := by
  intro a n c h
  cases h
theorem eread_any (v : Value) (l : List UInt8) (w : World) (hv : Bts w w.heap.size v l) (hl : l.length ≤ 10000) :
    Calls Try.prog 11 #[v] w fun e w' => ∃ bv, e = .returned (.tuple #[frV (rX l) (rY l) (rTy l) bv, .int .i64 (rdE l)]) ∧ Bts w' w'.heap.size bv (rBd l) ∧ Far w.heap.size bv ∧ Below w.heap.size w w' := by
  by_cases h : rdE l = 0
  · refine (eread_ok v l w hv h).mono ?_
    rintro e w' ⟨bv, rfl, hb, hf, hw⟩
    unfold rX rY rTy rBd
    simp only [h, if_true]
    exact ⟨bv, rfl, hb, hf, hw⟩
  · refine (eread_bad v l w hv hl h).mono ?_
    rintro e w' ⟨rfl, hw⟩
    unfold rX rY rTy rBd
    simp only [h, if_false]
    exact ⟨.slice none 0 0, rfl, .inl ⟨rfl, rfl⟩, far_nil _, hw⟩

theorem flip_byte (c : UInt8) : ∃ c' : UInt8, bits .xor .u8 (c.toNat : Int) 255 = (c'.toNat : Int) := by
  have h1 : (BitVec.ofInt 8 (c.toNat : Int)).toNat = c.toNat := by
    rw [BitVec.ofInt_natCast, BitVec.toNat_ofNat]
    exact Nat.mod_eq_of_lt c.toNat_lt
  refine ⟨UInt8.ofNat (BitVec.ofInt 8 (c.toNat : Int) ^^^ BitVec.ofInt 8 255).toNat, ?_⟩
  show IntKind.u8.wrap ((BitVec.ofInt 8 (c.toNat : Int) ^^^ BitVec.ofInt 8 255).toNat : Int) = _
  have h2 := (BitVec.ofInt 8 (c.toNat : Int) ^^^ BitVec.ofInt 8 255).isLt
  generalize (BitVec.ofInt 8 (c.toNat : Int) ^^^ BitVec.ofInt 8 255).toNat = z at *
  rw [u8_of (by omega)]
  simp [IntKind.wrap, IntKind.bits, IntKind.signed]
  omega
theorem wrap_next {m n : Nat} (h : m < n) (hn : n ≤ 2000) : wrap64 ((m : Int) + 1) = (m : Int) + 1 := by
  unfold wrap64
  omega
theorem meas_next {m n : Nat} (h : m < n) (hn : n ≤ 2000) : n - (intOf (.int .i64 (wrap64 ((m : Int) + 1)))).toNat < n - (intOf (.int .i64 (m : Int))).toNat := by
  rw [wrap_next h hn]
  simp only [intOf]
  omega
/-- A block whose first n cells are bytes. -/
def OwnB (w : World) (g n : Nat) : Prop := ∃ cur, VarAt w g cur 5 ∧ ∀ j, j < n → ∃ c : UInt8, cur[j]? = some (bV c)
theorem OwnB.below {w w' : World} {g n B : Nat} (h : OwnB w g n) (hb : Below B w w') (hg : g < B) : OwnB w' g n := by
  obtain ⟨cur, h1, h2⟩ := h
  exact ⟨cur, h1.below hb hg, h2⟩
theorem OwnB.set {w : World} {g n : Nat} (h : OwnB w g n) (k : Nat) (c : UInt8) : OwnB (w.setCell ⟨g, k, none⟩ (bV c)) g n := by
  obtain ⟨cur, h1, h2⟩ := h
  refine ⟨_, h1.set k _, fun j hj => ?_⟩
  by_cases e : k = j
  · subst e
    obtain ⟨c', hc⟩ := h2 k hj
    have := (Array.getElem?_eq_some_iff.1 hc).1
    exact ⟨c, by simp [this]⟩
  · obtain ⟨c', hc⟩ := h2 j hj
    exact ⟨c', by simp [e, hc]⟩
theorem OwnB.cell {w : World} {g n : Nat} (h : OwnB w g n) {k : Nat} (hk : k < n) : ∃ c : UInt8, w.cell? ⟨g, k, none⟩ = some (bV c) ∧ w.frozen? ⟨g, k, none⟩ = false := by
  obtain ⟨cur, h1, h2⟩ := h
  obtain ⟨c, hc⟩ := h2 k hk
  exact ⟨c, by rw [h1.cell k, hc], h1.frozen k⟩
/-- A slice of one's own bytes: its block, and that it is one's own. -/
def OwnS (w : World) (base : Nat) (v : Value) (n : Nat) : Prop := ∃ p cap, v = .slice p n cap ∧ (n = 0 ∨ ∃ g, p = some ⟨g, 0, none⟩ ∧ base ≤ g ∧ g < w.heap.size ∧ OwnB w g n)
theorem ownS_of_own {w : World} {base : Nat} {v : Value} {l : List UInt8} (h : w.ownsRow base 5 1 v l.length (l.map bV)) : OwnS w base v l.length := by
  rcases h.2 with ⟨rfl, hn⟩ | ⟨g, cap, cur, rfl, hb, hg, hc, hm, hs, ht⟩
  · exact ⟨none, 0, by rw [hn], .inl hn⟩
  · refine ⟨_, cap, rfl, .inr ⟨g, rfl, hb, (Array.getElem?_eq_some_iff.1 hg).1, cur, hg, fun j hj => ⟨l[j], ?_⟩⟩⟩
    have e := congrArg (fun z => z[j]?) ht
    simp only [Nat.mul_one, List.getElem?_take, hj, if_true, List.getElem?_map, List.getElem?_eq_getElem hj, Option.map_some] at e
    rw [← Array.getElem?_toList]
    exact e
set_option maxRecDepth 20000 in
set_option maxHeartbeats 40000000 in
theorem ereads_all (v : Value) (l : List UInt8) (w : World) (hv : Bts w w.heap.size v l) (hl : l.length ≤ 2000) :
    Calls Try.prog 4 #[v] w fun e w' => e = .returned (.bool true) ∧ Below w.heap.size w w' := by
  obtain ⟨p, cap, rfl, hlen⟩ := bts_len hv
  have t1 : decide ((2000 : Int) < (l.length : Int)) = false := by simp; omega
  have HV := Lib.hid hv
  have HL := Lib.hid hl
  clear hv hl hlen
  go_enter Try.func4, Try.ntmps4
  go_wp2_with fail
  refine (lives_any _).mono ?_
  rintro e w1 ⟨rfl, hb1⟩
  have hz := box_below w1 (.cells #[] 5)
  have HO := Lib.hid (World.ownsRow_made (base := w1.heap.size) (e := 5) (size := 1) w1 #[] 0 (Nat.le_refl _) (by decide) rfl)
  have HV1 := Lib.hid ((HV.out.below hb1 (Nat.le_refl _)).below hz hb1.size)
  have HB1 := Lib.hid hb1
  clear hb1 hz
  go_wp2_with (at_builtin; refine wpList_append_bts _ rfl _ _ rfl w1.heap.size _ _ _ rfl HO.out w.heap.size _ l rfl HV1.out (by have := HL.out; omega) ?d5 ?_)
  case d5 => simp
  intro v1 w2 hown hgrow
  have hb2 : Below w1.heap.size w1 w2 := (box_below w1 (.cells #[] 5)).grown hgrow (by simp) (fun j hj => (HO.out.lt j hj).1)
  have hown' := own_cast (m := l.length) (ys := l.map bV) hown (by simp) (by simp)
  have HB2 := Lib.hid (below_next HB1.out hb2)
  have c2 := eread_any v1 l w2 (bts_of_own hown') (by have := HL.out; omega)
  obtain ⟨p1, cap1, rfl, hob⟩ := ownS_of_own hown'
  have HOB := Lib.hid hob
  have HSZ := Lib.hid HB1.out.size
  have HRV := Lib.hid (rdV_all l)
  have HT := Lib.hid (rTy_lt l)
  have HBL := Lib.hid (rBd_len l)
  clear hob hown hown' hgrow hb2 HO HV1 t1
  go_wp2_with fail
  refine c2.mono ?_
  rintro e w3 ⟨bv, rfl, hbb, hfar, hb3⟩
  obtain ⟨pv, capv, rfl, -⟩ := bts_len hbb
  clear c2
  generalize rX l = x at *
  generalize rY l = y at *
  generalize rTy l = t at *
  generalize rBd l = bd at *
  have h4 := box_below w3 (.cells (frC x y t (.slice pv bd.length capv)) 27)
  have f4 := var_new w3 (frC x y t (.slice pv bd.length capv)) 27
  have bb4 := hbb.below h4 (Nat.le_refl _)
  have hw4 := below_next (below_next HB2.out hb3) h4
  have ob4 : l.length = 0 ∨ ∃ g, p1 = some ⟨g, 0, none⟩ ∧ w.heap.size ≤ g ∧ g < w2.heap.size ∧ OwnB (w3.alloc (.cells (frC x y t (.slice pv bd.length capv)) 27)) g l.length := by
    rcases HOB.out with h | ⟨g, hp, h1, h2, h3⟩
    · exact .inl h
    · have := HSZ.out
      have := hb3.size
      exact .inr ⟨g, hp, by omega, h2, (h3.below hb3 h2).below h4 (by omega)⟩
  have R4 := Lib.hid (And.intro hw4 (And.intro f4 (And.intro bb4 ob4)))
  have HFAR := Lib.hid hfar
  have HLT := Lib.hid hb3.size
  clear h4 f4 bb4 hw4 ob4 hfar hb3 hbb HOB HSZ HB1 HB2
  go_wp2_with fail
  generalize hfb : w3.heap.size = fb at *
  clear hfb
  go_loopw [31, 6] (fun i _ wr => ∃ m : Nat, m ≤ l.length ∧ i = .int .i64 m ∧ Below w.heap.size w wr ∧ VarAt wr fb (frC x y t (.slice pv bd.length capv)) 27 ∧ Bts wr fb (.slice pv bd.length capv) bd ∧ (l.length = 0 ∨ ∃ g, p1 = some ⟨g, 0, none⟩ ∧ w.heap.size ≤ g ∧ g < w2.heap.size ∧ OwnB wr g l.length)) (fun i _ _ => l.length - (intOf i).toNat)
  case atStart => exact ⟨0, Nat.zero_le _, rfl, R4.out⟩
  case round =>
    obtain ⟨m, hm, rfl, R⟩ := hrel
    clear R4
    have HR := Lib.hid R
    clear R
    by_cases hlt : m < l.length
    · obtain ⟨hwr, fr, br, obr⟩ := HR.out
      rcases obr with h0 | ⟨g, rfl, hg1, hg2, og⟩
      · omega
      obtain ⟨c, kc, kf⟩ := og.cell hlt
      have HC := Lib.hid (And.intro hwr (And.intro fr (And.intro br og)))
      have hgi := Lib.hid (And.intro hg1 hg2)
      have hwm : wrap64 ((m : Int) + 1) = (m : Int) + 1 := wrap_next hlt HL.out
      clear hwr fr br og hg1 hg2 HR
      go_wp2_with fail
      go_roundw
      case rel =>
        obtain ⟨hwr, fr, br, og⟩ := HC.out
        obtain ⟨hg1, hg2⟩ := hgi.out
        obtain ⟨c', hc⟩ := flip_byte c
        rw [hc]
        have hfb := HLT.out
        exact ⟨m + 1, by omega, by simp [hwm], hwr.setCell (p := ⟨g, m, none⟩) hg1 _, fr.set_other (by simp; omega) _, br.set HFAR.out (by simpa using hg2) _, .inr ⟨g, rfl, hg1, hg2, og.set m c'⟩⟩
      case measure => exact meas_next hlt HL.out
    · have hml : m = l.length := by omega
      subst hml
      obtain ⟨hwr, fr, br, -⟩ := HR.out
      have c5 := refRead_any (.slice p l.length cap) l w.heap.size wr (HV.out.below hwr (Nat.le_refl _)) hwr.size (by have := HL.out; omega)
      rw [HRV.out] at c5
      have H5 := Lib.hid (And.intro hwr (And.intro fr br))
      clear hwr fr br HR HFAR HLT HRV hlt hm
      generalize rdE l = n at *
      go_wp2_with fail
      refine c5.mono ?_
      rintro e w5 ⟨rfl, hb5⟩
      obtain ⟨hwr, fr, br⟩ := H5.out
      have h6 := box_below w5 (.cells (rfC x y t bd) 30)
      have r6 := var_new w5 (rfC x y t bd) 30
      have hs5 : fb ≤ w5.heap.size := Nat.le_trans (Nat.le_of_lt fr.lt) hb5.size
      have f6 := (fr.below hb5 fr.lt).below h6 (Nat.lt_of_lt_of_le fr.lt hb5.size)
      have b6 := (br.below hb5 (Nat.le_of_lt fr.lt)).below h6 hs5
      have hw6 := below_next (below_next hwr hb5) h6
      obtain ⟨k0, k1, k2, k3, k4, k5, k6, k7, k8, k9, k10, k11, k12, k13⟩ := f6.frCells
      have hbl : bd.length ≤ 10000 := by have := HBL.out; have := HL.out; omega
      have c7 := bpdu_any x y t _ bd _ (b6.mono (Nat.le_of_lt f6.lt)) hbl
      have H6 := Lib.hid (And.intro hw6 (And.intro f6 (And.intro r6 b6)))
      have HBD := Lib.hid hbl
      clear c5 H5 hwr fr br h6 r6 hs5 f6 b6 hw6 hb5 hbl
      go_wp2_with fail
      refine c7.mono ?_
      rintro e w7 ⟨v', rfl, bv7, -, hb7⟩
      obtain ⟨hw6, f6, r6, b6⟩ := H6.out
      have f7 := f6.below hb7 f6.lt
      have r7 := r6.below hb7 r6.lt
      have b7 := b6.below hb7 (Nat.le_of_lt f6.lt)
      have hw7 := below_next hw6 hb7
      clear k0 k1 k2 k3 k4 k5 k6 k7 k8 k9 k10 k11 k12 k13 c7 H6 hw6 f6 r6 b6 hb7
      generalize hbx : w5.heap.size = bx at *
      clear hbx
      obtain ⟨k0, k1, k2, k3, k4, k5, k6, k7, k8, k9, k10, k11, k12, k13⟩ := r7.rfCells
      have c8 := refBpdu_any x y t bd w7 HBD.out
      have H7 := Lib.hid (And.intro hw7 (And.intro f7 (And.intro r7 (And.intro b7 bv7))))
      clear hw7 f7 r7 b7 bv7
      go_wp2_with fail
      refine c8.mono ?_
      rintro e w8 ⟨rfl, hb8⟩
      obtain ⟨hw7, f7, r7, b7, bv7⟩ := H7.out
      have f8 := f7.below hb8 f7.lt
      have r8 := r7.below hb8 r7.lt
      have b8 := b7.below hb8 (Nat.le_of_lt f7.lt)
      have v8 := (bv7.below hb8 (Nat.le_refl _)).mono hb8.size
      have hw8 := below_next hw7 hb8
      clear k0 k1 k2 k3 k4 k5 k6 k7 k8 k9 k10 k11 k12 k13 c8 H7 hw7 f7 r7 b7 bv7 hb8
      generalize isP x t bd = ip at *
      generalize msgP x t bd = mp at *
      have fa0 : ∀ d os, (grow (redrawn w8 d) os).cell? ⟨fb, 0, none⟩ = some (.int .u8 (x 0)) := fun d os => (VarAt.grown' f8 d os).cell 0
      have fa1 : ∀ d os, (grow (redrawn w8 d) os).cell? ⟨fb, 1, none⟩ = some (.int .u8 (x 1)) := fun d os => (VarAt.grown' f8 d os).cell 1
      have fa2 : ∀ d os, (grow (redrawn w8 d) os).cell? ⟨fb, 2, none⟩ = some (.int .u8 (x 2)) := fun d os => (VarAt.grown' f8 d os).cell 2
      have fa3 : ∀ d os, (grow (redrawn w8 d) os).cell? ⟨fb, 3, none⟩ = some (.int .u8 (x 3)) := fun d os => (VarAt.grown' f8 d os).cell 3
      have fa4 : ∀ d os, (grow (redrawn w8 d) os).cell? ⟨fb, 4, none⟩ = some (.int .u8 (x 4)) := fun d os => (VarAt.grown' f8 d os).cell 4
      have fa5 : ∀ d os, (grow (redrawn w8 d) os).cell? ⟨fb, 5, none⟩ = some (.int .u8 (x 5)) := fun d os => (VarAt.grown' f8 d os).cell 5
      have fa6 : ∀ d os, (grow (redrawn w8 d) os).cell? ⟨fb, 6, none⟩ = some (.int .u8 (y 0)) := fun d os => (VarAt.grown' f8 d os).cell 6
      have fa7 : ∀ d os, (grow (redrawn w8 d) os).cell? ⟨fb, 7, none⟩ = some (.int .u8 (y 1)) := fun d os => (VarAt.grown' f8 d os).cell 7
      have fa8 : ∀ d os, (grow (redrawn w8 d) os).cell? ⟨fb, 8, none⟩ = some (.int .u8 (y 2)) := fun d os => (VarAt.grown' f8 d os).cell 8
      have fa9 : ∀ d os, (grow (redrawn w8 d) os).cell? ⟨fb, 9, none⟩ = some (.int .u8 (y 3)) := fun d os => (VarAt.grown' f8 d os).cell 9
      have fa10 : ∀ d os, (grow (redrawn w8 d) os).cell? ⟨fb, 10, none⟩ = some (.int .u8 (y 4)) := fun d os => (VarAt.grown' f8 d os).cell 10
      have fa11 : ∀ d os, (grow (redrawn w8 d) os).cell? ⟨fb, 11, none⟩ = some (.int .u8 (y 5)) := fun d os => (VarAt.grown' f8 d os).cell 11
      have fa12 : ∀ d os, (grow (redrawn w8 d) os).cell? ⟨fb, 12, none⟩ = some (.int .u16 t) := fun d os => (VarAt.grown' f8 d os).cell 12
      have fa13 : ∀ d os, (grow (redrawn w8 d) os).cell? ⟨fb, 13, none⟩ = some (.slice pv bd.length capv) := fun d os => (VarAt.grown' f8 d os).cell 13
      have rb0 : ∀ d os, (grow (redrawn w8 d) os).cell? ⟨bx, 0, none⟩ = some (.int .u8 (x 0)) := fun d os => (VarAt.grown' r8 d os).cell 0
      have rb1 : ∀ d os, (grow (redrawn w8 d) os).cell? ⟨bx, 1, none⟩ = some (.int .u8 (x 1)) := fun d os => (VarAt.grown' r8 d os).cell 1
      have rb2 : ∀ d os, (grow (redrawn w8 d) os).cell? ⟨bx, 2, none⟩ = some (.int .u8 (x 2)) := fun d os => (VarAt.grown' r8 d os).cell 2
      have rb3 : ∀ d os, (grow (redrawn w8 d) os).cell? ⟨bx, 3, none⟩ = some (.int .u8 (x 3)) := fun d os => (VarAt.grown' r8 d os).cell 3
      have rb4 : ∀ d os, (grow (redrawn w8 d) os).cell? ⟨bx, 4, none⟩ = some (.int .u8 (x 4)) := fun d os => (VarAt.grown' r8 d os).cell 4
      have rb5 : ∀ d os, (grow (redrawn w8 d) os).cell? ⟨bx, 5, none⟩ = some (.int .u8 (x 5)) := fun d os => (VarAt.grown' r8 d os).cell 5
      have rb6 : ∀ d os, (grow (redrawn w8 d) os).cell? ⟨bx, 6, none⟩ = some (.int .u8 (y 0)) := fun d os => (VarAt.grown' r8 d os).cell 6
      have rb7 : ∀ d os, (grow (redrawn w8 d) os).cell? ⟨bx, 7, none⟩ = some (.int .u8 (y 1)) := fun d os => (VarAt.grown' r8 d os).cell 7
      have rb8 : ∀ d os, (grow (redrawn w8 d) os).cell? ⟨bx, 8, none⟩ = some (.int .u8 (y 2)) := fun d os => (VarAt.grown' r8 d os).cell 8
      have rb9 : ∀ d os, (grow (redrawn w8 d) os).cell? ⟨bx, 9, none⟩ = some (.int .u8 (y 3)) := fun d os => (VarAt.grown' r8 d os).cell 9
      have rb10 : ∀ d os, (grow (redrawn w8 d) os).cell? ⟨bx, 10, none⟩ = some (.int .u8 (y 4)) := fun d os => (VarAt.grown' r8 d os).cell 10
      have rb11 : ∀ d os, (grow (redrawn w8 d) os).cell? ⟨bx, 11, none⟩ = some (.int .u8 (y 5)) := fun d os => (VarAt.grown' r8 d os).cell 11
      have rb12 : ∀ d os, (grow (redrawn w8 d) os).cell? ⟨bx, 12, none⟩ = some (.int .i64 t) := fun d os => (VarAt.grown' r8 d os).cell 12
      have rb13 : ∀ d os, (grow (redrawn w8 d) os).cell? ⟨bx, 13, none⟩ = some (strV bd) := fun d os => (VarAt.grown' r8 d os).cell 13
      have ev : ∀ d os, (convert 25 9 v').run Try.prog (grow (redrawn w8 d) os) = .ok (strV mp) (grow (redrawn w8 d) os) := fun d os => bts_string (v8.below (below_regrown w8 d os) (Nat.le_refl _))
      have rs := fun w' => rf_same x y t bd w'
      have g := g30
      have c9 : ∀ d os, Calls Try.prog 7 #[frV x y t (.slice pv bd.length capv)] (grow (redrawn w8 d) os) fun e w'' => e = .returned (rfV x y t bd) ∧ ∃ q : Regrown, w'' = grow (redrawn w8 q.d) q.os := fun d os => Calls.regrown_of (plain_any x y t _ bd fb _ HT.out (b8.below (below_regrown w8 d os) (Nat.le_of_lt f8.lt)) (Nat.le_trans (Nat.le_of_lt f8.lt) (below_regrown w8 d os).size))
      have H8 := Lib.hid hw8
      clear f8 r8 b8 v8 hw8
      go_wp2_with fail
      refine wp_region_quiet_below (by kernel_rfl) (by kernel_rfl) ?_
      repeat (go_big_quiet_step (first | with_reducible exact c9 _ _))
      refine wpQuiet_nil ?_
      intro _ hw'
      obtain ⟨⟨dq, osq⟩, hw''⟩ := hw'
      subst hw''
      have HW := Lib.hid (below_next H8.out (below_regrown w8 dq osq))
      clear fa0 fa1 fa2 fa3 fa4 fa5 fa6 fa7 fa8 fa9 fa10 fa11 fa12 fa13 rb0 rb1 rb2 rb3 rb4 rb5 rb6 rb7 rb8 rb9 rb10 rb11 rb12 rb13 ev rs g c9 H8
      go_wp2_with fail
      go_ret
      exact ⟨rfl, HW.out⟩
theorem ereads_any (v : Value) (l : List UInt8) (w : World) (hv : Bts w w.heap.size v l) :
    Calls Try.prog 4 #[v] w fun e w' => e = .returned (.bool true) ∧ Below w.heap.size w w' := by
  by_cases h : 2000 < l.length
  · obtain ⟨p, cap, rfl, hn⟩ := bts_len hv
    exact ereads_long p l.length cap w hn h
  · exact ereads_all v l w hv (by omega)
end Go.Proofs.Ytfdhkbkonennjaa
