/- The closure of ether.Read: what it does where the bytes are a frame's, and where they are not. -/
import Derived.Test.YtfdhkbkonennjaaL
namespace Go.Proofs.Ytfdhkbkonennjaa
open Go.RowKit Go.Sort

/-- The number of a frame's bytes; the error of reading them; what is read. -/
def rdN (l : List UInt8) : Nat := numAt (l.drop 12)
def rdE (l : List UInt8) : Nat := if l.length < 60 then 2 else if 1514 < l.length then 3 else if byt (l.drop 6) 0 % 2 = 1 then 3 else if 1500 < rdN l ∧ rdN l < 1536 then 3 else if rdN l < 1536 ∧ l.length - 14 < rdN l then 2 else 0
def rdT (l : List UInt8) : Nat := if 1536 ≤ rdN l then rdN l else 0
def rdB (l : List UInt8) : List UInt8 := (l.drop 14).take (bodyN (rdN l) (l.length - 14))
theorem numAt_lt (l : List UInt8) : numAt l < 65536 := by unfold numAt; have := byt_lt l 0; have := byt_lt l 1; omega

/-- The world while the closure reads. -/
structure RS (fb r b : Nat) (W : World) (x y : Nat → Nat) (t : Nat) (bv v : Value) (l : List UInt8) (w : World) : Prop where
  below : Below fb W w
  fr : VarAt w fb (frC x y t bv) 27
  rd : RdAt w b v (r + 1)
  bts : Bts w b v l
  far : Far (r + 3) v
  res : OneAt w r (.int .i64 0) 32
  stop : OneAt w (r + 1) (.int .i64 0) 66
  own : OneAt w (r + 2) (ptr (r + 1)) 64
  fbr : fb < r
  rb : r + 2 < b
theorem six0_bts {w : World} {A B b : Nat} {v : Value} {l : List UInt8} (x : Nat → Nat) (h : Bts w B v l) (hf : Far A v) (hb : b < A) : Bts (six0 w b x) B v l :=
  (((((h.set hf (c := ⟨b, 0, none⟩) hb _).set hf (c := ⟨b, 1, none⟩) hb _).set hf (c := ⟨b, 2, none⟩) hb _).set hf (c := ⟨b, 3, none⟩) hb _).set hf (c := ⟨b, 4, none⟩) hb _).set hf (c := ⟨b, 5, none⟩) hb _
theorem six6_bts {w : World} {A B b : Nat} {v : Value} {l : List UInt8} (x : Nat → Nat) (h : Bts w B v l) (hf : Far A v) (hb : b < A) : Bts (six6 w b x) B v l :=
  (((((h.set hf (c := ⟨b, 6, none⟩) hb _).set hf (c := ⟨b, 7, none⟩) hb _).set hf (c := ⟨b, 8, none⟩) hb _).set hf (c := ⟨b, 9, none⟩) hb _).set hf (c := ⟨b, 10, none⟩) hb _).set hf (c := ⟨b, 11, none⟩) hb _
variable {fb r b : Nat} {W : World} {x y : Nat → Nat} {t : Nat} {bv v : Value} {l : List UInt8} {w : World}
theorem RS.took (h : RS fb r b W x y t bv v l w) {n : Nat} {w' : World} (k : Took b (r + 1) w v l n w') : ∃ v2, RS fb r b W x y t bv v2 (l.drop n) w' := by
  obtain ⟨k, v2, rd, bts, far⟩ := k
  have h1 := h.fbr
  have h2 := h.rb
  have h3 := h.rd.lt
  exact ⟨v2, h.below.trans ((k.below (by omega)).mono (by omega)), h.fr.kept k (by omega), rd, bts, far _ h.far, h.res.kept k (by omega), h.stop.kept k (by omega), h.own.kept k (by omega), h1, h2⟩
theorem RS.six0 (h : RS fb r b W x y t bv v l w) (x' : Nat → Nat) : RS fb r b W x' y t bv v l (six0 w fb x') := by
  have h1 := h.fbr
  have h2 := h.rb
  exact ⟨six0_below x' h.below (Nat.le_refl _), six0_fr x' h.fr, six0_other x' h.rd (by omega), six0_bts x' h.bts h.far (by omega), h.far, six0_other x' h.res (by omega), six0_other x' h.stop (by omega), six0_other x' h.own (by omega), h1, h2⟩
theorem RS.six6 (h : RS fb r b W x y t bv v l w) (y' : Nat → Nat) : RS fb r b W x y' t bv v l (six6 w fb y') := by
  have h1 := h.fbr
  have h2 := h.rb
  exact ⟨six6_below y' h.below (Nat.le_refl _), six6_fr y' h.fr, six6_other y' h.rd (by omega), six6_bts y' h.bts h.far (by omega), h.far, six6_other y' h.res (by omega), six6_other y' h.stop (by omega), six6_other y' h.own (by omega), h1, h2⟩
theorem RS.typ (h : RS fb r b W x y t bv v l w) (t' : Nat) : RS fb r b W x y t' bv v l (w.setCell ⟨fb, 12, none⟩ (.int .u16 t')) := by
  have h1 := h.fbr
  have h2 := h.rb
  exact ⟨h.below.setCell (p := ⟨fb, 12, none⟩) (Nat.le_refl _) _, h.fr.set 12 _, h.rd.set_other (by simp; omega) _, h.bts.set h.far (by simp; omega) _, h.far, h.res.set_other (by simp; omega) _, h.stop.set_other (by simp; omega) _, h.own.set_other (by simp; omega) _, h1, h2⟩
/-- What the closure leaves where it stopped. -/
def Stopd (fb r : Nat) (W : World) (x : Int) (e : Ending) (w2 : World) : Prop := e = stopped (r + 1) ∧ OneAt w2 r (.int .i64 0) 32 ∧ OneAt w2 (r + 1) (.int .i64 x) 66 ∧ OneAt w2 (r + 2) (ptr (r + 1)) 64 ∧ Below fb W w2
theorem RS.stops (h : RS fb r b W x y t bv v l w) {n : Int} {e : Ending} {w' : World} (k : Stops b (r + 1) w n e w') : Stopd fb r W n e w' := by
  obtain ⟨rfl, w2, hb, rfl⟩ := k
  have h1 := h.fbr
  have h2 := h.rb
  exact ⟨rfl, (h.res.below hb (by omega)).set_other (by simp) _, (h.stop.below hb (by omega)).set 0 _, (h.own.below hb (by omega)).set_other (by simp) _, (h.below.trans (hb.mono (by omega))).setCell (p := ⟨r + 1, 0, none⟩) (by show fb ≤ r + 1; omega) _⟩

set_option maxRecDepth 20000 in
set_option maxHeartbeats 4000000 in
theorem closure_bad (fb r b bb : Nat) (W : World) (v : Value) (l : List UInt8) (w : World) (h : RS fb r b W (fun _ => 0) (fun _ => 0) 0 (.slice none 0 0) v l w) (hl : l.length ≤ 10000) (hE : rdE l ≠ 0) :
    Calls Try.prog 22 #[ptr b, ptr fb, ptr bb] w (Stopd fb r W (rdE l)) := by
  have hrb := h.rb
  have hfb := h.fbr
  by_cases h1 : l.length < 60
  · have c := check_short b (r + 1) v l w 0 h.rd h.bts h.stop (by omega) h1
    have e : rdE l = 2 := by unfold rdE; rw [if_pos h1]
    rw [e]
    have H := Lib.hid h
    clear h hE h1
    go_enter Try.func22, Try.ntmps22
    go_wp2_with fail
    refine c.mono ?_
    intro e w1 k
    have R := H.out.stops k
    obtain ⟨rfl, _⟩ := k
    exact ⟨rfl, R⟩
  by_cases h2 : 1514 < l.length
  · have c := check_long b (r + 1) v l w 0 h.rd h.bts h.stop (by omega) h2 hl
    have e : rdE l = 3 := by unfold rdE; rw [if_neg h1, if_pos h2]
    rw [e]
    have H := Lib.hid h
    clear h hE h1 h2
    go_enter Try.func22, Try.ntmps22
    go_wp2_with fail
    refine c.mono ?_
    intro e w1 k
    have R := H.out.stops k
    obtain ⟨rfl, _⟩ := k
    exact ⟨rfl, R⟩
  have hE' := hE
  have e0 : rdE l = if byt (l.drop 6) 0 % 2 = 1 then 3 else if 1500 < rdN l ∧ rdN l < 1536 then 3 else if rdN l < 1536 ∧ l.length - 14 < rdN l then 2 else 0 := by unfold rdE; rw [if_neg h1, if_neg h2]
  have c := check_ok b (r + 1) v l w h.rd h.bts (by omega) (by omega)
  have c1 := readMac_ok b (r + 1) v l w h.rd h.bts (by omega) hl
  have H := Lib.hid h
  have HE := Lib.hid hE
  have HN := Lib.hid e0
  have h1' : 60 ≤ l.length := by omega
  have h2' : l.length ≤ 1514 := by omega
  clear h hE hE' h1 h2 e0
  go_enter Try.func22, Try.ntmps22
  go_wp2_with fail
  refine c.mono ?_
  rintro e w1 ⟨rfl, rfl⟩
  go_wp2_with fail
  refine c1.mono ?_
  rintro e w1 ⟨rfl, k1⟩
  obtain ⟨v1, h1⟩ := H.out.took k1
  obtain ⟨k0, k1, k2, k3, k4, k5, k6, k7, k8, k9, k10, k11, k12, k13⟩ := h1.fr.frCells
  have f0 := h1.fr.frozen
  have h2 := h1.six0 (byt l)
  have c2 := fun hg => readFrom_ok b (r + 1) v1 (l.drop 6) _ h2.rd h2.bts (by rw [List.length_drop]; omega) (by rw [List.length_drop]; omega) hg
  have c3 := fun hg => readFrom_bad b (r + 1) v1 (l.drop 6) 0 _ h2.rd h2.bts h2.stop (by omega) (by rw [List.length_drop]; omega) (by rw [List.length_drop]; omega) hg
  have H2 := Lib.hid h2
  clear h1 h2 c c1 H
  by_cases hg : byt (l.drop 6) 0 % 2 = 1
  · replace c3 := c3 hg
    clear c2
    go_wp2_with fail
    refine c3.mono ?_
    intro e w1 k
    have R := H2.out.stops k
    have e : rdE l = 3 := by rw [HN.out, if_pos hg]
    obtain ⟨rfl, _⟩ := k
    rw [e]
    exact ⟨rfl, R⟩
  replace c2 := c2 (by omega)
  clear c3
  go_wp2_with fail
  refine c2.mono ?_
  rintro e w2 ⟨rfl, q1⟩
  obtain ⟨v2, h3⟩ := H2.out.took q1
  rw [List.drop_drop, show 6 + 6 = 12 from rfl] at h3
  clear k0 k1 k2 k3 k4 k5 k6 k7 k8 k9 k10 k11 k12 k13 f0
  obtain ⟨k0, k1, k2, k3, k4, k5, k6, k7, k8, k9, k10, k11, k12, k13⟩ := h3.fr.frCells
  have f0 := h3.fr.frozen
  have h4 := h3.six6 (byt (l.drop 6))
  have hd : (l.drop 12).length = l.length - 12 := List.length_drop
  have c4 := fun hn => readNumber_ok b (r + 1) v2 (l.drop 12) _ h4.rd h4.bts (by omega) (by omega) hn
  have c5 := fun ha hb => readNumber_bad b (r + 1) v2 (l.drop 12) 0 _ h4.rd h4.bts h4.stop (by omega) (by omega) (by omega) ha hb
  have H4 := Lib.hid h4
  clear h3 h4 c2 H2 q1
  by_cases hn : 1500 < rdN l ∧ rdN l < 1536
  · replace c5 := c5 hn.1 hn.2
    have HN' := Lib.hid hn
    clear c4 hn
    go_wp2_with fail
    refine c5.mono ?_
    intro e w1 k
    have R := H4.out.stops k
    have e : rdE l = 3 := by rw [HN.out, if_neg hg, if_pos HN'.out]
    obtain ⟨rfl, _⟩ := k
    rw [e]
    exact ⟨rfl, R⟩
  replace c4 := c4 hn
  have HN' := Lib.hid hn
  clear c5 hn
  go_wp2_with fail
  refine c4.mono ?_
  rintro e w3 ⟨rfl, q2⟩
  obtain ⟨v3, h5⟩ := H4.out.took q2
  rw [List.drop_drop, show 12 + 2 = 14 from rfl] at h5
  have hd' : (l.drop 14).length = l.length - 14 := List.length_drop
  have hlast : rdN l < 1536 ∧ l.length - 14 < rdN l := by
    by_cases hq : rdN l < 1536 ∧ l.length - 14 < rdN l
    · exact hq
    · exact absurd (by rw [HN.out, if_neg hg, if_neg HN'.out, if_neg hq]) HE.out
  have c6 := bodySize_bad b (r + 1) v3 (l.drop 14) (rdN l) 0 w3 h5.rd h5.bts h5.stop (by omega) hlast.1 (by rw [hd']; exact hlast.2)
  have e : rdE l = 2 := by rw [HN.out, if_neg hg, if_neg HN'.out, if_pos hlast]
  have E := Lib.hid e
  have H5 := Lib.hid h5
  clear h5 hlast c4 q2 HN HN' HE e hg hd hd' H4
  go_wp2_with fail
  refine c6.mono ?_
  intro e w1 k
  have R := H5.out.stops k
  obtain ⟨rfl, _⟩ := k
  rw [E.out]
  exact ⟨rfl, R⟩

theorem rdE_ok {l : List UInt8} (h : rdE l = 0) : 60 ≤ l.length ∧ l.length ≤ 1514 ∧ byt (l.drop 6) 0 % 2 = 0 ∧ ¬ (1500 < rdN l ∧ rdN l < 1536) ∧ (rdN l < 1536 → rdN l ≤ l.length - 14) := by
  unfold rdE at h
  split at h
  · omega
  · split at h
    · omega
    · split at h
      · omega
      · split at h
        · omega
        · split at h
          · omega
          · omega

theorem slice_mid (a : Addr) (len cap m n : Nat) (h1 : m ≤ n) (h2 : n ≤ cap) (w : World) : (Instr.slice 25 (.slice (some a) len cap) (some (.int .i64 m)) (some (.int .i64 n)) none).run Try.prog w = .ok (.slice (some (cutA a cap m)) (n - m) (cap - m)) w := by
  rw [run_slice_lh w 25 (some a) len cap elem22 .i64 .i64 m n (by omega) (by omega) (by omega), sizeOf22]
  unfold cutA
  by_cases hc : cap = m
  · simp [sliced, Result.andThen, hc]
  · simp [sliced, Result.andThen, hc]

theorem bts_mid {w : World} {B : Nat} {a : Addr} {l : List UInt8} {cap : Nat} (m n : Nat) (hm : m ≤ l.length) (hn : n ≤ l.length - m) (hc : l.length ≤ cap) (hx : cap ≤ maxLen) (hB : 0 < l.length → a.block < B) (h : Lie w a l) : Bts w B (.slice (some (cutA a cap m)) n (cap - m)) ((l.drop m).take n) := by
  rcases bts_tail m hm hc hx hB h with ⟨h, _⟩ | ⟨a', cap', he, h1, h2, h3, h4⟩
  · cases h
  · simp only [Value.slice.injEq, Option.some.injEq] at he
    obtain ⟨rfl, _, rfl⟩ := he
    exact bts_head n (by rw [List.length_drop]; exact hn) h1 h2 h3 h4

/-- What the closure leaves where it read a frame. -/
def Readd (fb r : Nat) (W : World) (l : List UInt8) (e : Ending) (w2 : World) : Prop :=
  e = .returned (.tuple #[]) ∧ OneAt w2 r (.int .i64 0) 32 ∧ Below fb W w2 ∧ ∃ bv, VarAt w2 fb (frC (byt l) (byt (l.drop 6)) (rdT l) bv) 27 ∧ Bts w2 w2.heap.size bv (rdB l) ∧ Far (r + 3) bv
set_option maxRecDepth 20000 in
set_option maxHeartbeats 4000000 in
theorem closure_ok (fb r b bb : Nat) (W : World) (v v0 : Value) (l : List UInt8) (w : World) (h : RS fb r b W (fun _ => 0) (fun _ => 0) 0 (.slice none 0 0) v l w) (hbb : OneAt W bb v0 25) (hlt : bb < fb) (hv : Bts W bb v0 l) (hE : rdE l = 0) :
    Calls Try.prog 22 #[ptr b, ptr fb, ptr bb] w (Readd fb r W l) := by
  have hrb := h.rb
  have hfb := h.fbr
  obtain ⟨h1, h2, hg, hn, hm⟩ := rdE_ok hE
  have c := check_ok b (r + 1) v l w h.rd h.bts (by omega) (by omega)
  have c1 := readMac_ok b (r + 1) v l w h.rd h.bts (by omega) (by omega)
  have H := Lib.hid h
  have HB := Lib.hid hbb
  have HV := Lib.hid hv
  have HN := Lib.hid hn
  have HM := Lib.hid hm
  clear h hE hbb hv hn hm
  go_enter Try.func22, Try.ntmps22
  go_wp2_with fail
  refine c.mono ?_
  rintro e w1 ⟨rfl, rfl⟩
  go_wp2_with fail
  refine c1.mono ?_
  rintro e w1 ⟨rfl, k1⟩
  obtain ⟨v1, s1⟩ := H.out.took k1
  obtain ⟨k0, k1, k2, k3, k4, k5, k6, k7, k8, k9, k10, k11, k12, k13⟩ := s1.fr.frCells
  have f0 := s1.fr.frozen
  have s2 := s1.six0 (byt l)
  have c2 := readFrom_ok b (r + 1) v1 (l.drop 6) _ s2.rd s2.bts (by rw [List.length_drop]; omega) (by rw [List.length_drop]; omega) hg
  have H2 := Lib.hid s2
  clear s1 s2 c c1 H
  go_wp2_with fail
  refine c2.mono ?_
  rintro e w2 ⟨rfl, q1⟩
  obtain ⟨v2, h3⟩ := H2.out.took q1
  rw [List.drop_drop, show 6 + 6 = 12 from rfl] at h3
  clear k0 k1 k2 k3 k4 k5 k6 k7 k8 k9 k10 k11 k12 k13 f0
  obtain ⟨k0, k1, k2, k3, k4, k5, k6, k7, k8, k9, k10, k11, k12, k13⟩ := h3.fr.frCells
  have f0 := h3.fr.frozen
  have h4 := h3.six6 (byt (l.drop 6))
  have hd : (l.drop 12).length = l.length - 12 := List.length_drop
  have c4 := readNumber_ok b (r + 1) v2 (l.drop 12) _ h4.rd h4.bts (by omega) (by omega) HN.out
  have H4 := Lib.hid h4
  clear h3 h4 c2 H2 q1
  go_wp2_with fail
  refine c4.mono ?_
  rintro e w3 ⟨rfl, q2⟩
  obtain ⟨v3, h5⟩ := H4.out.took q2
  rw [List.drop_drop, show 12 + 2 = 14 from rfl] at h5
  have hd' : (l.drop 14).length = l.length - 14 := List.length_drop
  have hN := numAt_lt (l.drop 12)
  have c6 := bodySize_ok b (r + 1) v3 (l.drop 14) (rdN l) w3 h5.rd h5.bts hN (by rw [hd']; exact HM.out)
  have H5 := Lib.hid h5
  rw [hd'] at c6
  have e9 : numAt (l.drop 12) = rdN l := rfl
  rw [e9] at hN ⊢
  clear h5 c4 q2 hd hd' H4 HN e9
  go_wp2_with fail
  refine c6.mono ?_
  rintro e w4 ⟨rfl, rfl⟩
  clear c6 k0 k1 k2 k3 k4 k5 k6 k7 k8 k9 k10 k11 k12 k13 f0
  have hsz : bodyN (rdN l) (l.length - 14) ≤ l.length - 14 := by
    unfold bodyN; split
    · omega
    · exact HM.out (by omega)
  rcases HV.out with ⟨_, hl0⟩ | ⟨a, cap, rfl, q1, q2, q3, q4⟩
  · rw [hl0] at h1; simp at h1
  replace q4 := Lib.hid q4
  have hmx := q2
  unfold maxLen at hmx
  have e14 : ∀ w, (Instr.slice 25 (.slice (some a) l.length cap) (some (.int .i64 14)) (some (.int .i64 (14 + ((bodyN (rdN l) (l.length - 14) : Nat) : Int)))) none).run Try.prog w = .ok (.slice (some (cutA a cap 14)) (bodyN (rdN l) (l.length - 14)) (cap - 14)) w := by
    intro w
    have := slice_mid a l.length cap 14 (14 + bodyN (rdN l) (l.length - 14)) (by omega) (by omega) w
    rw [Nat.add_sub_cancel_left] at this
    exact this
  have hN' : (rdN l : Int) < 65536 := by omega
  by_cases hn : (1536 : Int) ≤ rdN l
  · have HT := Lib.hid (show rdT l = rdN l by unfold rdT; rw [if_pos (by omega)])
    have k0 : w3.cell? ⟨fb, 12, none⟩ = some (.int .u16 0) := H5.out.fr.cell 12
    have f0 := H5.out.fr.frozen
    have S := H5.out.typ (rdN l)
    have k3 : (w3.setCell ⟨fb, 12, none⟩ (.int .u16 (rdN l))).cell? ⟨bb, 0, none⟩ = some (.slice (some a) l.length cap) := (HB.out.below S.below hlt).cell 0
    have hbt := bts_mid (w := (w3.setCell ⟨fb, 12, none⟩ (.int .u16 (rdN l)))) (B := bb) 14 (bodyN (rdN l) (l.length - 14)) (by omega) hsz q1 q2 q3 (Lie.below q4.out S.below (fun h => by have := q3 h; omega))
    have hq5 := S.rd.lt
    have c7 := clone_any _ _ bb (w3.setCell ⟨fb, 12, none⟩ (.int .u16 (rdN l))) hbt (by omega) (by rw [List.length_take]; omega)
    have HS := Lib.hid S
    have fin : ∀ (v5 : Value) (w5 : World), w5.ownsRow (w3.setCell ⟨fb, 12, none⟩ (.int .u16 (rdN l))).heap.size 5 1 v5 ((l.drop 14).take (bodyN (rdN l) (l.length - 14))).length (((l.drop 14).take (bodyN (rdN l) (l.length - 14))).map bV) → Below (w3.setCell ⟨fb, 12, none⟩ (.int .u16 (rdN l))).heap.size (w3.setCell ⟨fb, 12, none⟩ (.int .u16 (rdN l))) w5 → Readd fb r W l (.returned (.tuple #[])) (w5.setCell ⟨fb, 13, none⟩ v5) := by
      intro v5 w5 own hb
      have S := HS.out
      refine ⟨rfl, (S.res.below hb (by omega)).set_other (by simp; omega) _, (S.below.trans (hb.mono (by omega))).setCell (p := ⟨fb, 13, none⟩) (Nat.le_refl _) _, v5, ?_, ?_, ?_⟩
      · rw [HT.out]; exact (S.fr.below hb (by omega)).set 13 v5
      · exact bts_of_own (ownsRow_setCell_below own (show fb < _ by omega) _)
      · intro p n c he
        have := far_of_own own p n c he
        omega
    have FIN := Lib.hid fin
    generalize hSZ : bodyN (rdN l) (l.length - 14) = sz at *
    have HSZ := Lib.hid hSZ
    have hszI : (sz : Int) ≤ 1500 := by omega
    have hfq : fb < (w3.setCell ⟨fb, 12, none⟩ (.int .u16 (rdN l))).heap.size := by omega
    have hw64 : wrap64 (14 + (sz : Int)) = 14 + (sz : Int) := by unfold wrap64; omega

    clear fin S hbt hSZ hsz h1 h2 hmx q1 q2 q3 hg
    have hw : IntKind.u16.wrap (rdN l : Int) = rdN l := by simp only [IntKind.wrap, IntKind.bits, IntKind.signed]; simp; omega
    clear hN hN' hszI HM
    generalize hR : rdN l = n at *
    have HR := Lib.hid hR
    clear hR
    go_wp2_with fail
    refine c7.mono ?_
    rintro e w5 ⟨v5, rfl, own5, hb5⟩
    obtain ⟨p5, cap5, rfl, -⟩ := bts_len (bts_of_own own5)
    have fr5 := HS.out.fr.below hb5 hfq
    have k13 : w5.cell? ⟨fb, 13, none⟩ = some (.slice none 0 0) := fr5.cell 13
    have f0 := fr5.frozen
    have R := FIN.out _ w5 own5 hb5
    rw [List.length_take, List.length_drop] at R ⊢
    clear own5 hb5 fr5 c7
    go_wp2_with fail
    go_end0
    exact R
  · have HT := Lib.hid (show rdT l = 0 by unfold rdT; rw [if_neg (by omega)])
    have S := H5.out
    have k3 : w3.cell? ⟨bb, 0, none⟩ = some (.slice (some a) l.length cap) := (HB.out.below S.below hlt).cell 0
    have hbt := bts_mid (w := w3) (B := bb) 14 (bodyN (rdN l) (l.length - 14)) (by omega) hsz q1 q2 q3 (Lie.below q4.out S.below (fun h => by have := q3 h; omega))
    have hq5 := S.rd.lt
    have c7 := clone_any _ _ bb w3 hbt (by omega) (by rw [List.length_take]; omega)
    have HS := Lib.hid S
    have fin : ∀ (v5 : Value) (w5 : World), w5.ownsRow w3.heap.size 5 1 v5 ((l.drop 14).take (bodyN (rdN l) (l.length - 14))).length (((l.drop 14).take (bodyN (rdN l) (l.length - 14))).map bV) → Below w3.heap.size w3 w5 → Readd fb r W l (.returned (.tuple #[])) (w5.setCell ⟨fb, 13, none⟩ v5) := by
      intro v5 w5 own hb
      have S := HS.out
      refine ⟨rfl, (S.res.below hb (by omega)).set_other (by simp; omega) _, (S.below.trans (hb.mono (by omega))).setCell (p := ⟨fb, 13, none⟩) (Nat.le_refl _) _, v5, ?_, ?_, ?_⟩
      · rw [HT.out]; exact (S.fr.below hb (by omega)).set 13 v5
      · exact bts_of_own (ownsRow_setCell_below own (show fb < _ by omega) _)
      · intro p n c he
        have := far_of_own own p n c he
        omega
    have FIN := Lib.hid fin
    generalize hSZ : bodyN (rdN l) (l.length - 14) = sz at *
    have HSZ := Lib.hid hSZ
    have hszI : (sz : Int) ≤ 1500 := by omega
    have hfq : fb < w3.heap.size := by omega
    have hw64 : wrap64 (14 + (sz : Int)) = 14 + (sz : Int) := by unfold wrap64; omega

    clear fin S hbt hSZ hsz h1 h2 hmx q1 q2 q3 hg
    have hw : IntKind.u16.wrap (rdN l : Int) = rdN l := by simp only [IntKind.wrap, IntKind.bits, IntKind.signed]; simp; omega
    clear hN hN' hszI HM
    generalize hR : rdN l = n at *
    have HR := Lib.hid hR
    clear hR
    go_wp2_with fail
    refine c7.mono ?_
    rintro e w5 ⟨v5, rfl, own5, hb5⟩
    obtain ⟨p5, cap5, rfl, -⟩ := bts_len (bts_of_own own5)
    have fr5 := HS.out.fr.below hb5 hfq
    have k13 : w5.cell? ⟨fb, 13, none⟩ = some (.slice none 0 0) := fr5.cell 13
    have f0 := fr5.frozen
    have R := FIN.out _ w5 own5 hb5
    rw [List.length_take, List.length_drop] at R ⊢
    clear own5 hb5 fr5 c7
    go_wp2_with fail
    go_end0
    exact R
end Go.Proofs.Ytfdhkbkonennjaa
