/- The contract of readMessage. -/
import Derived.Test.YtdhmiekheecicaaDoorR
namespace Go.Proofs.YtdhmiekheecicaaDoor
open Go.RowKit Go.Sort Go.Lib

theorem St.rebase {b s : Nat} {w0 w : World} {l : List UInt8} {v : Value} (h : St b s w0 l v w) : St b s w l v w := ⟨h.rd, h.bts, h.stop, Kept.refl _ _, h.rd.lt, h.slt, h.len⟩
theorem St.back {b s : Nat} {w0 w w' : World} {l l' : List UInt8} {v v' : Value} (h : St b s w0 l v w) (k : St b s w l' v' w') : St b s w0 l' v' w' := ⟨k.rd, k.bts, k.stop, h.kept.trans k.kept, h.lt, k.slt, k.len⟩
theorem Stops.back {b s : Nat} {w0 w w' : World} {x : Int} {e : Ending} (hb : Below b w0 w) (h : Stops b s w x e w') : Stops b s w0 x e w' := by
  obtain ⟨h1, w2, h2, h3⟩ := h
  exact ⟨h1, w2, hb.trans h2, h3⟩
theorem fd_drop (l : List UInt8) (k i n : Nat) : fd (l.drop k) i n = fd l (k + i) n := by unfold fd; rw [List.drop_drop]

/-- The kind that bytes tell. -/
def kd (l : List UInt8) : Int := kdOf (byt l 2) (byt l 3)
theorem kd_cases (l : List UInt8) : kd l = 2 ∨ kd l = 1 ∨ kd l = 3 ∨ kd l = 0 := by unfold kd kdOf; (repeat' split) <;> simp
/-- What is wrong with bytes first. -/
def mE (l : List UInt8) : Int := if hdE l ≠ 0 then hdE l else if kd l = 2 then 0 else if l.length < 35 then 2 else if kd l = 3 ∧ l.length < 36 then 2 else if fd l 27 2 < fd l 29 2 then 0 else 5
/-- The message that bytes are. -/
def Msg (l : List UInt8) (k : Int) (f r c b p a m h d : Nat) : Prop :=
  (kd l = 2 ∧ k = 2 ∧ f = 0 ∧ r = 0 ∧ c = 0 ∧ b = 0 ∧ p = 0 ∧ a = 0 ∧ m = 0 ∧ h = 0 ∧ d = 0) ∨
  (kd l ≠ 2 ∧ r = fd l 5 8 ∧ c = fd l 13 4 ∧ b = fd l 17 8 ∧ p = fd l 25 2 ∧ a = fd l 27 2 ∧ m = fd l 29 2 ∧ h = fd l 31 2 ∧ d = fd l 33 2 ∧
    ((kd l = 3 ∧ roleOf (fd l 4 1) ≠ 0 ∧ k = 3 ∧ f = fd l 4 1) ∨ (¬ (kd l = 3 ∧ roleOf (fd l 4 1) ≠ 0) ∧ k = 1 ∧ f = fd l 4 1 / 128 * 128 + fd l 4 1 % 2)))
theorem hd_kd {l : List UInt8} (h : hdE l = 0) : kd l ≠ 0 ∧ 4 ≤ l.length := by
  unfold hdE at h
  unfold kd
  split at h
  · cases h
  · split at h
    · cases h
    · split at h
      · cases h
      · exact ⟨‹_›, by omega⟩

/-- What readMessage leaves. -/
def Tells (n s : Nat) (w0 : World) (l : List UInt8) (k : Int) (f r c b p a m h d : Nat) (e : Ending) (w' : World) : Prop :=
  (mE l = 0 ∧ e = .returned (bpV k f r c b p a m h d) ∧ Below n w0 w') ∨ (mE l ≠ 0 ∧ Stops n s w0 (mE l) e w')
theorem stops_tells {n s : Nat} {w0 w' : World} {l : List UInt8} {k : Int} {f r c b p a m h d : Nat} {x : Int} {w2 : World} (hx : mE l = x) (h0 : x ≠ 0) (hs : Below n w0 w2 ∧ w' = w2.setCell ⟨s, 0, none⟩ (.int .i64 x)) : Tells n s w0 l k f r c b p a m h d (stopped s) w' :=
  .inr ⟨by rw [hx]; exact h0, rfl, w2, hs.1, by rw [hx]; exact hs.2⟩
set_option maxRecDepth 20000 in
set_option maxHeartbeats 4000000 in
theorem readMessage_head {n s : Nat} {w0 w : World} {l : List UInt8} {v : Value} (hS : St n s w0 l v w) (he : Env w0) {k : Int} {f r c b p a m h d : Nat} (hM : hdE l ≠ 0) :
    Calls Tryd.prog 22 #[ptr n] w (Tells n s w0 l k f r c b p a m h d) := by
  have S0 := (hS.alloc (.cells bpZ 31)).rebase
  have B0 := Lib.hid (hS.alloc (.cells bpZ 31)).below
  have z0 := var_new w bpZ 31
  have hgn : w.heap.size ≠ n := by have := hS.rd.lt; omega
  have hsz := hS.kept.size
  have hn0 : 0 < n := by have := hS.slt; omega
  have hnw : n ≤ w.heap.size := Nat.le_of_lt hS.rd.lt
  have c1 := readHead_any S0
  have HE := Lib.hid he
  have Z0 := Lib.hid z0
  clear S0 z0 he hS
  generalize hW0 : w.alloc (.cells bpZ 31) = W0 at *
  go_enter Tryd.func22, Tryd.ntmps22
  go_wp2_with fail
  refine c1.mono ?_
  intro e w1 hE
  rcases hE.symm with ⟨h0, rfl, w2, hs⟩ | ⟨h0, -⟩
  · have e1 : mE l = hdE l := by unfold mE; rw [if_pos h0]
    exact ⟨rfl, stops_tells e1 h0 ⟨B0.out.trans hs.1, hs.2⟩⟩
  · exact absurd h0 hM
set_option maxRecDepth 20000 in
set_option maxHeartbeats 4000000 in
theorem readMessage_tcn {n s : Nat} {w0 w : World} {l : List UInt8} {v : Value} (hS : St n s w0 l v w) (he : Env w0) (hM : hdE l = 0) (hk : kd l = 2) :
    Calls Tryd.prog 22 #[ptr n] w (Tells n s w0 l 2 0 0 0 0 0 0 0 0 0) := by
  have S0 := (hS.alloc (.cells bpZ 31)).rebase
  have B0 := Lib.hid (hS.alloc (.cells bpZ 31)).below
  have z0 := var_new w bpZ 31
  have hgn : w.heap.size ≠ n := by have := hS.rd.lt; omega
  have hsz := hS.kept.size
  have hn0 : 0 < n := by have := hS.slt; omega
  have hnw : n ≤ w.heap.size := Nat.le_of_lt hS.rd.lt
  have c1 := readHead_any S0
  have HE := Lib.hid he
  have Z0 := Lib.hid z0
  clear S0 z0 he hS
  generalize hW0 : w.alloc (.cells bpZ 31) = W0 at *
  go_enter Tryd.func22, Tryd.ntmps22
  go_wp2_with fail
  refine c1.mono ?_
  intro e w1 hE
  rcases hE.symm with ⟨h0, -⟩ | ⟨-, v1, rfl, S1⟩
  · exact absurd hM h0
  rw [show kdOf (byt l 2) (byt l 3) = 2 from hk]
  have z1 := Z0.out.kept S1.kept hgn
  obtain ⟨j0, j1, j2, j3, j4, j5, j6, j7, j8, j9⟩ := z1.bp
  have f0 := z1.frozen
  have R1 := Lib.hid (bp10_at 2 0 0 0 0 0 0 0 0 0 z1)
  have R2 := Lib.hid (bp10_below 2 0 0 0 0 0 0 0 0 0 (B0.out.trans S1.below) hnw)
  have HM := Lib.hid (show mE l = 0 by unfold mE; rw [if_neg (by simp [hM]), if_pos hk])
  clear z1 S1 Z0 B0 hE c1 hM hk hW0
  go_wp2_with fail
  change bodyPost Tryd.prog Tryd.f22 _ _ _ (bp10 w1 w.heap.size 2 0 0 0 0 0 0 0 0 0)
  generalize bp10 w1 w.heap.size 2 0 0 0 0 0 0 0 0 0 = W9 at *
  clear j0 j1 j2 j3 j4 j5 j6 j7 j8 j9 f0
  obtain ⟨k0, k1, k2, k3, k4, k5, k6, k7, k8, k9⟩ := R1.out.bp
  exact bodyPost_ret (v := bpV 2 0 0 0 0 0 0 0 0 0) (by simp [results, Tryd.results22, go_sem, k0, k1, k2, k3, k4, k5, k6, k7, k8, k9]) rfl (.inl ⟨HM.out, rfl, R2.out⟩)
end Go.Proofs.YtdhmiekheecicaaDoor
