/- The contracts of the reference's Reader and number. -/
import Derived.Test.YtdhmiekheecicaaDoorV
namespace Go.Proofs.YtdhmiekheecicaaDoor
open Go.RowKit Go.Sort

/-- The reference's Reader. -/
abbrev rrC (v : Value) (i : Int) : Array Value := #[v, .int .i64 i, .int .i64 0]
theorem slice_mid (a : Addr) (len cap m n : Nat) (h1 : m ≤ n) (h2 : n ≤ cap) (w : World) : (Instr.slice 32 (.slice (some a) len cap) (some (.int .i64 m)) (some (.int .i64 n)) none).run Tryd.prog w = .ok (.slice (some (cutA a cap m)) (n - m) (cap - m)) w := by
  rw [run_slice_lh w 32 (some a) len cap elem22 .i64 .i64 m n (by omega) (by omega) (by omega), sizeOf22]
  unfold cutA
  by_cases hc : cap = m
  · simp [sliced, Result.andThen, hc]
  · simp [sliced, Result.andThen, hc]
theorem cutA_zero (a : Addr) (cap : Nat) : cutA a cap 0 = a := by unfold cutA; split <;> simp [Addr.add]
theorem below_drewN {B : Nat} {w w' : World} (h : Below B w w') (n : Nat) : Below B w (w'.drewN n) := ⟨h.os, h.tape, h.output, h.size, h.block⟩
set_option maxHeartbeats 1000000 in
theorem rbytes_ok (b : Nat) (a : Addr) (n cap : Nat) (w : World) (hr : VarAt w b (rrC (.slice (some a) n cap) 0) 72) (hn : n ≤ cap) (hm : cap ≤ maxLen) :
    Calls Tryd.prog 38 #[ptr b, .int .i64 n] w fun e w' => e = .returned (.slice (some a) n cap) ∧ Below b w w' := by
  have g0 : decide ((n : Int) < 0) = false := by simp
  have g1 : decide ((n : Int) > (n : Int)) = false := by simp
  have hm' := hm
  unfold maxLen at hm'
  have hn8 : (n : Int) ≤ 9223372036854775807 := by omega
  have r0 : w.cell? ⟨b, 0, none⟩ = some (.slice (some a) n cap) := hr.cell 0
  have r1 : w.cell? ⟨b, 1, none⟩ = some (.int .i64 0) := hr.cell 1
  have r2 : w.cell? ⟨b, 2, none⟩ = some (.int .i64 0) := hr.cell 2
  have HR := Lib.hid hr
  clear hm hr
  go_enter Tryd.func38, Tryd.ntmps38
  go_wp2_with fail
  go_quiet (fail)
  have hr : VarAt (w.drewN nq) b (rrC (.slice (some a) n cap) 0) 72 := HR.out
  have HB := Lib.hid (below_drewN (Below.refl b w) nq)
  clear HR r0 r1 r2
  generalize w.drewN nq = W1 at *
  have r0 : W1.cell? ⟨b, 0, none⟩ = some (.slice (some a) n cap) := hr.cell 0
  have r1 : W1.cell? ⟨b, 1, none⟩ = some (.int .i64 0) := hr.cell 1
  have f1 := hr.frozen 1
  have HS : VarAt _ b (rrC (.slice (some a) n cap) n) 72 := hr.set 1 (.int .i64 n)
  have HB2 := Lib.hid (HB.out.setCell (p := ⟨b, 1, none⟩) (Nat.le_refl b) (.int .i64 n))
  clear hr HB
  have HS2 := Lib.hid HS
  clear HS
  go_wp2_with fail
  have hr := HS2.out
  clear HS2 r0 r1 f1
  generalize W1.setCell ⟨b, 1, none⟩ (.int .i64 n) = W2 at *
  have r0 : W2.cell? ⟨b, 0, none⟩ = some (.slice (some a) n cap) := hr.cell 0
  have r1 : W2.cell? ⟨b, 1, none⟩ = some (.int .i64 n) := hr.cell 1
  have e1 := slice_mid a n cap 0 n (Nat.zero_le _) hn
  rw [cutA_zero] at e1
  have e2 : ∀ w, (Instr.slice 32 (.slice (some a) n cap) (some (.int .i64 0)) (some (.int .i64 n)) none).run Tryd.prog w = .ok (.slice (some a) n cap) w := e1
  clear hr e1
  have hw : IntKind.i64.wrap ((n : Int) - n) = 0 := by rw [Int.sub_self]; rfl
  go_quiet (fail)
  have HB3 := Lib.hid (below_drewN HB2.out nq)
  clear HB2 r0 r1 e2
  generalize W2.drewN nq = W3 at *
  go_wp2_with fail
  go_ret
  exact ⟨rfl, HB3.out⟩

theorem num_step {m : List UInt8} {k : Nat} (hk : k < m.length) (h8 : m.length ≤ 8) : IntKind.u64.wrap (256 * (numOf (m.take k) : Int)) = 256 * (numOf (m.take k) : Int) ∧ IntKind.u64.wrap (256 * (numOf (m.take k) : Int) + ((m[k]).toNat : Int)) = (numOf (m.take (k + 1)) : Int) := by
  have h1 := numOf_lt (m.take k)
  rw [List.length_take, Nat.min_eq_left (by omega)] at h1
  have h2 := (m[k]).toNat_lt
  have h3 : 256 ^ k ≤ 256 ^ 7 := Nat.pow_le_pow_right (by omega) (by omega)
  have h4 : (256 : Nat) ^ 7 = 72057594037927936 := rfl
  rw [numOf_take hk]
  constructor
  · simp only [IntKind.wrap, IntKind.bits, IntKind.signed]; simp; omega
  · simp only [IntKind.wrap, IntKind.bits, IntKind.signed]; simp; omega
set_option maxHeartbeats 1000000 in
theorem rnumber_ok (b : Nat) (a : Addr) (cap : Nat) (m : List UInt8) (w : World) (hr : VarAt w b (rrC (.slice (some a) m.length cap) 0) 72) (hn : m.length ≤ cap) (hm : cap ≤ maxLen) (h8 : m.length ≤ 8) (hab : a.block < b) (hL : Lie w a m) :
    Calls Tryd.prog 34 #[ptr b, .int .i64 m.length] w fun e w' => e = .returned (.int .u64 (numOf m)) ∧ Below b w w' := by
  have c := rbytes_ok b a m.length cap w hr hn hm
  have HL := Lib.hid hL
  have HM := Lib.hid hm
  clear hr hL hm
  go_enter Tryd.func34, Tryd.ntmps34
  go_wp2_with fail
  refine c.mono ?_
  rintro x w1 ⟨rfl, hb⟩
  have hv1 : Bts w1 b (.slice (some a) m.length cap) m := .inr ⟨a, cap, rfl, hn, HM.out, fun _ => hab, HL.out.below hb (fun _ => hab)⟩
  have HB := Lib.hid hb
  clear hb c HL hn hab HM
  obtain ⟨_, p, cap', he, _, _, hcell⟩ := bts_parts hv1
  cases he
  clear hv1
  have HC := Lib.hid hcell
  clear hcell
  go_wp2_with fail
  go_loop [6, 7] (fun t i => ∃ k : Nat, k ≤ m.length ∧ i = .int .i64 k ∧ t = .int .u64 (numOf (m.take k))) (fun _ i => m.length - (intOf i).toNat)
  case atStart => exact ⟨0, Nat.zero_le _, rfl, rfl⟩
  case round =>
    obtain ⟨k, hk, rfl, rfl⟩ := hrel
    by_cases hlt : k < m.length
    · obtain ⟨g, o, he, hc⟩ := HC.out k hlt
      cases he
      obtain ⟨s1, s2⟩ := num_step hlt h8
      have hbt : (m[k]).toNat < 256 := (m[k]).toNat_lt
      replace hc : w1.cell? ⟨g, o + k, none⟩ = some (.int .u8 ((m[k]).toNat : Int)) := hc
      generalize hx : (m[k]).toNat = x at *
      clear hx
      go_wp2
      refine ⟨⟨k + 1, by omega, by go_num, rfl⟩, by simp [intOf]; omega⟩
    · have : k = m.length := by omega
      subst this
      go_wp2
      go_ret
      exact ⟨rfl, HB.out⟩

set_option maxHeartbeats 1000000 in
theorem number_any (v : Value) (l : List UInt8) (k n : Nat) (w : World) (hv : Bts w w.heap.size v l) (hk : k + n ≤ l.length) (h1 : 1 ≤ n) (h8 : n ≤ 8) (hl : l.length ≤ 10000) :
    Calls Tryd.prog 24 #[v, .int .i64 k, .int .i64 n] w fun e w' => e = .returned (.int .u64 (fd l k n)) ∧ Below w.heap.size w w' := by
  rcases hv with ⟨rfl, rfl⟩ | ⟨a, cap, rfl, h2, h3, h4, h5⟩
  · exact absurd hk (by simp; omega)
  have hlen : ((l.drop k).take n).length = n := by rw [List.length_take, List.length_drop]; omega
  have e1 := slice_mid a l.length cap k (k + n) (by omega) (by omega)
  rw [Nat.add_sub_cancel_left] at e1
  have e2 : ∀ w, (Instr.slice 32 (.slice (some a) l.length cap) (some (.int .i64 k)) (some (.int .i64 ((k : Int) + (n : Int)))) none).run Tryd.prog w = .ok (.slice (some (cutA a cap k)) n (cap - k)) w := by
    intro w; rw [← Int.natCast_add]; exact e1 w
  have hb := box_below w (.cells (rrC (.slice (some (cutA a cap k)) n (cap - k)) 0) 72)
  have z := var_new w (rrC (.slice (some (cutA a cap k)) n (cap - k)) 0) 72
  have hab : (cutA a cap k).block < w.heap.size := by
    unfold cutA; split
    · exact h4 (by omega)
    · rw [add_block]; exact h4 (by omega)
  have hL : Lie w (cutA a cap k) ((l.drop k).take n) := by
    refine Lie.take (fun j hj => ?_) n
    rw [List.length_drop] at hj
    unfold cutA
    rw [if_neg (by omega), add_add, List.getElem_drop]
    exact h5 (k + j) (by omega)
  have c := rnumber_ok w.heap.size (cutA a cap k) (cap - k) ((l.drop k).take n) (w.alloc (.cells (rrC (.slice (some (cutA a cap k)) n (cap - k)) 0) 72)) (by rw [hlen]; exact z) (by omega) (by omega) (by omega) hab (hL.below hb (fun _ => hab))
  rw [hlen] at c
  have c2 : Calls Tryd.prog 34 #[ptr w.heap.size, .int .i64 n] (w.alloc (.cells (rrC (.slice (some (cutA a cap k)) n (cap - k)) 0) 72)) fun e w' => e = .returned (.int .u64 (fd l k n)) ∧ Below w.heap.size (w.alloc (.cells (rrC (.slice (some (cutA a cap k)) n (cap - k)) 0) 72)) w' := c
  have HB := Lib.hid hb
  clear c e1 hb z hab hL h5 hlen h4 h3 h2
  generalize fd l k n = X at *
  generalize cutA a cap k = A at *
  go_enter Tryd.func24, Tryd.ntmps24
  go_wp2_with fail
  refine c2.mono ?_
  rintro x w1 ⟨rfl, hb⟩
  have HB2 := Lib.hid (HB.out.trans hb)
  clear c2 hb HB e2
  go_wp2_with fail
  go_ret
  exact ⟨rfl, HB2.out⟩
end Go.Proofs.YtdhmiekheecicaaDoor
