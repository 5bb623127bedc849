/- The contract of vector.Best. -/
import Derived.Test.YtidgdanhnpfpmaaE
namespace Go.Proofs.Ytidgdanhnpfpmaa
open Go.RowKit Go.Sort

theorem below_drewN {B : Nat} {w w' : World} (h : Below B w w') (n : Nat) : Below B w (w'.drewN n) := by
  unfold World.drewN; exact ⟨h.os, h.tape, h.output, h.size, h.block⟩
/-- Vectors lie one behind the other. -/
def Vs (w : World) (b o n : Nat) (R C G P : Nat → Nat) : Prop := ∀ i, i < n → w.cell? ⟨b, o + i * 4, none⟩ = some (.int .u64 (R i)) ∧ w.cell? ⟨b, o + i * 4 + 1, none⟩ = some (.int .u32 (C i)) ∧ w.cell? ⟨b, o + i * 4 + 2, none⟩ = some (.int .u64 (G i)) ∧ w.cell? ⟨b, o + i * 4 + 3, none⟩ = some (.int .u16 (P i))
/-- Identifiers of ports lie one behind the other. -/
def Qs (w : World) (b o n : Nat) (Q : Nat → Nat) : Prop := ∀ i, i < n → w.cell? ⟨b, o + i, none⟩ = some (.int .u16 (Q i))
theorem Vs.below {w w' : World} {b o n B : Nat} {R C G P : Nat → Nat} (h : Vs w b o n R C G P) (hb : Below B w w') (hB : b < B) : Vs w' b o n R C G P := fun i hi => by
  obtain ⟨h0, h1, h2, h3⟩ := h i hi
  exact ⟨by rw [hb.cell (by exact hB)]; exact h0, by rw [hb.cell (by exact hB)]; exact h1, by rw [hb.cell (by exact hB)]; exact h2, by rw [hb.cell (by exact hB)]; exact h3⟩
theorem Qs.below {w w' : World} {b o n B : Nat} {Q : Nat → Nat} (h : Qs w b o n Q) (hb : Below B w w') (hB : b < B) : Qs w' b o n Q := fun i hi => by
  rw [hb.cell (by exact hB)]; exact h i hi
theorem Vs.lt {w : World} {b o n : Nat} {R C G P : Nat → Nat} (h : Vs w b o n R C G P) (hn : 0 < n) : b < w.heap.size := block_lt_of_cell (h 0 hn).1
theorem Qs.lt {w : World} {b o n : Nat} {Q : Nat → Nat} (h : Qs w b o n Q) (hn : 0 < n) : b < w.heap.size := block_lt_of_cell (h 0 hn)

/-- How the elements i and j stand. -/
def cmpE (R C G P Q : Nat → Nat) (i j : Nat) : Int := orL [cmpV (R i) (C i) (G i) (P i) (R j) (C j) (G j) (P j), sgn (Q i) (Q j)]
/-- The place of the first one of the least of the first k elements. -/
def bN (R C G P Q : Nat → Nat) : Nat → Nat
  | 0 => 0
  | 1 => 0
  | k + 2 => if cmpE R C G P Q (k + 1) (bN R C G P Q (k + 1)) < 0 then k + 1 else bN R C G P Q (k + 1)
theorem bN_lt {R C G P Q : Nat → Nat} : ∀ {k : Nat}, 0 < k → bN R C G P Q k < k
  | 1, _ => by simp [bN]
  | k + 2, _ => by
    have := bN_lt (R := R) (C := C) (G := G) (P := P) (Q := Q) (k := k + 1) (by omega)
    unfold bN; split <;> omega
theorem bN_take {R C G P Q : Nat → Nat} {k : Nat} (hk : 0 < k) (h : cmpE R C G P Q k (bN R C G P Q k) < 0) : bN R C G P Q (k + 1) = k := by
  match k, hk with
  | k + 1, _ => rw [bN, if_pos h]
theorem bN_keep {R C G P Q : Nat → Nat} {k : Nat} (hk : 0 < k) (h : ¬ cmpE R C G P Q k (bN R C G P Q k) < 0) : bN R C G P Q (k + 1) = bN R C G P Q k := by
  match k, hk with
  | k + 1, _ => rw [bN, if_neg h]

theorem l2_cells (b : Nat) (x0 x1 : Int) (w : World) (h : VarAt w b #[.int .i64 x0, .int .i64 x1] 3) : ∀ (k : Nat) (a : Int), [x0, x1][k]? = some a → w.cell? ⟨b, k, none⟩ = some (.int .i64 a) := by
  intro k a hk
  rw [h.cell]
  match k, hk with
  | 0, hk => simp at hk; subst hk; rfl
  | 1, hk => simp at hk; subst hk; rfl
  | k + 2, hk => simp at hk
theorem or2 (x0 x1 : Int) (W : World) : Calls Try.prog 41 #[.slice (some ⟨W.heap.size, 0, none⟩) 2 2] (W.alloc (.cells #[.int .i64 x0, .int .i64 x1] 3)).drew fun e w' => e = .returned (.int .i64 (orL [x0, x1])) ∧ (W.alloc (.cells #[.int .i64 x0, .int .i64 x1] 3)).drew = w' :=
  or_any _ [x0, x1] 2 _ (by simp) (l2_cells _ x0 x1 _ (var_new _ _ _).drew)
theorem or2' (x0 x1 : Int) (W : World) : Calls Try.prog 41 #[.slice (some ⟨W.heap.size, 0, none⟩) 2 2] (W.alloc (.cells #[.int .i64 x0, .int .i64 x1] 3)) fun e w' => e = .returned (.int .i64 (orL [x0, x1])) ∧ (W.alloc (.cells #[.int .i64 x0, .int .i64 x1] 3)) = w' :=
  or_any _ [x0, x1] 2 _ (by simp) (l2_cells _ x0 x1 _ (var_new _ _ _))

theorem best_none (a a' : Option Addr) (n n' c c' : Nat) (h : n = 0 ∨ n' = 0) (w : World) : Calls Try.prog 33 #[.slice a n c, .slice a' n' c'] w fun e w' => e = .returned (.int .i64 (-1)) ∧ Below w.heap.size w w' := by
  have hB := Lib.hid (Below.refl w.heap.size w)
  by_cases hm : n' < n
  · obtain rfl : n' = 0 := by omega
    clear h
    go_enter Try.func33, Try.ntmps33
    go_wp2
    refine wp_loop_rounds 1 ?_
    rw [rounds_succ]; go_wp2
    go_ret
    exact ⟨rfl, hB.out⟩
  · obtain rfl : n = 0 := by omega
    clear h
    go_enter Try.func33, Try.ntmps33
    go_wp2
    refine wp_loop_rounds 1 ?_
    rw [rounds_succ]; go_wp2
    go_ret
    exact ⟨rfl, hB.out⟩

theorem idx39 (b o n c k : Nat) (h : k < n) (w : World) : (Instr.indexAt 71 (.slice (some ⟨b, o, none⟩) n c) (.int .i64 k)).run Try.prog w = .ok (.pointer (some ⟨b, o + k * 4, none⟩)) w := by
  go_simp
theorem idx41 (b o n c k : Nat) (h : k < n) (w : World) : (Instr.indexAt 72 (.slice (some ⟨b, o, none⟩) n c) (.int .i64 k)).run Try.prog w = .ok (.pointer (some ⟨b, o + k, none⟩)) w := by
  go_simp
/-- What is seen of two elements stays seen. -/
theorem seen_next {wr w1 w2 : World} {b o b' o' k j : Nat} {R C G P Q : Nat → Nat} (h : Below wr.heap.size wr w1 ∧ w1.cell? ⟨b, o + k * 4, none⟩ = some (.int .u64 (R k)) ∧ w1.cell? ⟨b, o + k * 4 + 1, none⟩ = some (.int .u32 (C k)) ∧ w1.cell? ⟨b, o + k * 4 + 2, none⟩ = some (.int .u64 (G k)) ∧ w1.cell? ⟨b, o + k * 4 + 3, none⟩ = some (.int .u16 (P k)) ∧ w1.cell? ⟨b, o + j * 4, none⟩ = some (.int .u64 (R j)) ∧ w1.cell? ⟨b, o + j * 4 + 1, none⟩ = some (.int .u32 (C j)) ∧ w1.cell? ⟨b, o + j * 4 + 2, none⟩ = some (.int .u64 (G j)) ∧ w1.cell? ⟨b, o + j * 4 + 3, none⟩ = some (.int .u16 (P j)) ∧ w1.cell? ⟨b', o' + k, none⟩ = some (.int .u16 (Q k)) ∧ w1.cell? ⟨b', o' + j, none⟩ = some (.int .u16 (Q j))) (hb : Below wr.heap.size w1 w2) (lv : b < wr.heap.size) (lq : b' < wr.heap.size) : Below wr.heap.size wr w2 ∧ w2.cell? ⟨b, o + k * 4, none⟩ = some (.int .u64 (R k)) ∧ w2.cell? ⟨b, o + k * 4 + 1, none⟩ = some (.int .u32 (C k)) ∧ w2.cell? ⟨b, o + k * 4 + 2, none⟩ = some (.int .u64 (G k)) ∧ w2.cell? ⟨b, o + k * 4 + 3, none⟩ = some (.int .u16 (P k)) ∧ w2.cell? ⟨b, o + j * 4, none⟩ = some (.int .u64 (R j)) ∧ w2.cell? ⟨b, o + j * 4 + 1, none⟩ = some (.int .u32 (C j)) ∧ w2.cell? ⟨b, o + j * 4 + 2, none⟩ = some (.int .u64 (G j)) ∧ w2.cell? ⟨b, o + j * 4 + 3, none⟩ = some (.int .u16 (P j)) ∧ w2.cell? ⟨b', o' + k, none⟩ = some (.int .u16 (Q k)) ∧ w2.cell? ⟨b', o' + j, none⟩ = some (.int .u16 (Q j)) := by
  obtain ⟨h0, x0, x1, x2, x3, y0, y1, y2, y3, z0, z1⟩ := h
  refine ⟨h0.trans hb, ?_, ?_, ?_, ?_, ?_, ?_, ?_, ?_, ?_, ?_⟩
  all_goals (first | (rw [hb.cell (by exact lv)]; assumption) | (rw [hb.cell (by exact lq)]; assumption))
theorem seen_alloc {wr w1 : World} {b o b' o' k j : Nat} {R C G P Q : Nat → Nat} {ob : Obj} (h : Below wr.heap.size wr w1 ∧ w1.cell? ⟨b, o + k * 4, none⟩ = some (.int .u64 (R k)) ∧ w1.cell? ⟨b, o + k * 4 + 1, none⟩ = some (.int .u32 (C k)) ∧ w1.cell? ⟨b, o + k * 4 + 2, none⟩ = some (.int .u64 (G k)) ∧ w1.cell? ⟨b, o + k * 4 + 3, none⟩ = some (.int .u16 (P k)) ∧ w1.cell? ⟨b, o + j * 4, none⟩ = some (.int .u64 (R j)) ∧ w1.cell? ⟨b, o + j * 4 + 1, none⟩ = some (.int .u32 (C j)) ∧ w1.cell? ⟨b, o + j * 4 + 2, none⟩ = some (.int .u64 (G j)) ∧ w1.cell? ⟨b, o + j * 4 + 3, none⟩ = some (.int .u16 (P j)) ∧ w1.cell? ⟨b', o' + k, none⟩ = some (.int .u16 (Q k)) ∧ w1.cell? ⟨b', o' + j, none⟩ = some (.int .u16 (Q j))) (lv : b < wr.heap.size) (lq : b' < wr.heap.size) : Below wr.heap.size wr (w1.alloc ob) ∧ (w1.alloc ob).cell? ⟨b, o + k * 4, none⟩ = some (.int .u64 (R k)) ∧ (w1.alloc ob).cell? ⟨b, o + k * 4 + 1, none⟩ = some (.int .u32 (C k)) ∧ (w1.alloc ob).cell? ⟨b, o + k * 4 + 2, none⟩ = some (.int .u64 (G k)) ∧ (w1.alloc ob).cell? ⟨b, o + k * 4 + 3, none⟩ = some (.int .u16 (P k)) ∧ (w1.alloc ob).cell? ⟨b, o + j * 4, none⟩ = some (.int .u64 (R j)) ∧ (w1.alloc ob).cell? ⟨b, o + j * 4 + 1, none⟩ = some (.int .u32 (C j)) ∧ (w1.alloc ob).cell? ⟨b, o + j * 4 + 2, none⟩ = some (.int .u64 (G j)) ∧ (w1.alloc ob).cell? ⟨b, o + j * 4 + 3, none⟩ = some (.int .u16 (P j)) ∧ (w1.alloc ob).cell? ⟨b', o' + k, none⟩ = some (.int .u16 (Q k)) ∧ (w1.alloc ob).cell? ⟨b', o' + j, none⟩ = some (.int .u16 (Q j)) :=
  seen_next h ((Below.refl _ _).alloc h.1.size ob) lv lq
theorem seen_call {wr w1 w2 : World} {b o b' o' k j : Nat} {R C G P Q : Nat → Nat} (h : Below wr.heap.size wr w1 ∧ w1.cell? ⟨b, o + k * 4, none⟩ = some (.int .u64 (R k)) ∧ w1.cell? ⟨b, o + k * 4 + 1, none⟩ = some (.int .u32 (C k)) ∧ w1.cell? ⟨b, o + k * 4 + 2, none⟩ = some (.int .u64 (G k)) ∧ w1.cell? ⟨b, o + k * 4 + 3, none⟩ = some (.int .u16 (P k)) ∧ w1.cell? ⟨b, o + j * 4, none⟩ = some (.int .u64 (R j)) ∧ w1.cell? ⟨b, o + j * 4 + 1, none⟩ = some (.int .u32 (C j)) ∧ w1.cell? ⟨b, o + j * 4 + 2, none⟩ = some (.int .u64 (G j)) ∧ w1.cell? ⟨b, o + j * 4 + 3, none⟩ = some (.int .u16 (P j)) ∧ w1.cell? ⟨b', o' + k, none⟩ = some (.int .u16 (Q k)) ∧ w1.cell? ⟨b', o' + j, none⟩ = some (.int .u16 (Q j))) (hb : Below w1.heap.size w1 w2) (lv : b < wr.heap.size) (lq : b' < wr.heap.size) : Below wr.heap.size wr w2 ∧ w2.cell? ⟨b, o + k * 4, none⟩ = some (.int .u64 (R k)) ∧ w2.cell? ⟨b, o + k * 4 + 1, none⟩ = some (.int .u32 (C k)) ∧ w2.cell? ⟨b, o + k * 4 + 2, none⟩ = some (.int .u64 (G k)) ∧ w2.cell? ⟨b, o + k * 4 + 3, none⟩ = some (.int .u16 (P k)) ∧ w2.cell? ⟨b, o + j * 4, none⟩ = some (.int .u64 (R j)) ∧ w2.cell? ⟨b, o + j * 4 + 1, none⟩ = some (.int .u32 (C j)) ∧ w2.cell? ⟨b, o + j * 4 + 2, none⟩ = some (.int .u64 (G j)) ∧ w2.cell? ⟨b, o + j * 4 + 3, none⟩ = some (.int .u16 (P j)) ∧ w2.cell? ⟨b', o' + k, none⟩ = some (.int .u16 (Q k)) ∧ w2.cell? ⟨b', o' + j, none⟩ = some (.int .u16 (Q j)) :=
  seen_next h (hb.mono h.1.size) lv lq

set_option maxHeartbeats 1000000 in
theorem best_more (b o b' o' n n' c c' : Nat) (R C G P Q : Nat → Nat) (w : World) (hn : n' < n) (h0 : 0 < n') (h1 : n' ≤ 1000) (hv : Vs w b o n' R C G P) (hq : Qs w b' o' n' Q) :
    Calls Try.prog 33 #[.slice (some ⟨b, o, none⟩) n c, .slice (some ⟨b', o', none⟩) n' c'] w fun e w' => e = .returned (.int .i64 (bN R C G P Q n')) ∧ Below w.heap.size w w' := by
  have HV := Lib.hid hv
  have HQ := Lib.hid hq
  have LV := Lib.hid (hv.lt h0)
  have LQ := Lib.hid (hq.lt h0)
  clear hv hq
  go_enter Try.func33, Try.ntmps33
  go_wp2
  go_loopw [5, 12] (fun t i wr => ((i = .int .i64 0 ∧ t = .int .i64 (-1)) ∨ ∃ k : Nat, 0 < k ∧ k ≤ n' ∧ i = .int .i64 k ∧ t = .int .i64 (bN R C G P Q k)) ∧ Below w.heap.size w wr) (fun _ i _ => n' - (intOf i).toNat)
  case atStart => exact ⟨.inl ⟨rfl, rfl⟩, Below.refl _ _⟩
  case round =>
    obtain ⟨hr, hB⟩ := hrel
    have HB := Lib.hid hB
    clear hB
    rcases hr with ⟨rfl, rfl⟩ | ⟨k, hk0, hk, rfl, rfl⟩
    · go_wp2
      go_quiet (fail)
      go_wp2
      exact ⟨⟨.inr ⟨1, by omega, by omega, rfl, rfl⟩, below_drewN HB.out _⟩, by simp [intOf]; omega⟩
    · by_cases hlt : k < n'
      · have hj := bN_lt (R := R) (C := C) (G := G) (P := P) (Q := Q) hk0
        obtain ⟨x0, x1, x2, x3⟩ := (HV.out.below HB.out LV.out) k hlt
        obtain ⟨y0, y1, y2, y3⟩ := (HV.out.below HB.out LV.out) (bN R C G P Q k) (by omega)
        have z0 := (HQ.out.below HB.out LQ.out) k hlt
        have z1 := (HQ.out.below HB.out LQ.out) (bN R C G P Q k) (by omega)
        have lv := Nat.lt_of_lt_of_le LV.out HB.out.size
        have lq := Nat.lt_of_lt_of_le LQ.out HB.out.size
        have q0 := compare_any (R k) (C k) (G k) (P k) (R (bN R C G P Q k)) (C (bN R C G P Q k)) (G (bN R C G P Q k)) (P (bN R C G P Q k))
        have q1 := cmp22 (Q k) (Q (bN R C G P Q k))
        have HT := Lib.hid (bN_take (R := R) (C := C) (G := G) (P := P) (Q := Q) hk0)
        have HK := Lib.hid (bN_keep (R := R) (C := C) (G := G) (P := P) (Q := Q) hk0)
        unfold cmpE at HT HK
        generalize bN R C G P Q k = j at *
        generalize cmpV (R k) (C k) (G k) (P k) (R j) (C j) (G j) (P j) = e0 at *
        generalize sgn (Q k) (Q j) = e1 at *
        have q2 := or2' e0 e1
        have i0 := idx39 b o n c k (by omega)
        have i1 := idx39 b o n c j (by omega)
        have i2 := idx41 b' o' n' c' k (by omega)
        have i3 := idx41 b' o' n' c' j (by omega)
        have hj0 : decide ((j : Int) < 0) = false := by simp
        generalize orL [e0, e1] = e2 at *
        go_wp2
        have HS0 := Lib.hid (show Below wr.heap.size wr wr.drew ∧ wr.drew.cell? ⟨b, o + k * 4, none⟩ = some (.int .u64 (R k)) ∧ wr.drew.cell? ⟨b, o + k * 4 + 1, none⟩ = some (.int .u32 (C k)) ∧ wr.drew.cell? ⟨b, o + k * 4 + 2, none⟩ = some (.int .u64 (G k)) ∧ wr.drew.cell? ⟨b, o + k * 4 + 3, none⟩ = some (.int .u16 (P k)) ∧ wr.drew.cell? ⟨b, o + j * 4, none⟩ = some (.int .u64 (R j)) ∧ wr.drew.cell? ⟨b, o + j * 4 + 1, none⟩ = some (.int .u32 (C j)) ∧ wr.drew.cell? ⟨b, o + j * 4 + 2, none⟩ = some (.int .u64 (G j)) ∧ wr.drew.cell? ⟨b, o + j * 4 + 3, none⟩ = some (.int .u16 (P j)) ∧ wr.drew.cell? ⟨b', o' + k, none⟩ = some (.int .u16 (Q k)) ∧ wr.drew.cell? ⟨b', o' + j, none⟩ = some (.int .u16 (Q j)) from ⟨(Below.refl _ _).drew, x0, x1, x2, x3, y0, y1, y2, y3, z0, z1⟩)
        go_region_held (fun w' => Below wr.heap.size wr w' ∧ w'.cell? ⟨b, o + k * 4, none⟩ = some (.int .u64 (R k)) ∧ w'.cell? ⟨b, o + k * 4 + 1, none⟩ = some (.int .u32 (C k)) ∧ w'.cell? ⟨b, o + k * 4 + 2, none⟩ = some (.int .u64 (G k)) ∧ w'.cell? ⟨b, o + k * 4 + 3, none⟩ = some (.int .u16 (P k)) ∧ w'.cell? ⟨b, o + j * 4, none⟩ = some (.int .u64 (R j)) ∧ w'.cell? ⟨b, o + j * 4 + 1, none⟩ = some (.int .u32 (C j)) ∧ w'.cell? ⟨b, o + j * 4 + 2, none⟩ = some (.int .u64 (G j)) ∧ w'.cell? ⟨b, o + j * 4 + 3, none⟩ = some (.int .u16 (P j)) ∧ w'.cell? ⟨b', o' + k, none⟩ = some (.int .u16 (Q k)) ∧ w'.cell? ⟨b', o' + j, none⟩ = some (.int .u16 (Q j)))
            (first | with_reducible exact HS0.out | with_reducible assumption | (with_reducible refine seen_call ?_ hb lv lq; with_reducible assumption) | (with_reducible refine seen_alloc ?_ lv lq; with_reducible assumption))
            (first | (go_at_call 42; refine (q0 _).mono ?_; rintro e w1 ⟨rfl, hb⟩) | (go_at_call 43; refine (q1 _).mono ?_; rintro e w1 ⟨rfl, rfl⟩) | (go_at_call 41; refine (q2 _).mono ?_; rintro e w1 ⟨rfl, rfl⟩))
        have HS := Lib.hid ((‹Below wr.heap.size wr (w1.alloc (.cells #[.int .i64 e0, .int .i64 e1] 3)) ∧ _›).1)
        clear x0 x1 x2 x3 y0 y1 y2 y3 z0 z1 i0 i1 i2 i3 q0 q1 q2 hb
        generalize w1.alloc (.cells #[.int .i64 e0, .int .i64 e1] 3) = w2 at *
        go_wp2
        · exact ⟨⟨.inr ⟨k + 1, by omega, by omega, by go_num, by rw [HT.out (by assumption)]⟩, HB.out.trans (HS.out.mono HB.out.size)⟩, by simp [intOf]; omega⟩
        · exact ⟨⟨.inr ⟨k + 1, by omega, by omega, by go_num, by rw [HK.out (by omega)]⟩, HB.out.trans (HS.out.mono HB.out.size)⟩, by simp [intOf]; omega⟩
      · obtain rfl : k = n' := by omega
        go_wp2
        go_ret
        exact ⟨rfl, HB.out⟩
set_option maxHeartbeats 1000000 in
theorem best_less (b o b' o' n n' c c' : Nat) (R C G P Q : Nat → Nat) (w : World) (hn : ¬ n' < n) (h0 : 0 < n) (h1 : n ≤ 1000) (hv : Vs w b o n R C G P) (hq : Qs w b' o' n Q) :
    Calls Try.prog 33 #[.slice (some ⟨b, o, none⟩) n c, .slice (some ⟨b', o', none⟩) n' c'] w fun e w' => e = .returned (.int .i64 (bN R C G P Q n)) ∧ Below w.heap.size w w' := by
  have HV := Lib.hid hv
  have HQ := Lib.hid hq
  have LV := Lib.hid (hv.lt h0)
  have LQ := Lib.hid (hq.lt h0)
  clear hv hq
  go_enter Try.func33, Try.ntmps33
  go_wp2
  go_loopw [5, 12] (fun t i wr => ((i = .int .i64 0 ∧ t = .int .i64 (-1)) ∨ ∃ k : Nat, 0 < k ∧ k ≤ n ∧ i = .int .i64 k ∧ t = .int .i64 (bN R C G P Q k)) ∧ Below w.heap.size w wr) (fun _ i _ => n - (intOf i).toNat)
  case atStart => exact ⟨.inl ⟨rfl, rfl⟩, Below.refl _ _⟩
  case round =>
    obtain ⟨hr, hB⟩ := hrel
    have HB := Lib.hid hB
    clear hB
    rcases hr with ⟨rfl, rfl⟩ | ⟨k, hk0, hk, rfl, rfl⟩
    · go_wp2
      go_quiet (fail)
      go_wp2
      exact ⟨⟨.inr ⟨1, by omega, by omega, rfl, rfl⟩, below_drewN HB.out _⟩, by simp [intOf]; omega⟩
    · by_cases hlt : k < n
      · have hj := bN_lt (R := R) (C := C) (G := G) (P := P) (Q := Q) hk0
        obtain ⟨x0, x1, x2, x3⟩ := (HV.out.below HB.out LV.out) k hlt
        obtain ⟨y0, y1, y2, y3⟩ := (HV.out.below HB.out LV.out) (bN R C G P Q k) (by omega)
        have z0 := (HQ.out.below HB.out LQ.out) k hlt
        have z1 := (HQ.out.below HB.out LQ.out) (bN R C G P Q k) (by omega)
        have lv := Nat.lt_of_lt_of_le LV.out HB.out.size
        have lq := Nat.lt_of_lt_of_le LQ.out HB.out.size
        have q0 := compare_any (R k) (C k) (G k) (P k) (R (bN R C G P Q k)) (C (bN R C G P Q k)) (G (bN R C G P Q k)) (P (bN R C G P Q k))
        have q1 := cmp22 (Q k) (Q (bN R C G P Q k))
        have HT := Lib.hid (bN_take (R := R) (C := C) (G := G) (P := P) (Q := Q) hk0)
        have HK := Lib.hid (bN_keep (R := R) (C := C) (G := G) (P := P) (Q := Q) hk0)
        unfold cmpE at HT HK
        generalize bN R C G P Q k = j at *
        generalize cmpV (R k) (C k) (G k) (P k) (R j) (C j) (G j) (P j) = e0 at *
        generalize sgn (Q k) (Q j) = e1 at *
        have q2 := or2' e0 e1
        have i0 := idx39 b o n c k (by omega)
        have i1 := idx39 b o n c j (by omega)
        have i2 := idx41 b' o' n' c' k (by omega)
        have i3 := idx41 b' o' n' c' j (by omega)
        have hj0 : decide ((j : Int) < 0) = false := by simp
        generalize orL [e0, e1] = e2 at *
        go_wp2
        have HS0 := Lib.hid (show Below wr.heap.size wr wr.drew ∧ wr.drew.cell? ⟨b, o + k * 4, none⟩ = some (.int .u64 (R k)) ∧ wr.drew.cell? ⟨b, o + k * 4 + 1, none⟩ = some (.int .u32 (C k)) ∧ wr.drew.cell? ⟨b, o + k * 4 + 2, none⟩ = some (.int .u64 (G k)) ∧ wr.drew.cell? ⟨b, o + k * 4 + 3, none⟩ = some (.int .u16 (P k)) ∧ wr.drew.cell? ⟨b, o + j * 4, none⟩ = some (.int .u64 (R j)) ∧ wr.drew.cell? ⟨b, o + j * 4 + 1, none⟩ = some (.int .u32 (C j)) ∧ wr.drew.cell? ⟨b, o + j * 4 + 2, none⟩ = some (.int .u64 (G j)) ∧ wr.drew.cell? ⟨b, o + j * 4 + 3, none⟩ = some (.int .u16 (P j)) ∧ wr.drew.cell? ⟨b', o' + k, none⟩ = some (.int .u16 (Q k)) ∧ wr.drew.cell? ⟨b', o' + j, none⟩ = some (.int .u16 (Q j)) from ⟨(Below.refl _ _).drew, x0, x1, x2, x3, y0, y1, y2, y3, z0, z1⟩)
        go_region_held (fun w' => Below wr.heap.size wr w' ∧ w'.cell? ⟨b, o + k * 4, none⟩ = some (.int .u64 (R k)) ∧ w'.cell? ⟨b, o + k * 4 + 1, none⟩ = some (.int .u32 (C k)) ∧ w'.cell? ⟨b, o + k * 4 + 2, none⟩ = some (.int .u64 (G k)) ∧ w'.cell? ⟨b, o + k * 4 + 3, none⟩ = some (.int .u16 (P k)) ∧ w'.cell? ⟨b, o + j * 4, none⟩ = some (.int .u64 (R j)) ∧ w'.cell? ⟨b, o + j * 4 + 1, none⟩ = some (.int .u32 (C j)) ∧ w'.cell? ⟨b, o + j * 4 + 2, none⟩ = some (.int .u64 (G j)) ∧ w'.cell? ⟨b, o + j * 4 + 3, none⟩ = some (.int .u16 (P j)) ∧ w'.cell? ⟨b', o' + k, none⟩ = some (.int .u16 (Q k)) ∧ w'.cell? ⟨b', o' + j, none⟩ = some (.int .u16 (Q j)))
            (first | with_reducible exact HS0.out | with_reducible assumption | (with_reducible refine seen_call ?_ hb lv lq; with_reducible assumption) | (with_reducible refine seen_alloc ?_ lv lq; with_reducible assumption))
            (first | (go_at_call 42; refine (q0 _).mono ?_; rintro e w1 ⟨rfl, hb⟩) | (go_at_call 43; refine (q1 _).mono ?_; rintro e w1 ⟨rfl, rfl⟩) | (go_at_call 41; refine (q2 _).mono ?_; rintro e w1 ⟨rfl, rfl⟩))
        have HS := Lib.hid ((‹Below wr.heap.size wr (w1.alloc (.cells #[.int .i64 e0, .int .i64 e1] 3)) ∧ _›).1)
        clear x0 x1 x2 x3 y0 y1 y2 y3 z0 z1 i0 i1 i2 i3 q0 q1 q2 hb
        generalize w1.alloc (.cells #[.int .i64 e0, .int .i64 e1] 3) = w2 at *
        go_wp2
        · exact ⟨⟨.inr ⟨k + 1, by omega, by omega, by go_num, by rw [HT.out (by assumption)]⟩, HB.out.trans (HS.out.mono HB.out.size)⟩, by simp [intOf]; omega⟩
        · exact ⟨⟨.inr ⟨k + 1, by omega, by omega, by go_num, by rw [HK.out (by omega)]⟩, HB.out.trans (HS.out.mono HB.out.size)⟩, by simp [intOf]; omega⟩
      · obtain rfl : k = n := by omega
        go_wp2
        go_ret
        exact ⟨rfl, HB.out⟩
theorem best_some (b o b' o' n n' c c' N : Nat) (R C G P Q : Nat → Nat) (w : World) (hN : min n n' = N) (h0 : 0 < N) (h1 : N ≤ 1000) (hv : Vs w b o N R C G P) (hq : Qs w b' o' N Q) :
    Calls Try.prog 33 #[.slice (some ⟨b, o, none⟩) n c, .slice (some ⟨b', o', none⟩) n' c'] w fun e w' => e = .returned (.int .i64 (bN R C G P Q N)) ∧ Below w.heap.size w w' := by
  have hN' : (n' < n ∧ n' = N) ∨ (¬ n' < n ∧ n = N) := by omega
  clear hN
  rcases hN' with ⟨hn, rfl⟩ | ⟨hn, rfl⟩
  · exact best_more b o b' o' n n' c c' R C G P Q w hn h0 h1 hv hq
  · exact best_less b o b' o' n n' c c' R C G P Q w hn h0 h1 hv hq
end Go.Proofs.Ytidgdanhnpfpmaa
