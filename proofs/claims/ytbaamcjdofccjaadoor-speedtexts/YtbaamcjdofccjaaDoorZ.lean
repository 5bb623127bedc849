/- Scaling by a power of ten: what prescale writes, and that uscale returns a number of 56 bits, whatever the table holds. -/
import Derived.Test.YtbaamcjdofccjaaDoorY
namespace Go.Proofs.YtbaamcjdofccjaaDoor
open Go.RowKit
theorem three_cells {w : World} {B : Nat} {v0 v1 v2 : Value} (h0 : w.cell? ⟨B, 0, none⟩ = some v0) (h1 : w.cell? ⟨B, 1, none⟩ = some v1) (h2 : w.cell? ⟨B, 2, none⟩ = some v2) (a b c : Value) :
    (((w.setCell ⟨B, 0, none⟩ a).setCell ⟨B, 1, none⟩ b).setCell ⟨B, 2, none⟩ c).cell? ⟨B, 0, none⟩ = some a ∧ (((w.setCell ⟨B, 0, none⟩ a).setCell ⟨B, 1, none⟩ b).setCell ⟨B, 2, none⟩ c).cell? ⟨B, 1, none⟩ = some b ∧
    (((w.setCell ⟨B, 0, none⟩ a).setCell ⟨B, 1, none⟩ b).setCell ⟨B, 2, none⟩ c).cell? ⟨B, 2, none⟩ = some c ∧ Below B w (((w.setCell ⟨B, 0, none⟩ a).setCell ⟨B, 1, none⟩ b).setCell ⟨B, 2, none⟩ c) := by
  have n01 : (⟨B, 0, none⟩ : Addr) ≠ ⟨B, 1, none⟩ := by simp
  have n02 : (⟨B, 0, none⟩ : Addr) ≠ ⟨B, 2, none⟩ := by simp
  have n12 : (⟨B, 1, none⟩ : Addr) ≠ ⟨B, 2, none⟩ := by simp
  have b0 : Below B w (w.setCell ⟨B, 0, none⟩ a) := (Below.refl B w).setCell (p := ⟨B, 0, none⟩) (Nat.le_refl B) a
  have b1 := b0.setCell (p := ⟨B, 1, none⟩) (Nat.le_refl B) b
  have b2 := b1.setCell (p := ⟨B, 2, none⟩) (Nat.le_refl B) c
  refine ⟨?_, ?_, ?_, b2⟩
  · rw [World.cell?_setCell_other _ _ _ _ n02.symm, World.cell?_setCell_other _ _ _ _ n01.symm, World.cell?_setCell_same _ _ _ h0]
  · rw [World.cell?_setCell_other _ _ _ _ n12.symm]
    exact World.cell?_setCell_same _ _ _ ((World.cell?_setCell_other _ _ _ _ n01).trans h1)
  · exact World.cell?_setCell_same _ _ _ ((World.cell?_setCell_other _ _ _ _ n12).trans ((World.cell?_setCell_other _ _ _ _ n02).trans h2))
set_option maxHeartbeats 1000000 in
set_option maxRecDepth 100000 in
theorem prescale_any (B : Nat) (a b : Int) (e p lp : Int) (v0 v1 v2 : Value) (w : World) (hp1 : -30 ≤ p) (hp2 : p ≤ 0) (he1 : -1000 ≤ e) (he2 : e ≤ 1000) (hl1 : -1000 ≤ lp) (hl2 : lp ≤ 1000)
    (ha : w.cell? ⟨10, (p + 348).toNat * 2, none⟩ = some (.int .u64 a)) (hb : w.cell? ⟨10, (p + 348).toNat * 2 + 1, none⟩ = some (.int .u64 b)) (_hB : 10 < B)
    (h0 : w.cell? ⟨B, 0, none⟩ = some v0) (h1 : w.cell? ⟨B, 1, none⟩ = some v1) (h2 : w.cell? ⟨B, 2, none⟩ = some v2) (hf : ∀ j, w.frozen? ⟨B, j, none⟩ = false) :
    Calls Tryd.prog 75 #[.pointer (some ⟨B, 0, none⟩), .int .i64 e, .int .i64 p, .int .i64 lp] w fun en w' => en = .returned (.tuple #[]) ∧ w'.cell? ⟨B, 0, none⟩ = some (.int .u64 a) ∧ w'.cell? ⟨B, 1, none⟩ = some (.int .u64 b) ∧ w'.cell? ⟨B, 2, none⟩ = some (.int .i64 (-(e + lp + 3))) ∧ Below B w w' := by
  go_enter Tryd.func75, Tryd.ntmps75
  go_wp2
  go_end0
  exact ⟨rfl, three_cells h0 h1 h2 _ _ _⟩

theorem or_56 (x y : Int) (h1 : 0 ≤ x) (h2 : x < 72057594037927936) (h3 : 0 ≤ y) (h4 : y < 72057594037927936) : 0 ≤ bits BinOp.or IntKind.u64 x y ∧ bits BinOp.or IntKind.u64 x y < 72057594037927936 := by
  rw [u64_or x y h1 (by omega) h3 (by omega)]
  have : x.toNat ||| y.toNat < 2 ^ 56 := Nat.or_lt_two_pow (by omega) (by omega)
  omega
theorem bool2_q (b : Bool) (w : World) :
    Calls Tryd.prog 61 #[.bool b] w fun e w' => e = .returned (.int .u64 (if b then 1 else 0)) ∧ w' = w := (bool2_any b w).mono fun _ _ h => ⟨h.1, h.2.symm⟩
set_option maxHeartbeats 2000000 in
set_option maxRecDepth 100000 in
theorem uscale_any (B : Nat) (x a b : Int) (w : World) (hx : u64ok x) (ha : u64ok a) (hb : u64ok b)
    (h0 : w.cell? ⟨B, 0, none⟩ = some (.int .u64 a)) (h1 : w.cell? ⟨B, 1, none⟩ = some (.int .u64 b)) (h2 : w.cell? ⟨B, 2, none⟩ = some (.int .i64 8)) :
    Calls Tryd.prog 76 #[.int .u64 x, .pointer (some ⟨B, 0, none⟩)] w fun en w' => ∃ u : Int, en = .returned (.int .u64 u) ∧ (0 ≤ u ∧ u < 72057594037927936) ∧ ∃ n, w' = w.drewN n := by
  have c1 := mul64_any x a w hx ha
  have c2 := mul64_any x b w hx hb
  have h63 : bits BinOp.and IntKind.i64 8 63 = 8 := by decide +kernel
  clear hx ha hb
  go_enter Tryd.func76, Tryd.ntmps76
  go_wp2_with fail
  refine c1.mono ?_
  rintro e w' ⟨hi, lo, rfl, hhi, hlo, rfl⟩
  unfold u64ok at hhi hlo
  obtain ⟨hi1, hi2⟩ := hhi
  obtain ⟨lo1, lo2⟩ := hlo
  cases hne : (hi / 256 * 256 != hi)
  · go_wp2_with fail
    refine c2.mono ?_
    rintro e w' ⟨m2, l2, rfl, hm2, hl2, rfl⟩
    unfold u64ok at hm2 hl2
    obtain ⟨m21, m22⟩ := hm2
    clear hl2 c1 c2
    by_cases hlt : lo < m2
    · have hd : decide (lo < m2) = true := decide_eq_true hlt
      go_wp2_with (go_at_call 61; refine (bool2_any _ _).mono ?_; rintro e w' ⟨rfl, rfl⟩)
      have hh := u64_wrap (hi - 1)
      generalize IntKind.u64.wrap (hi - 1) = h' at hh
      unfold u64ok at hh
      obtain ⟨hh1, hh2⟩ := hh
      go_quiet ((go_at_call 61; exact Calls.quiet_of_same (bool2_q _ _)))
      go_wp2
      all_goals
        go_ret
        exact ⟨_, rfl, or_56 _ _ (by omega) (by omega) (by decide) (by decide), _, rfl⟩
    · have hd : decide (lo < m2) = false := decide_eq_false hlt
      go_wp2_with (go_at_call 61; refine (bool2_any _ _).mono ?_; rintro e w' ⟨rfl, rfl⟩)
      go_quiet ((go_at_call 61; exact Calls.quiet_of_same (bool2_q _ _)))
      go_wp2
      all_goals
        go_ret
        exact ⟨_, rfl, or_56 _ _ (by omega) (by omega) (by decide) (by decide), _, rfl⟩
  · go_wp2
    go_ret
    exact ⟨_, rfl, or_56 _ 1 (by omega) (by omega) (by omega) (by omega), 0, rfl⟩

end Go.Proofs.YtbaamcjdofccjaaDoor
