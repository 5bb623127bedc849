/- What the library returns for a number of many digits: a float that is not infinite, and no error; old memory stays. -/
import Derived.Test.YtbaamcjdofccjaaDoorZ
namespace Go.Proofs.YtbaamcjdofccjaaDoor
open Go.RowKit
def tabOk (w : World) : Prop := ∀ k, k < 696 → ∃ a b, w.cell? ⟨10, k * 2, none⟩ = some (.int .u64 a) ∧ w.cell? ⟨10, k * 2 + 1, none⟩ = some (.int .u64 b) ∧ u64ok a ∧ u64ok b
theorem or_55 (x y : Int) (h1 : 0 ≤ x) (h2 : x < 36028797018963968) (h3 : 0 ≤ y) (h4 : y < 36028797018963968) : 0 ≤ bits BinOp.or IntKind.u64 x y ∧ bits BinOp.or IntKind.u64 x y < 36028797018963968 := by
  rw [u64_or x y h1 (by omega) h3 (by omega)]
  have : x.toNat ||| y.toNat < 2 ^ 55 := Nat.or_lt_two_pow (by omega) (by omega)
  omega
theorem and_lo (u : Int) (h1 : 0 ≤ u) (h2 : u < 72057594037927936) : 0 ≤ bits BinOp.and IntKind.u64 u 1 ∧ bits BinOp.and IntKind.u64 u 1 < 36028797018963968 := by
  rw [and_one_u64 u h1 (by omega)]; omega
theorem or_zero (r : Int) (h1 : 0 ≤ r) (h2 : r < 72057594037927936) : bits BinOp.or IntKind.u64 0 r = r := by
  rw [u64_or 0 r (by omega) (by omega) h1 (by omega)]
  simp
  omega
theorem pf_frame {w w1 : World} {o : Obj} (h : Below w.heap.size (w.alloc o) w1) (n : Nat) : Below w.heap.size w (w1.drewN n) :=
  (((Below.refl _ _).alloc (Nat.le_refl _) o).trans h).trans ⟨rfl, rfl, rfl, Nat.le_refl _, fun _ _ => rfl⟩
set_option maxHeartbeats 2000000 in
set_option maxRecDepth 100000 in
theorem pf64_any (d p : Int) (w : World) (hT : tabOk w) (hs : 10 < w.heap.size) (h1 : 4503599627370496 ≤ d) (h2 : d < 18446744073709551616) (hp1 : -30 ≤ p) (hp2 : p ≤ 0) :
    Calls Tryd.prog 64 #[.int .u64 d, .int .i64 p, .int .u64 0] w fun en w' => ∃ r : Nat, en = .returned (.tuple #[.float .f64 r, .nilIface]) ∧ r < infR ∧ Below w.heap.size w w' := by
  have cl := len64_hi d w h1 h2
  have cg := log2_any p w hp1 hp2
  have lb1 : -100 ≤ p * 108853 / 32768 := by omega
  have lb2 : p * 108853 / 32768 ≤ 0 := by omega
  generalize p * 108853 / 32768 = lp at cg lb1 lb2
  obtain ⟨a, b, ta, tb, oa, ob⟩ := hT (p + 348).toNat (by omega)
  go_enter Tryd.func64, Tryd.ntmps64
  go_wp2_with fail
  refine cl.mono ?_
  rintro e w' ⟨bl, rfl, bl1, bl2, rfl⟩
  go_wp2_with fail
  refine cg.mono ?_
  rintro e w' ⟨rfl, rfl⟩
  clear cl cg
  have hz8 : -(53 - bl - lp - (64 - bl) + lp + 3) = 8 := by omega
  go_wp2_with fail
  have W1 : ∀ v : Obj, ∀ o, (w.alloc v).cell? ⟨10, o, none⟩ = w.cell? ⟨10, o, none⟩ := fun v o => World.cell?_alloc_past _ _ _ hs
  have cp := prescale_any w.heap.size a b (53 - bl - lp - (64 - bl)) p lp (.int .u64 0) (.int .u64 0) (.int .i64 0) (w.alloc (Obj.cells #[.int .u64 0, .int .u64 0, .int .i64 0] 118)) hp1 hp2 (by omega) (by omega) (by omega) (by omega)
    (by rw [W1]; exact ta) (by rw [W1]; exact tb) hs (by rw [World.cell?_alloc_at _ _ _ _ rfl]; rfl) (by rw [World.cell?_alloc_at _ _ _ _ rfl]; rfl) (by rw [World.cell?_alloc_at _ _ _ _ rfl]; rfl) (fun j => World.frozen?_alloc_at _ _ _ _ rfl)
  rw [hz8] at cp
  refine cp.mono ?_
  rintro e w1 ⟨rfl, q0, q1, q2, hb⟩
  clear cp W1 ta tb hz8
  have HB := Lib.hid hb
  clear hb
  go_wp2_with fail
  refine (uscale_any w.heap.size _ a b w1 (u64_wrap _) oa ob q0 q1 q2).mono ?_
  rintro e w' ⟨u, rfl, ⟨u1, u2⟩, n, rfl⟩
  clear q0 q1 q2 oa ob
  by_cases hge : 36028797018963966 ≤ u
  · have hd : decide (36028797018963966 ≤ u) = true := decide_eq_true hge
    go_wp2_with (first | (go_at_call 78; refine (unmin_any _).mono ?_; rintro e w' ⟨rfl, rfl⟩) | (go_at_call 77; refine (bool2i_any _ _).mono ?_; rintro e w' ⟨rfl, rfl⟩))
    have ho := or_55 (u / 2) (bits BinOp.and IntKind.u64 u 1) (by omega) (by omega) (and_lo u u1 u2).1 (and_lo u u1 u2).2
    generalize bits BinOp.or IntKind.u64 (u / 2) (bits BinOp.and IntKind.u64 u 1) = u' at ho
    obtain ⟨o1, o2⟩ := ho
    refine (round_any u' _ o1 (by omega)).mono ?_
    rintro e w' ⟨r, rfl, r1, r2, rfl⟩
    have hz := or_zero r r1 (by omega)
    go_wp2_with fail
    refine (pack_any _ _ _ r1 (by omega) (by omega) (by omega)).mono ?_
    rintro e w' ⟨f, rfl, f1, rfl⟩
    go_wp2
    go_ret2
    exact ⟨f, rfl, f1, pf_frame HB.out n⟩
  · have hd : decide (36028797018963966 ≤ u) = false := decide_eq_false hge
    go_wp2_with (first | (go_at_call 78; refine (unmin_any _).mono ?_; rintro e w' ⟨rfl, rfl⟩) | (go_at_call 77; refine (bool2i_any _ _).mono ?_; rintro e w' ⟨rfl, rfl⟩))
    have ho := or_55 u (bits BinOp.and IntKind.u64 u 1) (by omega) (by omega) (and_lo u u1 u2).1 (and_lo u u1 u2).2
    generalize bits BinOp.or IntKind.u64 u (bits BinOp.and IntKind.u64 u 1) = u' at ho
    obtain ⟨o1, o2⟩ := ho
    refine (round_any u' _ o1 (by omega)).mono ?_
    rintro e w' ⟨r, rfl, r1, r2, rfl⟩
    have hz := or_zero r r1 (by omega)
    go_wp2_with fail
    refine (pack_any _ _ _ r1 (by omega) (by omega) (by omega)).mono ?_
    rintro e w' ⟨f, rfl, f1, rfl⟩
    go_wp2
    go_ret2
    exact ⟨f, rfl, f1, pf_frame HB.out n⟩
end Go.Proofs.YtbaamcjdofccjaaDoor
