/- The law SpeedOrder: for any three words the call returns true, under the condition that the library tables hold what their initialisers lay. -/
import Derived.Test.YtbaamcjdofccjaaDoorH
namespace Go.Proofs.YtbaamcjdofccjaaDoor
open Go.RowKit
theorem run_from8 (n : Int) (w : World) : (callFunc 8 #[.int .u64 n]).run Tryd.prog w = .ok (.value (.float .f64 n.toNat)) w := by
  rw [run_callFunc_extern (e := Extern.MathFloatBits.float64frombits) Tryd.func8 (by kernel_rfl) (by kernel_rfl) (by kernel_rfl) (by kernel_rfl)]
  rfl
abbrev CmpC (f : Nat) (x y : Nat) (r : Int) : Prop := ∀ w, Calls Tryd.prog f #[.float .f64 x, .float .f64 y] w fun e w' => e = .returned (.int .i64 r) ∧ w = w'
set_option maxHeartbeats 1000000 in
theorem order_core (a b c : Int) (x y z : Nat) (ab bc ac : Int) (w : World) (hE : Env w) (ha : a.toNat = x) (hb : b.toNat = y) (hc : c.toNat = z)
    (h1 : CmpC 13 x y ab) (h2 : CmpC 13 y z bc) (h3 : CmpC 13 x z ac) (h4 : CmpC 14 x y ab) (h5 : CmpC 14 y z bc) (h6 : CmpC 13 y x (-ab))
    (l1 : -1 ≤ ab) (l2 : ab ≤ 1) (ht : ab ≤ 0 → bc ≤ 0 → ac ≤ 0) :
    Calls Tryd.prog 4 #[.int .u64 a, .int .u64 b, .int .u64 c] w fun e w' => e = .returned (.bool true) ∧ ∃ n, w' = w.drewN n := by
  have c0 := lives_ok w hE
  have r1 : ∀ w, (callFunc 8 #[.int .u64 a]).run Tryd.prog w = .ok (.value (.float .f64 x)) w := fun w => by rw [run_from8, ha]
  have r2 : ∀ w, (callFunc 8 #[.int .u64 b]).run Tryd.prog w = .ok (.value (.float .f64 y)) w := fun w => by rw [run_from8, hb]
  have r3 : ∀ w, (callFunc 8 #[.int .u64 c]).run Tryd.prog w = .ok (.value (.float .f64 z)) w := fun w => by rw [run_from8, hc]
  have H1 := Lib.hid h1
  have H2 := Lib.hid h2
  have H3 := Lib.hid h3
  have H4 := Lib.hid h4
  have H5 := Lib.hid h5
  have H6 := Lib.hid h6
  have HT := Lib.hid ht
  have g1 : (ab != ab) = false := by simp
  have g2 : (bc != bc) = false := by simp
  have g3 : (-ab != -ab) = false := by simp
  clear h1 h2 h3 h4 h5 h6 ht ha hb hc hE
  go_enter Tryd.func4, Tryd.ntmps4
  go_wp2_with fail
  refine c0.mono ?_
  rintro e w' ⟨rfl, n, rfl⟩
  clear c0
  go_wp2_with fail
  refine (H1.out _).mono ?_
  rintro e w' ⟨rfl, rfl⟩
  go_wp2_with fail
  refine (H2.out _).mono ?_
  rintro e w' ⟨rfl, rfl⟩
  go_wp2_with fail
  refine (H3.out _).mono ?_
  rintro e w' ⟨rfl, rfl⟩
  go_wp2_with fail
  refine (H4.out _).mono ?_
  rintro e w' ⟨rfl, rfl⟩
  go_wp2_with fail
  refine (H5.out _).mono ?_
  rintro e w' ⟨rfl, rfl⟩
  go_wp2_with fail
  refine (H6.out _).mono ?_
  rintro e w' ⟨rfl, rfl⟩
  go_wp2
  · go_ret
    exact ⟨ret_bool (by simp; exact HT.out ‹_› ‹_›), n, rfl⟩
  · go_ret
    exact ⟨rfl, n, rfl⟩
  · go_ret
    exact ⟨rfl, n, rfl⟩
theorem cmpV_bd (x y : Nat) : -1 ≤ cmpV x y ∧ cmpV x y ≤ 1 := by
  unfold cmpV; (repeat' split) <;> omega
theorem order_any (a b c : Int) (w : World) (hE : Env w) (ha : 0 ≤ a) (ha2 : a < 18446744073709551616) (hb : 0 ≤ b) (hb2 : b < 18446744073709551616) (hc : 0 ≤ c) (hc2 : c < 18446744073709551616) :
    Calls Tryd.prog 4 #[.int .u64 a, .int .u64 b, .int .u64 c] w fun e w' => e = .returned (.bool true) ∧ ∃ n, w' = w.drewN n := by
  have x1 : a.toNat < 18446744073709551616 := by omega
  have x2 : b.toNat < 18446744073709551616 := by omega
  have x3 : c.toNat < 18446744073709551616 := by omega
  exact order_core a b c a.toNat b.toNat c.toNat (cmpV a.toNat b.toNat) (cmpV b.toNat c.toNat) (cmpV a.toNat c.toNat) w hE rfl rfl rfl
    (fun w => cmp13_any _ _ w x1 x2) (fun w => cmp13_any _ _ w x2 x3) (fun w => cmp13_any _ _ w x1 x3) (fun w => cmp14_any _ _ w x1 x2) (fun w => cmp14_any _ _ w x2 x3)
    (by rw [← cmpV_neg]; exact fun w => cmp13_any _ _ w x2 x1) (cmpV_bd _ _).1 (cmpV_bd _ _).2 (cmpV_trans _ _ _)
end Go.Proofs.YtbaamcjdofccjaaDoor
