/- The small functions by which the library scales a number of many digits: contracts, whatever the world. -/
import Derived.Test.YtbaamcjdofccjaaDoorF
import Derived.Test.YtbaamcjdofccjaaDoorO
import Derived.Laws.BitsAllLaws
import Derived.Laws.Bits64
import Derived.WalkSmall
namespace Go.Proofs.YtbaamcjdofccjaaDoor
open Go.RowKit
/-- The library table of lengths of bytes. -/
def len8 : ByteArray := ⟨#[0, 1, 2, 2, 3, 3, 3, 3, 4, 4, 4, 4, 4, 4, 4, 4, 5, 5, 5, 5, 5, 5, 5, 5, 5, 5, 5, 5, 5, 5, 5, 5, 6, 6, 6, 6, 6, 6, 6, 6, 6, 6, 6, 6, 6, 6, 6, 6, 6, 6, 6, 6, 6, 6, 6, 6, 6, 6, 6, 6, 6, 6, 6, 6, 7, 7, 7, 7, 7, 7, 7, 7, 7, 7, 7, 7, 7, 7, 7, 7, 7, 7, 7, 7, 7, 7, 7, 7, 7, 7, 7, 7, 7, 7, 7, 7, 7, 7, 7, 7, 7, 7, 7, 7, 7, 7, 7, 7, 7, 7, 7, 7, 7, 7, 7, 7, 7, 7, 7, 7, 7, 7, 7, 7, 7, 7, 7, 7, 8, 8, 8, 8, 8, 8, 8, 8, 8, 8, 8, 8, 8, 8, 8, 8, 8, 8, 8, 8, 8, 8, 8, 8, 8, 8, 8, 8, 8, 8, 8, 8, 8, 8, 8, 8, 8, 8, 8, 8, 8, 8, 8, 8, 8, 8, 8, 8, 8, 8, 8, 8, 8, 8, 8, 8, 8, 8, 8, 8, 8, 8, 8, 8, 8, 8, 8, 8, 8, 8, 8, 8, 8, 8, 8, 8, 8, 8, 8, 8, 8, 8, 8, 8, 8, 8, 8, 8, 8, 8, 8, 8, 8, 8, 8, 8, 8, 8, 8, 8, 8, 8, 8, 8, 8, 8, 8, 8, 8, 8, 8, 8, 8, 8, 8, 8, 8, 8, 8, 8, 8, 8, 8, 8, 8, 8, 8, 8]⟩
theorem len8_size : len8.size = 256 := by decide +kernel
theorem len8_bd (n : Nat) (h : n < len8.size) : (1 ≤ n → 1 ≤ (len8[n].toNat : Int) ∧ (len8[n].toNat : Int) ≤ 8) ∧ (16 ≤ n → 5 ≤ (len8[n].toNat : Int)) := by
  have key : ∀ k : Fin 256, (1 ≤ k.val → 1 ≤ ((len8[k.val]'(by rw [len8_size]; exact k.isLt)).toNat : Int) ∧ ((len8[k.val]'(by rw [len8_size]; exact k.isLt)).toNat : Int) ≤ 8) ∧ (16 ≤ k.val → 5 ≤ ((len8[k.val]'(by rw [len8_size]; exact k.isLt)).toNat : Int)) := by decide +kernel
  rw [len8_size] at h
  exact key ⟨n, h⟩
theorem wrap_small {x : Int} (h1 : 0 ≤ x) (h2 : x ≤ 1000000) : wrap64 x = x := by unfold wrap64; omega
set_option maxHeartbeats 1000000 in
set_option maxRecDepth 100000 in
theorem len64_hi (d : Int) (w : World) (h1 : 4503599627370496 ≤ d) (h2 : d < 18446744073709551616) :
    Calls Tryd.prog 73 #[.int .u64 d] w fun e w' => ∃ b : Int, e = .returned (.int .i64 b) ∧ 53 ≤ b ∧ b ≤ 64 ∧ w = w' := by
  go_enter Tryd.func73, Tryd.ntmps73
  go_wp2
  · go_ret
    have hn : (d / 4294967296 / 65536 / 256).toNat < len8.size := by rw [len8_size]; omega
    have hb := (len8_bd _ hn).1 (by omega)
    refine ⟨wrap64 (56 + wrap64 (len8[(d / 4294967296 / 65536 / 256).toNat].toNat : Int)), rfl, ?_, ?_, rfl⟩
    · rw [wrap_small (x := (len8[(d / 4294967296 / 65536 / 256).toNat].toNat : Int)) (by omega) (by omega), wrap_small (by omega) (by omega)]; omega
    · rw [wrap_small (x := (len8[(d / 4294967296 / 65536 / 256).toNat].toNat : Int)) (by omega) (by omega), wrap_small (by omega) (by omega)]; omega
  · go_ret
    have hn : (d / 4294967296 / 65536).toNat < len8.size := by rw [len8_size]; omega
    have hb := (len8_bd _ hn).1 (by omega)
    have hb2 := (len8_bd _ hn).2 (by omega)
    refine ⟨wrap64 (48 + wrap64 (len8[(d / 4294967296 / 65536).toNat].toNat : Int)), rfl, ?_, ?_, rfl⟩
    · rw [wrap_small (x := (len8[(d / 4294967296 / 65536).toNat].toNat : Int)) (by omega) (by omega), wrap_small (by omega) (by omega)]; omega
    · rw [wrap_small (x := (len8[(d / 4294967296 / 65536).toNat].toNat : Int)) (by omega) (by omega), wrap_small (by omega) (by omega)]; omega

theorem log2_any (p : Int) (w : World) (h1 : -30 ≤ p) (h2 : p ≤ 0) :
    Calls Tryd.prog 74 #[.int .i64 p] w fun e w' => e = .returned (.int .i64 (p * 108853 / 32768)) ∧ w = w' := by
  go_enter Tryd.func74, Tryd.ntmps74
  go_wp2
  go_ret
  exact ⟨rfl, rfl⟩
def u64ok (x : Int) : Prop := 0 ≤ x ∧ x < 18446744073709551616
theorem u64_wrap (x : Int) : u64ok (IntKind.u64.wrap x) := by
  unfold u64ok
  simp only [IntKind.wrap, IntKind.signed, IntKind.bits]
  simp
  omega
set_option maxHeartbeats 1000000 in
set_option maxRecDepth 100000 in
theorem mul64_any (x y : Int) (w : World) (hx : u64ok x) (hy : u64ok y) :
    Calls Tryd.prog 85 #[.int .u64 x, .int .u64 y] w fun e w' => ∃ h l : Int, e = .returned (.tuple #[.int .u64 h, .int .u64 l]) ∧ u64ok h ∧ u64ok l ∧ w = w' := by
  unfold u64ok at hx hy
  obtain ⟨hx1, hx2⟩ := hx
  obtain ⟨hy1, hy2⟩ := hy
  go_enter Tryd.func85, Tryd.ntmps85
  go_wp2
  go_ret2
  exact ⟨_, _, rfl, u64_wrap _, u64_wrap _, rfl⟩

theorem bool2_any (b : Bool) (w : World) :
    Calls Tryd.prog 61 #[.bool b] w fun e w' => e = .returned (.int .u64 (if b then 1 else 0)) ∧ w = w' := by
  cases b
  all_goals
    go_enter Tryd.func61, Tryd.ntmps61
    go_wp2
    go_ret
    exact ⟨rfl, rfl⟩
theorem bool2i_any (b : Bool) (w : World) :
    Calls Tryd.prog 77 #[.bool b] w fun e w' => e = .returned (.int .i64 (if b then 1 else 0)) ∧ w = w' := by
  cases b
  all_goals
    go_enter Tryd.func77, Tryd.ntmps77
    go_wp2
    go_ret
    exact ⟨rfl, rfl⟩
theorem unmin_any (w : World) :
    Calls Tryd.prog 78 #[.int .u64 9007199254740992] w fun e w' => e = .returned (.int .u64 36028797018963966) ∧ w = w' := by
  go_enter Tryd.func78, Tryd.ntmps78
  go_wp2
  go_ret
  exact ⟨rfl, rfl⟩
set_option maxHeartbeats 1000000 in
theorem round_any (u : Int) (w : World) (h1 : 0 ≤ u) (h2 : u < 72057594037927936) :
    Calls Tryd.prog 80 #[.int .u64 u] w fun e w' => ∃ r : Int, e = .returned (.int .u64 r) ∧ 0 ≤ r ∧ r ≤ (u + 2) / 4 ∧ w = w' := by
  have hb := and_one_u64 (u / 4) (by omega) (by omega)
  have HB := Lib.hid hb
  clear hb
  go_enter Tryd.func80, Tryd.ntmps80
  go_wp2
  go_ret
  refine ⟨_, rfl, ?_⟩
  rw [HB.out, IntKind.wrap_u64, Int.emod_eq_of_lt (by omega) (by omega)]
  exact ⟨by omega, by omega, rfl⟩

theorem run_frombits62 (n : Int) (w : World) : (callFunc 62 #[.int .u64 n]).run Tryd.prog w = .ok (.value (.float .f64 n.toNat)) w := run_frombits n w
theorem strip52 (m : Nat) (h : m < 9007199254740992) : (m &&& (18446744073709551615 - 4503599627370496)) < 2 ^ 52 := by
  apply Nat.lt_pow_two_of_testBit
  intro i hi
  rw [Nat.testBit_and]
  rcases Nat.lt_or_ge 52 i with a | a
  · have : m < 2 ^ i := Nat.lt_of_lt_of_le (show m < 2 ^ 53 from h) (Nat.pow_le_pow_right (by decide) a)
    rw [Nat.testBit_lt_two_pow this, Bool.false_and]
  · have : i = 52 := by omega
    subst this
    rw [show (18446744073709551615 - 4503599627370496 : Nat).testBit 52 = false by decide, Bool.and_false]
theorem or_exp (A : Nat) (c : Nat) (hA : A < 2 ^ 52) : A ||| (c * 2 ^ 52) = c * 2 ^ 52 + A := by
  rw [Nat.or_comm]; exact nat_join 52 _ _ (Nat.mul_mod_left _ _) hA
theorem pack_lt (m e : Int) (h0 : 0 ≤ m) (h1 : m < 9007199254740992) (he1 : -100 ≤ e) (he2 : e ≤ 100) :
    (bits BinOp.or IntKind.u64 (bits BinOp.andNot IntKind.u64 m 4503599627370496) ((1075 + e) * 4503599627370496)).toNat < infR := by
  obtain ⟨M, rfl⟩ := Int.eq_ofNat_of_zero_le h0
  obtain ⟨c, hc⟩ := Int.eq_ofNat_of_zero_le (show 0 ≤ 1075 + e by omega)
  have hA := strip52 M (by omega)
  rw [hc, u64_andNot (M : Int) 4503599627370496 (by omega) (by omega) (by omega) (by omega)]
  have e1 : ((M : Int).toNat &&& (18446744073709551615 - (4503599627370496 : Int).toNat)) = (M &&& (18446744073709551615 - 4503599627370496)) := rfl
  rw [e1]
  generalize (M &&& (18446744073709551615 - 4503599627370496)) = A at hA
  have p52 : (2 : Nat) ^ 52 = 4503599627370496 := by decide
  rw [p52] at hA
  have e2 : ((c : Int) * 4503599627370496) = ((c * 4503599627370496 : Nat) : Int) := by omega
  rw [e2, u64_or_nat A (c * 4503599627370496) (by omega) (by omega), Int.toNat_natCast, ← p52, or_exp A c (by rw [p52]; exact hA), p52]
  have : infR = 9218868437227405312 := rfl
  omega
set_option maxHeartbeats 1000000 in
set_option maxRecDepth 100000 in
theorem pack_any (m e : Int) (w : World) (h0 : 0 ≤ m) (h1 : m ≤ 9007199254740992) (he1 : -100 ≤ e) (he2 : e ≤ 100) :
    Calls Tryd.prog 83 #[.int .u64 m, .int .i64 e] w fun en w' => ∃ r : Nat, en = .returned (.tuple #[.float .f64 r, .nilIface]) ∧ r < infR ∧ w = w' := by
  have hf := run_frombits62
  cases hz : (bits BinOp.and IntKind.u64 m 4503599627370496 == 0)
  · have hm : m < 9007199254740992 := by
      rcases Int.lt_or_le m 9007199254740992 with h | h
      · exact h
      · have : m = 9007199254740992 := by omega
        subst this
        exact absurd hz (by decide +kernel)
    go_enter Tryd.func83, Tryd.ntmps83
    go_wp2
    go_ret2
    exact ⟨_, rfl, pack_lt m e h0 hm he1 he2, rfl⟩
  · go_enter Tryd.func83, Tryd.ntmps83
    go_wp2
    go_ret2
    refine ⟨_, rfl, ?_, rfl⟩
    have : infR = 9218868437227405312 := rfl
    omega
end Go.Proofs.YtbaamcjdofccjaaDoor
