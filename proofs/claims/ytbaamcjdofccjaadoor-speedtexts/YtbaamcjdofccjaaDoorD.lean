/- What the library makes of a text of a number with few digits, and what the program takes for a number: contracts under the condition that the library tables hold what their initialisers lay. -/
import Derived.Test.YtbaamcjdofccjaaDoorC
namespace Go.Proofs.YtbaamcjdofccjaaDoor
open Go.RowKit

set_option maxHeartbeats 400000 in
theorem special_num (s : ByteArray) (w : World) (H : NumS s) :
    Calls Tryd.prog 52 #[.string s] w fun e w' => e = .returned (.tuple #[.float .f64 0, .int .i64 0, .bool false]) ∧ w = w' := by
  have hp := H.pos
  have h0 := dg_b (H.first (by omega))
  obtain ⟨h01, h02⟩ := h0
  have hE : ¬ s = ByteArray.empty := by
    intro h; rw [h] at hp; exact absurd hp (by decide)
  have h0s : 0 < s.size := by omega
  go_enter Tryd.func52, Tryd.ntmps52
  go_wp2
  go_ret3
  exact ⟨rfl, rfl⟩

theorem bool2_false (w : World) :
    Calls Tryd.prog 61 #[.bool false] w fun e w' => e = .returned (.int .u64 0) ∧ w = w' := by
  go_enter Tryd.func61, Tryd.ntmps61
  go_wp2
  go_ret
  exact ⟨rfl, rfl⟩
theorem run_frombits (n : Int) (w : World) : (callFunc 62 #[.int .u64 n]).run Tryd.prog w = .ok (.value (.float .f64 n.toNat)) w := by
  rw [run_callFunc_extern (e := Extern.MathFloatBits.float64frombits) Tryd.func62 (by kernel_rfl) (by kernel_rfl) (by kernel_rfl) (by kernel_rfl)]
  rfl

/-- The number that few digits denote, as bits: the whole one divided by the power of ten; r: what that division gives. -/
def Val (s : ByteArray) (r : Nat) : Prop :=
  (mant s.data.toList = 0 ∧ r = 0) ∨
  (mant s.data.toList ≠ 0 ∧ frac s.data.toList = 0 ∧ r = floatOfInt .f64 (mant s.data.toList)) ∨
  (mant s.data.toList ≠ 0 ∧ 1 ≤ frac s.data.toList ∧ frac s.data.toList ≤ 22 ∧ floatBits .quo .f64 (floatOfInt .f64 (mant s.data.toList)) (tens.getD (frac s.data.toList) 0) = some r)

set_option maxRecDepth 100000 in
set_option maxHeartbeats 1000000 in
theorem atof64_few (s : ByteArray) (r : Nat) (w : World) (hE : Env w) (H : NumS s) (hm : mant s.data.toList < 4503599627370496) (hv : Val s r) :
    Calls Tryd.prog 44 #[.string s] w fun e w' => e = .returned (.tuple #[.float .f64 r, .int .i64 s.size, .nilIface]) ∧ w = w' := by
  have cs := special_num s w H
  have cr := readFloat_num s w H
  have hopt := hE.opt
  have hfb := run_frombits
  unfold rfEnd at cr
  rcases hv with ⟨h0, rfl⟩ | ⟨h0, h1, rfl⟩ | ⟨h0, h1, h2, h3⟩
  · rw [h0, if_pos rfl] at cr
    clear h0 hm
    have hb : Hid (hE = hE) := Lib.hid rfl
    go_enter Tryd.func44, Tryd.ntmps44
    go_wp2_with (first | (go_at_call 52; refine cs.mono ?_; rintro e w' ⟨rfl, rfl⟩) | (go_at_call 53; refine cr.mono ?_; rintro e w' ⟨rfl, rfl⟩) | (go_at_call 61; refine (bool2_false _).mono ?_; rintro e w' ⟨rfl, rfl⟩))
    go_ret3
    exact ⟨rfl, rfl⟩
  · rw [if_neg h0, h1, show -((0 : Nat) : Int) = 0 from rfl] at cr
    have ce := exact_zero (mant s.data.toList) w hE (by omega) (by omega)
    have hne : ((mant s.data.toList : Int) == 0) = false := by simpa using h0
    generalize (mant s.data.toList : Int) = m at cr ce hne
    clear h0 hm h1 H hE
    go_enter Tryd.func44, Tryd.ntmps44
    go_wp2_with (first | (go_at_call 52; refine cs.mono ?_; rintro e w' ⟨rfl, rfl⟩) | (go_at_call 53; refine cr.mono ?_; rintro e w' ⟨rfl, rfl⟩) | (go_at_call 61; refine (bool2_false _).mono ?_; rintro e w' ⟨rfl, rfl⟩) | (go_at_call 63; refine ce.mono ?_; rintro e w' ⟨rfl, rfl⟩))
    go_ret3
    exact ⟨rfl, rfl⟩
  · rw [if_neg h0] at cr
    have ce := exact_neg (mant s.data.toList) (frac s.data.toList) r w hE (by omega) (by omega) h1 h2 h3
    have hne : ((mant s.data.toList : Int) == 0) = false := by simpa using h0
    generalize (mant s.data.toList : Int) = m at cr ce hne
    generalize frac s.data.toList = j at cr ce h1 h2
    clear h0 hm h3 H hE
    go_enter Tryd.func44, Tryd.ntmps44
    go_wp2_with (first | (go_at_call 52; refine cs.mono ?_; rintro e w' ⟨rfl, rfl⟩) | (go_at_call 53; refine cr.mono ?_; rintro e w' ⟨rfl, rfl⟩) | (go_at_call 61; refine (bool2_false _).mono ?_; rintro e w' ⟨rfl, rfl⟩) | (go_at_call 63; refine ce.mono ?_; rintro e w' ⟨rfl, rfl⟩))
    go_ret3
    exact ⟨rfl, rfl⟩
theorem prefix_few (s : ByteArray) (r : Nat) (w : World) (hE : Env w) (H : NumS s) (hm : mant s.data.toList < 4503599627370496) (hv : Val s r) :
    Calls Tryd.prog 37 #[.string s, .int .i64 64] w fun e w' => e = .returned (.tuple #[.float .f64 r, .int .i64 s.size, .nilIface]) ∧ w = w' := by
  have c := atof64_few s r w hE H hm hv
  clear hE H hm hv
  go_enter Tryd.func37, Tryd.ntmps37
  go_wp2_with (go_at_call 44; refine c.mono ?_; rintro e w' ⟨rfl, rfl⟩)
  go_ret3
  exact ⟨rfl, rfl⟩
theorem ipf_few (s : ByteArray) (r : Nat) (w : World) (hE : Env w) (H : NumS s) (hm : mant s.data.toList < 4503599627370496) (hv : Val s r) :
    Calls Tryd.prog 33 #[.string s, .int .i64 64] w fun e w' => e = .returned (.tuple #[.float .f64 r, .nilIface]) ∧ w = w' := by
  have c := prefix_few s r w hE H hm hv
  clear hE H hm hv
  go_enter Tryd.func33, Tryd.ntmps33
  go_wp2_with (go_at_call 37; refine c.mono ?_; rintro e w' ⟨rfl, rfl⟩)
  go_ret2
  exact ⟨rfl, rfl⟩
theorem pf_few (s : ByteArray) (r : Nat) (w : World) (hE : Env w) (H : NumS s) (hm : mant s.data.toList < 4503599627370496) (hv : Val s r) :
    Calls Tryd.prog 27 #[.string s, .int .i64 64] w fun e w' => e = .returned (.tuple #[.float .f64 r, .nilIface]) ∧ w = w' := by
  have c := ipf_few s r w hE H hm hv
  clear hE H hm hv
  go_enter Tryd.func27, Tryd.ntmps27
  go_wp2_with (go_at_call 33; refine c.mono ?_; rintro e w' ⟨rfl, rfl⟩)
  go_ret2
  exact ⟨rfl, rfl⟩

theorem isNumber_none (s : ByteArray) (w : World) (hs : s.size ≤ maxLen) (h : firstIdx s 46 = -1) :
    Calls Tryd.prog 26 #[.string s] w fun e w' => e = .returned (.bool (digs s)) ∧ w = w' := by
  have c1 := cuts_none s w h
  have c2 := areDigits_any s w hs
  clear h hs
  cases hd : digs s
  all_goals
    rw [hd] at c2
    clear hd
    go_enter Tryd.func26, Tryd.ntmps26
    go_wp2_with (first | (go_at_call 31; refine c1.mono ?_; rintro e w' ⟨rfl, rfl⟩) | (go_at_call 32; refine c2.mono ?_; rintro e w' ⟨rfl, rfl⟩))
    go_ret
    exact ⟨rfl, rfl⟩
theorem isNumber_some (s : ByteArray) (k : Nat) (w : World) (hs : s.size ≤ maxLen) (hk : k < s.size) (h : firstIdx s 46 = k) :
    Calls Tryd.prog 26 #[.string s] w fun e w' => e = .returned (.bool (digs (s.extract 0 k) && digs (s.extract (k + 1) s.size))) ∧ ∃ n, w' = w.drewN n := by
  have c1 := cuts_some s k w hs hk h
  have c2 := fun n => areDigits_any (s.extract 0 k) (w.drewN n) (by simp; omega)
  have c3 := fun n => areDigits_any (s.extract (k + 1) s.size) (w.drewN n) (by simp; omega)
  clear h hs
  cases hd : digs (s.extract 0 k)
  all_goals
    rw [hd] at c2
    clear hd
    have C2 := Lib.hid c2
    have C3 := Lib.hid c3
    clear c2 c3
    go_enter Tryd.func26, Tryd.ntmps26
    go_wp2_with fail
    refine c1.mono ?_
    rintro e w' ⟨rfl, n, rfl⟩
    go_wp2_with fail
    refine (C2.out n).mono ?_
    rintro e w' ⟨rfl, rfl⟩
    go_wp2_with (go_at_call 32; refine (C3.out n).mono ?_; rintro e w' ⟨rfl, rfl⟩)
    go_ret
    exact ⟨rfl, n, rfl⟩
end Go.Proofs.YtbaamcjdofccjaaDoor
