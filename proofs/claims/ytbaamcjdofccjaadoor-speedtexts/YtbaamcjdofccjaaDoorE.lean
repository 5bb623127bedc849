/- What Parse of the program returns, by cases: too short or too long, no unit, no number, and a number of few digits (that under the condition that the library tables hold what their initialisers lay). -/
import Derived.Test.YtbaamcjdofccjaaDoorD
namespace Go.Proofs.YtbaamcjdofccjaaDoor
open Go.RowKit

/-- Is a text that of a number: digits, and possibly one point among them? -/
def numB (s : ByteArray) : Bool := if firstIdx s 46 = -1 then digs s else digs (s.extract 0 (firstIdx s 46).toNat) && digs (s.extract ((firstIdx s 46).toNat + 1) s.size)

theorem ib_cases (c : UInt8) : ∀ l : List UInt8, (Lib.indexByte l c = -1 ∧ ∀ b ∈ l, b ≠ c) ∨ ∃ a r, l = a ++ c :: r ∧ (∀ b ∈ a, b ≠ c) ∧ Lib.indexByte l c = a.length
  | [] => .inl ⟨rfl, by simp⟩
  | b :: l => by
    by_cases hb : b = c
    · exact .inr ⟨[], l, by simp [hb], by simp, by simp [Lib.indexByte, hb]⟩
    · rcases ib_cases c l with ⟨h1, h2⟩ | ⟨a, r, h1, h2, h3⟩
      · refine .inl ⟨by simp [Lib.indexByte, hb, h1], ?_⟩
        intro x hx
        rcases List.mem_cons.1 hx with e | e
        · rw [e]; exact hb
        · exact h2 x e
      · refine .inr ⟨b :: a, r, by rw [h1]; rfl, ?_, ?_⟩
        · intro x hx
          rcases List.mem_cons.1 hx with e | e
          · rw [e]; exact hb
          · exact h2 x e
        · have hne : ¬ ((a.length : Int) = -1) := by omega
          simp [Lib.indexByte, hb, h3, hne]
theorem fi_cases (s : ByteArray) : (firstIdx s 46 = -1 ∧ ∀ b ∈ s.data.toList, b ≠ 46) ∨ ∃ a r, s.data.toList = a ++ 46 :: r ∧ (∀ b ∈ a, b ≠ 46) ∧ firstIdx s 46 = (a.length : Int) := by
  rw [Lib.firstIdx_eq]; exact ib_cases 46 _
theorem fi_lt (s : ByteArray) (h : firstIdx s 46 ≠ -1) : (firstIdx s 46).toNat < s.size ∧ firstIdx s 46 = ((firstIdx s 46).toNat : Nat) := by
  rcases fi_cases s with ⟨h1, _⟩ | ⟨a, r, h1, _, h3⟩
  · exact absurd h1 h
  · rw [h3]
    have : s.data.toList.length = a.length + (r.length + 1) := by rw [h1]; simp
    have e : s.size = s.data.toList.length := by simp
    exact ⟨by rw [Int.toNat_natCast]; omega, by rw [Int.toNat_natCast]⟩
theorem isNumber_any (s : ByteArray) (w : World) (hs : s.size ≤ maxLen) :
    Calls Tryd.prog 26 #[.string s] w fun e w' => e = .returned (.bool (numB s)) ∧ ∃ n, w' = w.drewN n := by
  unfold numB
  by_cases h : firstIdx s 46 = -1
  · rw [if_pos h]
    exact (isNumber_none s w hs h).mono fun e w' ⟨h1, h2⟩ => ⟨h1, 0, h2.symm⟩
  · rw [if_neg h]
    obtain ⟨h1, h2⟩ := fi_lt s h
    exact isNumber_some s _ w hs h1 h2
def unitB (c : UInt8) : Option Nat := if c = 75 then some 4562254508917369340 else if c = 77 then some 4607182418800017408 else if c = 71 then some 4652007308841189376 else if c = 84 then some 4696837146684686336 else none
theorem unitOf_some (c : UInt8) (u : Nat) (w : World) (h : unitB c = some u) :
    Calls Tryd.prog 25 #[.int .u8 c.toNat] w fun e w' => e = .returned (.tuple #[.float .f64 u, .bool true]) ∧ w = w' := by
  unfold unitB at h
  split at h
  · rename_i e; subst e; obtain rfl := Option.some.inj h
    go_enter Tryd.func25, Tryd.ntmps25
    go_wp2
    go_ret2
    exact ⟨rfl, rfl⟩
  split at h
  · rename_i e; subst e; obtain rfl := Option.some.inj h
    go_enter Tryd.func25, Tryd.ntmps25
    go_wp2
    go_ret2
    exact ⟨rfl, rfl⟩
  split at h
  · rename_i e; subst e; obtain rfl := Option.some.inj h
    go_enter Tryd.func25, Tryd.ntmps25
    go_wp2
    go_ret2
    exact ⟨rfl, rfl⟩
  split at h
  · rename_i e; subst e; obtain rfl := Option.some.inj h
    go_enter Tryd.func25, Tryd.ntmps25
    go_wp2
    go_ret2
    exact ⟨rfl, rfl⟩
  · cases h
theorem ne_toNat {c : UInt8} {k : Nat} (hk : k < 256) (h : ¬ c = UInt8.ofNat k) : ((c.toNat : Int) == (k : Int)) = false := by
  simp only [beq_eq_false_iff_ne, ne_eq]
  intro e
  have e' : c.toNat = k := by omega
  exact h (UInt8.toNat_inj.1 (by rw [e', UInt8.toNat_ofNat_of_lt' (by simpa using hk)]))
theorem unitOf_none (c : UInt8) (w : World) (h : unitB c = none) :
    Calls Tryd.prog 25 #[.int .u8 c.toNat] w fun e w' => e = .returned (.tuple #[.float .f64 0, .bool false]) ∧ w = w' := by
  unfold unitB at h
  split at h
  · cases h
  split at h
  · cases h
  split at h
  · cases h
  split at h
  · cases h
  rename_i h1 h2 h3 h4
  have g1 : ((c.toNat : Int) == 75) = false := ne_toNat (by decide) h1
  have g2 : ((c.toNat : Int) == 77) = false := ne_toNat (by decide) h2
  have g3 : ((c.toNat : Int) == 71) = false := ne_toNat (by decide) h3
  have g4 : ((c.toNat : Int) == 84) = false := ne_toNat (by decide) h4
  clear h h1 h2 h3 h4
  go_enter Tryd.func25, Tryd.ntmps25
  go_wp2
  go_ret2
  exact ⟨rfl, rfl⟩

/-- The text ahead of the last byte. -/
def front (s : ByteArray) : ByteArray := s.extract 0 (s.size - 1)
theorem front_size (s : ByteArray) : (front s).size = s.size - 1 := by unfold front; simp
def pEnd (b : Nat) (e : Int) : Ending := .returned (.tuple #[.float .f64 b, .int .i64 e])
set_option maxHeartbeats 400000 in
theorem parse_short (s : ByteArray) (w : World) (hs : s.size ≤ maxLen) (h : s.size < 2 ∨ 20 < s.size) :
    Calls Tryd.prog 17 #[.string s] w fun e w' => e = pEnd 0 3 ∧ w = w' := by
  unfold maxLen at hs
  rcases h with h | h
  all_goals
    go_enter Tryd.func17, Tryd.ntmps17
    go_wp2
    go_ret2
    exact ⟨rfl, rfl⟩
set_option maxHeartbeats 400000 in
theorem parse_unit (s : ByteArray) (w : World) (h1 : 2 ≤ s.size) (h2 : s.size ≤ 20) (hu : unitB (s[s.size - 1]'(by omega)) = none) :
    Calls Tryd.prog 17 #[.string s] w fun e w' => e = pEnd 0 3 ∧ w = w' := by
  have c := unitOf_none _ w hu
  clear hu
  go_enter Tryd.func17, Tryd.ntmps17
  go_wp2_with (go_at_call 25; refine c.mono ?_; rintro e w' ⟨rfl, rfl⟩)
  go_ret2
  exact ⟨rfl, rfl⟩
set_option maxHeartbeats 400000 in
theorem parse_bad (s : ByteArray) (u : Nat) (w : World) (h1 : 2 ≤ s.size) (h2 : s.size ≤ 20) (hu : unitB (s[s.size - 1]'(by omega)) = some u) (hn : numB (front s) = false) :
    Calls Tryd.prog 17 #[.string s] w fun e w' => e = pEnd 0 3 ∧ ∃ n, w' = w.drewN n := by
  have c := unitOf_some _ u w hu
  have c2 := isNumber_any (front s) w (by rw [front_size]; unfold maxLen; omega)
  rw [hn] at c2
  unfold front at c2
  clear hu hn
  go_enter Tryd.func17, Tryd.ntmps17
  go_wp2_with (first | (go_at_call 25; refine c.mono ?_; rintro e w' ⟨rfl, rfl⟩) | (go_at_call 26; refine c2.mono ?_; rintro e w' ⟨rfl, n, rfl⟩))
  go_ret2
  exact ⟨rfl, _, rfl⟩
set_option maxHeartbeats 400000 in
theorem parse_few (s : ByteArray) (u r v : Nat) (w : World) (hE : Env w) (h1 : 2 ≤ s.size) (h2 : s.size ≤ 20) (hu : unitB (s[s.size - 1]'(by omega)) = some u) (hn : numB (front s) = true)
    (H : NumS (front s)) (hm : mant (front s).data.toList < 4503599627370496) (hv : Val (front s) r) (hx : floatBits .mul .f64 r u = some v) :
    Calls Tryd.prog 17 #[.string s] w fun e w' => e = (if rt v = true then pEnd v 0 else pEnd 0 4) ∧ ∃ n, w' = w.drewN n := by
  have c := unitOf_some _ u w hu
  have c2 := isNumber_any (front s) w (by rw [front_size]; unfold maxLen; omega)
  rw [hn] at c2
  have c3 := fun n => pf_few (front s) r (w.drewN n) (hE.drewN n) H hm hv
  have C3 := Lib.hid c3
  have hop : ∀ t w, (binOp .mul t (.float .f64 r) (.float .f64 u)).run Tryd.prog w = .ok (.float .f64 v) w := fun t w => run_float_arith w .mul t .f64 _ _ v hx
  have c4 := fun w => right_any v w
  unfold front at c2 C3
  clear hu hn c3 hE H hm hv hx
  cases hr : rt v
  all_goals
    rw [hr] at c4
    have C4 := Lib.hid c4
    clear c4 hr
    go_enter Tryd.func17, Tryd.ntmps17
    go_wp2_with fail
    refine c.mono ?_
    rintro e w' ⟨rfl, rfl⟩
    go_wp2_with fail
    refine c2.mono ?_
    rintro e w' ⟨rfl, n, rfl⟩
    go_wp2_with fail
    refine (C3.out n).mono ?_
    rintro e w' ⟨rfl, rfl⟩
    go_wp2_with (go_at_call 10; refine (C4.out _).mono ?_; rintro e w' ⟨rfl, rfl⟩)
    go_ret2
    exact ⟨rfl, n, rfl⟩
end Go.Proofs.YtbaamcjdofccjaaDoor
