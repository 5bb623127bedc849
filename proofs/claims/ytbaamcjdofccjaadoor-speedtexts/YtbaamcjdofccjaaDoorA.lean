/- Contracts of the small functions on texts and floats that the four laws of layer 1 reach: each says what one call returns, whatever the world; conditions: texts no longer than the model holds. -/
import Derived.Test.YtbaamcjdofccjaaDoorProg
import Derived.WalkKit
import Derived.WalkSpells
import Derived.WalkLawsBesides
import Derived.WalkMore
import Derived.Handy
import Derived.Laws.FloatArith
import Derived.Lib.Hide
import Derived.Lib.Bytealg
import Derived.Deep.QuietTactic
import Derived.BigQuiet
import Derived.IntWalk
namespace Go.Proofs.YtbaamcjdofccjaaDoor
open Go.RowKit

theorem ret_bool {a b : Bool} (h : a = b) : Ending.returned (.bool a) = .returned (.bool b) := by rw [h]
theorem unitOf_G (w : World) :
    Calls Tryd.prog 25 #[.int .u8 71] w fun e w' => e = .returned (.tuple #[.float .f64 4652007308841189376, .bool true]) ∧ w = w' := by
  go_enter Tryd.func25, Tryd.ntmps25
  go_wp2
  go_ret2
  exact ⟨rfl, rfl⟩

def rt (b : Nat) : Bool := (FloatKind.f64.format.order b 0 == some .gt) && (FloatKind.f64.format.order b 9218868437227405311 == some .lt || FloatKind.f64.format.order b 9218868437227405311 == some .eq)

theorem right_any (b : Nat) (w : World) :
    Calls Tryd.prog 10 #[.float .f64 b] w fun e w' => e = .returned (.bool (rt b)) ∧ w = w' := by
  by_cases h : (FloatKind.f64.format.order b 0 == some Ordering.gt) = true
  · go_enter Tryd.func10, Tryd.ntmps10
    go_wp2
    go_ret
    exact ⟨ret_bool (by unfold rt; rw [h, Bool.true_and]), rfl⟩
  · have h' : (FloatKind.f64.format.order b 0 == some Ordering.gt) = false := by simpa using h
    clear h
    go_enter Tryd.func10, Tryd.ntmps10
    go_wp2
    go_ret
    exact ⟨ret_bool (by unfold rt; rw [h', Bool.false_and]), rfl⟩

/-- Is a byte one of the ten digits? -/
def dg (c : UInt8) : Bool := decide (48 ≤ (c.toNat : Int)) && decide ((c.toNat : Int) ≤ 57)
def digs (s : ByteArray) : Bool := s.data.toList.all dg && !s.data.toList.isEmpty

theorem take_snoc (s : ByteArray) (k : Nat) (h : k < s.size) : s.data.toList.take (k + 1) = s.data.toList.take k ++ [s[k]] := by
  rw [List.take_succ_eq_append_getElem (by simpa using h)]; rfl

theorem digs_false (s : ByteArray) (k : Nat) (h : k < s.size) (hc : dg s[k] = false) : digs s = false := by
  unfold digs
  have hm : s[k] ∈ s.data.toList := by
    have : s.data.toList[k]'(by simpa using h) ∈ s.data.toList := List.getElem_mem _
    exact this
  have : s.data.toList.all dg = false := by
    rw [List.all_eq_false]; exact ⟨s[k], hm, by simp [hc]⟩
  rw [this, Bool.false_and]
theorem digs_end (s : ByteArray) (k : Nat) (h : ¬ k < s.size) (hd : (s.data.toList.take k).all dg = true) : digs s = !(s.data.toList.isEmpty) := by
  unfold digs
  rw [List.take_of_length_le (by simp; omega)] at hd
  rw [hd, Bool.true_and]
theorem dg_true (c : UInt8) (h : 48 ≤ (c.toNat : Int) ∧ (c.toNat : Int) ≤ 57) : dg c = true := by
  unfold dg; simp; omega
theorem dg_false (c : UInt8) (h : (c.toNat : Int) < 48 ∨ 57 < (c.toNat : Int)) : dg c = false := by
  unfold dg; simp; omega

set_option maxHeartbeats 400000 in
theorem areDigits_any (s : ByteArray) (w : World) (hs : s.size ≤ maxLen) :
    Calls Tryd.prog 32 #[.string s] w fun e w' => e = .returned (.bool (digs s)) ∧ w = w' := by
  unfold maxLen at hs
  go_enter Tryd.func32, Tryd.ntmps32
  go_wp2
  go_loop [6] (fun i => ∃ k : Nat, k ≤ s.size ∧ i = .int .i64 k ∧ (s.data.toList.take k).all dg = true) (fun i => s.size - (intOf i).toNat)
  case atStart => exact ⟨0, Nat.zero_le _, rfl, rfl⟩
  case round =>
    obtain ⟨k, hk, rfl, hd⟩ := hrel
    have HD := Lib.hid hd
    clear hd
    by_cases hlt : k < s.size
    · have HT := Lib.hid (take_snoc s k hlt)
      go_wp2
      · go_ret
        exact ⟨ret_bool (digs_false s k hlt (dg_false _ ‹_›)).symm, rfl⟩
      · go_round
        case rel => exact ⟨k + 1, by omega, by go_num, by rw [HT.out, List.all_append, HD.out]; simp [dg_true _ ‹_ ∧ _›]⟩
        case measure => simp [intOf]; omega
      · go_ret
        exact ⟨ret_bool (digs_false s k hlt (dg_false _ (Or.inl ‹_›))).symm, rfl⟩
    · go_wp2
      go_ret
      exact ⟨ret_bool (by rw [ByteArray.toList_eq]; exact (digs_end s k hlt HD.out).symm), rfl⟩

theorem run_ibs (s : ByteArray) (c : Int) (w : World) : (callFunc 66 #[.string s, .int .u8 c]).run Tryd.prog w = .ok (.value (.int .i64 (firstIdx s c.toNat.toUInt8))) w := by
  rw [run_callFunc_extern (e := Extern.BytealgIndexByte.indexByte) Tryd.func66 (by kernel_rfl) (by kernel_rfl) (by kernel_rfl) (by kernel_rfl)]
  rw [run_indexByte_string]; rfl

theorem idxByte_any (s : ByteArray) (c : Int) (w : World) :
    Calls Tryd.prog 48 #[.string s, .int .u8 c] w fun e w' => e = .returned (.int .i64 (firstIdx s c.toNat.toUInt8)) ∧ w = w' := by
  have hx := run_ibs s c
  go_enter Tryd.func48, Tryd.ntmps48
  go_wp2
  go_ret
  exact ⟨rfl, rfl⟩
theorem fi_dot (s : ByteArray) (h : ([46] == s.toList) = true) : firstIdx s 46 = 0 := by
  have h1 : [46] = s.data.toList := by rw [← ByteArray.toList_eq]; exact eq_of_beq h
  rw [Lib.firstIdx_eq, ← h1]; rfl
theorem ret_i64 {a b : Int} (h : a = b) : Ending.returned (.int .i64 a) = .returned (.int .i64 b) := by rw [h]
theorem index_any (s : ByteArray) (w : World) :
    Calls Tryd.prog 42 #[.string s, .string ⟨#[46]⟩] w fun e w' => e = .returned (.int .i64 (firstIdx s 46)) ∧ w = w' := by
  go_enter Tryd.func42, Tryd.ntmps42
  go_wp2_with (first | (go_at_call 48; refine (idxByte_any _ _ _).mono ?_; rintro e w' ⟨rfl, rfl⟩))
  · go_ret
    exact ⟨ret_i64 (fi_dot s ‹_›).symm, rfl⟩
  · go_ret
    exact ⟨rfl, rfl⟩
theorem cut_none (s : ByteArray) (w : World) (h : firstIdx s 46 = -1) :
    Calls Tryd.prog 36 #[.string s, .string ⟨#[46]⟩] w fun e w' => e = .returned (.tuple #[.string s, .string ⟨#[]⟩, .bool false]) ∧ w = w' := by
  have c := index_any s w
  rw [h] at c
  clear h
  go_enter Tryd.func36, Tryd.ntmps36
  go_wp2_with (first | (go_at_call 42; refine c.mono ?_; rintro e w' ⟨rfl, rfl⟩))
  go_ret3
  exact ⟨rfl, rfl⟩
theorem cut_some (s : ByteArray) (k : Nat) (w : World) (hs : s.size ≤ maxLen) (hk : k < s.size) (h : firstIdx s 46 = k) :
    Calls Tryd.prog 36 #[.string s, .string ⟨#[46]⟩] w fun e w' => e = .returned (.tuple #[.string (s.extract 0 k), .string (s.extract (k + 1) s.size), .bool true]) ∧ ∃ n, w' = w.drewN n := by
  unfold maxLen at hs
  have c := index_any s w
  rw [h] at c
  clear h
  go_enter Tryd.func36, Tryd.ntmps36
  go_wp2_with (first | (go_at_call 42; refine c.mono ?_; rintro e w' ⟨rfl, rfl⟩))
  have hw1 : IntKind.i64.wrap ((k : Int) + 1) = (k : Int) + 1 := IntWalk.i64_in _ (by omega)
  have hw0 : (0 : Int) ≤ (k : Int) + 1 := by omega
  have hw2 : ((k : Int) + 1).toNat = k + 1 := by omega
  go_quiet (fail)
  clear hw1 hw0 hw2
  go_wp2
  go_ret3
  exact ⟨rfl, _, rfl⟩
theorem cuts_none (s : ByteArray) (w : World) (h : firstIdx s 46 = -1) :
    Calls Tryd.prog 31 #[.string s, .string ⟨#[46]⟩] w fun e w' => e = .returned (.tuple #[.string s, .string ⟨#[]⟩, .bool false]) ∧ w = w' := by
  have c := cut_none s w h
  clear h
  go_enter Tryd.func31, Tryd.ntmps31
  go_wp2_with (first | (go_at_call 36; refine c.mono ?_; rintro e w' ⟨rfl, rfl⟩))
  go_ret3
  exact ⟨rfl, rfl⟩
theorem cuts_some (s : ByteArray) (k : Nat) (w : World) (hs : s.size ≤ maxLen) (hk : k < s.size) (h : firstIdx s 46 = k) :
    Calls Tryd.prog 31 #[.string s, .string ⟨#[46]⟩] w fun e w' => e = .returned (.tuple #[.string (s.extract 0 k), .string (s.extract (k + 1) s.size), .bool true]) ∧ ∃ n, w' = w.drewN n := by
  have c := cut_some s k w hs hk h
  clear h
  go_enter Tryd.func31, Tryd.ntmps31
  go_wp2_with (first | (go_at_call 36; refine c.mono ?_; rintro e w' ⟨rfl, n, rfl⟩))
  go_ret3
  exact ⟨rfl, _, rfl⟩
end Go.Proofs.YtbaamcjdofccjaaDoor
