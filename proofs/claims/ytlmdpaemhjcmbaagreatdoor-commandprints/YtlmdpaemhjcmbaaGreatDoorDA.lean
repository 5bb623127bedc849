/- Contracts of the small functions that the two laws of layer 2 reach and that leave memory alone: each says what one call returns, whatever the world; conditions: the arguments are bytes or words. -/
import Derived.Test.YtlmdpaemhjcmbaaGreatDoorProg
import Derived.WalkKit
import Derived.WalkSpells
import Derived.WalkLawsBesides
import Derived.WalkMore
import Derived.Handy
import Derived.Lib.Hide
import Derived.Deep.QuietTactic
import Derived.BigQuiet
import Derived.IntWalk
import Derived.Lib.QuietBelow
import Derived.StillTailTactics
import Derived.Laws.BitsAllLaws
import Derived.WalkSmall
import Derived.Recover
namespace Go.Proofs.YtlmdpaemhjcmbaaGreatDoor.Cd
open Go.RowKit

/-- -1, 0 or 1: how two numbers stand. -/
def sgn (x y : Int) : Int := if x < y then -1 else if y < x then 1 else 0

/-- The value of a figure; none: it is none. -/
def dval (c : Nat) : Option Nat := if 48 ≤ c ∧ c ≤ 57 then some (c - 48) else if 97 ≤ c ∧ c ≤ 102 then some (c - 87) else none
theorem dval_lt {c v : Nat} (h : dval c = some v) : v < 16 := by
  unfold dval at h; split at h
  · simp at h; omega
  · split at h
    · simp at h; omega
    · cases h

/-- The figure of a value. -/
def dchr (n : Nat) : UInt8 := if n < 10 then UInt8.ofNat (48 + n) else UInt8.ofNat (87 + n)

def valI (c : Nat) : Int := match dval c with | some v => (v : Int) | none => -1
theorem valI_dig {c : Nat} (h1 : 48 ≤ (c : Int)) (h2 : (c : Int) ≤ 57) : valI c = (c : Int) - 48 := by
  unfold valI dval; rw [if_pos (by omega)]; simp; omega
theorem valI_let {c : Nat} (h1 : 97 ≤ (c : Int)) (h2 : (c : Int) ≤ 102) : valI c = (c : Int) - 97 + 10 := by
  unfold valI dval; rw [if_neg (by omega), if_pos (by omega)]; simp; omega
theorem dval_none {c : Nat} (h1 : (c : Int) < 48 ∨ 57 < (c : Int)) (h2 : (c : Int) < 97 ∨ 102 < (c : Int)) : dval c = none := by
  unfold dval; rw [if_neg (by omega), if_neg (by omega)]
theorem valI_none {c : Nat} (h1 : (c : Int) < 48 ∨ 57 < (c : Int)) (h2 : (c : Int) < 97 ∨ 102 < (c : Int)) : valI c = -1 := by
  unfold valI; rw [dval_none h1 h2]

theorem value_dval {c v : Nat} (h : dval c = some v) : valI c = v := by unfold valI; rw [h]

theorem dval_dig {c v : Nat} (H : Hid (dval c = some v)) (h1 : 48 ≤ (c : Int)) (h2 : (c : Int) ≤ 57) : (c : Int) - 48 = v := by
  rw [← value_dval H.out, valI_dig h1 h2]
theorem dval_let {c v : Nat} (H : Hid (dval c = some v)) (h1 : 97 ≤ (c : Int)) (h2 : (c : Int) ≤ 102) : (c : Int) - 97 + 10 = v := by
  rw [← value_dval H.out, valI_let h1 h2]
theorem dval_not {c v : Nat} (H : Hid (dval c = some v)) (h1 : (c : Int) < 48 ∨ 57 < (c : Int)) (h2 : (c : Int) < 97 ∨ 102 < (c : Int)) : False := by
  have := H.out; rw [dval_none h1 h2] at this; cases this
theorem dval_dig_not {c : Nat} (H : Hid (dval c = none)) (h1 : 48 ≤ (c : Int)) (h2 : (c : Int) ≤ 57) : False := by
  have := H.out; unfold dval at this; rw [if_pos (by omega)] at this; cases this
theorem dval_let_not {c : Nat} (H : Hid (dval c = none)) (h1 : 97 ≤ (c : Int)) (h2 : (c : Int) ≤ 102) : False := by
  have := H.out; unfold dval at this; rw [if_neg (by omega), if_pos (by omega)] at this; cases this

theorem ret_int {k : IntKind} {a b : Int} (h : a = b) : Ending.returned (.int k a) = .returned (.int k b) := by rw [h]
theorem ret_bool {a b : Bool} (h : a = b) : Ending.returned (.bool a) = .returned (.bool b) := by rw [h]

theorem parseDigit_some (c v : Nat) (hc : c < 256) (hv : dval c = some v) (w : World) :
    Calls Tryz.prog 96 #[.int .u8 c] w fun e w' => e = .returned (.int .u8 v) ∧ w = w' := by
  have H := Lib.hid hv
  clear hv
  go_enter Tryz.func96, Tryz.ntmps96
  go_wp2
  · go_ret
    exact ⟨ret_int (dval_dig H (by assumption) (by assumption)), rfl⟩
  · go_ret
    exact ⟨ret_int (dval_let H (by assumption) (by assumption)), rfl⟩
  · exact (dval_not H (by omega) (by omega)).elim
  · exact (dval_not H (by omega) (by omega)).elim
  · exact (dval_not H (by omega) (by omega)).elim

/-- What a parser that gives up leaves. -/
abbrev gaveUp : Ending := .panicked [{ v := .iface 39 (.int .i64 3), recovered := false }]

theorem parseDigit_none (c : Nat) (hc : c < 256) (hv : dval c = none) (w : World) :
    Calls Tryz.prog 96 #[.int .u8 c] w fun e w' => e = gaveUp ∧ w = w' := by
  have H := Lib.hid hv
  clear hv
  go_enter Tryz.func96, Tryz.ntmps96
  go_wp2
  · exact (dval_dig_not H (by assumption) (by assumption)).elim
  · exact (dval_let_not H (by assumption) (by assumption)).elim
  · exact ⟨rfl, rfl, rfl⟩
  · exact ⟨rfl, rfl, rfl⟩
  · exact ⟨rfl, rfl, rfl⟩

theorem digit_ext : ∀ n : Fin 16, ((⟨#[48, 49, 50, 51, 52, 53, 54, 55, 56, 57, 97, 98, 99, 100, 101, 102]⟩ : ByteArray).extract n.val (n.val + 1)).data.toList = [dchr n.val] := by decide +kernel
end Go.Proofs.YtlmdpaemhjcmbaaGreatDoor.Cd
