/- The document's text of an address: the contract of the reference's Text. -/
import Derived.Test.YtlmdpaemhjcmbaaGreatDoorDC
namespace Go.Proofs.YtlmdpaemhjcmbaaGreatDoor.Cd
open Go.RowKit Go.Sort

/-- The text of the first k bytes. -/
def txt (x : Nat → Nat) : Nat → List UInt8
  | 0 => []
  | k + 1 => txt x k ++ ((if k = 0 then [] else [58]) ++ [dchr (x k / 16), dchr (x k % 16)])
theorem txt_len (x : Nat → Nat) : ∀ k, (txt x (k + 1)).length = 3 * k + 2
  | 0 => by simp [txt]
  | k + 1 => by
    have := txt_len x k
    rw [txt, List.length_append, this]; simp; omega
abbrev strV (l : List UInt8) : Value := .string ⟨⟨l⟩⟩
theorem txt_le (x : Nat → Nat) (k : Nat) (hk : k ≤ 6) : (txt x k).length ≤ 17 := by
  cases k with
  | zero => simp [txt]
  | succ k => rw [txt_len]; omega

theorem cat_data (a b : List UInt8) : (⟨⟨a⟩⟩ : ByteArray) ++ ⟨⟨b⟩⟩ = ⟨⟨a ++ b⟩⟩ := by
  apply ByteArray.ext; simp
theorem txt_zero (x : Nat → Nat) : (⟨⟨txt x 0⟩⟩ : ByteArray) ++ ⟨⟨[dchr (x 0 / 16)]⟩⟩ ++ ⟨⟨[dchr (x 0 % 16)]⟩⟩ = ⟨⟨txt x 1⟩⟩ := by
  rw [cat_data, cat_data]; simp [txt]
theorem txt_next (x : Nat → Nat) (k : Nat) (h : ¬ k = 0) : (⟨⟨txt x k⟩⟩ : ByteArray) ++ ⟨#[58]⟩ ++ ⟨⟨[dchr (x k / 16)]⟩⟩ ++ ⟨⟨[dchr (x k % 16)]⟩⟩ = ⟨⟨txt x (k + 1)⟩⟩ := by
  rw [cat_data, cat_data, cat_data]; simp [txt, h]
theorem below_drewN (B : Nat) (w : World) (n : Nat) : Below B w (w.drewN n) := ⟨rfl, rfl, rfl, Nat.le_refl _, fun _ _ => rfl⟩

end Go.Proofs.YtlmdpaemhjcmbaaGreatDoor.Cd
