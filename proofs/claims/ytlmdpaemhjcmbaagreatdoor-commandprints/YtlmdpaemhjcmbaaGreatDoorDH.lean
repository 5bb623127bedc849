/- The reference's Parse: the bytes of a text that is an address's, or that it is none's. -/
import Derived.Test.YtlmdpaemhjcmbaaGreatDoorDG
namespace Go.Proofs.YtlmdpaemhjcmbaaGreatDoor.Cd
open Go.RowKit Go.Sort

/-- A sign of a text may stand where it stands. -/
def chOk (s : ByteArray) (i : Nat) : Bool := if i % 3 = 2 then decide (bt s i = 58) else (dval (bt s i)).isSome
theorem okTxt_iff (s : ByteArray) : okTxt s ↔ s.size = 17 ∧ ∀ i, i < 17 → chOk s i = true := by
  constructor
  · rintro ⟨h, hk⟩
    refine ⟨h, fun i hi => ?_⟩
    unfold chOk
    by_cases h2 : i % 3 = 2
    · rw [if_pos h2]
      have := (hk (i / 3 + 1) (by omega)).1 (by omega)
      rw [show 3 * (i / 3 + 1) - 1 = i from by omega] at this
      simp [this]
    · rw [if_neg h2]
      by_cases h0 : i % 3 = 0
      · have := (hk (i / 3) (by omega)).2.1
        rwa [show 3 * (i / 3) = i from by omega] at this
      · have := (hk (i / 3) (by omega)).2.2
        rwa [show 3 * (i / 3) + 1 = i from by omega] at this
  · rintro ⟨h, hk⟩
    refine ⟨h, fun i hi => ⟨fun h0 => ?_, ?_, ?_⟩⟩
    · have := hk (3 * i - 1) (by omega)
      unfold chOk at this
      rw [if_pos (by omega)] at this
      simpa using this
    · have := hk (3 * i) (by omega)
      unfold chOk at this
      rwa [if_neg (by omega)] at this
    · have := hk (3 * i + 1) (by omega)
      unfold chOk at this
      rwa [if_neg (by omega)] at this
open Classical in
noncomputable def refEnd (s : ByteArray) : Ending := if okTxt s then .returned (.tuple #[macV (macOf s), .bool true]) else .returned (.tuple #[macV zeroX, .bool false])
theorem refEnd_bad {s : ByteArray} (h : ¬ okTxt s) : refEnd s = .returned (.tuple #[macV zeroX, .bool false]) := by unfold refEnd; rw [if_neg h]
theorem refEnd_good {s : ByteArray} (h : okTxt s) : refEnd s = .returned (.tuple #[macV (macOf s), .bool true]) := by unfold refEnd; rw [if_pos h]
theorem part_next22 {w : World} {b : Nat} {s : ByteArray} {k n : Nat} (hn : macOf s k = n) (h : VarAt w b (upd (part s k) k n) 22) : VarAt w b (part s (k + 1)) 22 := by
  have e : upd (part s k) k n = part s (k + 1) := by
    funext i
    unfold upd part
    by_cases h1 : i = k
    · subst h1; simp [hn]
    · by_cases h2 : i < k
      · rw [if_neg h1, if_pos h2, if_pos (by omega)]
      · rw [if_neg h1, if_neg h2, if_neg (by omega)]
  rwa [e] at h
theorem ch_next {s : ByteArray} {k : Nat} (h : ∀ j, j < k → chOk s j = true) (hk : chOk s k = true) : ∀ j, j < k + 1 → chOk s j = true := fun j hj => by
  rcases Nat.lt_or_ge j k with h1 | h1
  · exact h j h1
  · obtain rfl : j = k := by omega
    exact hk

end Go.Proofs.YtlmdpaemhjcmbaaGreatDoor.Cd
