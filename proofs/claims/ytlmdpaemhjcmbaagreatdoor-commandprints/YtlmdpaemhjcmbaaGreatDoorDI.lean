/- The chapter's example lives: the contract of the laws' own lives. -/
import Derived.Test.YtlmdpaemhjcmbaaGreatDoorDH
namespace Go.Proofs.YtlmdpaemhjcmbaaGreatDoor.Cd
open Go.RowKit Go.Sort

abbrev s0 : ByteArray := ⟨#[48, 49, 58, 56, 48, 58, 99, 50, 58, 48, 48, 58, 48, 48, 58, 48, 48]⟩
instance (s : ByteArray) (i : Nat) : Decidable (okAt s i) := by unfold okAt; infer_instance
theorem s0_ok : okTxt s0 := by
  refine ⟨by decide, ?_⟩
  have : ∀ i : Fin 6, okAt s0 i.val := by decide +kernel
  exact fun i hi => this ⟨i, hi⟩
theorem s0_group (w : World) : (Op.equalIn 10000 23 (macV (macOf s0)) (.agg #[.int .u8 1, .int .u8 128, .int .u8 194, .int .u8 0, .int .u8 0, .int .u8 0])).run Tryz.prog w = .ok true w := by
  rw [mac_equal]
  have : (((macOf s0 0 : Nat) : Int) == 1 && (((macOf s0 1 : Nat) : Int) == 128 && (((macOf s0 2 : Nat) : Int) == 194 && (((macOf s0 3 : Nat) : Int) == 0 && (((macOf s0 4 : Nat) : Int) == 0 && (((macOf s0 5 : Nat) : Int) == 0 && true)))))) = true := by decide +kernel
  rw [this]
theorem s0_txt : strV (txt (macOf s0) 6) = .string s0 := by
  have : txt (macOf s0) 6 = s0.data.toList := by decide +kernel
  show Value.string ⟨⟨txt (macOf s0) 6⟩⟩ = _
  rw [this]
theorem all_all (w : World) : (Op.equalIn 10000 23 (.agg #[.int .u8 255, .int .u8 255, .int .u8 255, .int .u8 255, .int .u8 255, .int .u8 255]) (.agg #[.int .u8 255, .int .u8 255, .int .u8 255, .int .u8 255, .int .u8 255, .int .u8 255])).run Tryz.prog w = .ok true w := by
  rw [mac_equal]; rfl
theorem macOf_lt (s : ByteArray) (i : Nat) : macOf s i < 256 := by
  unfold macOf
  have h1 : (dval (bt s (3 * i))).getD 0 < 16 := by
    cases h : dval (bt s (3 * i)) with
    | none => simp
    | some v => simpa using dval_lt h
  have h2 : (dval (bt s (3 * i + 1))).getD 0 < 16 := by
    cases h : dval (bt s (3 * i + 1)) with
    | none => simp
    | some v => simpa using dval_lt h
  omega

end Go.Proofs.YtlmdpaemhjcmbaaGreatDoor.Cd
