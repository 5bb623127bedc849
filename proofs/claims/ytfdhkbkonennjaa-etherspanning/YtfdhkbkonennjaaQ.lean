/- lives; what EtherBytes makes of a frame. -/
import Derived.Test.YtfdhkbkonennjaaN
namespace Go.Proofs.Ytfdhkbkonennjaa
open Go.RowKit Go.Sort

theorem frB_len (x y : Nat → Nat) (t : Nat) (l : List UInt8) : (frB x y t l).length = 14 + l.length + (60 - (14 + l.length)) := by
  rw [frB, List.length_append, frH_len, List.length_replicate]
set_option maxHeartbeats 1000000 in
theorem lives_any (w : World) : Calls Try.prog 6 #[] w fun e w' => e = .returned (.bool true) ∧ Below w.heap.size w w' := by
  have c := ebytes_ok (fun _ => 0) (fun _ => 0) 0 (.slice none 0 0) [] 0 w (fun _ => by omega) (fun _ => by omega) (by omega) (.inl ⟨rfl, rfl⟩) (Nat.zero_le _) (by unfold Rt; simp)
  go_enter Try.func6, Try.ntmps6
  go_wp2_with fail
  refine c.mono ?_
  rintro e w1 ⟨v, rfl, hb, -, hw⟩
  obtain ⟨p, cap, rfl, -⟩ := bts_len hb
  rw [frB_len]
  have HW := Lib.hid hw
  clear hb hw c
  go_wp2_with fail
  go_ret
  exact ⟨rfl, HW.out⟩
end Go.Proofs.Ytfdhkbkonennjaa
