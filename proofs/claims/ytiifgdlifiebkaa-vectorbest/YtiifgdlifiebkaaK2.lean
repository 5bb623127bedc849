/- VectorBest's call, where there is no port. -/
import Derived.Test.YtiifgdlifiebkaaK
namespace Go.Proofs.Ytiifgdlifiebkaa
open Go.RowKit Go.Sort

set_option maxHeartbeats 1000000 in
theorem vbest_empty (a a' : Option Addr) (c c' : Nat) (w : World) :
    Calls Try.prog 5 #[.slice a 0 c, .slice a' 0 c'] w fun e w' => e = .returned (.bool true) ∧ Below w.heap.size w w' := by
  go_enter Try.func5, Try.ntmps5
  go_wp2_with fail
  refine (lives_any _).mono ?_
  rintro e w1 ⟨rfl, hb⟩
  have HB := Lib.hid hb
  clear hb
  go_wp2
  refine wp_loop_rounds 1 ?_
  rw [rounds_succ]
  go_wp2_with (go_at_call 18; refine (best_none a none 0 0 c 0 (.inr rfl) _).mono ?_; rintro e w3 ⟨rfl, hb⟩)
  go_ret
  exact ⟨rfl, HB.out.trans (hb.mono HB.out.size)⟩
set_option maxHeartbeats 1000000 in
theorem vbest_bare (a a' : Option Addr) (n c c' : Nat) (w : World) (hn : 0 < n) (hn100 : n ≤ 100) :
    Calls Try.prog 5 #[.slice a n c, .slice a' 0 c'] w fun e w' => e = .returned (.bool true) ∧ Below w.heap.size w w' := by
  go_enter Try.func5, Try.ntmps5
  go_wp2_with fail
  refine (lives_any _).mono ?_
  rintro e w1 ⟨rfl, hb⟩
  have HB := Lib.hid hb
  clear hb
  go_wp2
  refine wp_loop_rounds 1 ?_
  rw [rounds_succ]
  go_wp2_with (go_at_call 18; refine (best_none a none n 0 c 0 (.inr rfl) _).mono ?_; rintro e w3 ⟨rfl, hb⟩)
  go_ret
  exact ⟨rfl, HB.out.trans (hb.mono HB.out.size)⟩
end Go.Proofs.Ytiifgdlifiebkaa
