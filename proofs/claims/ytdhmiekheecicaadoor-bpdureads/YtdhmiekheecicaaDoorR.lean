/- The contract of asConfig. -/
import Derived.Test.YtdhmiekheecicaaDoorQ
namespace Go.Proofs.YtdhmiekheecicaaDoor
open Go.RowKit Go.Sort

theorem Env.low {w w' : World} {B : Nat} (h : Env w) (hb : Below B w w') (hB : 0 < B) : Env w' := by
  intro i hi
  rw [hb.cell (show (⟨0, i, none⟩ : Addr).block < B from hB)]; exact h i hi
theorem two_below (w : World) (o o' : Obj) : Below w.heap.size w ((w.alloc o).alloc o') := (box_below _ _).alloc (by rw [alloc_size]; omega) _
set_option maxRecDepth 20000 in
set_option maxHeartbeats 2000000 in
theorem asConfig_same (f : Nat) (r c b p a m h d : Int) (hf : f < 256) (hr : roleOf f ≠ 0) (w : World) (he : Env w) :
    Calls Tryd.prog 32 #[bpV 3 f r c b p a m h d] w fun e w' => e = .returned (bpV 3 f r c b p a m h d) ∧ Below w.heap.size w w' := by
  have c1 := role_any f hf ((w.alloc (.cells (bpC 3 f r c b p a m h d) 31)).alloc (.cells bpZ 31)) (he.below (two_below _ _ _))
  generalize roleOf f = R at *
  clear he
  go_enter Tryd.func32, Tryd.ntmps32
  go_wp2_with fail
  refine c1.mono ?_
  rintro e w1 ⟨rfl, rfl⟩
  clear c1
  go_wp2_with fail
  exact bodyPost_ret (v := bpV 3 f r c b p a m h d) (by simp [results, Tryd.results32, go_sem]) rfl ⟨rfl, two_below _ _ _⟩

set_option maxRecDepth 20000 in
set_option maxHeartbeats 2000000 in
theorem asConfig_cut (k : Int) (f : Nat) (r c b p a m h d : Int) (hf : f < 256) (hk : k = 1 ∨ (k = 3 ∧ roleOf f = 0)) (w : World) (he : Env w) :
    Calls Tryd.prog 32 #[bpV k f r c b p a m h d] w fun e w' => e = .returned (bpV 1 ((f / 128 * 128 + f % 2 : Nat) : Int) r c b p a m h d) ∧ Below w.heap.size w w' := by
  have c1 := role_any f hf ((w.alloc (.cells (bpC k f r c b p a m h d) 31)).alloc (.cells bpZ 31)) (he.below (two_below _ _ _))
  have a1 := and129 f hf
  generalize f / 128 * 128 + f % 2 = G at *
  clear he
  rcases hk with rfl | ⟨rfl, hr⟩
  · clear c1
    go_enter Tryd.func32, Tryd.ntmps32
    go_wp2_with fail
    exact bodyPost_ret (v := bpV 1 G r c b p a m h d) (by simp [results, Tryd.results32, go_sem]) rfl ⟨rfl, two_below _ _ _⟩
  · rw [hr] at c1
    go_enter Tryd.func32, Tryd.ntmps32
    go_wp2_with fail
    refine c1.mono ?_
    rintro e w1 ⟨rfl, rfl⟩
    clear c1
    go_wp2_with fail
    exact bodyPost_ret (v := bpV 1 G r c b p a m h d) (by simp [results, Tryd.results32, go_sem]) rfl ⟨rfl, two_below _ _ _⟩
end Go.Proofs.YtdhmiekheecicaaDoor
