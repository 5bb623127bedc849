/- VectorOrder's call, its boxes. -/
import Derived.Test.YtiifgdlifiebkaaE
namespace Go.Proofs.Ytiifgdlifiebkaa
open Go.RowKit Go.Sort

/-- Three vectors in boxes. -/
theorem box3 (w : World) (r c b p r' c' b' p' r2 c2 b2 p2 : Int) :
    VarAt (((w.alloc (.cells (vC r c b p) 28)).alloc (.cells (vC r' c' b' p') 28)).alloc (.cells (vC r2 c2 b2 p2) 28)) w.heap.size (vC r c b p) 28 ∧
    VarAt (((w.alloc (.cells (vC r c b p) 28)).alloc (.cells (vC r' c' b' p') 28)).alloc (.cells (vC r2 c2 b2 p2) 28)) (w.heap.size + 1) (vC r' c' b' p') 28 ∧
    VarAt (((w.alloc (.cells (vC r c b p) 28)).alloc (.cells (vC r' c' b' p') 28)).alloc (.cells (vC r2 c2 b2 p2) 28)) (w.heap.size + 2) (vC r2 c2 b2 p2) 28 ∧
    Below w.heap.size w (((w.alloc (.cells (vC r c b p) 28)).alloc (.cells (vC r' c' b' p') 28)).alloc (.cells (vC r2 c2 b2 p2) 28)) := by
  obtain ⟨h1, h2, h3⟩ := box2 w r c b p r' c' b' p'
  refine ⟨h1.alloc _, h2.alloc _, ?_, h3.alloc h3.size _⟩
  have := var_new ((w.alloc (.cells (vC r c b p) 28)).alloc (.cells (vC r' c' b' p') 28)) (vC r2 c2 b2 p2) 28
  rwa [alloc_size, alloc_size] at this
end Go.Proofs.Ytiifgdlifiebkaa
