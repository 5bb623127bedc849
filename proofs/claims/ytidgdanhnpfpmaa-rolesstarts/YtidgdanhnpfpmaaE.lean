/- Contracts of From, the program's and the reference's, of Superior, and of the laws' own example. -/
import Derived.Test.YtidgdanhnpfpmaaD
namespace Go.Proofs.Ytidgdanhnpfpmaa
open Go.RowKit Go.Sort

theorem Calls.same_regrown {P : Program} {f : FuncId} {args : Array Value} {w : World} {d : Nat} {os : Array Obj} {v : Value}
    (h : Calls P f args (grow (redrawn w d) os) fun e w' => e = .returned v ∧ grow (redrawn w d) os = w') : Calls P f args (grow (redrawn w d) os) fun e w'' => e = .returned v ∧ ∃ p : Regrown, w'' = grow (redrawn w p.d) p.os :=
  h.mono fun _ _ ⟨he, hb⟩ => ⟨he, ⟨⟨d, os⟩, hb.symm⟩⟩
/-- A variable in every world of a region's class. -/
theorem VarAt.grown {w : World} {b : Nat} {xs : Array Value} {t : TypeId} (h : VarAt w b xs t) (d : Nat) (os : Array Obj) : VarAt (grow (redrawn w d) os) b xs t := h.below (below_regrown w d os) h.lt
/-- Two vectors in boxes. -/
theorem box2 (w : World) (r c b p r' c' b' p' : Int) :
    VarAt ((w.alloc (.cells (vC r c b p) 30)).alloc (.cells (vC r' c' b' p') 30)) w.heap.size (vC r c b p) 30 ∧ VarAt ((w.alloc (.cells (vC r c b p) 30)).alloc (.cells (vC r' c' b' p') 30)) (w.heap.size + 1) (vC r' c' b' p') 30 ∧
    Below w.heap.size w ((w.alloc (.cells (vC r c b p) 30)).alloc (.cells (vC r' c' b' p') 30)) := by
  refine ⟨(var_new w _ _).alloc _, ?_, (box_below _ _).alloc (by simp) _⟩
  have := var_new (w.alloc (.cells (vC r c b p) 30)) (vC r' c' b' p') 30
  rwa [alloc_size] at this
end Go.Proofs.Ytidgdanhnpfpmaa
