/- Contracts of addr.Compare and addr.Reserved, whose statements draw their order. -/
import Derived.Test.YtlmdpaemhjcmbaaGreatDoorDB
namespace Go.Proofs.YtlmdpaemhjcmbaaGreatDoor.Cd
open Go.RowKit Go.Sort

theorem Calls.same_regrown {P : Program} {f : FuncId} {args : Array Value} {w : World} {d : Nat} {os : Array Obj} {v : Value}
    (h : Calls P f args (grow (redrawn w d) os) fun e w' => e = .returned v ∧ grow (redrawn w d) os = w') : Calls P f args (grow (redrawn w d) os) fun e w'' => e = .returned v ∧ ∃ p : Regrown, w'' = grow (redrawn w p.d) p.os :=
  h.mono fun _ _ ⟨he, hb⟩ => ⟨he, ⟨⟨d, os⟩, hb.symm⟩⟩

theorem and240 : ∀ n : Fin 256, bits BinOp.and IntKind.u8 (n.val : Int) 240 = ((n.val / 16 * 16 : Nat) : Int) := by decide +kernel
def resX (x : Nat → Nat) (i : Nat) : Nat := if i = 5 then x 5 / 16 * 16 else x i
/-- Is an address one of the reserved ones? -/
def resB (x : Nat → Nat) : Bool := (resX x 0 : Int) == 1 && ((resX x 1 : Int) == 128 && ((resX x 2 : Int) == 194 && ((resX x 3 : Int) == 0 && ((resX x 4 : Int) == 0 && ((resX x 5 : Int) == 0 && true)))))
end Go.Proofs.YtlmdpaemhjcmbaaGreatDoor.Cd
