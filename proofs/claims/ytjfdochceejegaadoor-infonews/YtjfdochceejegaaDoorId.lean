/- Contracts of the program's roleOf, newsOfDesignated, News. -/
import Derived.Test.YtjfdochceejegaaDoorIb
import Derived.Test.YtjfdochceejegaaDoorIc
namespace Go.Proofs.YtjfdochceejegaaDoor
open Go.RowKit Go.Sort

/-- The role of a port's message. -/
def roleX (xs : Array Value) : Int := if numI xs 72 == 1 then 2 else if numI xs 72 == 3 then roleF (numI xs 73).toNat else 0
theorem roleOf_any (xs : Array Value) (hr : Rg xs) (w : World) (he : Env w) : Calls Tryd.prog 21 #[.agg (msgC xs)] w fun e w' => e = .returned (.int .i64 (roleX xs)) ∧ Below w.heap.size w w' := by
  obtain ⟨f, ef, lf⟩ := hr.f
  have hv := var_new w (msgC xs) 36
  have k0 : (w.alloc (.cells (msgC xs) 36)).cell? ⟨w.heap.size, 0, none⟩ = some (.int .i64 (numI xs 72)) := hv.cell 0
  have k1 : (w.alloc (.cells (msgC xs) 36)).cell? ⟨w.heap.size, 1, none⟩ = some (.int .u8 (numI xs 73)) := hv.cell 1
  have hb := box_below w (.cells (msgC xs) 36)
  have c1 := role_any f lf _ (he.below hb)
  have HB := Lib.hid hb
  unfold roleX
  rw [ef] at *
  rw [show ((f : Int)).toNat = f from rfl]
  clear hv lf hr hb he
  generalize msgC xs = C at *
  generalize numI xs 72 = x72 at *
  generalize roleF f = R at *
  by_cases q1 : x72 = 1
  · subst q1
    go_enter Tryd.func21, Tryd.ntmps21
    go_wp2
    go_ret
    exact ⟨rfl, HB.out⟩
  · have e1 : (x72 == 1) = false := by simpa using q1
    rw [e1]
    by_cases q3 : x72 = 3
    · subst q3
      go_enter Tryd.func21, Tryd.ntmps21
      go_wp2_with fail
      refine c1.mono ?_
      rintro e w1 ⟨rfl, rfl⟩
      go_wp2
      go_ret
      exact ⟨rfl, HB.out⟩
    · have e3 : (x72 == 3) = false := by simpa using q3
      rw [e3]
      clear q1 q3 c1
      go_enter Tryd.func21, Tryd.ntmps21
      go_wp2
      go_ret
      exact ⟨rfl, HB.out⟩
/-- How the message's vector and the port's stand: better, superior, alike; and their times. -/
def betX (xs : Array Value) : Bool := ltV (numI xs 74) (numI xs 75) (numI xs 76) (numI xs 77) (numI xs 56) (numI xs 57) (numI xs 58) (numI xs 59)
def frX (xs : Array Value) : Bool := frV (numI xs 76).toNat (numI xs 77).toNat (numI xs 58).toNat (numI xs 59).toNat
def samX (xs : Array Value) : Bool := eqV (numI xs 74) (numI xs 75) (numI xs 76) (numI xs 77) (numI xs 56) (numI xs 57) (numI xs 58) (numI xs 59)
def tmsX (xs : Array Value) : Bool := eqT (secA xs) (secM xs) (secH xs) (secD xs) (numI xs 68) (numI xs 69) (numI xs 70) (numI xs 71)
def supX (xs : Array Value) : Bool := betX xs || (frX xs && !samX xs)
/-- What the message of a designated port tells. -/
def ndesX (xs : Array Value) : Int := if supX xs || (samX xs && !tmsX xs) then 1 else if !samX xs then 3 else if numI xs 44 == 3 then 2 else 0
/-- What the message tells. -/
def newsX (xs : Array Value) : Int := if roleX xs == 2 then ndesX xs else if (roleX xs == 1 || roleX xs == 3) && !betX xs then 4 else 0
theorem sup_port (xs : Array Value) (hr : Rg xs) (w : World) : Calls Tryd.prog 37 #[vV (numI xs 74) (numI xs 75) (numI xs 76) (numI xs 77), vV (numI xs 56) (numI xs 57) (numI xs 58) (numI xs 59)] w fun e w' => e = .returned (.bool (supX xs)) ∧ Below w.heap.size w w' := by
  obtain ⟨b, eb, lb⟩ := hr.b
  obtain ⟨p, ep, lp⟩ := hr.p
  obtain ⟨vb, evb, lvb⟩ := hr.vb
  obtain ⟨vp, evp, lvp⟩ := hr.vp
  unfold supX betX frX samX
  rw [eb, ep, evb, evp]
  exact superior_any _ _ b p _ _ vb vp lb lvb lp lvp w
end Go.Proofs.YtjfdochceejegaaDoor
