/- ConfigBridge's call. -/
import Derived.Test.YtiebiajpeocecaaX
import Derived.Test.YtiebiajpeocecaaU
import Derived.Test.YtiebiajpeocecaaE
import Derived.Deep.DeepCutAuto
namespace Go.Proofs.Ytiebiajpeocecaa
open Go.RowKit Go.Sort

theorem refNumber_quiet (x : Nat → Nat) (hx : ∀ i, x i < 256) (W : World) : ∀ d os, Calls Try.prog 18 #[macV x] (grow (redrawn W d) os) fun e w'' => e = .returned (.int .u64 (pref x 6)) ∧ ∃ p : Regrown, w'' = grow (redrawn W p.d) p.os :=
  fun _ _ => Calls.regrown_of (refNumber_any x hx _)
theorem bridge_long (c : Cf) (a : Option Addr) (n cap : Nat) (B : Bd) (s' : Value) (m : Nat) (XS : Nat → Array Value) (w : World) (hp : PIn w s' m XS) (hn : 20 < n ∨ 20 < m) :
    Calls Try.prog 5 #[.agg (c.cells (.slice a n cap)), .agg (B.cells s')] w fun e w' => e = .returned (.bool true) ∧ Below w.heap.size w w' := by
  have v0 := (var_new w (c.cells (.slice a n cap)) 28).alloc (.cells (B.cells s') 71)
  have v1 : VarAt ((w.alloc (.cells (c.cells (.slice a n cap)) 28)).alloc (.cells (B.cells s') 71)) (w.heap.size + 1) (B.cells s') 71 := by
    have := var_new (w.alloc (.cells (c.cells (.slice a n cap)) 28)) (B.cells s') 71
    rwa [alloc_size] at this
  have F := Lib.hid (fun (w1 : World) (h : Below ((w.alloc (.cells (c.cells (.slice a n cap)) 28)).alloc (.cells (B.cells s') 71)).heap.size ((w.alloc (.cells (c.cells (.slice a n cap)) 28)).alloc (.cells (B.cells s') 71)) w1) =>
    (show w1.cell? ⟨w.heap.size, 14, none⟩ = some (.slice a n cap) ∧ w1.cell? ⟨w.heap.size + 1, 17, none⟩ = some s' from ⟨(v0.below h v0.lt).cell 14, (v1.below h v1.lt).cell 17⟩))
  have HB := Lib.hid (((Below.refl w.heap.size w).alloc (Nat.le_refl _) (.cells (c.cells (.slice a n cap)) 28)).alloc (by rw [alloc_size]; omega) (.cells (B.cells s') 71))
  have cl := lives_ok
  obtain ⟨ad, c', rfl, _⟩ := hp
  clear v0 v1
  generalize B.cells = BC at *
  generalize c.cells = CC at *
  by_cases h1 : 20 < n
  · clear hn
    go_enter Try.func5, Try.ntmps5
    go_wp2_with fail
    refine (cl _).mono ?_
    rintro e w1 ⟨rfl, hb⟩
    obtain ⟨f0, f1⟩ := F.out w1 hb
    have HB1 := Lib.hid (HB.out.trans (hb.mono HB.out.size))
    clear hb HB F
    go_wp2_with fail
    refine (cl _).mono ?_
    rintro e w2 ⟨rfl, hb⟩
    have HB2 := Lib.hid (HB1.out.trans (hb.mono HB1.out.size))
    clear hb HB1
    go_wp2_with fail
    go_ret
    exact ⟨rfl, HB2.out⟩
  · have h2 : 20 < m := by omega
    clear hn
    go_enter Try.func5, Try.ntmps5
    go_wp2_with fail
    refine (cl _).mono ?_
    rintro e w1 ⟨rfl, hb⟩
    obtain ⟨f0, f1⟩ := F.out w1 hb
    have HB1 := Lib.hid (HB.out.trans (hb.mono HB.out.size))
    clear hb HB F
    go_wp2_with fail
    refine (cl _).mono ?_
    rintro e w2 ⟨rfl, hb⟩
    have HB2 := Lib.hid (HB1.out.trans (hb.mono HB1.out.size))
    clear hb HB1
    go_wp2_with fail
    go_ret
    exact ⟨rfl, HB2.out⟩
end Go.Proofs.Ytiebiajpeocecaa
