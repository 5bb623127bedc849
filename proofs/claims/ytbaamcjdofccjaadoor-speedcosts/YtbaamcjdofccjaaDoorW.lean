/- The law SpeedCosts: for any two words the call returns true, under the condition that the library tables hold what their initialisers lay. -/
import Derived.Test.YtbaamcjdofccjaaDoorT
namespace Go.Proofs.YtbaamcjdofccjaaDoor
open Go.RowKit
theorem run_from8c (n : Int) (w : World) : (callFunc 8 #[.int .u64 n]).run Tryd.prog w = .ok (.value (.float .f64 n.toNat)) w := by
  rw [run_callFunc_extern (e := Extern.MathFloatBits.float64frombits) Tryd.func8 (by kernel_rfl) (by kernel_rfl) (by kernel_rfl) (by kernel_rfl)]
  rfl
theorem right_doc (b : Nat) (w : World) :
    Calls Tryd.prog 11 #[.float .f64 b] w fun e w' => e = .returned (.bool (rt b)) ∧ w = w' := by
  cases h : (FloatKind.f64.format.order b 0 == some Ordering.gt)
  · go_enter Tryd.func11, Tryd.ntmps11
    go_wp2
    go_ret
    exact ⟨ret_bool (by unfold rt; rw [h, Bool.false_and]), rfl⟩
  · go_enter Tryd.func11, Tryd.ntmps11
    go_wp2
    go_ret
    exact ⟨ret_bool (by unfold rt; rw [h, Bool.true_and]), rfl⟩
abbrev CostC (f x : Nat) (e : Ending) : Prop := ∀ w, Calls Tryd.prog f #[.float .f64 x] w fun e' w' => e' = e ∧ w = w'
set_option maxHeartbeats 1000000 in
theorem costs_core (a b : Int) (x y c d : Nat) (r : Bool) (e f : Int) (w : World) (hE : Env w) (ha : a.toNat = x) (hb : b.toNat = y)
    (h1 : CostC 9 x (cEnd (c : Nat) e)) (h2 : CostC 9 y (cEnd (d : Nat) f)) (h3 : CostC 10 x (.returned (.bool r))) (h4 : CostC 11 x (.returned (.bool r)))
    (hr : (r = false ∧ e = 4 ∧ c = 0) ∨ (r = true ∧ e = 0 ∧ CostC 12 x (.returned (.int .u32 (c : Nat))) ∧ (f = 4 ∨ (f = 0 ∧ ((FloatKind.f64.format.order x y == some .gt) = false → d ≤ c))))) :
    Calls Tryd.prog 3 #[.int .u64 a, .int .u64 b] w fun e w' => e = .returned (.bool true) ∧ ∃ n, w' = w.drewN n := by
  have c0 := lives_ok w hE
  have r1 : ∀ w, (callFunc 8 #[.int .u64 a]).run Tryd.prog w = .ok (.value (.float .f64 x)) w := fun w => by rw [run_from8c, ha]
  have r2 : ∀ w, (callFunc 8 #[.int .u64 b]).run Tryd.prog w = .ok (.value (.float .f64 y)) w := fun w => by rw [run_from8c, hb]
  unfold cEnd at h1 h2
  have H1 := Lib.hid h1
  have H2 := Lib.hid h2
  have H3 := Lib.hid h3
  have H4 := Lib.hid h4
  clear h1 h2 h3 h4 ha hb hE
  rcases hr with ⟨rfl, rfl, rfl⟩ | ⟨rfl, rfl, h5, hf⟩
  · go_enter Tryd.func3, Tryd.ntmps3
    go_wp2_with fail
    refine c0.mono ?_
    rintro e w' ⟨rfl, n, rfl⟩
    clear c0
    go_wp2_with fail
    refine (H1.out _).mono ?_
    rintro e w' ⟨rfl, rfl⟩
    go_wp2_with fail
    refine (H2.out _).mono ?_
    rintro e w' ⟨rfl, rfl⟩
    go_wp2_with fail
    refine (H3.out _).mono ?_
    rintro e w' ⟨rfl, rfl⟩
    go_wp2_with fail
    refine (H4.out _).mono ?_
    rintro e w' ⟨rfl, rfl⟩
    go_wp2_with fail
    refine (H4.out _).mono ?_
    rintro e w' ⟨rfl, rfl⟩
    go_wp2
    go_ret
    exact ⟨rfl, n, rfl⟩
  · have H5 := Lib.hid h5
    clear h5
    have hcs : (f = 4) ∨ (f = 0 ∧ (FloatKind.f64.format.order x y == some .gt) = true) ∨ (f = 0 ∧ (FloatKind.f64.format.order x y == some .gt) = false ∧ d ≤ c) := by
      rcases hf with h | ⟨h, h'⟩
      · exact .inl h
      · cases hg : (FloatKind.f64.format.order x y == some .gt)
        · exact .inr (.inr ⟨h, rfl, h' hg⟩)
        · exact .inr (.inl ⟨h, rfl⟩)
    clear hf
    have cc : ((c : Int) == (c : Int)) = true := by simp
    rcases hcs with rfl | ⟨rfl, hg⟩ | ⟨rfl, hg, hdc⟩
    all_goals
      go_enter Tryd.func3, Tryd.ntmps3
      go_wp2_with fail
      refine c0.mono ?_
      rintro e w' ⟨rfl, n, rfl⟩
      clear c0
      go_wp2_with fail
      refine (H1.out _).mono ?_
      rintro e w' ⟨rfl, rfl⟩
      go_wp2_with fail
      refine (H2.out _).mono ?_
      rintro e w' ⟨rfl, rfl⟩
      go_wp2_with fail
      refine (H3.out _).mono ?_
      rintro e w' ⟨rfl, rfl⟩
      go_wp2_with fail
      refine (H4.out _).mono ?_
      rintro e w' ⟨rfl, rfl⟩
      go_wp2_with fail
      refine (H4.out _).mono ?_
      rintro e w' ⟨rfl, rfl⟩
      go_wp2_with (go_at_call 12; refine (H5.out _).mono ?_; rintro e w' ⟨rfl, rfl⟩)
      go_ret
      exact ⟨by first | rfl | exact ret_bool (by simp; omega), n, rfl⟩
theorem costs_any (a b : Int) (w : World) (hE : Env w) :
    Calls Tryd.prog 3 #[.int .u64 a, .int .u64 b] w fun e w' => e = .returned (.bool true) ∧ ∃ n, w' = w.drewN n := by
  cases hx : rt a.toNat
  · have h3 : CostC 10 a.toNat (.returned (.bool false)) := fun w => by have := right_any a.toNat w; rwa [hx] at this
    have h4 : CostC 11 a.toNat (.returned (.bool false)) := fun w => by have := right_doc a.toNat w; rwa [hx] at this
    cases hy : rt b.toNat
    · exact costs_core a b _ _ 0 0 false 4 4 w hE rfl rfl (fun w => cost_bad _ w hx) (fun w => cost_bad _ w hy) h3 h4 (.inl ⟨rfl, rfl, rfl⟩)
    · exact costs_core a b _ _ 0 (costX b.toNat) false 4 0 w hE rfl rfl (fun w => cost_bad _ w hx) (fun w => cost_rt _ w hy) h3 h4 (.inl ⟨rfl, rfl, rfl⟩)
  · have h3 : CostC 10 a.toNat (.returned (.bool true)) := fun w => by have := right_any a.toNat w; rwa [hx] at this
    have h4 : CostC 11 a.toNat (.returned (.bool true)) := fun w => by have := right_doc a.toNat w; rwa [hx] at this
    cases hy : rt b.toNat
    · exact costs_core a b _ _ (costX a.toNat) 0 true 0 4 w hE rfl rfl (fun w => cost_rt _ w hx) (fun w => cost_bad _ w hy) h3 h4 (.inr ⟨rfl, rfl, fun w => ref_rt _ w hx, .inl rfl⟩)
    · exact costs_core a b _ _ (costX a.toNat) (costX b.toNat) true 0 0 w hE rfl rfl (fun w => cost_rt _ w hx) (fun w => cost_rt _ w hy) h3 h4 (.inr ⟨rfl, rfl, fun w => ref_rt _ w hx, .inr ⟨rfl, costX_mono hx hy⟩⟩)
end Go.Proofs.YtbaamcjdofccjaaDoor
