/- InfoSteps' call. -/
import Derived.Test.YtjfdochceejegaaDoorDo
import Derived.Test.YtjfdochceejegaaDoorLa
import Derived.Test.YtjfdochceejegaaDoorMg
namespace Go.Proofs.YtjfdochceejegaaDoor
open Go.RowKit Go.Sort

theorem call13 (args : Array Value) (w : World) : (callFunc 13 args).run Tryd.prog w = .ok (.enter 13 args) w := by kernel_rfl
theorem call14 (args : Array Value) (w : World) : (callFunc 14 args).run Tryd.prog w = .ok (.enter 14 args) w := by kernel_rfl
theorem step_does (B : Bd) (s : Value) (n : Nat) (i : Int) (XS : Nat → Array Value) (w : World) (hs : PIn w s n XS) (hn : n ≤ 20) (ht : ∀ i, i < n → Typed (XS i)) (hr : ∀ i, i < n → Rg (XS i)) (he : Env w) :
    Calls Tryd.prog 12 #[.agg (B.cells s), .int .i64 i, .func (.func 13) #[] #[], .func (.func 14) #[] #[]] w fun e w' => e = .returned (.bool true) ∧ Below w.heap.size w w' := by
  by_cases hi : 0 ≤ i ∧ i < n
  · obtain ⟨k, rfl⟩ : ∃ k : Nat, i = k := ⟨i.toNat, by omega⟩
    have hk : k < n := by omega
    refine does_any 13 14 B s n k XS (at1 XS k (stepX B.rs (XS k)).2) (stepX B.rs (XS k)).1 w hs hn ht (at1_typed ht (stepX_typed B.rs (ht k hk))) call13 call14 (fun bb pb cap w1 hb1 hB => ?_) (fun s1 w1 h1 => ?_)
    · refine (step_some B bb pb n cap k XS w1 hB hk (ht k hk) (hr k hk) (he.below hb1)).mono ?_
      rintro e w2 ⟨rfl, hm⟩
      exact ⟨rfl, hB.mv hk hm, hm.only⟩
    · exact refstep_some B s1 n k XS w1 h1 hk hn ht (hr k hk)
  · have hi2 : i < 0 ∨ (n : Int) ≤ i := by omega
    refine does_any 13 14 B s n i XS XS false w hs hn ht ht call13 call14 (fun bb pb cap w1 hb1 hB => ?_) (fun s1 w1 h1 => ?_)
    · refine (step_none B bb pb n cap i XS w1 hB hi2).mono ?_
      rintro e w2 ⟨rfl, rfl⟩
      exact ⟨rfl, hB, Only.refl _ _⟩
    · exact refstep_none B s1 n i XS w1 h1 hi2 ht
set_option maxRecDepth 20000 in
set_option maxHeartbeats 4000000 in
theorem steps_any (B : Bd) (s : Value) (n : Nat) (i : Int) (XS : Nat → Array Value) (w : World) (hs : PIn w s n XS) (ht : ∀ i, i < n → Typed (XS i)) (hr : ∀ i, i < n → Rg (XS i)) (he : Env w) :
    Calls Tryd.prog 4 #[.agg (B.cells s), .int .i64 i] w fun e w' => e = .returned (.bool true) ∧ Below w.heap.size w w' := by
  have hx : ∀ i, i < n → (XS i).size = 90 := fun i hi => (ht i hi).1
  have hv0 := Lib.hid (var_new w (B.cells s) 47)
  have hB0 := Lib.hid (box_below w (.cells (B.cells s) 47))
  have HX := Lib.hid hx
  have HT := Lib.hid ht
  have HSW := Lib.hid hs
  have HC18 := Lib.hid (show (B.cells s).size = 18 by simp)
  have kF := Lib.hid (fun w => fits_any B s n XS w)
  have kD := Lib.hid (fun w h hn he => step_does B s n i XS w h hn ht hr he)
  have HENV := Lib.hid he
  clear hs ht hx hr he
  generalize B.cells s = C at *
  go_enter Tryd.func4, Tryd.ntmps4
  go_wp2_with fail
  generalize w.alloc (.cells C 34) = w0 at *
  refine (livesL_any _ (HENV.out.below hB0.out)).mono ?_
  rintro e w1 ⟨rfl, hb⟩
  have V1 := Lib.hid (hv0.out.below hb hv0.out.lt)
  have B1 := Lib.hid (hB0.out.trans (hb.mono hB0.out.size))
  clear hb hv0 hB0
  go_wp2_with (with_reducible refine stopL 47 _ rfl ?_)
  refine Lib.hid ?_
  refine guarded_load (by rfl) _ rfl rfl V1.out HC18.out ?_
  go_wp2_with fail
  refine (kF.out _ (HSW.out.below HX.out B1.out) HT.out).mono ?_
  rintro e w2 ⟨⟨q, rfl, hqn⟩, hb⟩
  have V2 := Lib.hid (V1.out.below hb V1.out.lt)
  have B2 := Lib.hid (B1.out.trans (hb.mono B1.out.size))
  clear hb V1 B1
  cases q
  · go_wp2_with fail
    refine (livesL_any _ (HENV.out.below B2.out)).mono ?_
    rintro e w3 ⟨rfl, hb⟩
    have B3 := Lib.hid (B2.out.trans (hb.mono B2.out.size))
    clear hb
    go_wp2_with fail
    go_ret
    exact ⟨rfl, B3.out⟩
  · have hn := hqn rfl
    have kD2 := Lib.hid (kD.out _ (HSW.out.below HX.out B2.out) hn (HENV.out.below B2.out))
    clear hqn kD
    go_wp2_with (with_reducible refine stopL 47 _ rfl ?_)
    refine Lib.hid ?_
    refine wpList_load_whole uB rfl sB rfl _ rfl rfl (range_whole V2.out) HC18.out ?_
    go_wp2_with fail
    refine kD2.out.mono ?_
    rintro e w3 ⟨rfl, hb⟩
    have B3 := Lib.hid (B2.out.trans (hb.mono B2.out.size))
    clear hb
    go_wp2_with fail
    refine (step_nil _ _).mono ?_
    rintro e w4 ⟨rfl, rfl⟩
    go_wp2_with fail
    go_ret
    exact ⟨rfl, B3.out⟩
end Go.Proofs.YtjfdochceejegaaDoor
