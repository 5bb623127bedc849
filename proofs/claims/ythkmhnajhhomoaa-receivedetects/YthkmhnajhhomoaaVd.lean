/- ReceiveDetects' call. -/
import Derived.Test.YthkmhnajhhomoaaDo
import Derived.Test.YthkmhnajhhomoaaS0
import Derived.Test.YthkmhnajhhomoaaS1
import Derived.Test.YthkmhnajhhomoaaS2
namespace Go.Proofs.Ythkmhnajhhomoaa
open Go.RowKit Go.Sort

theorem call11 (args : Array Value) (w : World) : (callFunc 11 args).run Try.prog w = .ok (.enter 11 args) w := by kernel_rfl
theorem call12 (args : Array Value) (w : World) : (callFunc 12 args).run Try.prog w = .ok (.enter 12 args) w := by kernel_rfl
theorem refdetect_some (B : Bd) (s : Value) (n k : Nat) (XS : Nat → Array Value) (w : World) (hs : PIn w s n XS) (hk : k < n) (hn : n ≤ 20) (ht : ∀ j, j < n → Typed (XS j)) :
    Calls Try.prog 12 #[.agg (B.cells s), .int .i64 k] w fun e w' => Ret B n (at1 XS k (detX (XS k)).2) (detX (XS k)).1 w e w' := by
  by_cases h0 : numI (XS k) 84 = 0
  · exact refdetect_n B s n k XS w hs hk hn ht h0
  · by_cases h1 : numI (XS k) 84 = 1
    · exact refdetect_e B s n k XS w hs hk hn ht h1
    · exact refdetect_o B s n k XS w hs hk hn ht (by simpa using h0) (by simpa using h1)
theorem detect_does (B : Bd) (s : Value) (n : Nat) (i : Int) (XS : Nat → Array Value) (w : World) (hs : PIn w s n XS) (hn : n ≤ 20) (ht : ∀ i, i < n → Typed (XS i)) :
    Calls Try.prog 8 #[.agg (B.cells s), .int .i64 i, .func (.func 11) #[] #[], .func (.func 12) #[] #[]] w fun e w' => e = .returned (.bool true) ∧ Below w.heap.size w w' := by
  by_cases hi : 0 ≤ i ∧ i < n
  · obtain ⟨k, rfl⟩ : ∃ k : Nat, i = k := ⟨i.toNat, by omega⟩
    have hk : k < n := by omega
    refine does_any 11 12 B s n k XS (at1 XS k (detX (XS k)).2) (detX (XS k)).1 w hs hn ht (at1_typed ht (detX_typed (ht k hk))) call11 call12 (fun bb pb cap w1 hB => ?_) (fun s1 w1 h1 => ?_)
    · refine (detect_some B bb pb n cap k XS w1 hB hk (ht k hk)).mono ?_
      rintro e w2 ⟨rfl, hm⟩
      exact ⟨rfl, hB.mv hk hm, hm.only⟩
    · exact refdetect_some B s1 n k XS w1 h1 hk hn ht
  · have hi2 : i < 0 ∨ (n : Int) ≤ i := by omega
    refine does_any 11 12 B s n i XS XS false w hs hn ht ht call11 call12 (fun bb pb cap w1 hB => ?_) (fun s1 w1 h1 => ?_)
    · refine (detect_none B bb pb n cap i XS w1 hB hi2).mono ?_
      rintro e w2 ⟨rfl, rfl⟩
      exact ⟨rfl, hB, Only.refl _ _⟩
    · exact refdetect_none B s1 n i XS w1 h1 hi2 ht
set_option maxRecDepth 20000 in
set_option maxHeartbeats 4000000 in
theorem detects_any (B : Bd) (s : Value) (n : Nat) (i : Int) (XS : Nat → Array Value) (w : World) (hs : PIn w s n XS) (ht : ∀ i, i < n → Typed (XS i)) :
    Calls Try.prog 4 #[.agg (B.cells s), .int .i64 i] w fun e w' => e = .returned (.bool true) ∧ Below w.heap.size w w' := by
  have hx : ∀ i, i < n → (XS i).size = 90 := fun i hi => (ht i hi).1
  have hv0 := Lib.hid (var_new w (B.cells s) 34)
  have hB0 := Lib.hid (box_below w (.cells (B.cells s) 34))
  have HX := Lib.hid hx
  have HT := Lib.hid ht
  have HSW := Lib.hid hs
  have HC18 := Lib.hid (show (B.cells s).size = 18 by simp)
  have kF := Lib.hid (fun w => fits_any B s n XS w)
  have kD := Lib.hid (fun w h hn => detect_does B s n i XS w h hn ht)
  clear hs ht hx
  generalize B.cells s = C at *
  go_enter Try.func4, Try.ntmps4
  go_wp2_with fail
  generalize w.alloc (.cells C 34) = w0 at *
  refine (lives_any _).mono ?_
  rintro e w1 ⟨rfl, hb⟩
  have V1 := Lib.hid (hv0.out.below hb hv0.out.lt)
  have B1 := Lib.hid (hB0.out.trans (hb.mono hB0.out.size))
  clear hb hv0 hB0
  go_wp2_with (with_reducible refine stopL 34 _ rfl ?_)
  refine Lib.hid ?_
  refine guarded_load (by rfl) _ rfl rfl V1.out HC18.out ?_
  go_wp2_with fail
  refine (kF.out _ (HSW.out.below HX.out B1.out) HT.out).mono ?_
  rintro e w2 ⟨⟨q, rfl, hqn⟩, hb⟩
  have V2 := Lib.hid (V1.out.below hb V1.out.lt)
  have B2 := Lib.hid (B1.out.trans (hb.mono B1.out.size))
  clear hb V1 B1
  cases q
  · go_wp2_with fail
    refine (lives_any _).mono ?_
    rintro e w3 ⟨rfl, hb⟩
    have B3 := Lib.hid (B2.out.trans (hb.mono B2.out.size))
    clear hb
    go_wp2_with fail
    go_ret
    exact ⟨rfl, B3.out⟩
  · have hn := hqn rfl
    have kD2 := Lib.hid (kD.out _ (HSW.out.below HX.out B2.out) hn)
    clear hqn kD
    go_wp2_with (with_reducible refine stopL 34 _ rfl ?_)
    refine Lib.hid ?_
    refine wpList_load_whole uB rfl sB rfl _ rfl rfl (range_whole V2.out) HC18.out ?_
    go_wp2_with fail
    refine kD2.out.mono ?_
    rintro e w3 ⟨rfl, hb⟩
    have B3 := Lib.hid (B2.out.trans (hb.mono B2.out.size))
    clear hb
    go_wp2_with fail
    refine (detect_nil _ _).mono ?_
    rintro e w4 ⟨rfl, rfl⟩
    go_wp2_with fail
    go_ret
    exact ⟨rfl, B3.out⟩
end Go.Proofs.Ythkmhnajhhomoaa
