/- Contract of Same, of two bridges that are alike, wherever their ports lie. -/
import Derived.Test.YtidgdanhnpfpmaaH
namespace Go.Proofs.Ytidgdanhnpfpmaa
open Go.RowKit Go.Sort

set_option maxRecDepth 20000 in
set_option maxHeartbeats 2000000 in
theorem same_pin (B : Bd) (s1 s2 : Value) (n : Nat) (XS : Nat → Array Value) (w : World) (h1 : PIn w s1 n XS) (h2 : PIn w s2 n XS) (ht : ∀ i, i < n → Typed (XS i)) (hn : n ≤ 20) :
    Calls Try.prog 10 #[.agg (B.cells s1), .agg (B.cells s2)] w fun e w' => e = .returned (.bool true) ∧ Below w.heap.size w w' := by
  have v1 := Lib.hid ((var_new w (B.cells s1) 34).alloc (.cells (B.cells s2) 34))
  have v2 := Lib.hid (show VarAt ((w.alloc (.cells (B.cells s1) 34)).alloc (.cells (B.cells s2) 34)) (w.heap.size + 1) (B.cells s2) 34 by
    have := var_new (w.alloc (.cells (B.cells s1) 34)) (B.cells s2) 34
    rwa [alloc_size] at this)
  have HP1 := Lib.hid (fun h => h1.pat h)
  have HP2 := Lib.hid (fun h => h2.pat h)
  have hB := Lib.hid (((Below.refl w.heap.size w).alloc (Nat.le_refl _) (.cells (B.cells s1) 34)).alloc (by simp) (.cells (B.cells s2) 34))
  have j1 := neV_self B.r B.c B.b B.p
  have j2 := neT_self B.a B.m B.h B.d
  have j3 := neT_self B.ra B.rm B.rh B.rd
  have HT := Lib.hid ht
  obtain ⟨a1, c1, rfl, -, -⟩ := h1
  obtain ⟨a2, c2, rfl, -, -⟩ := h2
  clear ht
  go_enter Try.func10, Try.ntmps10
  go_wp2_with fail
  generalize (w.alloc (.cells (B.cells (.slice a1 n c1)) 34)).alloc (.cells (B.cells (.slice a2 n c2)) 34) = W at *
  clear j1 j2 j3
  go_loopw [5] (fun i wr => ∃ k : Nat, k ≤ n ∧ i = .int .i64 k ∧ Below W.heap.size W wr) (fun i _ => n - (intOf i).toNat)
  case atStart => exact ⟨0, Nat.zero_le _, rfl, Below.refl _ _⟩
  case round =>
    obtain ⟨k, hk, rfl, hnx⟩ := hrel
    have V1 := Lib.hid (v1.out.below hnx v1.out.lt)
    have V2 := Lib.hid (v2.out.below hnx v2.out.lt)
    have HW := Lib.hid (hB.out.trans (hnx.mono hB.out.size))
    have HN := Lib.hid hnx
    clear hnx
    have c17 : wr.cell? ⟨w.heap.size, 17, none⟩ = some (.slice a1 n c1) := V1.out.cell 17
    by_cases hlt : k < n
    · obtain ⟨b1, o1, c1', hs1, hp1⟩ := HP1.out (by omega)
      obtain ⟨rfl, -, rfl⟩ := (by simpa using hs1 : a1 = some ⟨b1, o1, none⟩ ∧ True ∧ c1 = c1')
      obtain ⟨b2, o2, c2', hs2, hp2⟩ := HP2.out (by omega)
      obtain ⟨rfl, -, rfl⟩ := (by simpa using hs2 : a2 = some ⟨b2, o2, none⟩ ∧ True ∧ c2 = c2')
      have Q1 := Lib.hid (fun d os => ((hp1 k hlt).below (HT.out k hlt).1 (HW.out.trans ((below_regrown wr d os).mono HW.out.size))).range (HT.out k hlt).1)
      have Q2 := Lib.hid (fun d os => ((hp2 k hlt).below (HT.out k hlt).1 (HW.out.trans ((below_regrown wr d os).mono HW.out.size))).range (HT.out k hlt).1)
      clear hp1 hp2 hs1 hs2
      have d1 : ∀ d os, (grow (redrawn wr d) os).cell? ⟨w.heap.size, 17, none⟩ = some (.slice (some ⟨b1, o1, none⟩) n c1) := fun d os => (V1.out.grown d os).cell 17
      have d2 : ∀ d os, (grow (redrawn wr d) os).cell? ⟨w.heap.size + 1, 17, none⟩ = some (.slice (some ⟨b2, o2, none⟩) n c2) := fun d os => (V2.out.grown d os).cell 17
      have i1 := idx32o b1 o1 n c1 k hlt
      have i2 := idx32o b2 o2 n c2 k hlt
      have ne := port_neq (HT.out k hlt)
      have g := gP
      go_wp2_with fail
      refine wp_region_quiet_below (by kernel_rfl) (by kernel_rfl) ?_
      iterate 4 (go_big_quiet_step (fail))
      refine quiet_load rfl _ rfl rfl (fun w9 ⟨p9, e9⟩ => by rw [e9]; exact Q1.out _ _) (HT.out k hlt).1 ?_
      simp only [Act.put, List.setIfInBounds_toArray, List.set_cons_zero, List.set_cons_succ]
      iterate 4 (go_big_quiet_step (fail))
      refine quiet_load rfl _ rfl rfl (fun w9 ⟨p9, e9⟩ => by rw [e9]; exact Q2.out _ _) (HT.out k hlt).1 ?_
      simp only [Act.put, List.setIfInBounds_toArray, List.set_cons_zero, List.set_cons_succ]
      go_big_quiet_step (fail)
      refine wpQuiet_nil ?_
      intro _ hw'
      obtain ⟨⟨dq, osq⟩, hw''⟩ := hw'
      subst hw''
      have hb := Lib.hid (HN.out.trans ((below_regrown wr dq osq).mono HN.out.size))
      clear d1 d2 i1 i2 ne g c17
      go_wp2_with fail
      exact ⟨⟨k + 1, by omega, by go_num, hb.out⟩, by simp [intOf]; omega⟩
    · go_wp2_with fail
      go_ret
      exact ⟨rfl, hB.out.trans (HN.out.mono hB.out.size)⟩
end Go.Proofs.Ytidgdanhnpfpmaa
