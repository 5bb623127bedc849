/- Contract of lives, the chapter's example. -/
import Derived.Test.YtidgdanhnpfpmaaWd
import Derived.Great.BuildSlice
namespace Go.Proofs.Ytidgdanhnpfpmaa
open Go.RowKit Go.Sort

/-- The example's port. -/
noncomputable def exP : Array Value := putL (putL z48 29 [.bool true]) 44 [.int .i64 1]
def exD : Pd := ⟨0, 0, 1, 0, 0, 0, 0, 0, 0, 0, 0⟩
theorem exP_typed : Typed exP := kput (bX_typed z48_typed 29 true rfl) 44 _ _ rfl ⟨_, rfl⟩
theorem exP_in : exD.In exP := ⟨exP_typed.1, by kernel_rfl, by kernel_rfl, by kernel_rfl, by kernel_rfl, by kernel_rfl, by kernel_rfl, by kernel_rfl, by kernel_rfl, by kernel_rfl, by kernel_rfl, by kernel_rfl, by decide, by decide, by decide, by decide, by decide, by decide⟩
/-- The example's bridge. -/
def exB : Bd := ⟨4, 0, 0, 0, 0, 0, false, 0, 0, 0, 0, 0, 0, 0, 0, 0, 0⟩
theorem built48 : Try.prog.built 50 [(29, .bool true), (44, .int .i64 1)] = some exP := by kernel_rfl
theorem built34 (b : Nat) : Try.prog.built 34 [(0, .int .u64 4), (8, .slice (some ⟨b, 0, none⟩) 1 1)] = some (exB.cells (.slice (some ⟨b, 0, none⟩) 1 1)) := by kernel_rfl
theorem fill48 : Instr.fill (fun i => some (i * 90, 90)) ((Array.range (1 * 90)).map (z48[· % z48.size]!)) [(0, .agg exP)] = some exP := by kernel_rfl
theorem root_ex : rootI (fun _ => exD) 4 1 = -1 := by decide +kernel
theorem any_ex : anyR (fun _ => exP) 1 = true := by kernel_rfl
theorem new_ex : (selP exB (fun _ => exD) 1 (fun _ => exP) 0)[47]? = some (.int .i64 2) ∧ (selP exB (fun _ => exD) 1 (fun _ => exP) 0)[39]? = some (.bool true) := by
  have ht : Typed (bX 29 false exP) := bX_typed exP_typed 29 false rfl
  have hs : (desA exB.own exD.id (bX 29 false exP) 0).size = 90 := by rw [desA_size]; exact ht.1
  unfold selP
  rw [show exB.id = 4 from rfl, root_ex, show rootB exB (fun _ => exD) (-1) = exB.own from if_pos rfl]
  simp only [show (((0 : Nat) : Int) == -1) = false from by decide]
  unfold newP rolA
  rw [if_neg (by decide), if_pos (by decide)]
  unfold bX at hs ⊢
  simp only [putL_at, putL_size, hs]
  simp
set_option maxRecDepth 20000 in
set_option maxHeartbeats 1000000 in
theorem lives_any (w : World) : Calls Try.prog 5 #[] w fun e w' => e = .returned (.bool true) ∧ Below w.heap.size w w' := by
  obtain ⟨ia, HI⟩ : ∃ i, Hid (Try.prog.info? 50 = some i ∧ i.zero = some (.agg z48) ∧ i.size = 90 ∧ i.bytes = 464) := (info_parts info48').imp fun _ h => Lib.hid h
  go_enter Try.func5, Try.ntmps5
  go_wp2_with (with_reducible refine stopG 50 _ rfl ?_)
  refine Lib.hid ?_
  refine wpList_buildE rfl 50 _ rfl exP (by simp only [List.map_toArray, List.map_cons, List.map_nil]; exact built48) ?_
  refine wpList_buildSlice rfl 32 50 1 _ rfl exP ia (.agg z48) und32 HI.out.1 HI.out.2.1 (by rw [HI.out.2.2.1]; omega) (by rw [HI.out.2.2.1]; omega) (by rw [HI.out.2.2.1]; simp only [List.map_toArray, List.map_cons, List.map_nil]; exact fill48) ?_
  simp only [Act.put, List.setIfInBounds_toArray, List.set_cons_zero, List.set_cons_succ]
  refine wpList_buildE rfl 34 _ rfl (exB.cells (.slice (some ⟨w.heap.size, 0, none⟩) 1 1)) (by simp only [List.map_toArray, List.map_cons, List.map_nil]; exact built34 _) ?_
  simp only [Act.put, List.setIfInBounds_toArray, List.set_cons_zero, List.set_cons_succ]
  have hvb : VarAt ((w.alloc (.cells exP 50)).alloc (.cells (exB.cells (.slice (some ⟨w.heap.size, 0, none⟩) 1 1)) 34)) (w.heap.size + 1) (exB.cells (.slice (some ⟨w.heap.size, 0, none⟩) 1 1)) 34 := by
    have := var_new (w.alloc (.cells exP 50)) (exB.cells (.slice (some ⟨w.heap.size, 0, none⟩) 1 1)) 34
    rwa [alloc_size] at this
  have hvp := (var_new w exP 50).alloc (.cells (exB.cells (.slice (some ⟨w.heap.size, 0, none⟩) 1 1)) 34)
  have hB := Lib.hid (((Below.refl w.heap.size w).alloc (Nat.le_refl _) (.cells exP 50)).alloc (by simp) (.cells (exB.cells (.slice (some ⟨w.heap.size, 0, none⟩) 1 1)) 34))
  have hBr : Br ((w.alloc (.cells exP 50)).alloc (.cells (exB.cells (.slice (some ⟨w.heap.size, 0, none⟩) 1 1)) 34)) exB (w.heap.size + 1) w.heap.size 1 1 (fun _ => exP) :=
    ⟨hvb, exP, hvp, by rw [exP_typed.1]; omega, fun i hi => (show i = 0 by omega) ▸ fun k _ => by rw [Nat.zero_mul, Nat.zero_add]⟩
  have kS := Lib.hid (step_yes exB (w.heap.size + 1) w.heap.size 1 1 w.heap.size (fun _ => exP) (fun _ => exD) _ hBr (fun _ _ => ⟨exP_in, exP_typed⟩) (by omega) (by decide) (by omega) (Nat.le_refl _) any_ex)
  have kN := Lib.hid (fun w' h => step_no (selB exB (fun _ => exD) 1) (w.heap.size + 1) w.heap.size 1 1 (selP exB (fun _ => exD) 1 (fun _ => exP)) w' h (fun _ _ => selP_typed exP_typed) (by omega) (anyR_none fun _ _ => selP_off exP_typed))
  have NX := Lib.hid new_ex
  clear hvb hvp hBr
  generalize selP exB (fun _ => exD) 1 (fun _ => exP) = SP at *
  generalize selB exB (fun _ => exD) 1 = SB at *
  generalize exP = EP at *
  go_wp2_with fail
  refine kS.out.mono ?_
  rintro e w1 ⟨rfl, hbr, hb⟩
  have kN1 := Lib.hid (kN.out w1 hbr)
  have HB := Lib.hid (hB.out.trans hb)
  have HR := Lib.hid hbr
  clear hbr hb kN kS hB HI
  go_wp2_with fail
  refine kN1.out.mono ?_
  rintro e w2 ⟨rfl, hb⟩
  have hbr := HR.out.below hb
  have HB2 := Lib.hid (HB.out.trans (hb.mono HB.out.size))
  have e17 : w2.cell? ⟨w.heap.size + 1, 17, none⟩ = some (.slice (some ⟨w.heap.size, 0, none⟩) 1 1) := hbr.hb.cell 17
  obtain ⟨A, hA, -, hAs⟩ := hbr.ex
  have h0 := hAs 0 (by omega)
  have e47 : w2.cell? ⟨w.heap.size, 47, none⟩ = some (.int .i64 2) := by
    rw [hA.cell]; have := h0 47 (by omega); rw [Nat.zero_mul, Nat.zero_add] at this; rw [this]; exact NX.out.1
  have e39 : w2.cell? ⟨w.heap.size, 39, none⟩ = some (.bool true) := by
    rw [hA.cell]; have := h0 39 (by omega); rw [Nat.zero_mul, Nat.zero_add] at this; rw [this]; exact NX.out.2
  clear hbr hb kN1 HR hA hAs h0 HB NX
  go_wp2_with fail
  go_ret
  exact ⟨rfl, HB2.out⟩
end Go.Proofs.Ytidgdanhnpfpmaa
