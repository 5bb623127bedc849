/- The chapter's example. -/
import Derived.Test.YtjfdochceejegaaDoorIl
import Derived.Test.YtjfdochceejegaaDoorSb
namespace Go.Proofs.YtjfdochceejegaaDoor
open Go.RowKit Go.Sort

/-- The example's port, and what becomes of it. -/
noncomputable def exP : Array Value := upd z48 [(2, .bool true)]
theorem exP_typed : Typed exP := upd_typed _ z48_typed (by
  simp only [List.mem_cons, List.not_mem_nil, or_false]
  rintro p rfl
  exact isB rfl _)
/-- The example's bridge. -/
def exB : Bd := ⟨0, 0, 0, 0, 0, 0, false, 0, 0, 0, 0, 0, 0, 0, 0, 0, 0⟩
theorem built48 : Tryd.prog.built 39 [(2, .bool true)] = some exP := by kernel_rfl
theorem built34 (b : Nat) : Tryd.prog.built 47 [(8, .slice (some ⟨b, 0, none⟩) 1 1)] = some (exB.cells (.slice (some ⟨b, 0, none⟩) 1 1)) := by kernel_rfl
theorem fill48 : Instr.fill (fun i => some (i * 90, 90)) ((Array.range (1 * 90)).map (z48[· % z48.size]!)) [(0, .agg exP)] = some exP := by kernel_rfl
theorem ex_facts : (stepX false exP).1 = true ∧ (stepX false (stepX false exP).2).1 = false ∧ numI (stepX false (stepX false exP).2).2 44 = 1 ∧ boolI (stepX false (stepX false exP).2).2 29 = true := by
  refine ⟨by kernel_rfl, by kernel_rfl, by kernel_rfl, by kernel_rfl⟩
theorem exP_rg : Rg exP := ⟨⟨0, by kernel_rfl, by omega⟩, ⟨0, by kernel_rfl, by omega⟩, ⟨0, by kernel_rfl, by omega⟩, ⟨0, by kernel_rfl, by omega⟩, ⟨0, by kernel_rfl, by omega⟩, ⟨0, by kernel_rfl, by omega⟩, ⟨0, by kernel_rfl, by omega⟩, ⟨0, by kernel_rfl, by omega⟩, ⟨0, by kernel_rfl, by omega⟩⟩
theorem exP1_rg : Rg (stepX false exP).2 := ⟨⟨0, by kernel_rfl, by omega⟩, ⟨0, by kernel_rfl, by omega⟩, ⟨0, by kernel_rfl, by omega⟩, ⟨0, by kernel_rfl, by omega⟩, ⟨0, by kernel_rfl, by omega⟩, ⟨0, by kernel_rfl, by omega⟩, ⟨0, by kernel_rfl, by omega⟩, ⟨0, by kernel_rfl, by omega⟩, ⟨0, by kernel_rfl, by omega⟩⟩
set_option maxRecDepth 20000 in
set_option maxHeartbeats 1000000 in
theorem livesL_any (w : World) (henv : Env w) : Calls Tryd.prog 7 #[] w fun e w' => e = .returned (.bool true) ∧ Below w.heap.size w w' := by
  obtain ⟨ia, hi, hz, hs⟩ : ∃ i, Tryd.prog.info? 39 = some i ∧ i.zero = some (.agg z48) ∧ i.size = 90 := by
    have := info48
    cases h : Tryd.prog.info? 39 with
    | none => rw [h] at this; simp at this
    | some i => rw [h] at this; simp at this; exact ⟨i, rfl, this.1, this.2⟩
  have HI := Lib.hid (And.intro hi (And.intro hz hs))
  have HB48 := Lib.hid built48
  have HF48 := Lib.hid fill48
  have HT := Lib.hid exP_typed
  have HT1 := Lib.hid (stepX_typed false exP_typed)
  have HT2 := Lib.hid (stepX_typed false (stepX_typed false exP_typed))
  have kR1 := Lib.hid (fun bb pb cap w hB hE => step_some exB bb pb 1 cap 0 (fun _ => exP) w hB (by omega) exP_typed exP_rg hE)
  have kR2 := Lib.hid (fun bb pb cap w hB hE => step_some exB bb pb 1 cap 0 (at1 (fun _ => exP) 0 (stepX false exP).2) w hB (by omega) (stepX_typed false exP_typed) (by rw [at1_at]; exact exP1_rg) hE)
  simp only [at1_at, Int.cast_ofNat_Int, show exB.rs = false from rfl] at kR1 kR2
  obtain ⟨hf1, hf2, hf3, hf4⟩ := ex_facts
  rw [hf1] at kR1
  rw [hf2] at kR2
  have HF3 := Lib.hid hf3
  have HF4 := Lib.hid hf4
  have HENV := Lib.hid henv
  have zp := zero48
  have zps := Lib.hid z48_size
  clear hi hz hs hf1 hf2 hf3 hf4 henv
  generalize (stepX false (stepX false exP).2).2 = P2 at *
  generalize (stepX false exP).2 = P1 at *
  generalize exP = EP at *
  generalize z48 = ZP at *
  go_enter Tryd.func7, Tryd.ntmps7
  go_wp2_with (with_reducible refine stopG 39 _ rfl ?_)
  refine Lib.hid ?_
  refine wpList_buildE rfl 39 _ rfl EP (by simp only [List.map_toArray, List.map_cons, List.map_nil]; exact HB48.out) ?_
  simp only [Act.put, List.setIfInBounds_toArray, List.set_cons_zero, List.set_cons_succ]
  refine wpList_buildSlice rfl 45 39 1 _ rfl EP ia (.agg ZP) und32 HI.out.1 HI.out.2.1 (by rw [HI.out.2.2]; omega) (by rw [HI.out.2.2]; omega) (by rw [HI.out.2.2]; simp only [List.map_toArray, List.map_cons, List.map_nil]; exact HF48.out) ?_
  simp only [Act.put, List.setIfInBounds_toArray, List.set_cons_zero, List.set_cons_succ]
  refine wpList_buildE rfl 47 _ rfl (exB.cells (.slice (some ⟨w.heap.size, 0, none⟩) 1 1)) (by simp only [List.map_toArray, List.map_cons, List.map_nil]; exact built34 _) ?_
  simp only [Act.put, List.setIfInBounds_toArray, List.set_cons_zero, List.set_cons_succ]
  have PP := Lib.hid (var_new w EP 39)
  have B2 := Lib.hid (box_below w (.cells EP 39))
  have S2 := alloc_size w (.cells EP 39)
  clear zp
  generalize w.alloc (.cells EP 39) = w2 at *
  have zz := zero34
  have zzs := Lib.hid z34_size
  generalize z34 = ZB at *
  go_wp2_with (with_reducible refine stopS 47 _ _ rfl ?_)
  refine Lib.hid ?_
  clear zz
  refine wpList_store_only sB rfl _ _ rfl rfl rfl (show VarAt (w2.alloc (.cells ZB 47)) (w.heap.size + 1) ZB 47 by rw [← S2]; exact var_new w2 ZB 47) (Bd.one _ rfl) (by simp) (by rw [zzs.out]; omega) ?_
  intro w3 hv3 ho3
  simp only [Act.put]
  rw [putL_all _ _ (by rw [zzs.out]; simp)] at hv3
  have hb3 : Below w2.heap.size w2 w3 := (box_below w2 _).trans (ho3.below (by omega) (by rw [alloc_size]; omega))
  have HBr := Lib.hid (show Br w3 exB (w.heap.size + 1) w.heap.size 1 1 (fun _ => EP) from ⟨hv3, EP, PP.out.below hb3 PP.out.lt, by rw [HT.out.1]; omega, fun i hi j hj => by obtain rfl : i = 0 := (by omega); simp⟩)
  have B3 := Lib.hid (B2.out.trans (hb3.mono B2.out.size))
  clear hv3 ho3 hb3 PP B2 S2
  go_wp2_with fail
  refine (kR1.out _ _ _ _ HBr.out (HENV.out.below B3.out)).mono ?_
  rintro e w4 ⟨rfl, hm⟩
  have HB4 := Lib.hid (HBr.out.mv (by omega) hm)
  have B4 := Lib.hid (B3.out.trans (hm.only.below (Nat.le_refl _) B3.out.size))
  clear hm HBr B3
  go_wp2_with fail
  refine (kR2.out _ _ _ _ HB4.out (HENV.out.below B4.out)).mono ?_
  rintro e w5 ⟨rfl, hm⟩
  have HB5 := Lib.hid (HB4.out.mv (by omega) hm)
  have B5 := Lib.hid (B4.out.trans (hm.only.below (Nat.le_refl _) B4.out.size))
  have c17 : w5.cell? ⟨w.heap.size + 1, 17, none⟩ = some (.slice (some ⟨w.heap.size, 0, none⟩) 1 1) := HB5.out.hb.cell 17
  have i0 : ∀ w9, (Instr.indexAt 45 (.slice (some ⟨w.heap.size, 0, none⟩) 1 1) (.int .i64 0)).run Tryd.prog w9 = .ok (.pointer (some ⟨w.heap.size, 0, none⟩)) w9 := idx32b w.heap.size 1 1 0 (by omega)
  have c44 : w5.cell? ⟨w.heap.size, 44, none⟩ = some (.int .i64 1) := by
    have h := (HB5.out.pt (k := 0) (by omega)).numk (by rw [at1_at]; exact HT2.out) 44 .i64 rfl
    rw [at1_at, HF3.out] at h
    rw [← h]
  have c29 : w5.cell? ⟨w.heap.size, 29, none⟩ = some (.bool true) := by
    have h := (HB5.out.pt (k := 0) (by omega)).bool (by rw [at1_at]; exact HT2.out) 29 rfl
    rw [at1_at, HF4.out] at h
    rw [← h]
  clear hm HB4 B4 HB5
  go_wp2_with fail
  go_ret
  exact ⟨rfl, B5.out⟩
end Go.Proofs.YtjfdochceejegaaDoor
