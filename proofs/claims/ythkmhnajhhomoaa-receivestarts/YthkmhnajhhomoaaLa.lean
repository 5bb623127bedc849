/- The chapter's example. -/
import Derived.Test.YthkmhnajhhomoaaQ
import Derived.Test.YthkmhnajhhomoaaSb
namespace Go.Proofs.Ythkmhnajhhomoaa
open Go.RowKit Go.Sort

/-- The example's port, and what becomes of it. -/
noncomputable def exP : Array Value := upd z48 [(2, .bool true), (30, .bool true)]
theorem exP_typed : Typed exP := upd_typed _ z48_typed (by
  simp only [List.mem_cons, List.not_mem_nil, or_false]
  rintro p (rfl | rfl)
  · exact isB rfl _
  · exact isB rfl _)
/-- The example's bridge. -/
def exB : Bd := ⟨0, 0, 0, 0, 0, 0, false, 0, 0, 0, 0, 0, 0, 0, 0, 0, 0⟩
theorem built48 : Try.prog.built 53 [(2, .bool true), (30, .bool true)] = some exP := by kernel_rfl
theorem built34 (b : Nat) : Try.prog.built 34 [(8, .slice (some ⟨b, 0, none⟩) 1 1)] = some (exB.cells (.slice (some ⟨b, 0, none⟩) 1 1)) := by kernel_rfl
theorem fill48 : Instr.fill (fun i => some (i * 90, 90)) ((Array.range (1 * 90)).map (z48[· % z48.size]!)) [(0, .agg exP)] = some exP := by kernel_rfl
theorem ex_facts : (recvX exP).1 = true ∧ (recvX (recvX exP).2).1 = false ∧ boolI (recvX (recvX exP).2).2 31 = true := by
  refine ⟨by kernel_rfl, by kernel_rfl, by kernel_rfl⟩
set_option maxRecDepth 20000 in
set_option maxHeartbeats 1000000 in
theorem lives_any (w : World) : Calls Try.prog 6 #[] w fun e w' => e = .returned (.bool true) ∧ Below w.heap.size w w' := by
  obtain ⟨ia, hi, hz, hs⟩ : ∃ i, Try.prog.info? 53 = some i ∧ i.zero = some (.agg z48) ∧ i.size = 90 := by
    have := info48
    cases h : Try.prog.info? 53 with
    | none => rw [h] at this; simp at this
    | some i => rw [h] at this; simp at this; exact ⟨i, rfl, this.1, this.2⟩
  have HI := Lib.hid (And.intro hi (And.intro hz hs))
  have HB48 := Lib.hid built48
  have HF48 := Lib.hid fill48
  have HT := Lib.hid exP_typed
  have HT1 := Lib.hid (recvX_typed exP_typed)
  have HT2 := Lib.hid (recvX_typed (recvX_typed exP_typed))
  have kR1 := Lib.hid (fun bb pb cap w hB => receive_some exB bb pb 1 cap 0 (fun _ => exP) w hB (by omega) exP_typed)
  have kR2 := Lib.hid (fun bb pb cap w hB => receive_some exB bb pb 1 cap 0 (at1 (fun _ => exP) 0 (recvX exP).2) w hB (by omega) (recvX_typed exP_typed))
  simp only [at1_at, Int.cast_ofNat_Int] at kR1 kR2
  obtain ⟨hf1, hf2, hf3⟩ := ex_facts
  rw [hf1] at kR1
  rw [hf2] at kR2
  have HF3 := Lib.hid hf3
  have zp := zero48
  have zps := Lib.hid z48_size
  clear hi hz hs hf1 hf2 hf3
  generalize (recvX (recvX exP).2).2 = P2 at *
  generalize (recvX exP).2 = P1 at *
  generalize exP = EP at *
  generalize z48 = ZP at *
  go_enter Try.func6, Try.ntmps6
  go_wp2_with (with_reducible refine stopG 53 _ rfl ?_)
  refine Lib.hid ?_
  refine wpList_buildE rfl 53 _ rfl EP (by simp only [List.map_toArray, List.map_cons, List.map_nil]; exact HB48.out) ?_
  simp only [Act.put, List.setIfInBounds_toArray, List.set_cons_zero, List.set_cons_succ]
  refine wpList_buildSlice rfl 32 53 1 _ rfl EP ia (.agg ZP) und32 HI.out.1 HI.out.2.1 (by rw [HI.out.2.2]; omega) (by rw [HI.out.2.2]; omega) (by rw [HI.out.2.2]; simp only [List.map_toArray, List.map_cons, List.map_nil]; exact HF48.out) ?_
  simp only [Act.put, List.setIfInBounds_toArray, List.set_cons_zero, List.set_cons_succ]
  refine wpList_buildE rfl 34 _ rfl (exB.cells (.slice (some ⟨w.heap.size, 0, none⟩) 1 1)) (by simp only [List.map_toArray, List.map_cons, List.map_nil]; exact built34 _) ?_
  simp only [Act.put, List.setIfInBounds_toArray, List.set_cons_zero, List.set_cons_succ]
  have PP := Lib.hid (var_new w EP 53)
  have B2 := Lib.hid (box_below w (.cells EP 53))
  have S2 := alloc_size w (.cells EP 53)
  clear zp
  generalize w.alloc (.cells EP 53) = w2 at *
  have zz := zero34
  have zzs := Lib.hid z34_size
  generalize z34 = ZB at *
  go_wp2_with (with_reducible refine stopS 34 _ _ rfl ?_)
  refine Lib.hid ?_
  clear zz
  refine wpList_store_only sB rfl _ _ rfl rfl rfl (show VarAt (w2.alloc (.cells ZB 34)) (w.heap.size + 1) ZB 34 by rw [← S2]; exact var_new w2 ZB 34) (Bd.one _ rfl) (by simp) (by rw [zzs.out]; omega) ?_
  intro w3 hv3 ho3
  simp only [Act.put]
  rw [putL_all _ _ (by rw [zzs.out]; simp)] at hv3
  have hb3 : Below w2.heap.size w2 w3 := (box_below w2 _).trans (ho3.below (by omega) (by rw [alloc_size]; omega))
  have HBr := Lib.hid (show Br w3 exB (w.heap.size + 1) w.heap.size 1 1 (fun _ => EP) from ⟨hv3, EP, PP.out.below hb3 PP.out.lt, by rw [HT.out.1]; omega, fun i hi j hj => by obtain rfl : i = 0 := (by omega); simp⟩)
  have B3 := Lib.hid (B2.out.trans (hb3.mono B2.out.size))
  clear hv3 ho3 hb3 PP B2 S2
  go_wp2_with fail
  refine (kR1.out _ _ _ _ HBr.out).mono ?_
  rintro e w4 ⟨rfl, hm⟩
  have HB4 := Lib.hid (HBr.out.mv (by omega) hm)
  have B4 := Lib.hid (B3.out.trans (hm.only.below (Nat.le_refl _) B3.out.size))
  clear hm HBr B3
  go_wp2_with fail
  refine (kR2.out _ _ _ _ HB4.out).mono ?_
  rintro e w5 ⟨rfl, hm⟩
  have HB5 := Lib.hid (HB4.out.mv (by omega) hm)
  have B5 := Lib.hid (B4.out.trans (hm.only.below (Nat.le_refl _) B4.out.size))
  have c17 : w5.cell? ⟨w.heap.size + 1, 17, none⟩ = some (.slice (some ⟨w.heap.size, 0, none⟩) 1 1) := HB5.out.hb.cell 17
  have i0 : ∀ w9, (Instr.indexAt 32 (.slice (some ⟨w.heap.size, 0, none⟩) 1 1) (.int .i64 0)).run Try.prog w9 = .ok (.pointer (some ⟨w.heap.size, 0, none⟩)) w9 := idx32b w.heap.size 1 1 0 (by omega)
  have c31 : w5.cell? ⟨w.heap.size, 31, none⟩ = some (.bool true) := by
    have h := (HB5.out.pt (k := 0) (by omega)).bool (by rw [at1_at]; exact HT2.out) 31 rfl
    rw [at1_at, HF3.out] at h
    rw [← h]
  clear hm HB4 B4 HB5
  go_wp2_with fail
  go_ret
  exact ⟨rfl, B5.out⟩
end Go.Proofs.Ythkmhnajhhomoaa
