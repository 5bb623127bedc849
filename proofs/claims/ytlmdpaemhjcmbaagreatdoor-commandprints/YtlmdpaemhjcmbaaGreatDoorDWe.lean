/- Contract of Parse: the command of a text. -/
import Derived.Test.YtlmdpaemhjcmbaaGreatDoorDWd
namespace Go.Proofs.YtlmdpaemhjcmbaaGreatDoor.Cd
open Go.RowKit Go.Sort Go.Lib

/-- What Parse answers. -/
def PEnd (s : List UInt8) (e : Ending) : Prop :=
  match PS s with
  | some c => e = .returned (.tuple #[.agg c.cells, .int .i64 0])
  | none => e = .returned (.tuple #[.agg (zc 0).cells, .int .i64 3])
theorem pEnd_some {s : List UInt8} {c : Cm} (h : PS s = some c) : PEnd s (.returned (.tuple #[.agg c.cells, .int .i64 0])) := by unfold PEnd; rw [h]
theorem pEnd_none {s : List UInt8} (h : PS s = none) : PEnd s (.returned (.tuple #[.agg (zc 0).cells, .int .i64 3])) := by unfold PEnd; rw [h]
theorem sp_len (s : List UInt8) : (sp s).length ≤ s.length + 1 ∧ ∀ x ∈ sp s, x.length ≤ s.length := by
  induction s with
  | nil => simp [sp]
  | cons b l ih =>
    unfold sp
    split
    · refine ⟨by simp only [List.length_cons]; omega, fun x hx => ?_⟩
      rcases List.mem_cons.1 hx with rfl | hx
      · simp
      · have := ih.2 x hx; simp only [List.length_cons]; omega
    · cases hs : sp l with
      | nil => exact absurd hs (sp_ne l)
      | cons y r =>
        rw [hs] at ih
        refine ⟨by simp only [List.length_cons] at ih ⊢; omega, fun x hx => ?_⟩
        rcases List.mem_cons.1 hx with rfl | hx
        · have := ih.2 y (by simp); simp only [List.length_cons]; omega
        · have := ih.2 x (by simp [hx]); simp only [List.length_cons]; omega
set_option maxHeartbeats 1000000 in
theorem parse_any (s : List UInt8) (w : World) (he : Env w) :
    Calls Tryz.prog 15 #[strV s] w fun e w' => PEnd s e ∧ Below w.heap.size w w' := by
  have v := Lib.hid (var_new w (zc 0).cells 33)
  have b0 := Lib.hid (box_below w (.cells (zc 0).cells 33))
  by_cases hs : 80 < s.length
  · have HN := Lib.hid (pEnd_none (s := s) (by unfold PS; rw [if_pos hs]))
    have V5 := v
    have HB5 := b0
    go_enter Tryz.func15, Tryz.ntmps15
    go_wp2_with (with_reducible refine stopS 33 (.tmp 2) (.tmp 11) rfl ?_)
    refine Lib.hid ?_
    refine wp_store26 rfl _ _ rfl (zc 0) rfl rfl V5.out ?_
    intro w5 hv5 hb5 _ _
    have HB6 := Lib.hid (hb5 w.heap.size w (Nat.le_refl _) HB5.out)
    have r0 : w5.cell? ⟨w.heap.size, 0, none⟩ = some (.int .i64 0) := hv5.cell 0
    have r1 : w5.cell? ⟨w.heap.size, 1, none⟩ = some (.int .i64 0) := hv5.cell 1
    have r2 : w5.cell? ⟨w.heap.size, 2, none⟩ = some (.int .i64 0) := hv5.cell 2
    have r3 : w5.cell? ⟨w.heap.size, 3, none⟩ = some (.bool false) := hv5.cell 3
    have r4 : w5.cell? ⟨w.heap.size, 4, none⟩ = some (.int .u8 0) := hv5.cell 4
    have r5 : w5.cell? ⟨w.heap.size, 5, none⟩ = some (.int .u8 0) := hv5.cell 5
    have r6 : w5.cell? ⟨w.heap.size, 6, none⟩ = some (.int .u8 0) := hv5.cell 6
    have r7 : w5.cell? ⟨w.heap.size, 7, none⟩ = some (.int .u8 0) := hv5.cell 7
    have r8 : w5.cell? ⟨w.heap.size, 8, none⟩ = some (.int .u8 0) := hv5.cell 8
    have r9 : w5.cell? ⟨w.heap.size, 9, none⟩ = some (.int .u8 0) := hv5.cell 9
    clear hv5 hb5
    go_wp2_with fail
    exact bodyPost_ret (v := .tuple #[.agg (zc 0).cells, .int .i64 3]) (by simp [results, Tryz.results15, go_sem, r0, r1, r2, r3, r4, r5, r6, r7, r8, r9, zc, Cm.cells]) rfl ⟨HN.out, HB6.out⟩
  · have HP : Hid (PS s = PSw (sp s)) := Lib.hid (by unfold PS; rw [if_neg hs])
    have c0 := Lib.hid (split_any s (by omega) _ (he.below b0.out))
    have E := Lib.hid he
    have L1 := Lib.hid (sp_len s)
    have HSL : Hid (s.length ≤ 80) := Lib.hid (by omega)
    have HS := Lib.hid (fun (c : Cm) (h : PSw (sp s) = some c) => pEnd_some (HP.out.trans h))
    have HN := Lib.hid (fun (h : PSw (sp s) = none) => pEnd_none (HP.out.trans h))
    generalize PEnd s = PE at *
    clear he HP
    go_enter Tryz.func15, Tryz.ntmps15
    go_wp2_with fail
    refine c0.out.mono ?_
    rintro e w1 ⟨rfl, hw1, _, hb⟩
    have HWL := Lib.hid (fun x (hx : x ∈ sp s) => (show x.length ≤ 1000 from Nat.le_trans (L1.out.2 x hx) (by have := HSL.out; omega)))
    have HNL := Lib.hid (show (sp s).length ≤ 1000 from Nat.le_trans L1.out.1 (by have := HSL.out; omega))
    have V1 := Lib.hid (v.out.below hb v.out.lt)
    have HB1 := Lib.hid (below_next b0.out hb)
    rw [alloc_size] at hw1
    have HW1 := Lib.hid hw1
    have E1 := Lib.hid (E.out.below HB1.out)
    clear hb c0 hw1 L1 HSL hs v b0 E
    generalize sp s = ws at *
    go_wp2_with fail
    go_loopw [14] (fun i wr => ∃ k : Nat, k ≤ 15 ∧ i = .int .i64 k ∧ (∀ j, j < k → pAs j ws = none) ∧ Below w1.heap.size w1 wr) (fun i _ => 15 - (RowKit.intOf i).toNat)
    case atStart => exact ⟨0, Nat.zero_le _, rfl, fun j hj => absurd hj (by omega), Below.refl _ _⟩
    case round =>
      obtain ⟨k, hk, rfl, hpre, hbr⟩ := hrel
      have HPre := Lib.hid hpre
      have HBr := Lib.hid hbr
      clear hpre hbr
      by_cases hlt : k < 15
      · have c1 := Lib.hid (fun cap => parseAs_any k hlt ws HWL.out HNL.out (w.heap.size + 1) cap wr (E1.out.below HBr.out) (HW1.out.below HBr.out HW1.out.1))
        cases hp : pAs k ws with
        | none =>
          have HPN := Lib.hid hp
          clear hp
          go_wp2_with fail
          refine (c1.out _).mono ?_
          rintro e w3 ⟨he3, hb3⟩
          unfold AsEnd at he3
          rw [HPN.out] at he3
          simp only at he3
          subst he3
          have HB3 := Lib.hid (HBr.out.trans (hb3.mono HBr.out.size))
          clear hb3 c1
          go_wp2_with (with_reducible refine stopS 33 (.tmp 6) (.tmp 21) rfl ?_)
          refine Lib.hid ?_
          refine wp_store26 rfl _ _ rfl (zc 0) rfl rfl (var_new w3 (zc 0).cells 33) ?_
          intro w4 hv4 hb4 _ _
          have HB4 := Lib.hid (hb4 w1.heap.size w1 HB3.out.size (HB3.out.trans ((box_below w3 _).mono HB3.out.size)))
          clear hv4 hb4
          go_wp2_with fail
          refine ⟨⟨k + 1, by omega, by go_num, fun j hj => ?_, HB4.out⟩, meas_next hlt⟩
          by_cases e : j = k
          · subst e; exact HPN.out
          · exact HPre.out j (by omega)
        | some c =>
          have HPN := Lib.hid hp
          clear hp
          go_wp2_with fail
          refine (c1.out _).mono ?_
          rintro e w3 ⟨he3, hb3⟩
          unfold AsEnd at he3
          rw [HPN.out] at he3
          simp only at he3
          subst he3
          have HB3 := Lib.hid (HBr.out.trans (hb3.mono HBr.out.size))
          clear hb3 c1
          go_wp2_with (with_reducible refine stopS 33 (.tmp 6) (.tmp 21) rfl ?_)
          refine Lib.hid ?_
          refine wp_store26 rfl _ _ rfl c rfl rfl (var_new w3 (zc 0).cells 33) ?_
          intro w4 hv4 hb4 _ _
          have HB4 := Lib.hid (hb4 w1.heap.size w1 HB3.out.size (HB3.out.trans ((box_below w3 _).mono HB3.out.size)))
          have HC := Lib.hid hv4
          have V5 := Lib.hid (V1.out.below HB4.out V1.out.lt)
          have HB5 := Lib.hid (below_next HB1.out HB4.out)
          have HRN := Lib.hid (PSw_hit hlt HPN.out)
          clear hv4 hb4
          go_wp2_with (with_reducible refine stopL 33 (.tmp 6) rfl ?_)
          refine Lib.hid ?_
          refine wp_load26 rfl _ rfl rfl HC.out ?_
          go_wp2_with (with_reducible refine stopS 33 (.tmp 2) (.tmp 24) rfl ?_)
          refine Lib.hid ?_
          refine wp_store26 rfl _ _ rfl (c) rfl rfl V5.out ?_
          intro w5 hv5 hb5 _ _
          have HB6 := Lib.hid (hb5 w.heap.size w (Nat.le_refl _) HB5.out)
          have r0 : w5.cell? ⟨w.heap.size, 0, none⟩ = some (.int .i64 c.wh) := hv5.cell 0
          have r1 : w5.cell? ⟨w.heap.size, 1, none⟩ = some (.int .i64 c.po) := hv5.cell 1
          have r2 : w5.cell? ⟨w.heap.size, 2, none⟩ = some (.int .i64 c.nn) := hv5.cell 2
          have r3 : w5.cell? ⟨w.heap.size, 3, none⟩ = some (.bool c.on) := hv5.cell 3
          have r4 : w5.cell? ⟨w.heap.size, 4, none⟩ = some (.int .u8 (c.x 0)) := hv5.cell 4
          have r5 : w5.cell? ⟨w.heap.size, 5, none⟩ = some (.int .u8 (c.x 1)) := hv5.cell 5
          have r6 : w5.cell? ⟨w.heap.size, 6, none⟩ = some (.int .u8 (c.x 2)) := hv5.cell 6
          have r7 : w5.cell? ⟨w.heap.size, 7, none⟩ = some (.int .u8 (c.x 3)) := hv5.cell 7
          have r8 : w5.cell? ⟨w.heap.size, 8, none⟩ = some (.int .u8 (c.x 4)) := hv5.cell 8
          have r9 : w5.cell? ⟨w.heap.size, 9, none⟩ = some (.int .u8 (c.x 5)) := hv5.cell 9
          clear hv5 hb5
          go_wp2_with fail
          exact bodyPost_ret (v := .tuple #[.agg (c).cells, .int .i64 0]) (by simp [results, Tryz.results15, go_sem, r0, r1, r2, r3, r4, r5, r6, r7, r8, r9, Cm.cells]) rfl ⟨HS.out c HRN.out, HB6.out⟩
      · have HRN := Lib.hid (PSw_none (ws := ws) fun j hj => HPre.out j (by omega))
        have V5 := Lib.hid (V1.out.below HBr.out V1.out.lt)
        have HB5 := Lib.hid (below_next HB1.out HBr.out)
        go_wp2_with (with_reducible refine stopS 33 (.tmp 2) (.tmp 26) rfl ?_)
        refine Lib.hid ?_
        refine wp_store26 rfl _ _ rfl (zc 0) rfl rfl V5.out ?_
        intro w5 hv5 hb5 _ _
        have HB6 := Lib.hid (hb5 w.heap.size w (Nat.le_refl _) HB5.out)
        have r0 : w5.cell? ⟨w.heap.size, 0, none⟩ = some (.int .i64 0) := hv5.cell 0
        have r1 : w5.cell? ⟨w.heap.size, 1, none⟩ = some (.int .i64 0) := hv5.cell 1
        have r2 : w5.cell? ⟨w.heap.size, 2, none⟩ = some (.int .i64 0) := hv5.cell 2
        have r3 : w5.cell? ⟨w.heap.size, 3, none⟩ = some (.bool false) := hv5.cell 3
        have r4 : w5.cell? ⟨w.heap.size, 4, none⟩ = some (.int .u8 0) := hv5.cell 4
        have r5 : w5.cell? ⟨w.heap.size, 5, none⟩ = some (.int .u8 0) := hv5.cell 5
        have r6 : w5.cell? ⟨w.heap.size, 6, none⟩ = some (.int .u8 0) := hv5.cell 6
        have r7 : w5.cell? ⟨w.heap.size, 7, none⟩ = some (.int .u8 0) := hv5.cell 7
        have r8 : w5.cell? ⟨w.heap.size, 8, none⟩ = some (.int .u8 0) := hv5.cell 8
        have r9 : w5.cell? ⟨w.heap.size, 9, none⟩ = some (.int .u8 0) := hv5.cell 9
        clear hv5 hb5
        go_wp2_with fail
        exact bodyPost_ret (v := .tuple #[.agg (zc 0).cells, .int .i64 3]) (by simp [results, Tryz.results15, go_sem, r0, r1, r2, r3, r4, r5, r6, r7, r8, r9, zc, Cm.cells]) rfl ⟨HN.out HRN.out, HB6.out⟩
end Go.Proofs.YtlmdpaemhjcmbaaGreatDoor.Cd
