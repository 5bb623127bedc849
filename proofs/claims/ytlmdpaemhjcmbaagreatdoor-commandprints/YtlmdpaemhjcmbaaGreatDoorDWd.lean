/- Contract of parseAs: words, as a kind's. -/
import Derived.Test.YtlmdpaemhjcmbaaGreatDoorDWc
namespace Go.Proofs.YtlmdpaemhjcmbaaGreatDoor.Cd
open Go.RowKit Go.Sort Go.Lib

theorem go_len : ∀ (ps ws : List (List UInt8)) (c c' : Cm), go c ps ws = some c' → ps.length = ws.length
  | [], [], _, _, _ => rfl
  | [], w :: ws, _, _, h => by simp [go] at h
  | p :: ps, [], _, _, h => by simp [go] at h
  | p :: ps, w :: ws, c, c', h => by
    unfold go at h
    split at h
    · rename_i f _
      have := go_len ps ws (f c) c' h
      simp only [List.length_cons]; omega
    · cases h
theorem pAs_len {k : Nat} {ws : List (List UInt8)} (h : (pz k).length ≠ ws.length) : pAs k ws = none := by
  cases hp : pAs k ws with
  | none => rfl
  | some c => exact absurd (go_len _ _ _ _ hp) h
theorem idx41 (pb n cap k : Nat) (h : k < n) (w : World) : (Instr.indexAt 69 (.slice (some ⟨pb, 0, none⟩) n cap) (.int .i64 k)).run Tryz.prog w = .ok (.pointer (some ⟨pb, k, none⟩)) w := by
  go_simp
theorem idx43 (k : Nat) (h : k < 15) (w : World) : (Instr.indexAt 71 (.pointer (some ⟨0, 0, none⟩)) (.int .i64 k)).run Tryz.prog w = .ok (.pointer (some ⟨0, k, none⟩)) w := by
  go_simp
  intro h'; omega
theorem form_len (k : Nat) (hk : k < 15) : (formT k).length < 100 := by
  have : ∀ k : Fin 15, (formT k.val).length < 100 := by decide +kernel
  exact this ⟨k, hk⟩
theorem putL_all (Z xs : Array Value) (h : Z.size = xs.size) : putL Z 0 xs.toList = xs := by
  apply Array.ext_getElem?
  intro i
  rw [putL_at]
  by_cases hi : i < xs.size
  · rw [if_pos ⟨Nat.zero_le _, by simpa using hi, by omega⟩]; simp
  · rw [if_neg (by omega), Array.getElem?_eq_none (by omega), Array.getElem?_eq_none (by omega)]
/-- A whole command is stored. -/
theorem wp_store26 {ops : Array Oper} {rest : List Oper} {op : Oper} {a : Act} {w : World} {Q : Exit → Act → World → Prop} (hgd : op.guard = none) (x y : Operand) (ho : op.op = .store 33 x y) {b : Nat} (c : Cm) (hx : a.eval x = .pointer (some ⟨b, 0, none⟩)) (hy : a.eval y = .agg c.cells)
    {d : Cm} (hv : CA w b d.cells 33)
    (h : ∀ w', CA w' b c.cells 33 → (∀ Bl w0, Bl ≤ b → Below Bl w0 w → Below Bl w0 w') → (∀ q ys u, q ≠ b → CA w q ys u → CA w' q ys u) → w.heap.size ≤ w'.heap.size → wpList Tryz.prog ops Q rest (a.put op.dst undef) w') : wpList Tryz.prog ops Q (op :: rest) a w :=
  wpList_store_whole s26 hgd x y ho hx hy hv (Cm.one c) rfl (show 0 + 10 ≤ d.cells.size from Nat.le_refl 10) fun w' h1 h2 h3 h4 => h w' (by rw [putL_all d.cells c.cells rfl] at h1; exact h1) h2 h3 h4
/-- A whole command is loaded. -/
theorem wp_load26 {ops : Array Oper} {rest : List Oper} {op : Oper} {a : Act} {w : World} {Q : Exit → Act → World → Prop} (hgd : op.guard = none) (x : Operand) (ho : op.op = .load 33 x) {b : Nat} {c : Cm} (hx : a.eval x = .pointer (some ⟨b, 0, none⟩)) (hv : CA w b c.cells 33)
    (h : wpList Tryz.prog ops Q rest (a.put op.dst (.agg c.cells)) w) : wpList Tryz.prog ops Q (op :: rest) a w :=
  wpList_load_whole u26 rfl s26 hgd x ho hx (range_whole hv) rfl h
/-- What parseAs answers. -/
def AsEnd (k : Nat) (ws : List (List UInt8)) (e : Ending) : Prop :=
  match pAs k ws with
  | some c => e = .returned (.tuple #[.agg c.cells, .bool true])
  | none => e = .returned (.tuple #[.agg (zc 0).cells, .bool false])
theorem go_step {c : Cm} {ps ws : List (List UInt8)} {j : Nat} {p x : List UInt8} (hp : ps[j]? = some p) (hx : ws[j]? = some x) : go c (ps.drop j) (ws.drop j) = match tk p x with | some f => go (f c) (ps.drop (j + 1)) (ws.drop (j + 1)) | none => none := by
  obtain ⟨h1, e1⟩ := List.getElem?_eq_some_iff.1 hp
  obtain ⟨h2, e2⟩ := List.getElem?_eq_some_iff.1 hx
  rw [List.drop_eq_getElem_cons h1, List.drop_eq_getElem_cons h2, e1, e2]
  rfl
theorem go_stop {c : Cm} {ps ws : List (List UInt8)} {j : Nat} (hp : ps.length ≤ j) (hx : ws.length ≤ j) : go c (ps.drop j) (ws.drop j) = some c := by
  rw [List.drop_eq_nil_of_le hp, List.drop_eq_nil_of_le hx]; rfl
theorem meas_next {n k : Nat} (h : k < n) : n - (RowKit.intOf (.int .i64 ((k : Int) + 1))).toNat < n - (RowKit.intOf (.int .i64 k)).toNat := by simp [RowKit.intOf]; omega
theorem asEnd_some {k : Nat} {ws : List (List UInt8)} {c : Cm} (h : pAs k ws = some c) : AsEnd k ws (.returned (.tuple #[.agg c.cells, .bool true])) := by unfold AsEnd; rw [h]
theorem asEnd_none {k : Nat} {ws : List (List UInt8)} (h : pAs k ws = none) : AsEnd k ws (.returned (.tuple #[.agg (zc 0).cells, .bool false])) := by unfold AsEnd; rw [h]
set_option maxHeartbeats 1000000 in
theorem parseAs_any (k : Nat) (hk : k < 15) (ws : List (List UInt8)) (hl : ∀ x ∈ ws, x.length ≤ 1000) (hn : ws.length ≤ 1000) (wb cap : Nat) (w : World) (he : Env w) (hw : WIn w wb ws) :
    Calls Tryz.prog 29 #[.int .i64 k, .slice (some ⟨wb, 0, none⟩) ws.length cap] w fun e w' => AsEnd k ws e ∧ Below w.heap.size w w' := by
  have c0 := Lib.hid fun w he => split_any (formT k) (by have := form_len k hk; omega) w he
  have hf := he.forms k hk
  have hps : sp (formT k) = pz k := form_parts ⟨k, hk⟩
  have v := Lib.hid (var_new w (zc 0).cells 33)
  have b0 := Lib.hid (box_below w (.cells (zc 0).cells 33))
  have hix := idx43 k hk
  have E := Lib.hid he
  have HW := Lib.hid hw
  have HL := Lib.hid hl
  have f1 : ∀ o, (w.alloc o).cell? ⟨0, k, none⟩ = some (strV (formT k)) := fun o => by
    rw [World.cell?_alloc_old _ _ _ (by show (0 : Nat) ≠ w.heap.size; have := he.lt; omega)]; exact hf
  clear he hf hw hl
  have HPA := Lib.hid (show pAs k ws = go (zc k) ((pz k).drop 0) (ws.drop 0) from rfl)
  have HPN := Lib.hid (fun h => pAs_len (k := k) (ws := ws) h)
  have HS := Lib.hid (fun (c : Cm) (h : pAs k ws = some c) => asEnd_some h)
  have HN := Lib.hid (fun (h : pAs k ws = none) => asEnd_none h)
  generalize AsEnd k ws = AE at *
  generalize pAs k ws = R at *
  generalize hFT : formT k = FT at *
  have HPS := Lib.hid hps
  clear hFT hps
  generalize pz k = ps at *
  by_cases hne : ps.length = ws.length
  · go_enter Tryz.func29, Tryz.ntmps29
    go_wp2_with fail
    refine (c0.out _ (E.out.below b0.out)).mono ?_
    rintro e w1 ⟨rfl, hw1, _, hb⟩
    rw [HPS.out] at hw1 ⊢
    rw [hne]
    have V1 := Lib.hid (v.out.below hb v.out.lt)
    have HB1 := Lib.hid (below_next b0.out hb)
    have hlt : w.heap.size + 1 < w1.heap.size := by have := hw1.1; rwa [alloc_size] at this
    rw [alloc_size] at hw1
    have HW1 := Lib.hid hw1
    have HLT := Lib.hid hlt
    clear hb c0 hix f1 hw1 hlt
    go_wp2_with fail
    have vc : CA (w1.alloc (.cells #[.int .i64 k, .int .i64 0, .int .i64 0, .bool false, .int .u8 0, .int .u8 0, .int .u8 0, .int .u8 0, .int .u8 0, .int .u8 0] 33)) w1.heap.size (zc k).cells 33 := var_new w1 (zc k).cells 33
    have hbc : Below w1.heap.size w1 (w1.alloc (.cells #[.int .i64 k, .int .i64 0, .int .i64 0, .bool false, .int .u8 0, .int .u8 0, .int .u8 0, .int .u8 0, .int .u8 0, .int .u8 0] 33)) := box_below w1 _
    have B2 := Lib.hid (below_next HB1.out hbc)
    have F2 := Lib.hid (HW1.out.below hbc HW1.out.1)
    have W2 := Lib.hid ((HW.out.below HB1.out HW.out.1).below hbc (Nat.lt_of_lt_of_le HW.out.1 HB1.out.size))
    have V2 := Lib.hid (V1.out.below hbc V1.out.lt)
    have E2 := Lib.hid (E.out.below B2.out)
    have L7 := Lib.hid E.out.lt
    have LW := Lib.hid HW.out.1
    generalize w1.alloc (.cells #[.int .i64 k, .int .i64 0, .int .i64 0, .bool false, .int .u8 0, .int .u8 0, .int .u8 0, .int .u8 0, .int .u8 0, .int .u8 0] 33) = w2 at *
    have VC := Lib.hid vc
    clear vc hbc V1
    go_loopw [24] (fun i wr => ∃ j : Nat, j ≤ ws.length ∧ i = .int .i64 j ∧ (∃ c : Cm, CA wr w1.heap.size c.cells 33 ∧ (∀ i, c.x i < 256) ∧ go c (ps.drop j) (ws.drop j) = R) ∧ Below w1.heap.size w2 wr) (fun i _ => ws.length - (RowKit.intOf i).toNat)
    case atStart => exact ⟨0, Nat.zero_le _, rfl, ⟨zc k, VC.out, fun _ => (show (0 : Nat) < 256 by omega), HPA.out.symm⟩, Below.refl _ _⟩
    case round =>
      obtain ⟨j, hj, rfl, ⟨c, hc, hx, hR⟩, hbr⟩ := hrel
      have HC := Lib.hid hc
      have HX := Lib.hid hx
      have HR := Lib.hid hR
      have HBr := Lib.hid hbr
      have F3 := Lib.hid (F2.out.below hbr HLT.out)
      clear hc hx hR hbr VC
      by_cases hlt : j < ws.length
      · obtain ⟨p, hp⟩ : ∃ p, ps[j]? = some p := ⟨_, List.getElem?_eq_getElem (by omega)⟩
        obtain ⟨x, hxx⟩ : ∃ x, ws[j]? = some x := ⟨_, List.getElem?_eq_getElem hlt⟩
        have k1 : wr.cell? ⟨w.heap.size + 1, j, none⟩ = some (strV p) := F3.out.2 j p hp
        have k2 : wr.cell? ⟨wb, j, none⟩ = some (strV x) := (W2.out.below HBr.out (Nat.lt_of_lt_of_le LW.out (Nat.le_of_lt (Nat.lt_trans (Nat.lt_succ_self _) HLT.out)))).2 j x hxx
        have i1 := idx41 (w.heap.size + 1) ws.length ws.length j hlt
        have i2 := idx41 wb ws.length cap j hlt
        have hxl : x.length ≤ 281474976710656 := Nat.le_trans (HL.out x (List.mem_of_getElem? hxx)) (by omega)
        have l7 := L7.out
        have lw := HLT.out
        have ct := Lib.hid (take_any c p x w1.heap.size wr (E2.out.under HBr.out (by omega)) HC.out hxl HX.out)
        have st := Lib.hid (go_step (c := c) hp hxx)
        clear hp hxx l7 lw hxl
        cases htk : tk p x with
        | none =>
          have HTK := Lib.hid htk
          have HRN : Hid (R = none) := Lib.hid (by rw [← HR.out, st.out, htk])
          clear htk
          go_wp2_with fail
          refine ct.out.mono ?_
          rintro e w3 ⟨rfl, _, hb3⟩
          rw [HTK.out]
          have V5 := Lib.hid ((V2.out.below HBr.out (Nat.lt_trans (Nat.lt_succ_self _) HLT.out)).below hb3 (Nat.lt_trans (Nat.lt_succ_self _) HLT.out))
          have HB5 := Lib.hid (B2.out.trans ((HBr.out.trans hb3).mono HB1.out.size))
          clear hb3 k1 k2 i1 i2 ct st
          go_wp2_with (with_reducible refine stopS 33 (.tmp 4) (.tmp 36) rfl ?_)
          refine Lib.hid ?_
          refine wp_store26 rfl _ _ rfl (zc 0) rfl rfl V5.out ?_
          intro w5 hv5 hb5 _ _
          have HB6 := Lib.hid (hb5 w.heap.size w (Nat.le_refl _) HB5.out)
          have r0 : w5.cell? ⟨w.heap.size, 0, none⟩ = some (.int .i64 0) := hv5.cell 0
          have r1 : w5.cell? ⟨w.heap.size, 1, none⟩ = some (.int .i64 0) := hv5.cell 1
          have r2 : w5.cell? ⟨w.heap.size, 2, none⟩ = some (.int .i64 0) := hv5.cell 2
          have r3 : w5.cell? ⟨w.heap.size, 3, none⟩ = some (.bool false) := hv5.cell 3
          have r4 : w5.cell? ⟨w.heap.size, 4, none⟩ = some (.int .u8 0) := hv5.cell 4
          have r5 : w5.cell? ⟨w.heap.size, 5, none⟩ = some (.int .u8 0) := hv5.cell 5
          have r6 : w5.cell? ⟨w.heap.size, 6, none⟩ = some (.int .u8 0) := hv5.cell 6
          have r7 : w5.cell? ⟨w.heap.size, 7, none⟩ = some (.int .u8 0) := hv5.cell 7
          have r8 : w5.cell? ⟨w.heap.size, 8, none⟩ = some (.int .u8 0) := hv5.cell 8
          have r9 : w5.cell? ⟨w.heap.size, 9, none⟩ = some (.int .u8 0) := hv5.cell 9
          clear hv5 hb5
          go_wp2_with fail
          exact bodyPost_ret (v := .tuple #[.agg (zc 0).cells, .bool false]) (by simp [results, Tryz.results29, go_sem, r0, r1, r2, r3, r4, r5, r6, r7, r8, r9, zc, Cm.cells]) rfl ⟨HN.out HRN.out, HB6.out⟩
        | some f =>
          have HTK := Lib.hid htk
          have HRN : Hid (go (f c) (ps.drop (j + 1)) (ws.drop (j + 1)) = R) := Lib.hid (by rw [← HR.out, st.out, htk])
          clear htk
          go_wp2_with fail
          refine ct.out.mono ?_
          rintro e w3 ⟨rfl, ⟨c', hc', hx', hf'⟩, hb3⟩
          obtain rfl := hf' f HTK.out
          have HB3 := Lib.hid (HBr.out.trans hb3)
          have HC' := Lib.hid hc'
          have HX' := Lib.hid hx'
          rw [HTK.out]
          clear hc' hx' hf' hb3
          go_wp2_with fail
          refine ⟨⟨j + 1, by omega, by go_num, ⟨_, HC'.out, HX'.out, HRN.out⟩, HB3.out⟩, meas_next hlt⟩
      · have hjn : j = ws.length := by omega
        have HRN : Hid (R = some c) := Lib.hid (by rw [← HR.out]; exact go_stop (by omega) (by omega))
        have V5 := Lib.hid (V2.out.below HBr.out (Nat.lt_trans (Nat.lt_succ_self _) HLT.out))
        have HB5 := Lib.hid (B2.out.trans (HBr.out.mono HB1.out.size))
        go_wp2_with (with_reducible refine stopL 33 (.tmp 7) rfl ?_)
        refine Lib.hid ?_
        refine wp_load26 rfl _ rfl rfl HC.out ?_
        go_wp2_with (with_reducible refine stopS 33 (.tmp 4) (.tmp 38) rfl ?_)
        refine Lib.hid ?_
        refine wp_store26 rfl _ _ rfl (c) rfl rfl V5.out ?_
        intro w5 hv5 hb5 _ _
        have HB6 := Lib.hid (hb5 w.heap.size w (Nat.le_refl _) HB5.out)
        have r0 : w5.cell? ⟨w.heap.size, 0, none⟩ = some (.int .i64 c.wh) := hv5.cell 0
        have r1 : w5.cell? ⟨w.heap.size, 1, none⟩ = some (.int .i64 c.po) := hv5.cell 1
        have r2 : w5.cell? ⟨w.heap.size, 2, none⟩ = some (.int .i64 c.nn) := hv5.cell 2
        have r3 : w5.cell? ⟨w.heap.size, 3, none⟩ = some (.bool c.on) := hv5.cell 3
        have r4 : w5.cell? ⟨w.heap.size, 4, none⟩ = some (.int .u8 (c.x 0)) := hv5.cell 4
        have r5 : w5.cell? ⟨w.heap.size, 5, none⟩ = some (.int .u8 (c.x 1)) := hv5.cell 5
        have r6 : w5.cell? ⟨w.heap.size, 6, none⟩ = some (.int .u8 (c.x 2)) := hv5.cell 6
        have r7 : w5.cell? ⟨w.heap.size, 7, none⟩ = some (.int .u8 (c.x 3)) := hv5.cell 7
        have r8 : w5.cell? ⟨w.heap.size, 8, none⟩ = some (.int .u8 (c.x 4)) := hv5.cell 8
        have r9 : w5.cell? ⟨w.heap.size, 9, none⟩ = some (.int .u8 (c.x 5)) := hv5.cell 9
        clear hv5 hb5
        go_wp2_with fail
        exact bodyPost_ret (v := .tuple #[.agg (c).cells, .bool true]) (by simp [results, Tryz.results29, go_sem, r0, r1, r2, r3, r4, r5, r6, r7, r8, r9, Cm.cells]) rfl ⟨HS.out c HRN.out, HB6.out⟩
  · have HNE := Lib.hid hne
    have hne' : ((ps.length : Int) != (ws.length : Int)) = true := by simpa using (fun h => hne (by omega))
    go_enter Tryz.func29, Tryz.ntmps29
    go_wp2_with fail
    refine (c0.out _ (E.out.below b0.out)).mono ?_
    rintro e w1 ⟨rfl, hw1, _, hb⟩
    rw [HPS.out]
    have V1 := Lib.hid (v.out.below hb v.out.lt)
    have HB1 := Lib.hid (below_next b0.out hb)
    clear hb c0 hix f1 hw1
    go_wp2_with (with_reducible refine stopS 33 (.tmp 4) (.tmp 19) rfl ?_)
    refine Lib.hid ?_
    refine wp_store26 rfl _ _ rfl (zc 0) rfl rfl V1.out ?_
    intro w5 hv5 hb5 _ _
    have HB5 := Lib.hid (hb5 w.heap.size w (Nat.le_refl _) HB1.out)
    have r0 : w5.cell? ⟨w.heap.size, 0, none⟩ = some (.int .i64 0) := hv5.cell 0
    have r1 : w5.cell? ⟨w.heap.size, 1, none⟩ = some (.int .i64 0) := hv5.cell 1
    have r2 : w5.cell? ⟨w.heap.size, 2, none⟩ = some (.int .i64 0) := hv5.cell 2
    have r3 : w5.cell? ⟨w.heap.size, 3, none⟩ = some (.bool false) := hv5.cell 3
    have r4 : w5.cell? ⟨w.heap.size, 4, none⟩ = some (.int .u8 0) := hv5.cell 4
    have r5 : w5.cell? ⟨w.heap.size, 5, none⟩ = some (.int .u8 0) := hv5.cell 5
    have r6 : w5.cell? ⟨w.heap.size, 6, none⟩ = some (.int .u8 0) := hv5.cell 6
    have r7 : w5.cell? ⟨w.heap.size, 7, none⟩ = some (.int .u8 0) := hv5.cell 7
    have r8 : w5.cell? ⟨w.heap.size, 8, none⟩ = some (.int .u8 0) := hv5.cell 8
    have r9 : w5.cell? ⟨w.heap.size, 9, none⟩ = some (.int .u8 0) := hv5.cell 9
    clear hv5 hb5
    go_wp2_with fail
    exact bodyPost_ret (v := .tuple #[.agg (zc 0).cells, .bool false]) (by simp [results, Tryz.results29, go_sem, r0, r1, r2, r3, r4, r5, r6, r7, r8, r9, zc, Cm.cells]) rfl ⟨HN.out (HPN.out HNE.out), HB5.out⟩
end Go.Proofs.YtlmdpaemhjcmbaaGreatDoor.Cd
