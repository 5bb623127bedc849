/- Contracts of a setting's Copy, and of usualPorts. -/
import Derived.Test.YtlmdpaemhjcmbaaGreatDoorO
import Derived.Laws.OwnMore
namespace Go.Proofs.YtlmdpaemhjcmbaaGreatDoor
open Go.RowKit Go.Sort

/-- The cells of n ports' settings. -/
def qcs (P : Nat → Pc) (n : Nat) : List Value := (List.range n).flatMap fun i => (P i).cells.toList
theorem qcs_succ (P : Nat → Pc) (n : Nat) : qcs P (n + 1) = qcs P n ++ (P n).cells.toList := by simp [qcs, List.range_succ]
theorem qcs_len (P : Nat → Pc) : ∀ n, (qcs P n).length = n * 5
  | 0 => rfl
  | n + 1 => by rw [qcs_succ, List.length_append, qcs_len P n]; simp; omega
theorem qcs_at (P : Nat → Pc) : ∀ n i, i < n → ∀ k, k < 5 → (qcs P n)[i * 5 + k]? = (P i).cells[k]?
  | 0, i, hi, _, _ => absurd hi (by omega)
  | n + 1, i, hi, k, hk => by
    have hl := qcs_len P n
    rw [qcs_succ]
    by_cases e : i = n
    · subst e
      rw [List.getElem?_append_right (by omega), hl]
      simp
    · rw [List.getElem?_append_left (by omega)]
      exact qcs_at P n i (by omega) k hk
theorem qcs_one (P : Nat → Pc) (n : Nat) : ∀ u ∈ qcs P n, u.oneCell' = true := by
  intro u hu
  simp only [qcs, List.mem_flatMap, List.mem_range] at hu
  obtain ⟨i, hi, hm⟩ := hu
  simp at hm
  rcases hm with rfl | rfl | rfl | rfl | rfl <;> rfl
theorem info34 : (Tryz.prog.info? 58).map (fun i => (i.zero, i.size, i.bytes)) = some (some (.agg (⟨0, 0, false, false, 0⟩ : Pc).cells), 5, 24) := by kernel_rfl
theorem und26 : Tryz.prog.underlying 26 = some (.slice 58) := by kernel_rfl
/-- Ports' settings in a block of their own. -/
def Own5 (w : World) (g n : Nat) (P : Nat → Pc) : Prop := ∃ A, VarAt w g A 58 ∧ n * 5 ≤ A.size ∧ ∀ i, i < n → ∀ k, k < 5 → A[i * 5 + k]? = (P i).cells[k]?
theorem Own5.lt {w : World} {g n : Nat} {P : Nat → Pc} (h : Own5 w g n P) : g < w.heap.size := by obtain ⟨A, hv, _⟩ := h; exact hv.lt
theorem Own5.below {w w' : World} {g n B : Nat} {P : Nat → Pc} (h : Own5 w g n P) (hb : Below B w w') (hg : g < B) : Own5 w' g n P := by
  obtain ⟨A, hv, h1, h2⟩ := h
  exact ⟨A, hv.below hb hg, h1, h2⟩
theorem Own5.in {w : World} {g n cap : Nat} {P : Nat → Pc} (h : Own5 w g n P) : QIn w (.slice (some ⟨g, 0, none⟩) n cap) n P := by
  obtain ⟨A, hv, h1, h2⟩ := h
  refine ⟨_, _, rfl, fun h => (by cases h), fun _ => ⟨g, 0, rfl, fun i hi k hk => ?_⟩⟩
  rw [Nat.zero_add, hv.cell]
  exact h2 i hi k hk
theorem addN (b o k : Nat) : (⟨b, o, none⟩ : Addr).add k = ⟨b, o + k, none⟩ := by unfold Addr.add; split <;> simp_all
theorem cell_below {w w1 : World} (hb : Below w.heap.size w w1) {a : Addr} {v : Value} (h : w.cell? a = some v) : w1.cell? a = some v := by
  rw [hb.cell (block_lt_of_cell h)]; exact h
/-- What append makes of them. -/
theorem made_q {w : World} {B n : Nat} {v : Value} {P : Nat → Pc} (h : w.ownsRow B 58 5 v n (qcs P n)) (hv : v ≠ .slice none 0 0) : ∃ g cap, v = .slice (some ⟨g, 0, none⟩) n cap ∧ B ≤ g ∧ Own5 w g n P := by
  rcases h.2 with ⟨e, _⟩ | ⟨g, cap, cur, rfl, hb, hg, hnc, _, hs, ht⟩
  · exact (hv e).elim
  · refine ⟨g, cap, rfl, hb, cur, hg, by rw [hs]; exact Nat.mul_le_mul_right _ hnc, fun i hi k hk => ?_⟩
    have := qcs_at P n i hi k hk
    rw [← this, ← ht, List.getElem?_take, if_pos (by omega)]
    simp
theorem newsq_of {w w' : World} {ad : Addr} {n : Nat} {P : Nat → Pc} (h1 : 0 < n → ∃ b o, some ad = some ⟨b, o, none⟩ ∧ ∀ i, i < n → ∀ k, k < 5 → w.cell? ⟨b, o + i * 5 + k, none⟩ = (P i).cells[k]?) (hb : Below w.heap.size w w') :
    ∀ (j : Nat) u, (qcs P n)[j]? = some u → w'.cell? (ad.add j) = some u := by
  intro j u hj
  have hlt : j < n * 5 := by rw [← qcs_len P n]; exact (List.getElem?_eq_some_iff.1 hj).1
  have hi : j / 5 < n := by omega
  obtain ⟨b, o, e, hc⟩ := h1 (by omega)
  cases e
  have h2 := hc (j / 5) hi (j % 5) (by omega)
  rw [← qcs_at P n (j / 5) hi (j % 5) (by omega), show j / 5 * 5 + j % 5 = j by omega, hj] at h2
  rw [addN]
  refine cell_below hb ?_
  rw [← h2]
  congr 2
  omega
theorem stopW {ops : Array Oper} {rest : List Oper} {a : Act} {w : World} {Q : Exit → Act → World → Prop} (h : Hid (wpList Tryz.prog ops Q rest a w)) : wpList Tryz.prog ops Q rest a w := h
theorem stopS (T : Nat) {ops : Array Oper} {rest : List Oper} {op : Oper} {a : Act} {w : World} {Q : Exit → Act → World → Prop} (x y : Operand) (_ : op.op = .store T x y) (h : Hid (wpList Tryz.prog ops Q (op :: rest) a w)) : wpList Tryz.prog ops Q (op :: rest) a w := h
set_option maxHeartbeats 1000000 in
theorem clone_any (ad : Addr) (n cap : Nat) (P : Nat → Pc) (w : World) (hs : QIn w (.slice (some ad) n cap) n P) (hn : n ≤ 20) :
    Calls Tryz.prog 18 #[.slice (some ad) n cap] w fun e w' => ∃ g c, e = .returned (.slice (some ⟨g, 0, none⟩) n c) ∧ w.heap.size ≤ g ∧ Own5 w' g n P ∧ Below w.heap.size w w' := by
  obtain ⟨a', c', e, _, h1⟩ := hs
  cases e
  have own0 := Lib.hid (show (w.alloc (.cells #[] 58)).ownsRow w.heap.size 58 5 (.slice (some ⟨w.heap.size, 0, none⟩) 0 0) 0 [] from
    World.ownsRow_made (base := w.heap.size) (e := 58) (size := 5) w #[] 0 (Nat.le_refl _) (by unfold maxLen; omega) rfl)
  have hBB := Lib.hid (box_below w (.cells #[] 58))
  obtain ⟨ia, hia⟩ : ∃ i, Hid (Tryz.prog.info? 58 = some i ∧ i.zero = some (.agg (⟨0, 0, false, false, 0⟩ : Pc).cells) ∧ i.size = 5 ∧ i.bytes = 24) := (info_parts info34).imp fun _ h => Lib.hid h
  have eN : ∀ w, (binOp .eql 26 (.slice (some ad) n cap) (.slice none 0 0)).run Tryz.prog w = .ok (.bool false) w := fun w => by kernel_rfl
  go_enter Tryz.func18, Tryz.ntmps18
  go_wp2_with (first | (at_builtin; go_loud (refine wpList_append_own _ rfl _ _ 26 rfl w.heap.size 58 ia (.agg (⟨0, 0, false, false, 0⟩ : Pc).cells) 5 24 und26 hia.out.1 hia.out.2.1 hia.out.2.2.1 hia.out.2.2.2 rfl (by decide) _ 0 [] rfl own0.out ad n cap (qcs P n) rfl (qcs_len P n) ?c1 (qcs_one P n) ?c3 ?c4 ?c5 ?_)))
  case c1 => exact newsq_of h1 hBB.out
  case c3 => unfold maxLen; omega
  case c4 => omega
  case c5 => simp
  intro v' w3 ho hg hnil
  obtain ⟨g, c, rfl, hge, hO⟩ := made_q ho hnil
  have hB3 := Lib.hid (hBB.out.grown hg hBB.out.size (fun k hk => (own0.out.lt k hk).1))
  have HO := Lib.hid (And.intro hge hO)
  clear ho hg hnil h1 own0 hge hO
  go_wp2_with fail
  go_ret
  exact ⟨g, c, rfl, HO.out.1, HO.out.2, hB3.out⟩
/-- A setting's zero. -/
abbrev zC : Array Value := #[.int .u8 0, .int .u8 0, .int .u8 0, .int .u8 0, .int .u8 0, .int .u8 0, .int .i64 0, .int .i64 0, .int .i64 0, .int .i64 0, .int .i64 0, .int .i64 0, .bool false, .int .i64 0, .slice none 0 0]
theorem Cf.one (c : Cf) {s : Value} (hs : s.oneCell' = true) : (c.cells s).all (·.oneCell') = true := by
  refine Array.all_eq_true_iff_forall_mem.2 fun v hv => ?_
  simp [Cf.cells] at hv
  rcases hv with rfl | rfl | rfl | rfl | rfl | rfl | rfl | rfl | rfl | rfl | rfl | rfl | rfl | rfl | rfl <;> first | exact hs | rfl
set_option maxRecDepth 20000 in
set_option maxHeartbeats 1000000 in
theorem copyC_any (c : Cf) (ad : Addr) (n cap : Nat) (P : Nat → Pc) (w : World) (hs : QIn w (.slice (some ad) n cap) n P) (hn : n ≤ 20) :
    Calls Tryz.prog 8 #[.agg (c.cells (.slice (some ad) n cap))] w fun e w' => ∃ g cp, e = .returned (.agg (c.cells (.slice (some ⟨g, 0, none⟩) n cp))) ∧ w.heap.size ≤ g ∧ Own5 w' g n P ∧ Below w.heap.size w w' := by
  have C0 := Lib.hid ((var_new w (c.cells (.slice (some ad) n cap)) 28).alloc (.cells zC 28))
  have Z0 := Lib.hid (show VarAt ((w.alloc (.cells (c.cells (.slice (some ad) n cap)) 28)).alloc (.cells zC 28)) (w.heap.size + 1) zC 28 by
    have := var_new (w.alloc (.cells (c.cells (.slice (some ad) n cap)) 28)) zC 28
    rwa [alloc_size] at this)
  have HB := Lib.hid (show Below w.heap.size w ((w.alloc (.cells (c.cells (.slice (some ad) n cap)) 28)).alloc (.cells zC 28)) from ((Below.refl w.heap.size w).alloc (Nat.le_refl _) _).alloc (by rw [alloc_size]; omega) _)
  have c1 := clone_any ad n cap P _ (hs.below HB.out) hn
  have f14 : ((w.alloc (.cells (c.cells (.slice (some ad) n cap)) 28)).alloc (.cells zC 28)).cell? ⟨w.heap.size, 14, none⟩ = some (.slice (some ad) n cap) := C0.out.cell 14
  clear hs
  have CX := Lib.hid (fun (w1 : World) (s' : Value) (h : VarAt w1 w.heap.size (c.cells (.slice (some ad) n cap)) 28) => (show VarAt (w1.setCell ⟨w.heap.size, 14, none⟩ s') w.heap.size (c.cells s') 28 from h.set 14 s'))
  have CL := Lib.hid (fun (s' : Value) => (Cf.size c s'))
  have CO := Lib.hid (fun (s' : Value) (h : s'.oneCell' = true) => (Cf.one c h))
  have C14 := Lib.hid (fun (w1 : World) (h : VarAt w1 w.heap.size (c.cells (.slice (some ad) n cap)) 28) => (show w1.cell? ⟨w.heap.size, 14, none⟩ = some (.slice (some ad) n cap) from h.cell 14))
  generalize c.cells = C at *
  go_enter Tryz.func8, Tryz.ntmps8
  go_wp2_with fail
  generalize (w.alloc (.cells (C (.slice (some ad) n cap)) 28)).alloc (.cells zC 28) = W at *
  refine c1.mono ?_
  rintro e w1 ⟨g, cp, rfl, hg, hO, hb⟩
  have C1 := Lib.hid (C0.out.below hb C0.out.lt)
  have Z1 := Lib.hid (Z0.out.below hb Z0.out.lt)
  have HB1 := Lib.hid (HB.out.trans (hb.mono HB.out.size))
  have hgw : w.heap.size + 2 ≤ g := by have := Z0.out.lt; omega
  have HO := Lib.hid hO
  clear hb c1 hO C0 Z0 HB f14 hg
  have f14 := C14.out w1 C1.out
  have fz := C1.out.frozen
  go_wp2_with (with_reducible refine stopL 28 _ rfl ?_)
  have V3 := CX.out w1 (.slice (some ⟨g, 0, none⟩) n cp) C1.out
  have Z3 := Z1.out.set_other (p := ⟨w.heap.size, 14, none⟩) (show w.heap.size + 1 ≠ w.heap.size by omega) (.slice (some ⟨g, 0, none⟩) n cp)
  have HB3 := HB1.out.setCell (p := ⟨w.heap.size, 14, none⟩) (Nat.le_refl _) (.slice (some ⟨g, 0, none⟩) n cp)
  obtain ⟨A, hA, hA1, hA2⟩ := HO.out
  have A3 := hA.set_other (p := ⟨w.heap.size, 14, none⟩) (show g ≠ w.heap.size by omega) (.slice (some ⟨g, 0, none⟩) n cp)
  have HA2 := Lib.hid hA2
  clear f14 fz HO hA hA2 C1 Z1 HB1
  generalize w1.setCell ⟨w.heap.size, 14, none⟩ (.slice (some ⟨g, 0, none⟩) n cp) = w4 at *
  refine Lib.hid ?_
  refine wpList_load_whole uC rfl sC rfl _ rfl rfl (range_whole V3) (CL.out _) ?_
  refine wpList_store_whole sC rfl _ _ rfl rfl rfl Z3 (CO.out _ rfl) (CL.out _) (by simp) ?_
  intro w5 hv5 hb5 ho5 _
  rw [putL_all _ _ (by rw [CL.out]; rfl)] at hv5
  have V6 := Lib.hid hv5
  have V7 := Lib.hid (ho5 _ _ _ (show g ≠ w.heap.size + 1 by omega) A3)
  have B7 := Lib.hid (hb5 w.heap.size w (by omega) HB3)
  clear hv5 ho5 hb5 V3 Z3 A3 HB3
  go_wp2_with (with_reducible refine stopE ?_)
  refine Lib.hid ?_
  exact bodyPost_ret (v := .agg (C (.slice (some ⟨g, 0, none⟩) n cp))) (results_cell_row (p := 2) (ty := 28) rfl _ _ (w.heap.size + 1) 28 _ (0, 0) _ rfl V6.out uC rfl (by rw [sC]; simp [CL.out])) rfl ⟨g, cp, rfl, by omega, ⟨A, V7.out, hA1, HA2.out⟩, B7.out⟩
theorem Pc.one (p : Pc) : p.cells.all (·.oneCell') = true := by
  refine Array.all_eq_true_iff_forall_mem.2 fun v hv => ?_
  simp at hv
  rcases hv with rfl | rfl | rfl | rfl | rfl <;> rfl
/-- The usual port. -/
abbrev usualP : Pc := ⟨128, 0, false, true, 0⟩
theorem make26 (n : Nat) (hn : n ≤ 8) (w : World) : ∃ Z : Array Value, Z.size = n * 5 ∧ (Instr.makeSlice 26 (.int .i64 (n : Int)) (.int .i64 (n : Int))).run Tryz.prog w = .ok (.slice (some ⟨w.heap.size, 0, none⟩) n n) (w.alloc (.cells Z 58)) := by
  obtain ⟨i0, hinf, hz0, hz1, hz2⟩ := info_parts info34
  have := run_make (P := Tryz.prog) w 26 58 i0 _ und26 hinf hz0 .i64 .i64 n n (by omega) (by omega) (by rw [hz2]; omega) (by omega)
  rw [hz1] at this
  refine ⟨madeCells (Value.agg (⟨0, 0, false, false, 0⟩ : Pc).cells).cells (n * 5), size_madeCells _ _, ?_⟩
  rw [this]
  simp only [Int.toNat_natCast]
theorem sP5 : (Tryz.prog.info? 58).map (·.size) = some 5 := by kernel_rfl
set_option maxRecDepth 20000 in
set_option maxHeartbeats 1000000 in
theorem usualPorts_any (n : Nat) (hn : n ≤ 8) (w : World) :
    Calls Tryz.prog 31 #[.int .i64 n] w fun e w' => e = .returned (.slice (some ⟨w.heap.size, 0, none⟩) n n) ∧ Own5 w' w.heap.size n (fun _ => usualP) ∧ Below w.heap.size w w' := by
  obtain ⟨Z, hZ, hmk⟩ := make26 n hn w
  have hv := Lib.hid (var_new w Z 58)
  have hb := Lib.hid (box_below w (.cells Z 58))
  go_enter Tryz.func31, Tryz.ntmps31
  go_wp2_with fail
  generalize w.alloc (.cells Z 58) = W at *
  clear hmk
  go_loopw [9] (fun i wr => ∃ k : Nat, k ≤ n ∧ i = .int .i64 k ∧ Below w.heap.size w wr ∧ ∃ A, VarAt wr w.heap.size A 58 ∧ A.size = n * 5 ∧ ∀ j, j < k → ∀ q, q < 5 → A[j * 5 + q]? = usualP.cells[q]?) (fun i _ => n - (intOf i).toNat)
  case atStart => exact ⟨0, Nat.zero_le _, rfl, hb.out, Z, hv.out, hZ, fun j hj => absurd hj (by omega)⟩
  case round =>
    obtain ⟨k, hk, rfl, hbr, A, hA, hsz, hd⟩ := hrel
    have HB := Lib.hid hbr
    have HA := Lib.hid hA
    have HD := Lib.hid hd
    clear hbr hA hd hb hv
    by_cases hlt : k < n
    · have hix := idx26 w.heap.size 0 n n k hlt
      go_wp2_with (with_reducible refine stopS 58 _ _ rfl ?_)
      refine Lib.hid ?_
      refine wpList_store_whole sP5 rfl _ _ rfl rfl rfl HA.out (xs := usualP.cells) (Pc.one _) rfl (by omega) ?_
      intro w5 hv5 hb5 _ _
      have HB5 := Lib.hid (hb5 w.heap.size w (Nat.le_refl _) HB.out)
      have HV5 := Lib.hid hv5
      clear hv5 hb5 hix
      go_wp2_with fail
      refine ⟨⟨k + 1, by omega, by go_num, HB5.out, _, HV5.out, by rw [putL_size]; exact hsz, fun j hj q hq => ?_⟩, by simp [intOf]; omega⟩
      rw [putL_at]
      by_cases e : j = k
      · subst e
        rw [if_pos (by simp; omega)]
        rw [show j * 5 + q - j * 5 = q by omega]
        simp
      · rw [if_neg (by simp; omega)]
        exact HD.out j (by omega) q hq
    · have hkn : k = n := by omega
      subst hkn
      go_wp2_with fail
      go_ret
      exact ⟨rfl, ⟨A, HA.out, by omega, HD.out⟩, HB.out⟩
end Go.Proofs.YtlmdpaemhjcmbaaGreatDoor
