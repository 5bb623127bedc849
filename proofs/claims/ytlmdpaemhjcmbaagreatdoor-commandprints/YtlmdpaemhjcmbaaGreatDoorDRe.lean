/- The reference's Right: is it a command? -/
import Derived.Test.YtlmdpaemhjcmbaaGreatDoorDRd
namespace Go.Proofs.YtlmdpaemhjcmbaaGreatDoor.Cd
open Go.RowKit Go.Sort Go.Lib

/-- A command's field, by what it is, set in another one. -/
def setF (c d : Cm) (b : UInt8) : Cm := if b = 112 then { d with po := c.po } else if b = 110 ∨ b = 108 then { d with nn := c.nn } else if b = 111 then { d with on := c.on } else if b = 109 then { d with x := c.x } else d
def plainC (c : Cm) (l : List UInt8) : Cm := l.foldl (setF c) (zc c.wh)
theorem plain_next {c : Cm} {l : List UInt8} {j : Nat} {b : UInt8} (h : l[j]? = some b) : plainC c (l.take (j + 1)) = setF c (plainC c (l.take j)) b := by
  unfold plainC; rw [List.take_add_one, h]; simp
theorem setF_x1 {c d : Cm} (hc : ∀ i, 6 ≤ i → c.x i = 0) (hd : ∀ i, 6 ≤ i → d.x i = 0) (b : UInt8) : ∀ i, 6 ≤ i → (setF c d b).x i = 0 := by
  unfold setF
  split
  · exact hd
  · split
    · exact hd
    · split
      · exact hd
      · split
        · exact hc
        · exact hd
theorem plain_x1 {c : Cm} (hc : ∀ i, 6 ≤ i → c.x i = 0) : ∀ (l : List UInt8) (d : Cm), (∀ i, 6 ≤ i → d.x i = 0) → ∀ i, 6 ≤ i → (l.foldl (setF c) d).x i = 0
  | [], _, h => h
  | b :: l, d, h => plain_x1 hc l (setF c d b) (setF_x1 hc h b)
/-- Right, as the reference asks it. -/
theorem rt_iff {c : Cm} (hf : c.Fit) {k : Nat} (hk : k < 15) (hw : c.wh = k) : Rt c ↔ (eqC (plainC c (fm k)) c = true ∧ 0 ≤ c.po ∧ c.po ≤ 1073741824 ∧ 0 ≤ c.nn ∧ c.nn ≤ 1073741824 ∧ ∀ b ∈ fm k, b = 108 → c.nn ≤ 2) := by
  have K : c.wh.toNat = k := by rw [hw]; simp
  have hx := plain_x1 hf.x1 (fm k) (zc c.wh) (fun _ _ => rfl)
  constructor
  · intro h
    obtain ⟨_, _, x0, x1, hpo, hnn, hon, hmx, p0, p1, n0, n1, lk⟩ := h
    rw [K] at hpo hnn hon hmx lk
    refine ⟨?_, p0, p1, n0, n1, fun b hb e => lk (e ▸ hb)⟩
    have e : plainC c (fm k) = c := by
      rcases fm_cases ⟨k, hk⟩ with e | e | e | e | e | e | e | e <;> simp only at e <;> rw [e] at hpo hnn hon hmx ⊢ <;> refine Cm.eq ?_ ?_ ?_ ?_ ?_ <;> (first | rfl | exact (hpo (by decide)).symm | exact (hnn (by decide) (by decide)).symm | exact (hon (by decide)).symm | exact (funext (hmx (by decide))).symm)
    rw [e]; exact eqC_self c
  · rintro ⟨he, p0, p1, n0, n1, lk⟩
    have e := eqC_eq hx hf.x1 he
    refine ⟨by omega, by omega, hf.x0, hf.x1, ?_, ?_, ?_, ?_, p0, p1, n0, n1, ?_⟩
    all_goals rw [K]
    · intro h; rw [← e]; rcases fm_cases ⟨k, hk⟩ with f | f | f | f | f | f | f | f <;> simp only at f <;> rw [f] at h ⊢ <;> first | rfl | exact absurd (by decide) h
    · intro h g; rw [← e]; rcases fm_cases ⟨k, hk⟩ with f | f | f | f | f | f | f | f <;> simp only at f <;> rw [f] at h g ⊢ <;> first | rfl | exact absurd (by decide) h | exact absurd (by decide) g
    · intro h; rw [← e]; rcases fm_cases ⟨k, hk⟩ with f | f | f | f | f | f | f | f <;> simp only at f <;> rw [f] at h ⊢ <;> first | rfl | exact absurd (by decide) h
    · intro h; rw [← e]; rcases fm_cases ⟨k, hk⟩ with f | f | f | f | f | f | f | f <;> simp only at f <;> rw [f] at h ⊢ <;> first | exact fun _ => rfl | exact absurd (by decide) h
    · exact fun h => lk 108 h rfl
/-- A yes, just where it holds. -/
def IsQ (P : Prop) (e : Ending) : Prop := ∃ q : Bool, e = .returned (.bool q) ∧ (q = true ↔ P)
theorem isQ_no {P : Prop} (h : ¬ P) : IsQ P (.returned (.bool false)) := ⟨false, rfl, fun h => (by cases h), fun g => absurd g h⟩
theorem isQ_yes {P : Prop} (h : P) : IsQ P (.returned (.bool true)) := ⟨true, rfl, fun _ => h, fun _ => rfl⟩
set_option maxRecDepth 20000 in
set_option maxHeartbeats 4000000 in
theorem right_any (c : Cm) (hf : c.Fit) (w : World) : Calls Tryz.prog 6 #[.agg c.cells] w fun e w' => IsQ (Rt c) e ∧ Below w.heap.size w w' := by
  have v := Lib.hid (var_new w c.cells 36)
  have b0 := Lib.hid (box_below w (.cells c.cells 36))
  have k0 : (w.alloc (.cells c.cells 36)).cell? ⟨w.heap.size, 0, none⟩ = some (.int .i64 c.wh) := v.out.cell 0
  by_cases h0 : c.wh < 0
  · have HT := Lib.hid (show ¬ Rt c from fun h => by have := h.w0; omega)
    go_enter Tryz.func6, Tryz.ntmps6
    go_wp2_with fail
    go_ret
    exact ⟨isQ_no HT.out, b0.out⟩
  by_cases h1 : 14 < c.wh
  · have HT := Lib.hid (show ¬ Rt c from fun h => by have := h.w1; omega)
    go_enter Tryz.func6, Tryz.ntmps6
    go_wp2_with fail
    go_ret
    exact ⟨isQ_no HT.out, b0.out⟩
  obtain ⟨k, hk⟩ : ∃ k : Nat, c.wh = k := ⟨c.wh.toNat, by omega⟩
  have hk15 : k < 15 := by omega
  have HRT := Lib.hid (rt_iff hf hk15 hk)
  have HZ : Hid (plainC c ((fm k).take 0) = zc k) := Lib.hid (by rw [← hk]; rfl)
  rw [hk] at k0
  have k0' : ∀ o, ((w.alloc (.cells c.cells 36)).alloc o).cell? ⟨w.heap.size, 0, none⟩ = some (.int .i64 k) := fun o => by rw [World.cell?_alloc_old _ _ _ (by rw [alloc_size]; show w.heap.size ≠ w.heap.size + 1; omega)]; exact k0
  have cf := Lib.hid (fun w => form_any k hk15 w)
  have hneg : decide ((k : Int) < 0) = false := by simp
  have hbig : decide (14 < (k : Int)) = false := by simp; omega
  have HFM := Lib.hid (fm_mem ⟨k, hk15⟩)
  simp only at HFM
  have hfl : (fm k).length ≤ 2 := (hd_short k hk15).2.1
  clear h0 h1 hk hf
  go_enter Tryz.func6, Tryz.ntmps6
  go_wp2_with fail
  refine (cf.out _).mono ?_
  rintro e w1 ⟨rfl, hb⟩
  have hbb : Below w.heap.size w ((w.alloc (.cells c.cells 36)).alloc (.cells #[.int .i64 k, .int .i64 0, .int .i64 0, .bool false, .int .u8 0, .int .u8 0, .int .u8 0, .int .u8 0, .int .u8 0, .int .u8 0] 36)) := (box_below w _).alloc (by rw [alloc_size]; omega) _
  have VX1 := Lib.hid ((v.out.alloc (.cells #[.int .i64 k, .int .i64 0, .int .i64 0, .bool false, .int .u8 0, .int .u8 0, .int .u8 0, .int .u8 0, .int .u8 0, .int .u8 0] 36)).below hb (Nat.lt_of_lt_of_le v.out.lt (by rw [alloc_size (w.alloc _)]; omega)))
  have vp : CA ((w.alloc (.cells c.cells 36)).alloc (.cells #[.int .i64 k, .int .i64 0, .int .i64 0, .bool false, .int .u8 0, .int .u8 0, .int .u8 0, .int .u8 0, .int .u8 0, .int .u8 0] 36)) (w.heap.size + 1) (zc k).cells 36 := by have := var_new (w.alloc (.cells c.cells 36)) (zc k).cells 36; rwa [alloc_size] at this
  have VP1 := Lib.hid (vp.below hb vp.lt)
  have HB1 := Lib.hid (below_next hbb hb)
  have HXX := Lib.hid (fun w' (h : CA w' w.heap.size c.cells 36) => And.intro (h.cell 4) (And.intro (h.cell 5) (And.intro (h.cell 6) (And.intro (h.cell 7) (And.intro (h.cell 8) (h.cell 9))))))
  clear hb hbb vp k0 k0' v cf b0
  go_wp2_with fail
  generalize hpb : w.heap.size + 1 = pb at *
  have HPB := Lib.hid hpb
  clear hpb
  go_loopw [5] (fun i wr => ∃ j : Nat, j ≤ (fm k).length ∧ i = .int .i64 j ∧ CA wr pb (plainC c ((fm k).take j)).cells 36 ∧ (∀ b ∈ (fm k).take j, b = 108 → c.nn ≤ 2) ∧ Below pb w1 wr) (fun i _ => (fm k).length - (RowKit.intOf i).toNat)
  case atStart => exact ⟨0, Nat.zero_le _, rfl, by rw [HZ.out]; exact VP1.out, by simp, Below.refl _ _⟩
  case round =>
    obtain ⟨j, hj, rfl, hc, hlk, hbr⟩ := hrel
    have HLKP := Lib.hid hlk
    have HBr := Lib.hid hbr
    have VX := Lib.hid (VX1.out.below hbr (by have := HPB.out; omega))
    clear hlk hbr
    by_cases hlt : j < (fm k).length
    · obtain ⟨b, hb⟩ : ∃ b, (fm k)[j]? = some b := ⟨_, List.getElem?_eq_getElem hlt⟩
      have HST := Lib.hid (plain_next (c := c) hb)
      have HLK := Lib.hid (fun (hh : b = 108 → c.nn ≤ 2) => (show ∀ d ∈ (fm k).take (j + 1), d = 108 → c.nn ≤ 2 by
        rw [List.take_add_one, hb]
        intro d hd
        rcases List.mem_append.1 hd with hd | hd
        · exact HLKP.out d hd
        · simp at hd; subst hd; exact hh))
      have hbm := HFM.out b (List.mem_of_getElem? hb)
      have HNOT := Lib.hid (fun (h : 2 < c.nn) (e : b = 108) => (show ¬ Rt c from fun hr => by have := (HRT.out.1 hr).2.2.2.2.2 b (List.mem_of_getElem? hb) e; omega))
      generalize plainC c ((fm k).take j) = d at *
      have HC := Lib.hid hc
      clear hc
      rcases hbm with rfl | rfl | rfl | rfl | rfl
      · have i1 : ∀ w, (Instr.index 9 (strV (fm k)) (.int .i64 j)).run Tryz.prog w = .ok (.int .u8 110) w := lat hb
        have HS1 := Lib.hid (show (setF c d 110) = { d with nn := c.nn } from rfl)
        have a1 : wr.cell? ⟨w.heap.size, 2, none⟩ = some (.int .i64 c.nn) := VX.out.cell 2
        have a2 : wr.cell? ⟨pb, 2, none⟩ = some (.int .i64 d.nn) := HC.out.cell 2
        have a3 := HC.out.frozen
        clear hb
        go_wp2_with fail
        refine ⟨⟨j + 1, by omega, by go_num, by rw [HST.out, HS1.out]; exact HC.out.set 2 _, HLK.out (fun h => absurd h (by decide)), HBr.out.setCell (Nat.le_refl _) _⟩, meas_next hlt⟩
      · have i1 : ∀ w, (Instr.index 9 (strV (fm k)) (.int .i64 j)).run Tryz.prog w = .ok (.int .u8 111) w := lat hb
        have HS1 := Lib.hid (show (setF c d 111) = { d with on := c.on } from rfl)
        have a1 : wr.cell? ⟨w.heap.size, 3, none⟩ = some (.bool c.on) := VX.out.cell 3
        have a2 : wr.cell? ⟨pb, 3, none⟩ = some (.bool d.on) := HC.out.cell 3
        have a3 := HC.out.frozen
        clear hb
        go_wp2_with fail
        refine ⟨⟨j + 1, by omega, by go_num, by rw [HST.out, HS1.out]; exact HC.out.set 3 _, HLK.out (fun h => absurd h (by decide)), HBr.out.setCell (Nat.le_refl _) _⟩, meas_next hlt⟩
      · have i1 : ∀ w, (Instr.index 9 (strV (fm k)) (.int .i64 j)).run Tryz.prog w = .ok (.int .u8 112) w := lat hb
        have HS1 := Lib.hid (show (setF c d 112) = { d with po := c.po } from rfl)
        have a1 : wr.cell? ⟨w.heap.size, 1, none⟩ = some (.int .i64 c.po) := VX.out.cell 1
        have a2 : wr.cell? ⟨pb, 1, none⟩ = some (.int .i64 d.po) := HC.out.cell 1
        have a3 := HC.out.frozen
        clear hb
        go_wp2_with fail
        refine ⟨⟨j + 1, by omega, by go_num, by rw [HST.out, HS1.out]; exact HC.out.set 1 _, HLK.out (fun h => absurd h (by decide)), HBr.out.setCell (Nat.le_refl _) _⟩, meas_next hlt⟩
      · have i1 : ∀ w, (Instr.index 9 (strV (fm k)) (.int .i64 j)).run Tryz.prog w = .ok (.int .u8 108) w := lat hb
        have HS1 := Lib.hid (show (setF c d 108) = { d with nn := c.nn } from rfl)
        have a1 : wr.cell? ⟨w.heap.size, 2, none⟩ = some (.int .i64 c.nn) := VX.out.cell 2
        have a2 : wr.cell? ⟨pb, 2, none⟩ = some (.int .i64 d.nn) := HC.out.cell 2
        have a3 := HC.out.frozen
        have a4 : (wr.setCell ⟨pb, 2, none⟩ (.int .i64 c.nn)).cell? ⟨w.heap.size, 2, none⟩ = some (.int .i64 c.nn) := (VX.out.set_other (show w.heap.size ≠ pb by have := HPB.out; omega) _).cell 2
        clear hb
        by_cases hn2 : 2 < c.nn
        · have HNT := Lib.hid (HNOT.out hn2 rfl)
          have HBF := Lib.hid ((HBr.out.setCell (Nat.le_refl _) (.int .i64 c.nn) (p := ⟨pb, 2, none⟩)))
          go_wp2_with fail
          go_ret
          exact ⟨isQ_no HNT.out, HB1.out.trans (HBF.out.mono (by have := HPB.out; omega))⟩
        · go_wp2_with fail
          refine ⟨⟨j + 1, by omega, by go_num, by rw [HST.out, HS1.out]; exact HC.out.set 2 _, HLK.out (fun _ => by omega), HBr.out.setCell (Nat.le_refl _) _⟩, meas_next hlt⟩
      · have i1 : ∀ w, (Instr.index 9 (strV (fm k)) (.int .i64 j)).run Tryz.prog w = .ok (.int .u8 109) w := lat hb
        have HS1 := Lib.hid (show (setF c d 109) = { d with x := c.x } from rfl)
        obtain ⟨m0, m1, m2, m3, m4, m5⟩ := HXX.out wr VX.out
        simp only [Cm.cells, List.getElem?_toArray, List.getElem?_cons_succ, List.getElem?_cons_zero] at m0 m1 m2 m3 m4 m5
        clear hb
        go_wp2_with (with_reducible refine stopS 22 (.tmp 49) (.tmp 48) rfl ?_)
        refine Lib.hid ?_
        refine wpList_store_whole s23 rfl _ _ rfl rfl rfl HC.out (xs := mc c.x) (mc_one _) rfl (show 4 + 6 ≤ d.cells.size from Nat.le_refl 10) ?_
        intro w4 hv4 hb4 _ _
        have HV4 := Lib.hid hv4
        have HB4 := Lib.hid (hb4 pb w1 (Nat.le_refl _) HBr.out)
        clear hv4 hb4 m0 m1 m2 m3 m4 m5
        go_wp2_with fail
        refine ⟨⟨j + 1, by omega, by go_num, by rw [HST.out, HS1.out]; exact HV4.out, HLK.out (fun h => absurd h (by decide)), HB4.out⟩, meas_next hlt⟩
    · have hks : (fm k).take j = fm k := List.take_of_length_le (by omega)
      rw [hks] at hc HLKP
      have HBE := Lib.hid (HB1.out.trans (HBr.out.mono (by have := HPB.out; omega)))
      have p1 : wr.cell? ⟨w.heap.size, 1, none⟩ = some (.int .i64 c.po) := VX.out.cell 1
      have p2 : wr.cell? ⟨w.heap.size, 2, none⟩ = some (.int .i64 c.nn) := VX.out.cell 2
      generalize plainC c (fm k) = d at *
      have HC := Lib.hid hc
      have hq := fun w => cm_eql32 d c w
      have hg := cm_g32
      obtain ⟨q, hqe⟩ : ∃ q, eqC d c = q := ⟨_, rfl⟩
      rw [hqe] at HRT hq
      have hcs : (q = false ∧ ¬ Rt c) ∨ (q = true ∧ c.po < 0 ∧ ¬ Rt c) ∨ (q = true ∧ 0 ≤ c.po ∧ 1073741824 < c.po ∧ ¬ Rt c) ∨ (q = true ∧ 0 ≤ c.po ∧ c.po ≤ 1073741824 ∧ c.nn < 0 ∧ ¬ Rt c) ∨ (q = true ∧ 0 ≤ c.po ∧ c.po ≤ 1073741824 ∧ 0 ≤ c.nn ∧ 1073741824 < c.nn ∧ ¬ Rt c) ∨ (q = true ∧ 0 ≤ c.po ∧ c.po ≤ 1073741824 ∧ 0 ≤ c.nn ∧ c.nn ≤ 1073741824 ∧ Rt c) := by
        rw [HRT.out]
        cases q
        · exact Or.inl ⟨rfl, fun h => by cases h.1⟩
        · by_cases a1 : c.po < 0
          · exact Or.inr (Or.inl ⟨rfl, a1, fun h => by have := h.2.1; omega⟩)
          by_cases a2 : 1073741824 < c.po
          · exact Or.inr (Or.inr (Or.inl ⟨rfl, by omega, a2, fun h => by have := h.2.2.1; omega⟩))
          by_cases a3 : c.nn < 0
          · exact Or.inr (Or.inr (Or.inr (Or.inl ⟨rfl, by omega, by omega, a3, fun h => by have := h.2.2.2.1; omega⟩)))
          by_cases a4 : 1073741824 < c.nn
          · exact Or.inr (Or.inr (Or.inr (Or.inr (Or.inl ⟨rfl, by omega, by omega, by omega, a4, fun h => by have := h.2.2.2.2.1; omega⟩))))
          exact Or.inr (Or.inr (Or.inr (Or.inr (Or.inr ⟨rfl, by omega, by omega, by omega, by omega, rfl, by omega, by omega, by omega, by omega, fun b hb e => HLKP.out b hb e⟩))))
      clear hqe HRT hc hks
      rcases hcs with ⟨rfl, hn⟩ | ⟨rfl, x1, hn⟩ | ⟨rfl, x1, x2, hn⟩ | ⟨rfl, x1, x2, x3, hn⟩ | ⟨rfl, x1, x2, x3, x4, hn⟩ | ⟨rfl, x1, x2, x3, x4, hn⟩
      all_goals
        have HNX := Lib.hid hn
        clear hn
        go_wp2_with (with_reducible refine stopL 36 (.tmp 3) rfl ?_)
        refine Lib.hid ?_
        refine wpl_load32 (by kernel_rfl) _ rfl rfl HC.out ?_
        go_wp2_with (with_reducible refine stopL 36 (.tmp 1) rfl ?_)
        refine Lib.hid ?_
        refine wpl_load32 (by kernel_rfl) _ rfl rfl VX.out ?_
        go_wp2_with fail
        go_ret
        first | exact ⟨isQ_no HNX.out, HBE.out⟩ | exact ⟨isQ_yes HNX.out, HBE.out⟩ | exact ⟨by have e : decide (c.nn ≤ 1073741824) = false := (by simp; omega); have z := isQ_no HNX.out; rw [← e] at z; exact z, HBE.out⟩ | exact ⟨by have e : decide (c.nn ≤ 1073741824) = true := (by simp; omega); have z := isQ_yes HNX.out; rw [← e] at z; exact z, HBE.out⟩
end Go.Proofs.YtlmdpaemhjcmbaaGreatDoor.Cd
