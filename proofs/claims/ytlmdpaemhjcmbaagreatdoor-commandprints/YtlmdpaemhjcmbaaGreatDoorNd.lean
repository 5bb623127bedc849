/- Contract of Change. -/
import Derived.Test.YtlmdpaemhjcmbaaGreatDoorNc
namespace Go.Proofs.YtlmdpaemhjcmbaaGreatDoor
open Go.RowKit Go.Sort

/-- A slice of commands. -/
def LIn (w : World) (lv : Value) (m : Nat) (L : Nat → Cd.Cm) : Prop :=
  ∃ a cp, lv = .slice a m cp ∧ (0 < m → ∃ b o, a = some ⟨b, o, none⟩ ∧ ∀ i, i < m → ∀ k, k < 10 → w.cell? ⟨b, o + i * 10 + k, none⟩ = (L i).cells[k]?)
theorem LIn.below {w w' : World} {lv : Value} {m : Nat} {L : Nat → Cd.Cm} (h : LIn w lv m L) (hb : Below w.heap.size w w') : LIn w' lv m L := by
  obtain ⟨a, c, rfl, h1⟩ := h
  refine ⟨a, c, rfl, fun hn => ?_⟩
  obtain ⟨b, o, rfl, hc⟩ := h1 hn
  have hl : b < w.heap.size := block_lt_of_cell (hc 0 hn 0 (by omega))
  exact ⟨b, o, rfl, fun i hi k hk => by rw [hb.cell (by exact hl)]; exact hc i hi k hk⟩
theorem range_cm {w : World} {b o : Nat} {x : Cd.Cm} (h : ∀ k, k < 10 → w.cell? ⟨b, o + k, none⟩ = x.cells[k]?) : w.rangeAt b o x.cells.toList := fun j v hj => by
  have h10 : j < 10 := (List.getElem?_eq_some_iff.1 hj).1
  have := h j h10
  rw [Array.getElem?_toList] at hj
  rw [this, hj]
theorem idx29 (b o n cap k : Nat) (h : k < n) (w : World) : (Instr.indexAt 29 (.slice (some ⟨b, o, none⟩) n cap) (.int .i64 k)).run Tryz.prog w = .ok (.pointer (some ⟨b, o + k * 10, none⟩)) w := by
  go_simp
theorem runC_x (n : Nat) (L : Nat → Cd.Cm) (c : Cf) : ∀ k, (runC n L c k).x = c.x
  | 0 => rfl
  | k + 1 => by
    rw [runC]
    split
    · have := runC_x n L c k
      unfold stC
      (repeat' split) <;> exact this
    · exact runC_x n L c k
theorem GS.one {w : World} {B n : Nat} {s : Value} {P : Nat → Pc} (h : GS w B s n P) : s.oneCell' = true := by
  obtain ⟨a, c, rfl⟩ := h.slice; rfl
theorem GS.off {w : World} {B n : Nat} {s : Value} {P : Nat → Pc} (h : GS w B s n P) : ∀ g n c, s = .slice (some ⟨g, 0, none⟩) n c → w.heap.size ≠ g := by
  rintro g n c rfl
  rcases h with ⟨h, _⟩ | ⟨g', c', h, _, ho⟩
  · cases h
  · cases h; have := ho.lt; omega
/-- What is wrong with the outcome. -/
def chE (n : Nat) (L : Nat → Cd.Cm) (c : Cf) (P : Nat → Pc) (m : Nat) : Int := if runE n L m = 0 then cfgE (runC n L c m) (runP n L P m) n else runE n L m
/-- The empty setting. -/
def zCf : Cf := ⟨fun _ => 0, 0, 0, 0, 0, 0, 0, false, 0⟩
/-- What Change ends with. -/
def CEnd (n : Nat) (L : Nat → Cd.Cm) (c : Cf) (P : Nat → Pc) (m : Nat) (w : World) (e : Ending) (w' : World) : Prop :=
  ∃ X, e = .returned (.tuple #[.agg X, .int .i64 (chE n L c P m)]) ∧ (chE n L c P m = 0 → ∃ s', X = (runC n L c m).cells s' ∧ GS w' w.heap.size s' n (runP n L P m)) ∧ (chE n L c P m ≠ 0 → X = zC) ∧ Below w.heap.size w w'
set_option maxRecDepth 20000 in
set_option maxHeartbeats 2000000 in
theorem Change_any (c : Cf) (s : Value) (n : Nat) (P : Nat → Pc) (lv : Value) (m : Nat) (L : Nat → Cd.Cm) (w : World) (hx : ∀ i, c.x i < 256) (hs : QIn w s n P) (hn : n ≤ 20) (hl : LIn w lv m L) (hL : ∀ i, i < m → Cd.Rt (L i)) (hm : m ≤ 1000) :
    Calls Tryz.prog 9 #[.agg (c.cells s), lv] w (CEnd n L c P m w) := by
  obtain ⟨a, cp, rfl, h1⟩ := hl
  have H1 := Lib.hid h1
  have HL := Lib.hid hL
  have C0 := Lib.hid ((var_new w (c.cells s) 28).alloc (.cells zC 28))
  have Z0 := Lib.hid (show VarAt ((w.alloc (.cells (c.cells s) 28)).alloc (.cells zC 28)) (w.heap.size + 1) zC 28 by
    have := var_new (w.alloc (.cells (c.cells s) 28)) zC 28
    rwa [alloc_size] at this)
  have HB := Lib.hid (show Below w.heap.size w ((w.alloc (.cells (c.cells s) 28)).alloc (.cells zC 28)) from ((Below.refl w.heap.size w).alloc (Nat.le_refl _) _).alloc (by rw [alloc_size]; omega) _)
  have HW := Lib.hid (show ((w.alloc (.cells (c.cells s) 28)).alloc (.cells zC 28)).heap.size = w.heap.size + 2 by rw [alloc_size, alloc_size])
  have c1 := Lib.hid (copy_gs c s n P _ (hs.below HB.out) hn)
  have CL := Lib.hid (Cf.size c s)
  have HX := Lib.hid hx
  have hE : Hid (CEnd n L c P m w = CEnd n L c P m w) := Lib.hid rfl
  clear h1 hL hs hx hE
  generalize hQ : CEnd n L c P m w = Q
  have HQ := Lib.hid hQ
  clear hQ
  generalize hC : c.cells s = C at *
  clear hC
  go_enter Tryz.func9, Tryz.ntmps9
  go_wp2_with (with_reducible refine stopL 28 _ rfl ?_)
  refine Lib.hid ?_
  refine wpList_load_whole uC rfl sC rfl _ rfl rfl (range_whole C0.out) CL.out ?_
  go_wp2_with fail
  generalize (w.alloc (.cells C 28)).alloc (.cells zC 28) = W at *
  refine c1.out.mono ?_
  rintro e w1 ⟨s', rfl, hG, hb⟩
  rw [HW.out] at hG hb
  have hvb : w.heap.size + 2 ≤ w1.heap.size := by have := hb.size; rw [HW.out] at this; exact this
  have Z1 := Lib.hid (Z0.out.below hb (by omega))
  have HB1 := Lib.hid (HB.out.trans (hb.mono (by omega)))
  have HN := Lib.hid hG.off
  have H14 := Lib.hid hG.one
  have HG := Lib.hid hG
  clear hb hG Z0 HB c1 C0 HW
  go_wp2_with (with_reducible refine stopS 28 _ _ rfl ?_)
  refine Lib.hid ?_
  refine wpList_store_whole sC rfl _ _ rfl rfl rfl (var_new w1 zC 28) (Cf.one c H14.out) (Cf.size c s') (by simp) ?_
  intro w5 hv5 hb5 ho5 _
  rw [putL_all _ _ (by rw [Cf.size]; rfl)] at hv5
  have V5 := Lib.hid hv5
  have Z5 := Lib.hid (ho5 _ _ _ (show w.heap.size + 1 ≠ w1.heap.size by omega) (Z1.out.alloc (.cells zC 28)))
  have hb6 := hb5 w1.heap.size w1 (Nat.le_refl _) (box_below w1 _)
  have HB5 := Lib.hid (HB1.out.trans (hb6.mono HB1.out.size))
  have HG5 := Lib.hid (HG.out.below hb6 (Nat.le_refl _))
  clear hv5 hb5 ho5 hb6 Z1 HB1 HG
  go_wp2_with fail
  go_loopw [15] (fun i wr => ∃ k : Nat, k ≤ m ∧ i = .int .i64 k ∧ Below w.heap.size w wr ∧ VarAt wr (w.heap.size + 1) zC 28 ∧ VarAt wr w1.heap.size ((runC n L c k).cells s') 28 ∧ GS wr (w.heap.size + 2) s' n (runP n L P k) ∧ runE n L k = 0) (fun i _ => m - (intOf i).toNat)
  case atStart => exact ⟨0, Nat.zero_le _, rfl, HB5.out, Z5.out, V5.out, HG5.out, rfl⟩
  case round =>
    obtain ⟨k, hk, rfl, hb, hz, hv, hg, he⟩ := hrel
    have HB := Lib.hid hb
    have HZ := Lib.hid hz
    have HV := Lib.hid hv
    have HG := Lib.hid hg
    have HE := Lib.hid he
    clear hb hz hv hg he HB5 Z5 V5 HG5 H14
    by_cases hlt : k < m
    · obtain ⟨b, o, rfl, hc⟩ := H1.out (by omega)
      have hix := idx29 b o m cp k hlt
      have hbl : b < w.heap.size := block_lt_of_cell (hc 0 (by omega) 0 (by omega))
      have RL := Lib.hid (show wr.rangeAt b (o + k * 10) (L k).cells.toList from range_cm fun q hq => by rw [HB.out.cell (by exact hbl)]; exact hc k hlt q hq)
      have hR := HL.out k hlt
      have CH := Lib.hid (fun w' (hv : VarAt w' w1.heap.size ((runC n L c k).cells s') 28) (hs : GS w' (w.heap.size + 2) s' n (runP n L P k)) => change_any (L k) hR _ s' n _ w1.heap.size (w.heap.size + 2) w' hv hs hvb HN.out hn)
      have hEk : Hid (runE n L (k + 1) = stE n (L k)) := Lib.hid (by rw [runE, if_pos HE.out])
      have hCk : Hid (runC n L c (k + 1) = if stE n (L k) = 0 then stC (L k) (runC n L c k) else runC n L c k) := Lib.hid (by rw [runC]; simp only [HE.out, true_and])
      have hPk : Hid (runP n L P (k + 1) = if stE n (L k) = 0 then stQ (L k) (runP n L P k) else runP n L P k) := Lib.hid (by rw [runP]; simp only [HE.out, true_and])
      clear hc hbl hR HE
      generalize stE n (L k) = E at *
      generalize hX : (L k).cells = X at *
      have XS := Lib.hid (show X.size = 10 by rw [← hX]; rfl)
      have XO := Lib.hid (show X.all (·.oneCell') = true by rw [← hX]; exact Cd.Cm.one (L k))
      clear hX
      go_wp2_with (with_reducible refine stopL 33 _ rfl ?_)
      refine Lib.hid ?_
      refine wpList_load_whole Cd.u26 rfl Cd.s26 rfl _ rfl rfl RL.out XS.out ?_
      go_wp2_with (with_reducible refine stopS 33 _ _ rfl ?_)
      refine Lib.hid ?_
      refine wpList_store_whole Cd.s26 rfl _ _ rfl rfl rfl (var_new wr _ 33) XO.out XS.out (by simp) ?_
      intro w6 hv6 hb6 ho6 _
      rw [putL_all _ _ (by rw [XS.out]; rfl)] at hv6
      have V6 := Lib.hid hv6
      have hb7 := hb6 wr.heap.size wr (Nat.le_refl _) (box_below wr _)
      have HZ6 := Lib.hid (HZ.out.below hb7 HZ.out.lt)
      have HV6 := Lib.hid (HV.out.below hb7 HV.out.lt)
      have HG6 := Lib.hid (HG.out.below hb7 (Nat.le_refl _))
      have HB6 := Lib.hid (HB.out.trans (hb7.mono HB.out.size))
      clear hv6 hb6 ho6 hb7 HZ HV HG HB RL hix
      go_wp2_with (with_reducible refine stopL 33 _ rfl ?_)
      refine Lib.hid ?_
      refine wpList_load_whole Cd.u26 rfl Cd.s26 rfl _ rfl rfl (range_whole V6.out) XS.out ?_
      go_wp2_with fail
      refine (CH.out _ HV6.out HG6.out).mono ?_
      rintro e w8 ⟨rfl, hv8, hg8, hb8⟩
      rw [← hCk.out] at hv8
      rw [← hPk.out] at hg8
      have HV8 := Lib.hid hv8
      have HG8 := Lib.hid hg8
      have HB8 := Lib.hid (HB6.out.trans (hb8.mono (by omega)))
      have HZ8 := Lib.hid (HZ6.out.below hb8 (by omega))
      clear hv8 hg8 hb8 HV6 HG6 HB6 HZ6 CH V6 hCk hPk
      by_cases h0 : E = 0
      · subst h0
        go_wp2_with fail
        exact ⟨⟨k + 1, by omega, by go_num, HB8.out, HZ8.out, HV8.out, HG8.out, hEk.out⟩, by simp [intOf]; omega⟩
      · go_wp2_with (with_reducible refine stopS 28 _ _ rfl ?_)
        refine Lib.hid ?_
        refine wpList_store_whole sC rfl _ _ rfl rfl rfl HZ8.out (xs := zC) (by simp [Value.oneCell']) rfl (by simp) ?_
        intro w9 hv9 hb9 _ _
        rw [putL_all _ _ rfl] at hv9
        have V9 := Lib.hid hv9
        have B9 := Lib.hid (hb9 w.heap.size w (by omega) HB8.out)
        clear hv9 hb9 HV8 HG8 HB8 HZ8
        have HC := Lib.hid (show chE n L c P m = E by unfold chE; rw [runE_bad (by rw [hEk.out]; exact h0) m (show k + 1 ≤ m by omega), hEk.out, if_neg h0])
        go_wp2_with (with_reducible refine stopE ?_)
        refine Lib.hid ?_
        obtain ⟨r0, r1, r2, r3, r4, r5, r6, r7, r8, r9, r10, r11, r12, r13, r14⟩ := (show VarAt w9 (w.heap.size + 1) (zCf.cells (.slice none 0 0)) 28 from V9.out).box
        exact bodyPost_ret (v := .tuple #[.agg (zCf.cells (.slice none 0 0)), .int .i64 E]) (by simp [results, Tryz.results9, go_sem, r0, r1, r2, r3, r4, r5, r6, r7, r8, r9, r10, r11, r12, r13, r14, Cf.cells]) rfl (by rw [← HQ.out]; exact ⟨zC, by rw [HC.out]; rfl, fun h => absurd (HC.out.symm.trans h) h0, fun _ => rfl, B9.out⟩)
    · have hkm : k = m := by omega
      subst hkm
      have hc := checkC_any (runC n L c k) s' n (runP n L P k) wr (by rw [runC_x]; exact HX.out) HG.out.qin (by omega)
      have HC := Lib.hid (show chE n L c P k = cfgE (runC n L c k) (runP n L P k) n by unfold chE; rw [if_pos HE.out])
      have H14 := Lib.hid HG.out.one
      clear HE H1 HL
      generalize cfgE (runC n L c k) (runP n L P k) n = E at *
      generalize hc0 : runC n L c k = d at *
      have D0 := Lib.hid hc0
      clear hc0
      go_wp2_with (with_reducible refine stopL 28 _ rfl ?_)
      refine Lib.hid ?_
      refine wpList_load_whole uC rfl sC rfl _ rfl rfl (range_whole HV.out) (Cf.size d s') ?_
      go_wp2_with fail
      refine hc.mono ?_
      rintro e w8 ⟨rfl, hb8⟩
      have HV8 := Lib.hid (HV.out.below hb8 HV.out.lt)
      have HZ8 := Lib.hid (HZ.out.below hb8 HZ.out.lt)
      have HG8 := Lib.hid (HG.out.below hb8 (Nat.le_refl _))
      have HB8 := Lib.hid (HB.out.trans (hb8.mono HB.out.size))
      clear hb8 hc HV HZ HG HB
      by_cases h0 : E = 0
      · subst h0
        go_wp2_with (with_reducible refine stopL 28 _ rfl ?_)
        refine Lib.hid ?_
        refine wpList_load_whole uC rfl sC rfl _ rfl rfl (range_whole HV8.out) (Cf.size d s') ?_
        refine wpList_store_whole sC rfl _ _ rfl rfl rfl HZ8.out (Cf.one d H14.out) (Cf.size d s') (by simp) ?_
        intro w9 hv9 hb9 ho9 _
        rw [putL_all _ _ (by rw [Cf.size]; rfl)] at hv9
        have V9 := Lib.hid hv9
        have B9 := Lib.hid (hb9 w.heap.size w (by omega) HB8.out)
        have G9 := Lib.hid (show GS w9 w.heap.size s' n (runP n L P k) from by
          rcases HG8.out with h | ⟨g, c, e, hg, A, hA, h1, h2⟩
          · exact .inl h
          · exact .inr ⟨g, c, e, by omega, A, ho9 _ _ _ (by omega) hA, h1, h2⟩)
        clear hv9 hb9 ho9 HV8 HZ8 HG8 HB8
        go_wp2_with (with_reducible refine stopE ?_)
        refine Lib.hid ?_
        obtain ⟨r0, r1, r2, r3, r4, r5, r6, r7, r8, r9, r10, r11, r12, r13, r14⟩ := V9.out.box
        exact bodyPost_ret (v := .tuple #[.agg (d.cells s'), .int .i64 0]) (by simp [results, Tryz.results9, go_sem, r0, r1, r2, r3, r4, r5, r6, r7, r8, r9, r10, r11, r12, r13, r14, Cf.cells]) rfl (by rw [← HQ.out]; exact ⟨_, by rw [HC.out], fun _ => ⟨s', by rw [D0.out], G9.out⟩, fun h => absurd HC.out h, B9.out⟩)
      · go_wp2_with (with_reducible refine stopS 28 _ _ rfl ?_)
        refine Lib.hid ?_
        refine wpList_store_whole sC rfl _ _ rfl rfl rfl HZ8.out (xs := zC) (by simp [Value.oneCell']) rfl (by simp) ?_
        intro w9 hv9 hb9 _ _
        rw [putL_all _ _ rfl] at hv9
        have V9 := Lib.hid hv9
        have B9 := Lib.hid (hb9 w.heap.size w (by omega) HB8.out)
        clear hv9 hb9 HV8 HG8 HB8 HZ8
        go_wp2_with (with_reducible refine stopE ?_)
        refine Lib.hid ?_
        obtain ⟨r0, r1, r2, r3, r4, r5, r6, r7, r8, r9, r10, r11, r12, r13, r14⟩ := (show VarAt w9 (w.heap.size + 1) (zCf.cells (.slice none 0 0)) 28 from V9.out).box
        exact bodyPost_ret (v := .tuple #[.agg (zCf.cells (.slice none 0 0)), .int .i64 E]) (by simp [results, Tryz.results9, go_sem, r0, r1, r2, r3, r4, r5, r6, r7, r8, r9, r10, r11, r12, r13, r14, Cf.cells]) rfl (by rw [← HQ.out]; exact ⟨zC, by rw [HC.out]; rfl, fun h => absurd (HC.out.symm.trans h) h0, fun _ => rfl, B9.out⟩)
end Go.Proofs.YtlmdpaemhjcmbaaGreatDoor
