/- Contract of the reference's Update. -/
import Derived.Test.YtidgdanhnpfpmaaJa
import Derived.Test.YtidgdanhnpfpmaaCb
import Derived.Test.YtidgdanhnpfpmaaRb
import Derived.Test.YtidgdanhnpfpmaaH
namespace Go.Proofs.Ytidgdanhnpfpmaa
open Go.RowKit Go.Sort

/-- A port's vector behind its link is better than what a bridge knows of the root. -/
theorem put_age {B : Bd} {s : Value} {bb : Nat} {w : World} (x : Int) (h : VarAt w bb (B.cells s) 34) : VarAt (w.setCell ⟨bb, 12, none⟩ (.int .i64 x)) bb (({ B with ra := x } : Bd).cells s) 34 := h.set 12 _
theorem rootB_put (B : Bd) (X : Nat → Pd) (R : Int) : ∀ (r c b p q : Nat) (a m h d : Int), (rootB B X R).put r c b p q a m h d = B.put r c b p q a m h d := by
  intro r c b p q a m h d; unfold rootB; split <;> rfl
theorem stopX {a : Act} {w : World} {Q : Exit → Act → World → Prop} (h : Hid (Code.wp Try.prog (Code.skip) Q a w)) : Code.wp Try.prog Code.skip Q a w := h
theorem idx32a (pb n cap k : Nat) (h : k < n) (w : World) : (Instr.indexAt 32 (.slice (some ⟨pb, 0, none⟩) n cap) (.int .i64 k)).run Try.prog w = .ok (.pointer (some ⟨pb, k * 90, none⟩)) w := by
  go_simp
def ltD (x : Pd) (D : Bd) : Bool := ltV x.vr (sat x.vc x.cost : Nat) x.vb x.vp D.r D.c D.b D.p
def eqD (x : Pd) (D : Bd) : Bool := eqV x.vr (sat x.vc x.cost : Nat) x.vb x.vp D.r D.c D.b D.p
theorem rootB_at (B : Bd) (X : Nat → Pd) (j : Nat) : rootB B X (j : Int) = B.put (X j).vr (sat (X j).vc (X j).cost) (X j).vb (X j).vp (X j).id (wrap64 ((X j).a + 1)) (X j).m (X j).h (X j).d := by
  unfold rootB; rw [if_neg (by omega)]; rfl
theorem rootB_none (B : Bd) (X : Nat → Pd) : rootB B X (-1) = B.own := if_pos rfl
section
variable {B : Bd} {X : Nat → Pd} {k : Nat}
theorem put_slice {B : Bd} {s : Value} {bb : Nat} {w : World} (s' : Value) (h : VarAt w bb (B.cells s) 34) : VarAt (w.setCell ⟨bb, 17, none⟩ s') bb (B.cells s') 34 := h.set 17 s'
theorem IsRoot.cases {id : Nat} {r : Int} (h : IsRoot X id k r) : r = -1 ∨ ∃ j : Nat, r = j ∧ j < k := by
  rcases h with ⟨rfl, _⟩ | ⟨j, rfl, hj, _⟩
  · exact .inl rfl
  · exact .inr ⟨j, rfl, hj⟩
theorem root_take {r : Int} (h : IsRoot X B.id k r) (hc : cand X B.id k = true) (hL : ltD (X k) (rootB B X r) = true) : IsRoot X B.id (k + 1) k := by
  rcases h.cases with rfl | ⟨j, rfl, _⟩
  · rw [rootB_none] at hL
    exact h.first hc ((ltV_lx _ _ _ _ _ _ _ _).1 hL)
  · rw [rootB_at] at hL
    exact h.better hc ((ltV_lx _ _ _ _ _ _ _ _).1 hL)
theorem root_less {j : Nat} (h : IsRoot X B.id k j) (hc : cand X B.id k = true) (hE : eqD (X k) (rootB B X j) = true) (hq : (X k).id < (X j).id) : IsRoot X B.id (k + 1) k := by
  rw [rootB_at] at hE
  exact h.less hc ((eqV_iff _ _ _ _ _ _ _ _).1 hE) hq
theorem root_none (h : IsRoot X B.id k (-1)) (hL : ltD (X k) (rootB B X (-1)) = false) : IsRoot X B.id (k + 1) (-1) := by
  rw [rootB_none] at hL
  exact h.none (ltV_not hL)
theorem root_keep {j : Nat} (h : IsRoot X B.id k j) (hL : ltD (X k) (rootB B X j) = false) (hE : eqD (X k) (rootB B X j) = false ∨ ¬ (X k).id < (X j).id) : IsRoot X B.id (k + 1) j := by
  rw [rootB_at] at hL hE
  refine h.keep (ltV_not hL) ?_
  rintro ⟨h1, h2⟩
  rcases hE with hE | hE
  · have := (eqV_iff _ _ _ _ _ _ _ _).2 h1
    unfold eqD at hE
    rw [hE] at this; cases this
  · exact hE h2
end
set_option maxRecDepth 20000 in
set_option maxHeartbeats 4000000 in
theorem refUpdate_any (B : Bd) (qb n c : Nat) (A0 : Array Value) (XS : Nat → Array Value) (X : Nat → Pd) (w : World) (hq : VarAt w qb A0 50) (hs0 : ∀ i, i < n → Sub A0 (i * 90) (XS i)) (hps : ∀ i, i < n → (X i).In (XS i) ∧ Typed (XS i)) (hn : n ≤ 20) (hid : B.id < 18446744073709551616) :
    Calls Try.prog 14 #[.agg (B.cells (.slice (some ⟨qb, 0, none⟩) n c))] w fun e w' => ∃ pb cap, e = .returned (.agg ((rootB B X (rootI X B.id n)).cells (.slice (some ⟨pb, 0, none⟩) n cap))) ∧ Kept3 w w' pb n (fun i => newP (rootB B X (rootI X B.id n)) (X i) ((i : Int) == rootI X B.id n) (XS i)) ∧ Below w.heap.size w w' := by
  have hx : ∀ i, i < n → (XS i).size = 90 := fun i hi => (hps i hi).1.size
  have hlen := pcs_len hx
  have hone : ∀ u ∈ pcs XS n, u.oneCell' = true := by
    intro u hu
    simp only [pcs, List.mem_flatMap, List.mem_range] at hu
    obtain ⟨i, hi, hm⟩ := hu
    exact (Array.all_eq_true_iff_forall_mem.1 (hps i hi).2.one) u (by simpa using hm)
  have h1 := Lib.hid (show 0 < n → ∃ b o, some (⟨qb, 0, none⟩ : Addr) = some ⟨b, o, none⟩ ∧ ∀ i, i < n → ∀ k, k < 90 → w.cell? ⟨b, o + i * 90 + k, none⟩ = (XS i)[k]? from fun _ => ⟨qb, 0, rfl, fun i hi k hk => by rw [hq.cell, Nat.zero_add]; exact hs0 i hi k hk⟩)
  have hv1 := Lib.hid (((var_new w (B.cells (.slice (some ⟨qb, 0, none⟩) n c)) 34).alloc (.cells ((⟨0, 0, 0, 0, 0, 0, false, 0, 0, 0, 0, 0, 0, 0, 0, 0, 0⟩ : Bd).cells (.slice none 0 0)) 34)).alloc (.cells #[] 50))
  have c17 : (((w.alloc (.cells (B.cells (.slice (some ⟨qb, 0, none⟩) n c)) 34)).alloc (.cells ((⟨0, 0, 0, 0, 0, 0, false, 0, 0, 0, 0, 0, 0, 0, 0, 0, 0⟩ : Bd).cells (.slice none 0 0)) 34)).alloc (.cells #[] 50)).cell? ⟨w.heap.size, 17, none⟩ = some (.slice (some ⟨qb, 0, none⟩) n c) := hv1.out.cell 17
  have own0 := Lib.hid (show (((w.alloc (.cells (B.cells (.slice (some ⟨qb, 0, none⟩) n c)) 34)).alloc (.cells ((⟨0, 0, 0, 0, 0, 0, false, 0, 0, 0, 0, 0, 0, 0, 0, 0, 0⟩ : Bd).cells (.slice none 0 0)) 34)).alloc (.cells #[] 50)).ownsRow w.heap.size 50 90 (.slice (some ⟨w.heap.size + 1 + 1, 0, none⟩) 0 0) 0 [] by
    have := World.ownsRow_made (base := w.heap.size) (e := 50) (size := 90) ((w.alloc (.cells (B.cells (.slice (some ⟨qb, 0, none⟩) n c)) 34)).alloc (.cells ((⟨0, 0, 0, 0, 0, 0, false, 0, 0, 0, 0, 0, 0, 0, 0, 0, 0⟩ : Bd).cells (.slice none 0 0)) 34)) #[] 0 (by rw [alloc_size, alloc_size]; omega) (by unfold maxLen; omega) rfl
    rwa [alloc_size, alloc_size] at this)
  have hv2 := Lib.hid (show VarAt (((w.alloc (.cells (B.cells (.slice (some ⟨qb, 0, none⟩) n c)) 34)).alloc (.cells ((⟨0, 0, 0, 0, 0, 0, false, 0, 0, 0, 0, 0, 0, 0, 0, 0, 0⟩ : Bd).cells (.slice none 0 0)) 34)).alloc (.cells #[] 50)) (w.heap.size + 1) ((⟨0, 0, 0, 0, 0, 0, false, 0, 0, 0, 0, 0, 0, 0, 0, 0, 0⟩ : Bd).cells (.slice none 0 0)) 34 by
    have := (var_new (w.alloc (.cells (B.cells (.slice (some ⟨qb, 0, none⟩) n c)) 34)) ((⟨0, 0, 0, 0, 0, 0, false, 0, 0, 0, 0, 0, 0, 0, 0, 0, 0⟩ : Bd).cells (.slice none 0 0)) 34).alloc (.cells #[] 50)
    rwa [alloc_size] at this)
  have hBB := Lib.hid (show Below w.heap.size w (((w.alloc (.cells (B.cells (.slice (some ⟨qb, 0, none⟩) n c)) 34)).alloc (.cells ((⟨0, 0, 0, 0, 0, 0, false, 0, 0, 0, 0, 0, 0, 0, 0, 0, 0⟩ : Bd).cells (.slice none 0 0)) 34)).alloc (.cells #[] 50)) from (((Below.refl w.heap.size w).alloc (Nat.le_refl _) _).alloc (by rw [alloc_size]; omega) _).alloc (by rw [alloc_size, alloc_size]; omega) _)
  obtain ⟨ia, hia⟩ : ∃ i, Hid (Try.prog.info? 50 = some i ∧ i.zero = some (.agg z48) ∧ i.size = 90 ∧ i.bytes = 464) := (info_parts info48').imp fun _ h => Lib.hid h
  have z := Lib.hid zero48
  have zs := Lib.hid z48_size
  generalize z48 = Z at *
  have hr := rootI_is X B.id n
  generalize rootI X B.id n = RR at *
  have HRR := Lib.hid hr
  have HX := Lib.hid hx
  have HP := Lib.hid hps
  have HL := Lib.hid hlen
  have HO := Lib.hid hone
  have HID := Lib.hid hid
  clear hx hps hlen hone hq hs0 hid hr
  go_enter Try.func14, Try.ntmps14
  go_wp2_with (first | (at_builtin; refine wpList_append_own _ rfl _ _ 32 rfl w.heap.size 50 ia (.agg Z) 90 464 und32 hia.out.1 hia.out.2.1 hia.out.2.2.1 hia.out.2.2.2 zs.out (by decide) _ 0 [] rfl own0.out ⟨qb, 0, none⟩ n c (pcs XS n) rfl HL.out ?c1 HO.out ?c3 ?c4 ?c5 ?_))
  case c1 => exact news_of HX.out h1.out hBB.out
  case c3 => unfold maxLen; omega
  case c4 => omega
  case c5 => simp; omega
  intro v' w3 ho hg hnil
  obtain ⟨pb, cap, A, rfl, hpb, hvA, hsA, hsub⟩ := made_ports ho hnil HX.out
  have v1 := var_kept hv1.out own0.out (by decide) hg
  have v2 := var_kept hv2.out own0.out (by decide) hg
  have hB3 := Lib.hid (hBB.out.grown hg hBB.out.size (fun k hk => (own0.out.lt k hk).1))
  have V1 := Lib.hid v1
  have V2 := Lib.hid v2
  have VA := Lib.hid hvA
  have K3 := Lib.hid (And.intro hpb (And.intro hsA hsub))
  have hne : pb ≠ w.heap.size := var_ne hvA v1 (by decide)
  have hne2 : pb ≠ w.heap.size + 1 := var_ne hvA v2 (by decide)
  clear ho hg hnil v1 v2 hvA hpb hsA hsub c17 hv1 hv2 hBB own0 h1 HL HO
  have d0 : w3.cell? ⟨w.heap.size, 0, none⟩ = some (.int .u64 B.id) := V1.out.cell 0
  have d1 : w3.cell? ⟨w.heap.size, 1, none⟩ = some (.int .i64 B.a) := V1.out.cell 1
  have d2 : w3.cell? ⟨w.heap.size, 2, none⟩ = some (.int .i64 B.m) := V1.out.cell 2
  have d3 : w3.cell? ⟨w.heap.size, 3, none⟩ = some (.int .i64 B.h) := V1.out.cell 3
  have d4 : w3.cell? ⟨w.heap.size, 4, none⟩ = some (.int .i64 B.d) := V1.out.cell 4
  have f7 := V1.out.some (k := 7) (by simp)
  have f8 := V1.out.some (k := 8) (by simp)
  have f9 := V1.out.some (k := 9) (by simp)
  have f10 := V1.out.some (k := 10) (by simp)
  have f11 := V1.out.some (k := 11) (by simp)
  have f12 := V1.out.some (k := 12) (by simp)
  have f13 := V1.out.some (k := 13) (by simp)
  have f14 := V1.out.some (k := 14) (by simp)
  have f15 := V1.out.some (k := 15) (by simp)
  have f17 := V1.out.some (k := 17) (by simp)
  have fz := V1.out.frozen
  go_wp2_with fail
  have V3 : VarAt (((((((((((w3).setCell ⟨w.heap.size, 17, none⟩ (.slice (some ⟨pb, 0, none⟩) n cap)).setCell ⟨w.heap.size, 7, none⟩ (.int .u64 B.id)).setCell ⟨w.heap.size, 8, none⟩ (.int .u32 0)).setCell ⟨w.heap.size, 9, none⟩ (.int .u64 B.id)).setCell ⟨w.heap.size, 10, none⟩ (.int .u16 0)).setCell ⟨w.heap.size, 11, none⟩ (.int .u16 0)).setCell ⟨w.heap.size, 12, none⟩ (.int .i64 B.a)).setCell ⟨w.heap.size, 13, none⟩ (.int .i64 B.m)).setCell ⟨w.heap.size, 14, none⟩ (.int .i64 B.h)).setCell ⟨w.heap.size, 15, none⟩ (.int .i64 B.d)) w.heap.size ((rootB B X (-1)).cells (.slice (some ⟨pb, 0, none⟩) n cap)) 34 := by rw [rootB_none]; exact put_times B.a B.m B.h B.d (put_port 0 (put_root B.id 0 B.id 0 (put_slice (.slice (some ⟨pb, 0, none⟩) n cap) V1.out)))
  have VA3 := ((((((((((VA.out.set_other (p := ⟨w.heap.size, 17, none⟩) hne (.slice (some ⟨pb, 0, none⟩) n cap)).set_other (p := ⟨w.heap.size, 7, none⟩) hne (.int .u64 B.id)).set_other (p := ⟨w.heap.size, 8, none⟩) hne (.int .u32 0)).set_other (p := ⟨w.heap.size, 9, none⟩) hne (.int .u64 B.id)).set_other (p := ⟨w.heap.size, 10, none⟩) hne (.int .u16 0)).set_other (p := ⟨w.heap.size, 11, none⟩) hne (.int .u16 0)).set_other (p := ⟨w.heap.size, 12, none⟩) hne (.int .i64 B.a)).set_other (p := ⟨w.heap.size, 13, none⟩) hne (.int .i64 B.m)).set_other (p := ⟨w.heap.size, 14, none⟩) hne (.int .i64 B.h)).set_other (p := ⟨w.heap.size, 15, none⟩) hne (.int .i64 B.d))
  have V23 := ((((((((((V2.out.set_other (p := ⟨w.heap.size, 17, none⟩) (show w.heap.size + 1 ≠ w.heap.size by omega) (.slice (some ⟨pb, 0, none⟩) n cap)).set_other (p := ⟨w.heap.size, 7, none⟩) (show w.heap.size + 1 ≠ w.heap.size by omega) (.int .u64 B.id)).set_other (p := ⟨w.heap.size, 8, none⟩) (show w.heap.size + 1 ≠ w.heap.size by omega) (.int .u32 0)).set_other (p := ⟨w.heap.size, 9, none⟩) (show w.heap.size + 1 ≠ w.heap.size by omega) (.int .u64 B.id)).set_other (p := ⟨w.heap.size, 10, none⟩) (show w.heap.size + 1 ≠ w.heap.size by omega) (.int .u16 0)).set_other (p := ⟨w.heap.size, 11, none⟩) (show w.heap.size + 1 ≠ w.heap.size by omega) (.int .u16 0)).set_other (p := ⟨w.heap.size, 12, none⟩) (show w.heap.size + 1 ≠ w.heap.size by omega) (.int .i64 B.a)).set_other (p := ⟨w.heap.size, 13, none⟩) (show w.heap.size + 1 ≠ w.heap.size by omega) (.int .i64 B.m)).set_other (p := ⟨w.heap.size, 14, none⟩) (show w.heap.size + 1 ≠ w.heap.size by omega) (.int .i64 B.h)).set_other (p := ⟨w.heap.size, 15, none⟩) (show w.heap.size + 1 ≠ w.heap.size by omega) (.int .i64 B.d))
  have B3 := ((((((((((hB3.out.setCell (p := ⟨w.heap.size, 17, none⟩) (Nat.le_refl _) (.slice (some ⟨pb, 0, none⟩) n cap)).setCell (p := ⟨w.heap.size, 7, none⟩) (Nat.le_refl _) (.int .u64 B.id)).setCell (p := ⟨w.heap.size, 8, none⟩) (Nat.le_refl _) (.int .u32 0)).setCell (p := ⟨w.heap.size, 9, none⟩) (Nat.le_refl _) (.int .u64 B.id)).setCell (p := ⟨w.heap.size, 10, none⟩) (Nat.le_refl _) (.int .u16 0)).setCell (p := ⟨w.heap.size, 11, none⟩) (Nat.le_refl _) (.int .u16 0)).setCell (p := ⟨w.heap.size, 12, none⟩) (Nat.le_refl _) (.int .i64 B.a)).setCell (p := ⟨w.heap.size, 13, none⟩) (Nat.le_refl _) (.int .i64 B.m)).setCell (p := ⟨w.heap.size, 14, none⟩) (Nat.le_refl _) (.int .i64 B.h)).setCell (p := ⟨w.heap.size, 15, none⟩) (Nat.le_refl _) (.int .i64 B.d))
  clear d0 d1 d2 d3 d4 f7 f8 f9 f10 f11 f12 f13 f14 f15 f17 fz V1 V2 VA hB3
  generalize ((((((((((w3).setCell ⟨w.heap.size, 17, none⟩ (.slice (some ⟨pb, 0, none⟩) n cap)).setCell ⟨w.heap.size, 7, none⟩ (.int .u64 B.id)).setCell ⟨w.heap.size, 8, none⟩ (.int .u32 0)).setCell ⟨w.heap.size, 9, none⟩ (.int .u64 B.id)).setCell ⟨w.heap.size, 10, none⟩ (.int .u16 0)).setCell ⟨w.heap.size, 11, none⟩ (.int .u16 0)).setCell ⟨w.heap.size, 12, none⟩ (.int .i64 B.a)).setCell ⟨w.heap.size, 13, none⟩ (.int .i64 B.m)).setCell ⟨w.heap.size, 14, none⟩ (.int .i64 B.h)).setCell ⟨w.heap.size, 15, none⟩ (.int .i64 B.d) = w4 at *
  have V4 := Lib.hid V3
  have VA4 := Lib.hid VA3
  have V24 := Lib.hid V23
  have B4 := Lib.hid B3
  clear V3 VA3 V23 B3
  go_loopw [4, 5] (fun r i wr => ∃ (k : Nat) (R : Int), k ≤ n ∧ r = .int .i64 R ∧ i = .int .i64 k ∧ IsRoot X B.id k R ∧ VarAt wr w.heap.size ((rootB B X R).cells (.slice (some ⟨pb, 0, none⟩) n cap)) 34 ∧ VarAt wr pb A 50 ∧ VarAt wr (w.heap.size + 1) ((⟨0, 0, 0, 0, 0, 0, false, 0, 0, 0, 0, 0, 0, 0, 0, 0, 0⟩ : Bd).cells (.slice none 0 0)) 34 ∧ Below w.heap.size w wr) (fun _ i _ => n - (intOf i).toNat)
  case atStart => exact ⟨0, -1, Nat.zero_le _, rfl, rfl, IsRoot.start, V4.out, VA4.out, V24.out, B4.out⟩
  case round =>
    obtain ⟨k, R, hk, rfl, rfl, hir, hvb, hva, hv2, hnx⟩ := hrel
    have HI := Lib.hid hir
    have VB := Lib.hid hvb
    have VA := Lib.hid hva
    have V2 := Lib.hid hv2
    have HN := Lib.hid hnx
    clear hir hvb hva hv2 hnx V4 VA4 V24 B4
    by_cases hlt : k < n
    · have hx := (HP.out k hlt).1
      have ht := (HP.out k hlt).2
      have HXk := Lib.hid hx
      have HTk := Lib.hid ht
      clear hx ht
      have i0 := idx32a pb n cap k hlt
      go_wp2_with (with_reducible refine stopL 50 _ rfl ?_)
      refine Lib.hid ?_
      refine wpList_load_whole uP rfl sP rfl _ rfl rfl (range_port VA.out (K3.out.2.2 k hlt) HXk.out.size) HXk.out.size ?_
      have zz := z.out
      go_wp2_with (with_reducible refine stopS 50 _ _ rfl ?_)
      refine Lib.hid ?_
      clear zz i0
      refine wpList_store_whole sP rfl _ _ rfl rfl rfl (var_new wr Z 50) HTk.out.one HXk.out.size (by rw [zs.out]; omega) ?_
      intro w5 hv5 hb5 ho5 hz5
      simp only [Act.put]
      rw [putL_all _ _ (by rw [zs.out, HXk.out.size])] at hv5
      have VP5 := Lib.hid hv5
      have hl1 := VB.out.lt
      have hl2 := VA.out.lt
      have hl3 := V2.out.lt
      have VB5 := Lib.hid (ho5 _ _ _ (by omega) (VB.out.alloc (.cells Z 50)))
      have VA5 := Lib.hid (ho5 _ _ _ (by omega) (VA.out.alloc (.cells Z 50)))
      have V25 := Lib.hid (ho5 _ _ _ (by omega) (V2.out.alloc (.cells Z 50)))
      have B5 := Lib.hid (hb5 w.heap.size w HN.out.size (HN.out.alloc HN.out.size (.cells Z 50)))
      clear hv5 hb5 ho5 hz5 hl1 hl2 hl3 VB VA V2 HN
      generalize wr.heap.size = pv at *
      go_wp2_with fail
      have a58 : w5.cell? ⟨pv, 58, none⟩ = some (.int .u64 (X k).vb) := by rw [VP5.out.cell]; exact HXk.out.vb
      have a0 : w5.cell? ⟨w.heap.size, 0, none⟩ = some (.int .u64 (rootB B X R).id) := VB5.out.cell 0
      rw [rootB_id] at a0
      have d0 := fun d os => cell_below (below_regrown w5 d os) a0
      have d58 := fun d os => cell_below (below_regrown w5 d os) a58
      have ex : ∀ d os, Calls Try.prog 21 #[.int .u64 (X k).vb] (grow (redrawn w5 d) os) fun e w'' => e = .returned (macV (ofN (X k).vb)) ∧ ∃ p : Regrown, w'' = grow (redrawn w5 p.d) p.os := fun d os => Calls.regrown_of (refBytes_any _ HXk.out.lvb _)
      have ey : ∀ d os, Calls Try.prog 21 #[.int .u64 B.id] (grow (redrawn w5 d) os) fun e w'' => e = .returned (macV (ofN B.id)) ∧ ∃ p : Regrown, w'' = grow (redrawn w5 p.d) p.os := fun d os => Calls.regrown_of (refBytes_any _ HID.out _)
      have mq := mac48 (X k).vb B.id
      have mg := g48
      clear a58 a0
      cases hE : eqM (X k).vb B.id
      · rw [hE] at mq
        refine wp_region_quiet_below (by kernel_rfl) (by kernel_rfl) ?_
        repeat (go_big_quiet_step (first | with_reducible exact ex _ _ | with_reducible exact ey _ _))
        refine wpQuiet_nil ?_
        intro _ hw'
        obtain ⟨⟨dq, osq⟩, hw''⟩ := hw'
        subst hw''
        have hbq := below_regrown w5 dq osq
        have VP6 := Lib.hid (VP5.out.below hbq VP5.out.lt)
        have VB6 := Lib.hid (VB5.out.below hbq VB5.out.lt)
        have VA6 := Lib.hid (VA5.out.below hbq VA5.out.lt)
        have V26 := Lib.hid (V25.out.below hbq V25.out.lt)
        have B6 := Lib.hid (B5.out.trans (hbq.mono B5.out.size))
        clear hbq mq mg d0 d58 ex ey VP5 VB5 VA5 V25 B5
        generalize grow (redrawn w5 dq) osq = w6 at *
        have c44 : w6.cell? ⟨pv, 44, none⟩ = some (.int .i64 (X k).info) := by rw [VP6.out.cell]; exact HXk.out.info
        by_cases h3 : (X k).info = 3
        · have HC := Lib.hid (show cand X B.id k = true by simp [cand, h3, hE])
          rw [h3] at c44
          clear hE h3
          have e1 : w6.cell? ⟨pv, 1, none⟩ = some (.int .u32 (X k).cost) := by rw [VP6.out.cell]; exact HXk.out.cost
          have e56 : w6.cell? ⟨pv, 56, none⟩ = some (.int .u64 (X k).vr) := by rw [VP6.out.cell]; exact HXk.out.vr
          have e57 : w6.cell? ⟨pv, 57, none⟩ = some (.int .u32 (X k).vc) := by rw [VP6.out.cell]; exact HXk.out.vc
          have e58 : w6.cell? ⟨pv, 58, none⟩ = some (.int .u64 (X k).vb) := by rw [VP6.out.cell]; exact HXk.out.vb
          have e59 : w6.cell? ⟨pv, 59, none⟩ = some (.int .u16 (X k).vp) := by rw [VP6.out.cell]; exact HXk.out.vp
          have kA := refAdd_any (X k).vc (X k).cost HXk.out.lvc HXk.out.lcost
          have g1 : (w6.alloc (.cells (vC (X k).vr (X k).vc (X k).vb (X k).vp) 30)).cell? ⟨pv, 1, none⟩ = some (.int .u32 (X k).cost) := cell_below (box_below w6 _) e1
          go_wp2_with fail
          refine (kA _).mono ?_
          rintro e w7 ⟨rfl, rfl⟩
          clear c44 e1 e56 e57 e58 e59 kA
          go_wp2_with fail
          have VV := Lib.hid (var_new w6 (vC (X k).vr (sat (X k).vc (X k).cost : Nat) (X k).vb (X k).vp) 30)
          have VP8 := Lib.hid (VP6.out.alloc (.cells (vC (X k).vr (sat (X k).vc (X k).cost : Nat) (X k).vb (X k).vp) 30))
          have VB8 := Lib.hid (VB6.out.alloc (.cells (vC (X k).vr (sat (X k).vc (X k).cost : Nat) (X k).vb (X k).vp) 30))
          have VA8 := Lib.hid (VA6.out.alloc (.cells (vC (X k).vr (sat (X k).vc (X k).cost : Nat) (X k).vb (X k).vp) 30))
          have V28 := Lib.hid (V26.out.alloc (.cells (vC (X k).vr (sat (X k).vc (X k).cost : Nat) (X k).vb (X k).vp) 30))
          have B8 := Lib.hid (B6.out.alloc B6.out.size (.cells (vC (X k).vr (sat (X k).vc (X k).cost : Nat) (X k).vb (X k).vp) 30))
          clear VP6 VB6 VA6 V26 B6 g1
          generalize w6.alloc (.cells (vC (X k).vr (sat (X k).vc (X k).cost : Nat) (X k).vb (X k).vp) 30) = w8 at *
          generalize w6.heap.size = vb at *
          have y0 := fun d os => (VV.out.grown d os).v.1
          have y1 := fun d os => (VV.out.grown d os).v.2.1
          have y2 := fun d os => (VV.out.grown d os).v.2.2.1
          have y3 := fun d os => (VV.out.grown d os).v.2.2.2
          have r7 : ∀ d os, (grow (redrawn w8 d) os).cell? ⟨w.heap.size, 7, none⟩ = some (.int .u64 (rootB B X R).r) := fun d os => (VB8.out.grown d os).cell 7
          have r8 : ∀ d os, (grow (redrawn w8 d) os).cell? ⟨w.heap.size, 8, none⟩ = some (.int .u32 (rootB B X R).c) := fun d os => (VB8.out.grown d os).cell 8
          have r9 : ∀ d os, (grow (redrawn w8 d) os).cell? ⟨w.heap.size, 9, none⟩ = some (.int .u64 (rootB B X R).b) := fun d os => (VB8.out.grown d os).cell 9
          have r10 : ∀ d os, (grow (redrawn w8 d) os).cell? ⟨w.heap.size, 10, none⟩ = some (.int .u16 (rootB B X R).p) := fun d os => (VB8.out.grown d os).cell 10
          have p0 : ∀ d os, (grow (redrawn w8 d) os).cell? ⟨pv, 0, none⟩ = some (.int .u16 (X k).id) := fun d os => by rw [(VP8.out.grown d os).cell]; exact HXk.out.id
          have hq : rootB B X R = rootB B X R := rfl
          have kL := less_any (X k).vr (sat (X k).vc (X k).cost : Nat) (X k).vb (X k).vp (rootB B X R).r (rootB B X R).c (rootB B X R).b (rootB B X R).p
          have kE := v_eql (X k).vr (sat (X k).vc (X k).cost : Nat) (X k).vb (X k).vp (rootB B X R).r (rootB B X R).c (rootB B X R).b (rootB B X R).p
          have gE := g28
          clear hq
          have HDD := Lib.hid (rootB_put B X R)
          cases hL : ltD (X k) (rootB B X R)
          · have hL' : ltV (X k).vr (sat (X k).vc (X k).cost : Nat) (X k).vb (X k).vp (rootB B X R).r (rootB B X R).c (rootB B X R).b (rootB B X R).p = false := hL
            rw [hL'] at kL
            clear hL'
            rcases HI.out.cases with rfl | ⟨j, rfl, hjk⟩
            · have HNEW := Lib.hid (root_none HI.out hL)
              clear hL
              have cL : ∀ d os, Calls Try.prog 23 #[vV (X k).vr (sat (X k).vc (X k).cost : Nat) (X k).vb (X k).vp, vV (rootB B X (-1)).r (rootB B X (-1)).c (rootB B X (-1)).b (rootB B X (-1)).p] (grow (redrawn w8 d) os) fun e w'' => e = .returned (.bool false) ∧ ∃ p : Regrown, w'' = grow (redrawn w8 p.d) p.os := fun d os => Calls.regrown_of (kL _)
              clear kL
              generalize hSC : sat (X k).vc (X k).cost = SC at *
              have HSAT := Lib.hid hSC
              clear hSC
              generalize (rootB B X (-1)).r = D1 at *
              generalize (rootB B X (-1)).c = D2 at *
              generalize (rootB B X (-1)).b = D3 at *
              generalize (rootB B X (-1)).p = D4 at *
              refine wp_region_quiet_below (by kernel_rfl) (by kernel_rfl) ?_
              repeat (go_big_quiet_step (first | with_reducible exact cL _ _))
              refine wpQuiet_nil ?_
              intro _ hw'
              obtain ⟨⟨dq, osq⟩, hw''⟩ := hw'
              subst hw''
              have hbq := below_regrown w8 dq osq
              have VV9 := Lib.hid (VV.out.below hbq VV.out.lt)
              have VP9 := Lib.hid (VP8.out.below hbq VP8.out.lt)
              have VB9 := Lib.hid (VB8.out.below hbq VB8.out.lt)
              have VA9 := Lib.hid (VA8.out.below hbq VA8.out.lt)
              have V29 := Lib.hid (V28.out.below hbq V28.out.lt)
              have B9 := Lib.hid (B8.out.trans (hbq.mono B8.out.size))
              clear hbq cL kE gE y0 y1 y2 y3 r7 r8 r9 r10 p0 VV VP8 VB8 VA8 V28 B8
              generalize grow (redrawn w8 dq) osq = w9 at *
              clear VV9 VP9
              go_wp2_with fail
              exact ⟨⟨k + 1, -1, by omega, rfl, by go_num, HNEW.out, VB9.out, VA9.out, V29.out, B9.out⟩, by simp [intOf]; omega⟩
            · have p1 : ∀ d os, (grow (redrawn w8 d) os).cell? ⟨pb, j * 90, none⟩ = some (.int .u16 (X j).id) := fun d os => by
                rw [(VA8.out.grown d os).cell]
                have := K3.out.2.2 j (by omega) 0 (by omega)
                rw [Nat.add_zero] at this
                rw [this]; exact (HP.out j (by omega)).1.id
              have i0 := idx32a pb n cap j (by omega)
              have hj0 : decide ((j : Int) < 0) = false := by simp
              have hj1 : decide ((0 : Int) ≤ (j : Int)) = true := by simp
              cases hEq : eqD (X k) (rootB B X j)
              · have hE' : eqV (X k).vr (sat (X k).vc (X k).cost : Nat) (X k).vb (X k).vp (rootB B X j).r (rootB B X j).c (rootB B X j).b (rootB B X j).p = false := hEq
                rw [hE'] at kE
                clear hE'
                have HNEW := Lib.hid (root_keep HI.out hL (.inl hEq))
                clear hL hEq
                have cL : ∀ d os, Calls Try.prog 23 #[vV (X k).vr (sat (X k).vc (X k).cost : Nat) (X k).vb (X k).vp, vV (rootB B X (j : Int)).r (rootB B X (j : Int)).c (rootB B X (j : Int)).b (rootB B X (j : Int)).p] (grow (redrawn w8 d) os) fun e w'' => e = .returned (.bool false) ∧ ∃ p : Regrown, w'' = grow (redrawn w8 p.d) p.os := fun d os => Calls.regrown_of (kL _)
                clear kL
                generalize hSC : sat (X k).vc (X k).cost = SC at *
                have HSAT := Lib.hid hSC
                clear hSC
                generalize (rootB B X (j : Int)).r = D1 at *
                generalize (rootB B X (j : Int)).c = D2 at *
                generalize (rootB B X (j : Int)).b = D3 at *
                generalize (rootB B X (j : Int)).p = D4 at *
                refine wp_region_quiet_below (by kernel_rfl) (by kernel_rfl) ?_
                repeat (go_big_quiet_step (first | with_reducible exact cL _ _))
                refine wpQuiet_nil ?_
                intro _ hw'
                obtain ⟨⟨dq, osq⟩, hw''⟩ := hw'
                subst hw''
                have hbq := below_regrown w8 dq osq
                have VV9 := Lib.hid (VV.out.below hbq VV.out.lt)
                have VP9 := Lib.hid (VP8.out.below hbq VP8.out.lt)
                have VB9 := Lib.hid (VB8.out.below hbq VB8.out.lt)
                have VA9 := Lib.hid (VA8.out.below hbq VA8.out.lt)
                have V29 := Lib.hid (V28.out.below hbq V28.out.lt)
                have B9 := Lib.hid (B8.out.trans (hbq.mono B8.out.size))
                clear hbq cL kE gE y0 y1 y2 y3 r7 r8 r9 r10 p0 VV VP8 VB8 VA8 V28 B8
                generalize grow (redrawn w8 dq) osq = w9 at *
                clear p1 i0
                clear VV9 VP9
                go_wp2_with fail
                exact ⟨⟨k + 1, j, by omega, rfl, by go_num, HNEW.out, VB9.out, VA9.out, V29.out, B9.out⟩, by simp [intOf]; omega⟩
              · have hE' : eqV (X k).vr (sat (X k).vc (X k).cost : Nat) (X k).vb (X k).vp (rootB B X j).r (rootB B X j).c (rootB B X j).b (rootB B X j).p = true := hEq
                rw [hE'] at kE
                clear hE'
                by_cases hidl : (X k).id < (X j).id
                · have HNEW := Lib.hid (root_less HI.out HC.out hEq hidl)
                  have hlt9 : decide (((X k).id : Int) < ((X j).id : Int)) = true := by simp; omega
                  clear hL hEq
                  have cL : ∀ d os, Calls Try.prog 23 #[vV (X k).vr (sat (X k).vc (X k).cost : Nat) (X k).vb (X k).vp, vV (rootB B X (j : Int)).r (rootB B X (j : Int)).c (rootB B X (j : Int)).b (rootB B X (j : Int)).p] (grow (redrawn w8 d) os) fun e w'' => e = .returned (.bool false) ∧ ∃ p : Regrown, w'' = grow (redrawn w8 p.d) p.os := fun d os => Calls.regrown_of (kL _)
                  clear kL
                  generalize hSC : sat (X k).vc (X k).cost = SC at *
                  have HSAT := Lib.hid hSC
                  clear hSC
                  generalize (rootB B X (j : Int)).r = D1 at *
                  generalize (rootB B X (j : Int)).c = D2 at *
                  generalize (rootB B X (j : Int)).b = D3 at *
                  generalize (rootB B X (j : Int)).p = D4 at *
                  refine wp_region_quiet_below (by kernel_rfl) (by kernel_rfl) ?_
                  repeat (go_big_quiet_step (first | with_reducible exact cL _ _))
                  refine wpQuiet_nil ?_
                  intro _ hw'
                  obtain ⟨⟨dq, osq⟩, hw''⟩ := hw'
                  subst hw''
                  have hbq := below_regrown w8 dq osq
                  have VV9 := Lib.hid (VV.out.below hbq VV.out.lt)
                  have VP9 := Lib.hid (VP8.out.below hbq VP8.out.lt)
                  have VB9 := Lib.hid (VB8.out.below hbq VB8.out.lt)
                  have VA9 := Lib.hid (VA8.out.below hbq VA8.out.lt)
                  have V29 := Lib.hid (V28.out.below hbq V28.out.lt)
                  have B9 := Lib.hid (B8.out.trans (hbq.mono B8.out.size))
                  clear hbq cL kE gE y0 y1 y2 y3 r7 r8 r9 r10 p0 VV VP8 VB8 VA8 V28 B8
                  generalize grow (redrawn w8 dq) osq = w9 at *
                  clear p1 i0
                  have t0 := VV9.out.v.1
                  have t1 := VV9.out.v.2.1
                  have t2 := VV9.out.v.2.2.1
                  have t3 := VV9.out.v.2.2.2
                  have s0 : w9.cell? ⟨pv, 0, none⟩ = some (.int .u16 (X k).id) := by rw [VP9.out.cell]; exact HXk.out.id
                  have s68 : w9.cell? ⟨pv, 68, none⟩ = some (.int .i64 (X k).a) := by rw [VP9.out.cell]; exact HXk.out.a
                  have s69 : w9.cell? ⟨pv, 69, none⟩ = some (.int .i64 (X k).m) := by rw [VP9.out.cell]; exact HXk.out.m
                  have s70 : w9.cell? ⟨pv, 70, none⟩ = some (.int .i64 (X k).h) := by rw [VP9.out.cell]; exact HXk.out.h
                  have s71 : w9.cell? ⟨pv, 71, none⟩ = some (.int .i64 (X k).d) := by rw [VP9.out.cell]; exact HXk.out.d
                  have hpv : pv ≠ w.heap.size := var_ne VP9.out VB9.out (by decide)
                  have hpv' : w.heap.size ≠ pv := Ne.symm hpv
                  have hvv : vb ≠ w.heap.size := var_ne VV9.out VB9.out (by decide)
                  have hvv' : w.heap.size ≠ vb := Ne.symm hvv
                  have f7 := VB9.out.some (k := 7) (by simp)
                  have f8 := VB9.out.some (k := 8) (by simp)
                  have f9 := VB9.out.some (k := 9) (by simp)
                  have f10 := VB9.out.some (k := 10) (by simp)
                  have f11 := VB9.out.some (k := 11) (by simp)
                  have f12 := VB9.out.some (k := 12) (by simp)
                  have f13 := VB9.out.some (k := 13) (by simp)
                  have f14 := VB9.out.some (k := 14) (by simp)
                  have f15 := VB9.out.some (k := 15) (by simp)
                  have fz := VB9.out.frozen
                  go_wp2_with fail
                  have VN := put_age (wrap64 ((X k).a + 1)) (put_times (X k).a (X k).m (X k).h (X k).d (put_port (X k).id (put_root (X k).vr SC (X k).vb (X k).vp VB9.out)))
                  have AN := ((((((((((VA9.out.set_other (p := ⟨w.heap.size, 7, none⟩) hne (.int .u64 (X k).vr)).set_other (p := ⟨w.heap.size, 8, none⟩) hne (.int .u32 SC)).set_other (p := ⟨w.heap.size, 9, none⟩) hne (.int .u64 (X k).vb)).set_other (p := ⟨w.heap.size, 10, none⟩) hne (.int .u16 (X k).vp)).set_other (p := ⟨w.heap.size, 11, none⟩) hne (.int .u16 (X k).id)).set_other (p := ⟨w.heap.size, 12, none⟩) hne (.int .i64 (X k).a)).set_other (p := ⟨w.heap.size, 13, none⟩) hne (.int .i64 (X k).m)).set_other (p := ⟨w.heap.size, 14, none⟩) hne (.int .i64 (X k).h)).set_other (p := ⟨w.heap.size, 15, none⟩) hne (.int .i64 (X k).d)).set_other (p := ⟨w.heap.size, 12, none⟩) hne (.int .i64 (wrap64 ((X k).a + 1))))
                  have N2 := ((((((((((V29.out.set_other (p := ⟨w.heap.size, 7, none⟩) (show w.heap.size + 1 ≠ w.heap.size by omega) (.int .u64 (X k).vr)).set_other (p := ⟨w.heap.size, 8, none⟩) (show w.heap.size + 1 ≠ w.heap.size by omega) (.int .u32 SC)).set_other (p := ⟨w.heap.size, 9, none⟩) (show w.heap.size + 1 ≠ w.heap.size by omega) (.int .u64 (X k).vb)).set_other (p := ⟨w.heap.size, 10, none⟩) (show w.heap.size + 1 ≠ w.heap.size by omega) (.int .u16 (X k).vp)).set_other (p := ⟨w.heap.size, 11, none⟩) (show w.heap.size + 1 ≠ w.heap.size by omega) (.int .u16 (X k).id)).set_other (p := ⟨w.heap.size, 12, none⟩) (show w.heap.size + 1 ≠ w.heap.size by omega) (.int .i64 (X k).a)).set_other (p := ⟨w.heap.size, 13, none⟩) (show w.heap.size + 1 ≠ w.heap.size by omega) (.int .i64 (X k).m)).set_other (p := ⟨w.heap.size, 14, none⟩) (show w.heap.size + 1 ≠ w.heap.size by omega) (.int .i64 (X k).h)).set_other (p := ⟨w.heap.size, 15, none⟩) (show w.heap.size + 1 ≠ w.heap.size by omega) (.int .i64 (X k).d)).set_other (p := ⟨w.heap.size, 12, none⟩) (show w.heap.size + 1 ≠ w.heap.size by omega) (.int .i64 (wrap64 ((X k).a + 1))))
                  have BN := ((((((((((B9.out.setCell (p := ⟨w.heap.size, 7, none⟩) (Nat.le_refl _) (.int .u64 (X k).vr)).setCell (p := ⟨w.heap.size, 8, none⟩) (Nat.le_refl _) (.int .u32 SC)).setCell (p := ⟨w.heap.size, 9, none⟩) (Nat.le_refl _) (.int .u64 (X k).vb)).setCell (p := ⟨w.heap.size, 10, none⟩) (Nat.le_refl _) (.int .u16 (X k).vp)).setCell (p := ⟨w.heap.size, 11, none⟩) (Nat.le_refl _) (.int .u16 (X k).id)).setCell (p := ⟨w.heap.size, 12, none⟩) (Nat.le_refl _) (.int .i64 (X k).a)).setCell (p := ⟨w.heap.size, 13, none⟩) (Nat.le_refl _) (.int .i64 (X k).m)).setCell (p := ⟨w.heap.size, 14, none⟩) (Nat.le_refl _) (.int .i64 (X k).h)).setCell (p := ⟨w.heap.size, 15, none⟩) (Nat.le_refl _) (.int .i64 (X k).d)).setCell (p := ⟨w.heap.size, 12, none⟩) (Nat.le_refl _) (.int .i64 (wrap64 ((X k).a + 1))))
                  clear t0 t1 t2 t3 s0 s68 s69 s70 s71 fz f7 f8 f9 f10 f11 f12 f13 f14 f15 VB9 VA9 V29 B9 VV9 VP9
                  generalize ((((((((((w9).setCell ⟨w.heap.size, 7, none⟩ (.int .u64 (X k).vr)).setCell ⟨w.heap.size, 8, none⟩ (.int .u32 SC)).setCell ⟨w.heap.size, 9, none⟩ (.int .u64 (X k).vb)).setCell ⟨w.heap.size, 10, none⟩ (.int .u16 (X k).vp)).setCell ⟨w.heap.size, 11, none⟩ (.int .u16 (X k).id)).setCell ⟨w.heap.size, 12, none⟩ (.int .i64 (X k).a)).setCell ⟨w.heap.size, 13, none⟩ (.int .i64 (X k).m)).setCell ⟨w.heap.size, 14, none⟩ (.int .i64 (X k).h)).setCell ⟨w.heap.size, 15, none⟩ (.int .i64 (X k).d)).setCell ⟨w.heap.size, 12, none⟩ (.int .i64 (wrap64 ((X k).a + 1))) = w10 at *
                  have VN' : VarAt w10 w.heap.size ((rootB B X (k : Int)).cells (.slice (some ⟨pb, 0, none⟩) n cap)) 34 := by
                    rw [rootB_at, HSAT.out, ← HDD.out]; exact VN
                  exact ⟨⟨k + 1, k, by omega, rfl, by go_num, HNEW.out, VN', AN, N2, BN⟩, by simp [intOf]; omega⟩
                · have HNEW := Lib.hid (root_keep HI.out hL (.inr hidl))
                  have hlt9 : decide (((X k).id : Int) < ((X j).id : Int)) = false := by simp; omega
                  clear hL hEq
                  have cL : ∀ d os, Calls Try.prog 23 #[vV (X k).vr (sat (X k).vc (X k).cost : Nat) (X k).vb (X k).vp, vV (rootB B X (j : Int)).r (rootB B X (j : Int)).c (rootB B X (j : Int)).b (rootB B X (j : Int)).p] (grow (redrawn w8 d) os) fun e w'' => e = .returned (.bool false) ∧ ∃ p : Regrown, w'' = grow (redrawn w8 p.d) p.os := fun d os => Calls.regrown_of (kL _)
                  clear kL
                  generalize hSC : sat (X k).vc (X k).cost = SC at *
                  have HSAT := Lib.hid hSC
                  clear hSC
                  generalize (rootB B X (j : Int)).r = D1 at *
                  generalize (rootB B X (j : Int)).c = D2 at *
                  generalize (rootB B X (j : Int)).b = D3 at *
                  generalize (rootB B X (j : Int)).p = D4 at *
                  refine wp_region_quiet_below (by kernel_rfl) (by kernel_rfl) ?_
                  repeat (go_big_quiet_step (first | with_reducible exact cL _ _))
                  refine wpQuiet_nil ?_
                  intro _ hw'
                  obtain ⟨⟨dq, osq⟩, hw''⟩ := hw'
                  subst hw''
                  have hbq := below_regrown w8 dq osq
                  have VV9 := Lib.hid (VV.out.below hbq VV.out.lt)
                  have VP9 := Lib.hid (VP8.out.below hbq VP8.out.lt)
                  have VB9 := Lib.hid (VB8.out.below hbq VB8.out.lt)
                  have VA9 := Lib.hid (VA8.out.below hbq VA8.out.lt)
                  have V29 := Lib.hid (V28.out.below hbq V28.out.lt)
                  have B9 := Lib.hid (B8.out.trans (hbq.mono B8.out.size))
                  clear hbq cL kE gE y0 y1 y2 y3 r7 r8 r9 r10 p0 VV VP8 VB8 VA8 V28 B8
                  generalize grow (redrawn w8 dq) osq = w9 at *
                  clear p1 i0
                  clear VV9 VP9
                  go_wp2_with fail
                  exact ⟨⟨k + 1, j, by omega, rfl, by go_num, HNEW.out, VB9.out, VA9.out, V29.out, B9.out⟩, by simp [intOf]; omega⟩
          · have hL' : ltV (X k).vr (sat (X k).vc (X k).cost : Nat) (X k).vb (X k).vp (rootB B X R).r (rootB B X R).c (rootB B X R).b (rootB B X R).p = true := hL
            rw [hL'] at kL
            clear hL'
            have HNEW := Lib.hid (root_take HI.out HC.out hL)
            clear hL
            have cL : ∀ d os, Calls Try.prog 23 #[vV (X k).vr (sat (X k).vc (X k).cost : Nat) (X k).vb (X k).vp, vV (rootB B X R).r (rootB B X R).c (rootB B X R).b (rootB B X R).p] (grow (redrawn w8 d) os) fun e w'' => e = .returned (.bool true) ∧ ∃ p : Regrown, w'' = grow (redrawn w8 p.d) p.os := fun d os => Calls.regrown_of (kL _)
            clear kL
            generalize hSC : sat (X k).vc (X k).cost = SC at *
            have HSAT := Lib.hid hSC
            clear hSC
            generalize (rootB B X R).r = D1 at *
            generalize (rootB B X R).c = D2 at *
            generalize (rootB B X R).b = D3 at *
            generalize (rootB B X R).p = D4 at *
            refine wp_region_quiet_below (by kernel_rfl) (by kernel_rfl) ?_
            repeat (go_big_quiet_step (first | with_reducible exact cL _ _))
            refine wpQuiet_nil ?_
            intro _ hw'
            obtain ⟨⟨dq, osq⟩, hw''⟩ := hw'
            subst hw''
            have hbq := below_regrown w8 dq osq
            have VV9 := Lib.hid (VV.out.below hbq VV.out.lt)
            have VP9 := Lib.hid (VP8.out.below hbq VP8.out.lt)
            have VB9 := Lib.hid (VB8.out.below hbq VB8.out.lt)
            have VA9 := Lib.hid (VA8.out.below hbq VA8.out.lt)
            have V29 := Lib.hid (V28.out.below hbq V28.out.lt)
            have B9 := Lib.hid (B8.out.trans (hbq.mono B8.out.size))
            clear hbq cL kE gE y0 y1 y2 y3 r7 r8 r9 r10 p0 VV VP8 VB8 VA8 V28 B8
            generalize grow (redrawn w8 dq) osq = w9 at *
            have t0 := VV9.out.v.1
            have t1 := VV9.out.v.2.1
            have t2 := VV9.out.v.2.2.1
            have t3 := VV9.out.v.2.2.2
            have s0 : w9.cell? ⟨pv, 0, none⟩ = some (.int .u16 (X k).id) := by rw [VP9.out.cell]; exact HXk.out.id
            have s68 : w9.cell? ⟨pv, 68, none⟩ = some (.int .i64 (X k).a) := by rw [VP9.out.cell]; exact HXk.out.a
            have s69 : w9.cell? ⟨pv, 69, none⟩ = some (.int .i64 (X k).m) := by rw [VP9.out.cell]; exact HXk.out.m
            have s70 : w9.cell? ⟨pv, 70, none⟩ = some (.int .i64 (X k).h) := by rw [VP9.out.cell]; exact HXk.out.h
            have s71 : w9.cell? ⟨pv, 71, none⟩ = some (.int .i64 (X k).d) := by rw [VP9.out.cell]; exact HXk.out.d
            have hpv : pv ≠ w.heap.size := var_ne VP9.out VB9.out (by decide)
            have hpv' : w.heap.size ≠ pv := Ne.symm hpv
            have hvv : vb ≠ w.heap.size := var_ne VV9.out VB9.out (by decide)
            have hvv' : w.heap.size ≠ vb := Ne.symm hvv
            have f7 := VB9.out.some (k := 7) (by simp)
            have f8 := VB9.out.some (k := 8) (by simp)
            have f9 := VB9.out.some (k := 9) (by simp)
            have f10 := VB9.out.some (k := 10) (by simp)
            have f11 := VB9.out.some (k := 11) (by simp)
            have f12 := VB9.out.some (k := 12) (by simp)
            have f13 := VB9.out.some (k := 13) (by simp)
            have f14 := VB9.out.some (k := 14) (by simp)
            have f15 := VB9.out.some (k := 15) (by simp)
            have fz := VB9.out.frozen
            go_wp2_with fail
            have VN := put_age (wrap64 ((X k).a + 1)) (put_times (X k).a (X k).m (X k).h (X k).d (put_port (X k).id (put_root (X k).vr SC (X k).vb (X k).vp VB9.out)))
            have AN := ((((((((((VA9.out.set_other (p := ⟨w.heap.size, 7, none⟩) hne (.int .u64 (X k).vr)).set_other (p := ⟨w.heap.size, 8, none⟩) hne (.int .u32 SC)).set_other (p := ⟨w.heap.size, 9, none⟩) hne (.int .u64 (X k).vb)).set_other (p := ⟨w.heap.size, 10, none⟩) hne (.int .u16 (X k).vp)).set_other (p := ⟨w.heap.size, 11, none⟩) hne (.int .u16 (X k).id)).set_other (p := ⟨w.heap.size, 12, none⟩) hne (.int .i64 (X k).a)).set_other (p := ⟨w.heap.size, 13, none⟩) hne (.int .i64 (X k).m)).set_other (p := ⟨w.heap.size, 14, none⟩) hne (.int .i64 (X k).h)).set_other (p := ⟨w.heap.size, 15, none⟩) hne (.int .i64 (X k).d)).set_other (p := ⟨w.heap.size, 12, none⟩) hne (.int .i64 (wrap64 ((X k).a + 1))))
            have N2 := ((((((((((V29.out.set_other (p := ⟨w.heap.size, 7, none⟩) (show w.heap.size + 1 ≠ w.heap.size by omega) (.int .u64 (X k).vr)).set_other (p := ⟨w.heap.size, 8, none⟩) (show w.heap.size + 1 ≠ w.heap.size by omega) (.int .u32 SC)).set_other (p := ⟨w.heap.size, 9, none⟩) (show w.heap.size + 1 ≠ w.heap.size by omega) (.int .u64 (X k).vb)).set_other (p := ⟨w.heap.size, 10, none⟩) (show w.heap.size + 1 ≠ w.heap.size by omega) (.int .u16 (X k).vp)).set_other (p := ⟨w.heap.size, 11, none⟩) (show w.heap.size + 1 ≠ w.heap.size by omega) (.int .u16 (X k).id)).set_other (p := ⟨w.heap.size, 12, none⟩) (show w.heap.size + 1 ≠ w.heap.size by omega) (.int .i64 (X k).a)).set_other (p := ⟨w.heap.size, 13, none⟩) (show w.heap.size + 1 ≠ w.heap.size by omega) (.int .i64 (X k).m)).set_other (p := ⟨w.heap.size, 14, none⟩) (show w.heap.size + 1 ≠ w.heap.size by omega) (.int .i64 (X k).h)).set_other (p := ⟨w.heap.size, 15, none⟩) (show w.heap.size + 1 ≠ w.heap.size by omega) (.int .i64 (X k).d)).set_other (p := ⟨w.heap.size, 12, none⟩) (show w.heap.size + 1 ≠ w.heap.size by omega) (.int .i64 (wrap64 ((X k).a + 1))))
            have BN := ((((((((((B9.out.setCell (p := ⟨w.heap.size, 7, none⟩) (Nat.le_refl _) (.int .u64 (X k).vr)).setCell (p := ⟨w.heap.size, 8, none⟩) (Nat.le_refl _) (.int .u32 SC)).setCell (p := ⟨w.heap.size, 9, none⟩) (Nat.le_refl _) (.int .u64 (X k).vb)).setCell (p := ⟨w.heap.size, 10, none⟩) (Nat.le_refl _) (.int .u16 (X k).vp)).setCell (p := ⟨w.heap.size, 11, none⟩) (Nat.le_refl _) (.int .u16 (X k).id)).setCell (p := ⟨w.heap.size, 12, none⟩) (Nat.le_refl _) (.int .i64 (X k).a)).setCell (p := ⟨w.heap.size, 13, none⟩) (Nat.le_refl _) (.int .i64 (X k).m)).setCell (p := ⟨w.heap.size, 14, none⟩) (Nat.le_refl _) (.int .i64 (X k).h)).setCell (p := ⟨w.heap.size, 15, none⟩) (Nat.le_refl _) (.int .i64 (X k).d)).setCell (p := ⟨w.heap.size, 12, none⟩) (Nat.le_refl _) (.int .i64 (wrap64 ((X k).a + 1))))
            clear t0 t1 t2 t3 s0 s68 s69 s70 s71 fz f7 f8 f9 f10 f11 f12 f13 f14 f15 VB9 VA9 V29 B9 VV9 VP9
            generalize ((((((((((w9).setCell ⟨w.heap.size, 7, none⟩ (.int .u64 (X k).vr)).setCell ⟨w.heap.size, 8, none⟩ (.int .u32 SC)).setCell ⟨w.heap.size, 9, none⟩ (.int .u64 (X k).vb)).setCell ⟨w.heap.size, 10, none⟩ (.int .u16 (X k).vp)).setCell ⟨w.heap.size, 11, none⟩ (.int .u16 (X k).id)).setCell ⟨w.heap.size, 12, none⟩ (.int .i64 (X k).a)).setCell ⟨w.heap.size, 13, none⟩ (.int .i64 (X k).m)).setCell ⟨w.heap.size, 14, none⟩ (.int .i64 (X k).h)).setCell ⟨w.heap.size, 15, none⟩ (.int .i64 (X k).d)).setCell ⟨w.heap.size, 12, none⟩ (.int .i64 (wrap64 ((X k).a + 1))) = w10 at *
            have VN' : VarAt w10 w.heap.size ((rootB B X (k : Int)).cells (.slice (some ⟨pb, 0, none⟩) n cap)) 34 := by
              rw [rootB_at, HSAT.out, ← HDD.out]; exact VN
            exact ⟨⟨k + 1, k, by omega, rfl, by go_num, HNEW.out, VN', AN, N2, BN⟩, by simp [intOf]; omega⟩
        · have HC := Lib.hid (show cand X B.id k = false by simp [cand, h3])
          clear hE
          go_wp2_with fail
          exact ⟨⟨k + 1, R, by omega, rfl, by go_num, HI.out.skip HC.out, VB6.out, VA6.out, V26.out, B6.out⟩, by simp [intOf]; omega⟩
      · rw [hE] at mq
        have HC := Lib.hid (show cand X B.id k = false by simp [cand, hE])
        clear hE
        refine wp_region_quiet_below (by kernel_rfl) (by kernel_rfl) ?_
        repeat (go_big_quiet_step (first | with_reducible exact ex _ _ | with_reducible exact ey _ _))
        refine wpQuiet_nil ?_
        intro _ hw'
        obtain ⟨⟨dq, osq⟩, hw''⟩ := hw'
        subst hw''
        have hbq := below_regrown w5 dq osq
        have VP6 := Lib.hid (VP5.out.below hbq VP5.out.lt)
        have VB6 := Lib.hid (VB5.out.below hbq VB5.out.lt)
        have VA6 := Lib.hid (VA5.out.below hbq VA5.out.lt)
        have V26 := Lib.hid (V25.out.below hbq V25.out.lt)
        have B6 := Lib.hid (B5.out.trans (hbq.mono B5.out.size))
        clear hbq mq mg d0 d58 ex ey VP5 VB5 VA5 V25 B5
        generalize grow (redrawn w5 dq) osq = w6 at *
        have c44 : w6.cell? ⟨pv, 44, none⟩ = some (.int .i64 (X k).info) := by rw [VP6.out.cell]; exact HXk.out.info
        by_cases h3 : (X k).info = 3
        · rw [h3] at c44
          go_wp2_with fail
          exact ⟨⟨k + 1, R, by omega, rfl, by go_num, HI.out.skip HC.out, VB6.out, VA6.out, V26.out, B6.out⟩, by simp [intOf]; omega⟩
        · go_wp2_with fail
          exact ⟨⟨k + 1, R, by omega, rfl, by go_num, HI.out.skip HC.out, VB6.out, VA6.out, V26.out, B6.out⟩, by simp [intOf]; omega⟩
    · obtain rfl : k = n := by omega
      obtain rfl : R = RR := HI.out.one HRR.out
      go_wp2_with fail
      go_loopw [9] (fun i wz => ∃ j : Nat, j ≤ k ∧ i = .int .i64 j ∧ UP (rootB B X R) (.slice (some ⟨pb, 0, none⟩) k cap) X XS R w.heap.size pb k j A.size wz ∧ VarAt wz (w.heap.size + 1) ((⟨0, 0, 0, 0, 0, 0, false, 0, 0, 0, 0, 0, 0, 0, 0, 0, 0⟩ : Bd).cells (.slice none 0 0)) 34 ∧ Below w.heap.size w wz) (fun i _ => k - (intOf i).toNat)
      case atStart => exact ⟨0, Nat.zero_le _, rfl, ⟨VB.out, A, VA.out, rfl, fun i hi => absurd hi (by omega), fun i _ hi => K3.out.2.2 i hi⟩, V2.out, HN.out⟩
      case round =>
        rename_i wz
        obtain ⟨j, hj, rfl, ⟨hub, Aj, huv, husz, hud, hut⟩, hu2, huB⟩ := hrel
        have VB7 := Lib.hid hub
        have VA7 := Lib.hid huv
        have V27 := Lib.hid hu2
        have B7 := Lib.hid huB
        have SZ := Lib.hid husz
        have HDO := Lib.hid hud
        have HTO := Lib.hid hut
        clear hub huv husz hud hut hu2 huB VB VA V2 HN
        by_cases hlt2 : j < k
        · have HXj := Lib.hid (HP.out j hlt2).1
          have HTj := Lib.hid (HP.out j hlt2).2
          have HAj := Lib.hid (show j * 90 + 90 ≤ Aj.size by have := K3.out.2.1; rw [SZ.out]; omega)
          have i0 := idx32a pb k cap j hlt2
          go_wp2_with fail
          refine wp_region_any (by kernel_rfl) ?_
          change wpAny _ _ _ _ _ _ _ (World.drew _)
          refine wpAny_take (i := 0) (v := ?_) rfl (by kernel_rfl) (by kernel_rfl) (by kernel_rfl) (fun _ _ _ h => h) (Or.inl ⟨by rfl, ?_⟩) ?_
          rotate_left
          · (intro w9; go_simp; try with_reducible rfl)
          try simp only [Act.put, List.getElem_toArray, List.getElem_cons_zero, List.setIfInBounds_toArray, List.set_cons_zero, List.set_cons_succ]
          refine wpAny_take (i := 1) (v := ?_) rfl (by kernel_rfl) (by kernel_rfl) (by kernel_rfl) (fun _ _ _ h => h) (Or.inl ⟨by rfl, ?_⟩) ?_
          rotate_left
          · (intro w9; go_simp; try with_reducible rfl)
          try simp only [Act.put, List.getElem_toArray, List.getElem_cons_zero, List.getElem_cons_succ, List.setIfInBounds_toArray, List.set_cons_zero, List.set_cons_succ]
          refine wpAny_take (i := 3) (v := ?_) rfl (by kernel_rfl) (by kernel_rfl) (by kernel_rfl) (fun _ _ _ h => h) (Or.inl ⟨by rfl, ?_⟩) ?_
          rotate_left
          · (intro w9; go_simp; try with_reducible rfl)
          try simp only [Act.put, List.getElem_toArray, List.getElem_cons_zero, List.getElem_cons_succ, List.setIfInBounds_toArray, List.set_cons_zero, List.set_cons_succ]
          refine wpAny_take (i := 4) (v := ?_) rfl (by kernel_rfl) (by kernel_rfl) (by kernel_rfl) (fun _ _ _ h => h) (Or.inl ⟨by rfl, ?_⟩) ?_
          rotate_left
          · (intro w9; go_simp; try with_reducible rfl)
          try simp only [Act.put, List.getElem_toArray, List.getElem_cons_zero, List.getElem_cons_succ, List.setIfInBounds_toArray, List.set_cons_zero, List.set_cons_succ]
          refine wpAny_take (i := 5) (v := ?_) rfl (by kernel_rfl) (by kernel_rfl) (by kernel_rfl) (fun _ _ _ h => h) (Or.inl ⟨by rfl, ?_⟩) ?_
          rotate_left
          · (intro w9; have q := i0; go_simp; try with_reducible rfl)
          try simp only [Act.put, List.getElem_toArray, List.getElem_cons_zero, List.getElem_cons_succ, List.setIfInBounds_toArray, List.set_cons_zero, List.set_cons_succ]
          refine wpAny_take (i := 7) (v := ?_) rfl (by kernel_rfl) (by kernel_rfl) (by kernel_rfl) (fun _ _ _ h => h) (Or.inl ⟨by rfl, ?_⟩) ?_
          rotate_left
          · (intro w9; go_simp; try with_reducible rfl)
          try simp only [Act.put, List.getElem_toArray, List.getElem_cons_zero, List.getElem_cons_succ, List.setIfInBounds_toArray, List.set_cons_zero, List.set_cons_succ]
          refine wpAny_take (i := 8) (v := ?_) rfl (by kernel_rfl) (by kernel_rfl) (by kernel_rfl) (fun _ _ _ h => h) (Or.inl ⟨by rfl, ?_⟩) ?_
          rotate_left
          · (intro w9; go_simp; try with_reducible rfl)
          try simp only [Act.put, List.getElem_toArray, List.getElem_cons_zero, List.getElem_cons_succ, List.setIfInBounds_toArray, List.set_cons_zero, List.set_cons_succ]
          refine wpAny_take (i := 9) (v := ?_) rfl (by kernel_rfl) (by kernel_rfl) (by kernel_rfl) (fun _ _ _ h => h) (Or.inl ⟨by rfl, ?_⟩) ?_
          rotate_left
          · (intro w9; go_simp; try with_reducible rfl)
          try simp only [Act.put, List.getElem_toArray, List.getElem_cons_zero, List.getElem_cons_succ, List.setIfInBounds_toArray, List.set_cons_zero, List.set_cons_succ]
          refine wpAny_ready (rs := [2, 6]) (by kernel_rfl) (by simp) (AllReady.cons rfl (fun K hK => ?_) (AllReady.cons rfl (fun K hK => ?_) AllReady.nil))
          · rw [if_pos (by rfl)]
            refine wp_load_whole uB rfl sB _ rfl rfl (range_whole VB7.out.drew) (by simp) ?_
            try simp only [Act.put, List.getElem_toArray, List.getElem_cons_zero, List.getElem_cons_succ, List.setIfInBounds_toArray, List.set_cons_zero, List.set_cons_succ]
            refine hK _ _ ?_
            clear hK K
            refine wpAny_ready (rs := [6]) (by kernel_rfl) (by simp) (AllReady.cons rfl (fun K hK => ?_) AllReady.nil)
            rw [if_pos (by rfl)]
            refine wp_load_port _ rfl rfl VA7.out.drew (HTO.out j (Nat.le_refl _) hlt2) HXj.out.size ?_
            try simp only [Act.put, List.getElem_toArray, List.getElem_cons_zero, List.getElem_cons_succ, List.setIfInBounds_toArray, List.set_cons_zero, List.set_cons_succ]
            refine hK _ _ ?_
            clear hK K
            refine wpAny_ready (rs := [10]) (by kernel_rfl) (by simp) (AllReady.cons rfl (fun K hK => ?_) AllReady.nil)
            go_simp
            refine (role_any (rootB B X R) _ (X j) ((j : Int) == R) (XS j) _ HXj.out HTj.out (by rw [rootB_id]; exact HID.out)).mono ?_
            rintro e w8 ⟨rfl, hb⟩
            have VB8 := Lib.hid (VB7.out.drew.below hb VB7.out.lt)
            have VA8 := Lib.hid (VA7.out.drew.below hb VA7.out.lt)
            have V28 := Lib.hid (V27.out.drew.below hb V27.out.lt)
            have B8 := Lib.hid (B7.out.drew.trans (hb.mono B7.out.size))
            refine hK _ _ ?_
            clear hK K hb VB7 VA7 V27 B7
            refine wpAny_take (i := 11) (v := ?_) rfl (by kernel_rfl) (by kernel_rfl) (by kernel_rfl) (fun _ _ _ h => h) (Or.inl ⟨by rfl, ?_⟩) ?_
            rotate_left
            · (intro w9; go_simp; try with_reducible rfl)
            try simp only [Act.put, List.getElem_toArray, List.getElem_cons_zero, List.getElem_cons_succ, List.setIfInBounds_toArray, List.set_cons_zero, List.set_cons_succ]
            refine wpAny_ready (rs := [12]) (by kernel_rfl) (by simp) (AllReady.cons rfl (fun K hK => ?_) AllReady.nil)
            rw [if_pos (by rfl)]
            refine wp_store_port _ _ rfl rfl rfl VA8.out (newP_typed HTj.out) HAj.out ?_
            intro w9 hv9 hb9 ho9 hz9
            simp only [Act.put]
            refine hK _ _ ?_
            clear hK K
            refine wpAny_done (by kernel_rfl) ?_ _
            have hU := Lib.hid (show UP (rootB B X R) (.slice (some ⟨pb, 0, none⟩) k cap) X XS R w.heap.size pb k (j + 1) A.size w9 from ⟨ho9 _ _ _ (Ne.symm hne) VB8.out, _, hv9, by rw [putL_size]; exact SZ.out, fun i hi => by
                by_cases hij : i = j
                · subst hij
                  exact sub_whole (by rw [newP_size]; exact HXj.out.size) HAj.out
                · exact (HDO.out i (by omega)).out (out_whole (by rw [newP_size]; exact HXj.out.size)) (by omega),
              fun i hi hin => (HTO.out i (by omega) hin).out (out_whole (by rw [newP_size]; exact HXj.out.size)) (by omega)⟩)
            have V29 := Lib.hid (ho9 _ _ _ (Ne.symm hne2) V28.out)
            have B9 := Lib.hid (hb9 w.heap.size w K3.out.1 B8.out)
            clear hv9 ho9 hb9 hz9 VB8 VA8 V28 B8
            go_wp2_with fail
            exact ⟨⟨j + 1, by omega, by go_num, hU.out, V29.out, B9.out⟩, by simp [intOf]; omega⟩
          · rw [if_pos (by rfl)]
            refine wp_load_port _ rfl rfl VA7.out.drew (HTO.out j (Nat.le_refl _) hlt2) HXj.out.size ?_
            try simp only [Act.put, List.getElem_toArray, List.getElem_cons_zero, List.getElem_cons_succ, List.setIfInBounds_toArray, List.set_cons_zero, List.set_cons_succ]
            refine hK _ _ ?_
            clear hK K
            refine wpAny_ready (rs := [2]) (by kernel_rfl) (by simp) (AllReady.cons rfl (fun K hK => ?_) AllReady.nil)
            rw [if_pos (by rfl)]
            refine wp_load_whole uB rfl sB _ rfl rfl (range_whole VB7.out.drew) (by simp) ?_
            try simp only [Act.put, List.getElem_toArray, List.getElem_cons_zero, List.getElem_cons_succ, List.setIfInBounds_toArray, List.set_cons_zero, List.set_cons_succ]
            refine hK _ _ ?_
            clear hK K
            refine wpAny_ready (rs := [10]) (by kernel_rfl) (by simp) (AllReady.cons rfl (fun K hK => ?_) AllReady.nil)
            go_simp
            refine (role_any (rootB B X R) _ (X j) ((j : Int) == R) (XS j) _ HXj.out HTj.out (by rw [rootB_id]; exact HID.out)).mono ?_
            rintro e w8 ⟨rfl, hb⟩
            have VB8 := Lib.hid (VB7.out.drew.below hb VB7.out.lt)
            have VA8 := Lib.hid (VA7.out.drew.below hb VA7.out.lt)
            have V28 := Lib.hid (V27.out.drew.below hb V27.out.lt)
            have B8 := Lib.hid (B7.out.drew.trans (hb.mono B7.out.size))
            refine hK _ _ ?_
            clear hK K hb VB7 VA7 V27 B7
            refine wpAny_take (i := 11) (v := ?_) rfl (by kernel_rfl) (by kernel_rfl) (by kernel_rfl) (fun _ _ _ h => h) (Or.inl ⟨by rfl, ?_⟩) ?_
            rotate_left
            · (intro w9; go_simp; try with_reducible rfl)
            try simp only [Act.put, List.getElem_toArray, List.getElem_cons_zero, List.getElem_cons_succ, List.setIfInBounds_toArray, List.set_cons_zero, List.set_cons_succ]
            refine wpAny_ready (rs := [12]) (by kernel_rfl) (by simp) (AllReady.cons rfl (fun K hK => ?_) AllReady.nil)
            rw [if_pos (by rfl)]
            refine wp_store_port _ _ rfl rfl rfl VA8.out (newP_typed HTj.out) HAj.out ?_
            intro w9 hv9 hb9 ho9 hz9
            simp only [Act.put]
            refine hK _ _ ?_
            clear hK K
            refine wpAny_done (by kernel_rfl) ?_ _
            have hU := Lib.hid (show UP (rootB B X R) (.slice (some ⟨pb, 0, none⟩) k cap) X XS R w.heap.size pb k (j + 1) A.size w9 from ⟨ho9 _ _ _ (Ne.symm hne) VB8.out, _, hv9, by rw [putL_size]; exact SZ.out, fun i hi => by
                by_cases hij : i = j
                · subst hij
                  exact sub_whole (by rw [newP_size]; exact HXj.out.size) HAj.out
                · exact (HDO.out i (by omega)).out (out_whole (by rw [newP_size]; exact HXj.out.size)) (by omega),
              fun i hi hin => (HTO.out i (by omega) hin).out (out_whole (by rw [newP_size]; exact HXj.out.size)) (by omega)⟩)
            have V29 := Lib.hid (ho9 _ _ _ (Ne.symm hne2) V28.out)
            have B9 := Lib.hid (hb9 w.heap.size w K3.out.1 B8.out)
            clear hv9 ho9 hb9 hz9 VB8 VA8 V28 B8
            go_wp2_with fail
            exact ⟨⟨j + 1, by omega, by go_num, hU.out, V29.out, B9.out⟩, by simp [intOf]; omega⟩
        · obtain rfl : j = k := by omega
          go_wp2_with (with_reducible refine stopL 34 _ rfl ?_)
          refine Lib.hid ?_
          refine wpList_load_whole uB rfl sB rfl _ rfl rfl (range_whole VB7.out) (by simp) ?_
          refine wpList_store_whole sB rfl _ _ rfl rfl rfl V27.out (Bd.one _ rfl) (by simp) (by simp) ?_
          intro w8 hv8 hb8 ho8 _
          rw [putL_all _ _ (by simp)] at hv8
          have V8 := Lib.hid hv8
          have VA8 := Lib.hid (ho8 _ _ _ hne2 VA7.out)
          have B8 := Lib.hid (hb8 w.heap.size w (by omega) B7.out)
          clear hv8 ho8 hb8 VB7 VA7 V27 B7
          go_wp2_with (with_reducible refine stopE ?_)
          refine Lib.hid ?_
          exact bodyPost_ret (v := .agg ((rootB B X R).cells (.slice (some ⟨pb, 0, none⟩) j cap))) (results_cell_row (p := 2) (ty := 34) rfl _ _ (w.heap.size + 1) 34 _ (0, 0) _ rfl V8.out uB rfl (by rw [sB]; simp)) rfl ⟨pb, cap, rfl, ⟨Aj, VA8.out, by rw [SZ.out]; exact K3.out.2.1, HDO.out, K3.out.1⟩, B8.out⟩
end Go.Proofs.Ytidgdanhnpfpmaa


