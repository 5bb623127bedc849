/- Contract of Copy. -/
import Derived.Test.YtidgdanhnpfpmaaCa
import Derived.Laws.AppendOwnNone
import Derived.Test.YtidgdanhnpfpmaaXb
namespace Go.Proofs.Ytidgdanhnpfpmaa
open Go.RowKit Go.Sort

/-- A bridge's ports in a block of their own. -/
def Kept3 (w w' : World) (pb n : Nat) (XS : Nat → Array Value) : Prop := ∃ A, VarAt w' pb A 50 ∧ n * 90 ≤ A.size ∧ (∀ i, i < n → Sub A (i * 90) (XS i)) ∧ w.heap.size ≤ pb
/-- What append makes of ports. -/
theorem made_ports {w : World} {B n : Nat} {v : Value} {XS : Nat → Array Value} (h : w.ownsRow B 50 90 v n (pcs XS n)) (hv : v ≠ .slice none 0 0) (hx : ∀ i, i < n → (XS i).size = 90) : ∃ pb cap A, v = .slice (some ⟨pb, 0, none⟩) n cap ∧ B ≤ pb ∧ VarAt w pb A 50 ∧ n * 90 ≤ A.size ∧ ∀ i, i < n → Sub A (i * 90) (XS i) := by
  rcases h.2 with ⟨e, _⟩ | ⟨g, cap, cur, rfl, hb, hg, hnc, _, hs, ht⟩
  · exact (hv e).elim
  · refine ⟨g, cap, cur, rfl, hb, hg, by rw [hs]; exact Nat.mul_le_mul_right _ hnc, fun i hi k hk => ?_⟩
    have := pcs_at hx i hi k hk
    rw [← this, ← ht, List.getElem?_take, if_pos (by omega)]
    simp

theorem news_of {w w' : World} {ad : Addr} {n : Nat} {XS : Nat → Array Value} (hx : ∀ i, i < n → (XS i).size = 90) (h1 : 0 < n → ∃ b o, some ad = some ⟨b, o, none⟩ ∧ ∀ i, i < n → ∀ k, k < 90 → w.cell? ⟨b, o + i * 90 + k, none⟩ = (XS i)[k]?) (hb : Below w.heap.size w w') :
    ∀ (j : Nat) u, (pcs XS n)[j]? = some u → w'.cell? (ad.add j) = some u := by
  intro j u hj
  have hlt : j < n * 90 := by rw [← pcs_len hx]; exact (List.getElem?_eq_some_iff.1 hj).1
  have hi : j / 90 < n := by omega
  obtain ⟨b, o, e, hc⟩ := h1 (by omega)
  cases e
  have h2 := hc (j / 90) hi (j % 90) (by omega)
  rw [← pcs_at hx (j / 90) hi (j % 90) (by omega), show j / 90 * 90 + j % 90 = j by omega, hj] at h2
  rw [addN]
  refine cell_below hb ?_
  rw [← h2]
  congr 2
  omega
theorem stopW {ops : Array Oper} {rest : List Oper} {a : Act} {w : World} {Q : Exit → Act → World → Prop} (h : Hid (wpList Try.prog ops Q rest a w)) : wpList Try.prog ops Q rest a w := h
theorem var_ne {w : World} {b c : Nat} {xs ys : Array Value} {t u : TypeId} (h : VarAt w b xs t) (k : VarAt w c ys u) (hne : t ≠ u) : b ≠ c := by
  rintro rfl
  unfold VarAt at h k
  rw [h] at k
  simp at k
  exact hne k.2
set_option maxHeartbeats 1000000 in
theorem copy_any (B : Bd) (s : Value) (n : Nat) (XS : Nat → Array Value) (w : World) (hs : PIn w s n XS) (hn : n ≤ 20) (ht : ∀ i, i < n → Typed (XS i)) :
    Calls Try.prog 7 #[.agg (B.cells s)] w fun e w' => ∃ pb cap, e = .returned (.agg (B.cells (.slice (some ⟨pb, 0, none⟩) n cap))) ∧ Kept3 w w' pb n XS ∧ Below w.heap.size w w' := by
  have hx : ∀ i, i < n → (XS i).size = 90 := fun i hi => (ht i hi).1
  have hlen := pcs_len hx
  have hone : ∀ u ∈ pcs XS n, u.oneCell' = true := by
    intro u hu
    simp only [pcs, List.mem_flatMap, List.mem_range] at hu
    obtain ⟨i, hi, hm⟩ := hu
    exact (Array.all_eq_true_iff_forall_mem.1 (ht i hi).one) u (by simpa using hm)
  have hv1 := Lib.hid (((var_new w (B.cells s) 34).alloc (.cells ((⟨0, 0, 0, 0, 0, 0, false, 0, 0, 0, 0, 0, 0, 0, 0, 0, 0⟩ : Bd).cells (.slice none 0 0)) 34)).alloc (.cells #[] 50))
  have c17 : (((w.alloc (.cells (B.cells s) 34)).alloc (.cells ((⟨0, 0, 0, 0, 0, 0, false, 0, 0, 0, 0, 0, 0, 0, 0, 0, 0⟩ : Bd).cells (.slice none 0 0)) 34)).alloc (.cells #[] 50)).cell? ⟨w.heap.size, 17, none⟩ = some s := hv1.out.cell 17
  have own0 := Lib.hid (show (((w.alloc (.cells (B.cells s) 34)).alloc (.cells ((⟨0, 0, 0, 0, 0, 0, false, 0, 0, 0, 0, 0, 0, 0, 0, 0, 0⟩ : Bd).cells (.slice none 0 0)) 34)).alloc (.cells #[] 50)).ownsRow w.heap.size 50 90 (.slice (some ⟨w.heap.size + 1 + 1, 0, none⟩) 0 0) 0 [] by
    have := World.ownsRow_made (base := w.heap.size) (e := 50) (size := 90) ((w.alloc (.cells (B.cells s) 34)).alloc (.cells ((⟨0, 0, 0, 0, 0, 0, false, 0, 0, 0, 0, 0, 0, 0, 0, 0, 0⟩ : Bd).cells (.slice none 0 0)) 34)) #[] 0 (by rw [alloc_size, alloc_size]; omega) (by unfold maxLen; omega) rfl
    rwa [alloc_size, alloc_size] at this)
  have hv2 := Lib.hid (show VarAt (((w.alloc (.cells (B.cells s) 34)).alloc (.cells ((⟨0, 0, 0, 0, 0, 0, false, 0, 0, 0, 0, 0, 0, 0, 0, 0, 0⟩ : Bd).cells (.slice none 0 0)) 34)).alloc (.cells #[] 50)) (w.heap.size + 1) ((⟨0, 0, 0, 0, 0, 0, false, 0, 0, 0, 0, 0, 0, 0, 0, 0, 0⟩ : Bd).cells (.slice none 0 0)) 34 by
    have := (var_new (w.alloc (.cells (B.cells s) 34)) ((⟨0, 0, 0, 0, 0, 0, false, 0, 0, 0, 0, 0, 0, 0, 0, 0, 0⟩ : Bd).cells (.slice none 0 0)) 34).alloc (.cells #[] 50)
    rwa [alloc_size] at this)
  have hBB := Lib.hid (show Below w.heap.size w (((w.alloc (.cells (B.cells s) 34)).alloc (.cells ((⟨0, 0, 0, 0, 0, 0, false, 0, 0, 0, 0, 0, 0, 0, 0, 0, 0⟩ : Bd).cells (.slice none 0 0)) 34)).alloc (.cells #[] 50)) from (((Below.refl w.heap.size w).alloc (Nat.le_refl _) _).alloc (by rw [alloc_size]; omega) _).alloc (by rw [alloc_size, alloc_size]; omega) _)
  obtain ⟨ia, hia⟩ : ∃ i, Hid (Try.prog.info? 50 = some i ∧ i.zero = some (.agg z48) ∧ i.size = 90 ∧ i.bytes = 464) := (info_parts info48').imp fun _ h => Lib.hid h
  have zs := Lib.hid z48_size
  generalize z48 = Z at *
  have HX := Lib.hid hx
  have HT := Lib.hid ht
  have HL := Lib.hid hlen
  have HO := Lib.hid hone
  clear hx ht hlen hone
  obtain ⟨a, c, rfl, h0, h1⟩ := hs
  cases a with
  | none =>
    obtain ⟨rfl, rfl⟩ := h0 rfl
    go_enter Try.func7, Try.ntmps7
    go_wp2_with (first | (at_builtin; refine wpList_append_own_none rfl _ _ 32 rfl w.heap.size 50 ia 90 und32 hia.out.1 _ 0 [] rfl own0.out rfl ?_; refine stopW ?_))
    refine Lib.hid ?_
    obtain ⟨pb, cap, A, hpe, hpb, hvA, hsA, hsub⟩ := made_ports (n := 0) (XS := XS) own0.out (by simp) HX.out
    obtain ⟨rfl, rfl⟩ : pb = w.heap.size + 1 + 1 ∧ cap = 0 := by simp at hpe; exact ⟨hpe.1.symm, hpe.2.symm⟩
    have v1 := hv1.out
    have v2 := hv2.out
    have hB3 := hBB
    generalize (((w.alloc (.cells (B.cells (.slice none 0 0)) 34)).alloc (.cells ((⟨0, 0, 0, 0, 0, 0, false, 0, 0, 0, 0, 0, 0, 0, 0, 0, 0⟩ : Bd).cells (.slice none 0 0)) 34)).alloc (.cells #[] 50)) = w3 at *
    have f17 := v1.some (k := 17) (by simp)
    have fz := v1.frozen
    have V1 := Lib.hid v1
    have V2 := Lib.hid v2
    have VA := Lib.hid hvA
    have K3 := Lib.hid (And.intro hpb (And.intro hsA hsub))
    clear v1 v2 hvA hpb hsA hsub c17 hv1 hv2 hBB own0 h1 hpe
    go_wp2_with (with_reducible refine stopL 34 _ rfl ?_)
    have hne : (w.heap.size + 1 + 1) ≠ w.heap.size := var_ne VA.out V1.out (by decide)
    have V3 : VarAt (w3.setCell ⟨w.heap.size, 17, none⟩ (.slice (some ⟨(w.heap.size + 1 + 1), 0, none⟩) 0 0)) w.heap.size (B.cells (.slice (some ⟨(w.heap.size + 1 + 1), 0, none⟩) 0 0)) 34 := V1.out.set 17 _
    have V4 := V2.out.set_other (p := ⟨w.heap.size, 17, none⟩) (show w.heap.size + 1 ≠ w.heap.size by omega) (.slice (some ⟨(w.heap.size + 1 + 1), 0, none⟩) 0 0)
    have V5 := VA.out.set_other (p := ⟨w.heap.size, 17, none⟩) hne (.slice (some ⟨(w.heap.size + 1 + 1), 0, none⟩) 0 0)
    have hne2 : (w.heap.size + 1 + 1) ≠ w.heap.size + 1 := var_ne VA.out V2.out (by decide)
    have hB4 := hB3.out.setCell (p := ⟨w.heap.size, 17, none⟩) (Nat.le_refl _) (.slice (some ⟨(w.heap.size + 1 + 1), 0, none⟩) 0 0)
    clear f17 fz V1 V2 VA hB3
    generalize w3.setCell ⟨w.heap.size, 17, none⟩ (.slice (some ⟨(w.heap.size + 1 + 1), 0, none⟩) 0 0) = w4 at *
    refine Lib.hid ?_
    refine wpList_load_whole uB rfl sB rfl _ rfl rfl (range_whole V3) (by simp) ?_
    refine wpList_store_whole sB rfl _ _ rfl rfl rfl V4 (B.one rfl) (by simp) (by simp) ?_
    intro w5 hv5 hb5 ho5 _
    rw [putL_all _ _ (by simp)] at hv5
    have V6 := Lib.hid hv5
    have V7 := Lib.hid (ho5 _ _ _ hne2 V5)
    have B7 := Lib.hid (hb5 w.heap.size w (by omega) hB4)
    clear hv5 ho5 hb5 V3 V4 V5 hB4
    go_wp2_with (with_reducible refine stopE ?_)
    refine Lib.hid ?_
    exact bodyPost_ret (v := .agg (B.cells (.slice (some ⟨(w.heap.size + 1 + 1), 0, none⟩) 0 0))) (results_cell_row (p := 2) (ty := 34) rfl _ _ (w.heap.size + 1) 34 _ (0, 0) _ rfl V6.out uB rfl (by rw [sB]; simp)) rfl ⟨(w.heap.size + 1 + 1), 0, rfl, ⟨A, V7.out, K3.out.2.1, K3.out.2.2, K3.out.1⟩, B7.out⟩
  | some ad =>
    go_enter Try.func7, Try.ntmps7
    go_wp2_with (first | (at_builtin; go_loud (refine wpList_append_own _ rfl _ _ 32 rfl w.heap.size 50 ia (.agg Z) 90 464 und32 hia.out.1 hia.out.2.1 hia.out.2.2.1 hia.out.2.2.2 zs.out (by decide) _ 0 [] rfl own0.out ad n c (pcs XS n) rfl HL.out ?c1 HO.out ?c3 ?c4 ?c5 ?_)))
    case c1 => exact news_of HX.out h1 hBB.out
    case c3 => unfold maxLen; omega
    case c4 => omega
    case c5 => simp; omega
    intro v' w3 ho hg hnil
    obtain ⟨pb, cap, A, rfl, hpb, hvA, hsA, hsub⟩ := made_ports ho hnil HX.out
    have v1 := var_kept hv1.out own0.out (by decide) hg
    have v2 := var_kept hv2.out own0.out (by decide) hg
    have hB3 := Lib.hid (hBB.out.grown hg hBB.out.size (fun k hk => (own0.out.lt k hk).1))
    have f17 := v1.some (k := 17) (by simp)
    have fz := v1.frozen
    have V1 := Lib.hid v1
    have V2 := Lib.hid v2
    have VA := Lib.hid hvA
    have K3 := Lib.hid (And.intro hpb (And.intro hsA hsub))
    clear ho hg hnil v1 v2 hvA hpb hsA hsub c17 hv1 hv2 hBB own0 h0 h1
    go_wp2_with (with_reducible refine stopL 34 _ rfl ?_)
    have hne : pb ≠ w.heap.size := var_ne VA.out V1.out (by decide)
    have V3 : VarAt (w3.setCell ⟨w.heap.size, 17, none⟩ (.slice (some ⟨pb, 0, none⟩) n cap)) w.heap.size (B.cells (.slice (some ⟨pb, 0, none⟩) n cap)) 34 := V1.out.set 17 _
    have V4 := V2.out.set_other (p := ⟨w.heap.size, 17, none⟩) (show w.heap.size + 1 ≠ w.heap.size by omega) (.slice (some ⟨pb, 0, none⟩) n cap)
    have V5 := VA.out.set_other (p := ⟨w.heap.size, 17, none⟩) hne (.slice (some ⟨pb, 0, none⟩) n cap)
    have hne2 : pb ≠ w.heap.size + 1 := var_ne VA.out V2.out (by decide)
    have hB4 := hB3.out.setCell (p := ⟨w.heap.size, 17, none⟩) (Nat.le_refl _) (.slice (some ⟨pb, 0, none⟩) n cap)
    clear f17 fz V1 V2 VA hB3
    generalize w3.setCell ⟨w.heap.size, 17, none⟩ (.slice (some ⟨pb, 0, none⟩) n cap) = w4 at *
    refine Lib.hid ?_
    refine wpList_load_whole uB rfl sB rfl _ rfl rfl (range_whole V3) (by simp) ?_
    refine wpList_store_whole sB rfl _ _ rfl rfl rfl V4 (B.one rfl) (by simp) (by simp) ?_
    intro w5 hv5 hb5 ho5 _
    rw [putL_all _ _ (by simp)] at hv5
    have V6 := Lib.hid hv5
    have V7 := Lib.hid (ho5 _ _ _ hne2 V5)
    have B7 := Lib.hid (hb5 w.heap.size w (by omega) hB4)
    clear hv5 ho5 hb5 V3 V4 V5 hB4
    go_wp2_with (with_reducible refine stopE ?_)
    refine Lib.hid ?_
    exact bodyPost_ret (v := .agg (B.cells (.slice (some ⟨pb, 0, none⟩) n cap))) (results_cell_row (p := 2) (ty := 34) rfl _ _ (w.heap.size + 1) 34 _ (0, 0) _ rfl V6.out uB rfl (by rw [sB]; simp)) rfl ⟨pb, cap, rfl, ⟨A, V7.out, K3.out.2.1, K3.out.2.2, K3.out.1⟩, B7.out⟩
end Go.Proofs.Ytidgdanhnpfpmaa
