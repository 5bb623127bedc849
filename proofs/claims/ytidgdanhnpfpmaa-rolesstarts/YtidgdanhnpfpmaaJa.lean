/- Which port is the root port: one at most, and the same one however it is looked for. -/
import Derived.Test.YtidgdanhnpfpmaaZ
namespace Go.Proofs.Ytidgdanhnpfpmaa
open Go.RowKit Go.Sort

/-- Four numbers come ahead of four others. -/
def lx (a b c d a' b' c' d' : Nat) : Prop := a < a' ∨ (a = a' ∧ (b < b' ∨ (b = b' ∧ (c < c' ∨ (c = c' ∧ d < d')))))
theorem ltV_lx (a b c d a' b' c' d' : Nat) : ltV a b c d a' b' c' d' = true ↔ lx a b c d a' b' c' d' := by
  unfold ltV
  rw [decide_eq_true_iff, cmpV_neg]
  unfold lx
  omega
theorem ltV_not {a b c d a' b' c' d' : Nat} (h : ltV a b c d a' b' c' d' = false) : ¬ lx a b c d a' b' c' d' := fun k => by
  rw [← ltV_lx, h] at k; cases k
theorem eqV_iff (a b c d a' b' c' d' : Nat) : eqV a b c d a' b' c' d' = true ↔ a = a' ∧ b = b' ∧ c = c' ∧ d = d' := by
  unfold eqV; simp only [Bool.and_eq_true, beq_iff_eq]; omega
/-- A port's vector behind its link comes ahead of another one's; of the bridge's own; is like another one's. -/
def vlt (x y : Pd) : Prop := lx x.vr (sat x.vc x.cost) x.vb x.vp y.vr (sat y.vc y.cost) y.vb y.vp
def vlo (x : Pd) (id : Nat) : Prop := lx x.vr (sat x.vc x.cost) x.vb x.vp id 0 id 0
def veq (x y : Pd) : Prop := x.vr = y.vr ∧ sat x.vc x.cost = sat y.vc y.cost ∧ x.vb = y.vb ∧ x.vp = y.vp
section
variable (X : Nat → Pd) (id : Nat)
/-- A port isn't behind another one. -/
def before (j i : Nat) : Prop := vlt (X j) (X i) ∨ (veq (X j) (X i) ∧ ((X j).id < (X i).id ∨ ((X j).id = (X i).id ∧ j ≤ i)))
/-- The root port among the first k ones; -1: there is none. -/
def IsRoot (k : Nat) (r : Int) : Prop :=
  (r = -1 ∧ ∀ i, i < k → cand X id i = true → ¬ vlo (X i) id) ∨ ∃ j : Nat, r = j ∧ j < k ∧ cand X id j = true ∧ vlo (X j) id ∧ ∀ i, i < k → cand X id i = true → before X j i
end
section
variable {X : Nat → Pd} {id : Nat}
theorem IsRoot.start : IsRoot X id 0 (-1) := .inl ⟨rfl, fun i hi => absurd hi (by omega)⟩
theorem IsRoot.skip {k : Nat} {r : Int} (h : IsRoot X id k r) (hc : cand X id k = false) : IsRoot X id (k + 1) r := by
  have e : ∀ i, i < k + 1 → cand X id i = true → i < k := fun i hi hci => by
    by_cases h : i = k
    · subst h; rw [hc] at hci; cases hci
    · omega
  rcases h with ⟨rfl, h⟩ | ⟨j, rfl, hj, hcj, hv, h⟩
  · exact .inl ⟨rfl, fun i hi hci => h i (e i hi hci) hci⟩
  · exact .inr ⟨j, rfl, by omega, hcj, hv, fun i hi hci => h i (e i hi hci) hci⟩
theorem before_refl (j : Nat) : before X j j := .inr ⟨⟨rfl, rfl, rfl, rfl⟩, .inr ⟨rfl, Nat.le_refl _⟩⟩
theorem IsRoot.first {k : Nat} (h : IsRoot X id k (-1)) (hc : cand X id k = true) (hv : vlo (X k) id) : IsRoot X id (k + 1) k := by
  rcases h with ⟨_, h⟩ | ⟨j, e, _⟩
  · refine .inr ⟨k, rfl, by omega, hc, hv, fun i hi hci => ?_⟩
    by_cases e : i = k
    · subst e; exact before_refl _
    · have := h i (by omega) hci
      left
      unfold vlo at hv this
      unfold vlt
      generalize sat (X i).vc (X i).cost = c1 at *
      generalize sat (X k).vc (X k).cost = c2 at *
      unfold lx at *
      omega
  · omega
theorem IsRoot.none {k : Nat} (h : IsRoot X id k (-1)) (hv : ¬ vlo (X k) id) : IsRoot X id (k + 1) (-1) := by
  rcases h with ⟨_, h⟩ | ⟨j, e, _⟩
  · refine .inl ⟨rfl, fun i hi hci => ?_⟩
    by_cases e : i = k
    · subst e; exact hv
    · exact h i (by omega) hci
  · omega
theorem IsRoot.better {k j : Nat} (h : IsRoot X id k j) (hc : cand X id k = true) (hv : vlt (X k) (X j)) : IsRoot X id (k + 1) k := by
  rcases h with ⟨e, _⟩ | ⟨j', e, hj, hcj, hvj, h⟩
  · omega
  · obtain rfl : j = j' := by omega
    refine .inr ⟨k, rfl, by omega, hc, ?_, fun i hi hci => ?_⟩
    · unfold vlo at *
      unfold vlt at hv
      generalize sat (X j).vc (X j).cost = c1 at *
      generalize sat (X k).vc (X k).cost = c2 at *
      unfold lx at *
      omega
    · by_cases e : i = k
      · subst e; exact before_refl _
      · have := h i (by omega) hci
        left
        unfold before veq vlt at *
        generalize sat (X j).vc (X j).cost = c1 at *
        generalize sat (X k).vc (X k).cost = c2 at *
        generalize sat (X i).vc (X i).cost = c3 at *
        unfold lx at *
        omega
theorem IsRoot.less {k j : Nat} (h : IsRoot X id k j) (hc : cand X id k = true) (hv : veq (X k) (X j)) (hq : (X k).id < (X j).id) : IsRoot X id (k + 1) k := by
  rcases h with ⟨e, _⟩ | ⟨j', e, hj, hcj, hvj, h⟩
  · omega
  · obtain rfl : j = j' := by omega
    refine .inr ⟨k, rfl, by omega, hc, ?_, fun i hi hci => ?_⟩
    · unfold vlo at *
      unfold veq at hv
      generalize sat (X j).vc (X j).cost = c1 at *
      generalize sat (X k).vc (X k).cost = c2 at *
      unfold lx at *
      omega
    · by_cases e : i = k
      · subst e; exact before_refl _
      · have := h i (by omega) hci
        unfold before veq vlt at *
        generalize sat (X j).vc (X j).cost = c1 at *
        generalize sat (X k).vc (X k).cost = c2 at *
        generalize sat (X i).vc (X i).cost = c3 at *
        unfold lx at *
        omega
theorem IsRoot.keep {k j : Nat} (h : IsRoot X id k j) (hv : ¬ vlt (X k) (X j)) (hq : ¬ (veq (X k) (X j) ∧ (X k).id < (X j).id)) : IsRoot X id (k + 1) j := by
  rcases h with ⟨e, _⟩ | ⟨j', e, hj, hcj, hvj, h⟩
  · omega
  · obtain rfl : j = j' := by omega
    refine .inr ⟨j, rfl, by omega, hcj, hvj, fun i hi hci => ?_⟩
    by_cases e : i = k
    · subst e
      unfold before veq vlt at *
      generalize sat (X j).vc (X j).cost = c1 at *
      generalize sat (X i).vc (X i).cost = c2 at *
      unfold lx at *
      omega
    · exact h i (by omega) hci
theorem IsRoot.one {k : Nat} {r r' : Int} (h : IsRoot X id k r) (h' : IsRoot X id k r') : r = r' := by
  rcases h with ⟨rfl, h⟩ | ⟨j, rfl, hj, hcj, hvj, h⟩ <;> rcases h' with ⟨rfl, h'⟩ | ⟨j', rfl, hj', hcj', hvj', h'⟩
  · rfl
  · exact (h j' hj' hcj' hvj').elim
  · exact (h' j hj hcj hvj).elim
  · have a := h j' hj' hcj'
    have b := h' j hj hcj
    unfold before veq vlt at *
    generalize sat (X j).vc (X j).cost = c1 at *
    generalize sat (X j').vc (X j').cost = c2 at *
    unfold lx at *
    omega
end
theorem cl_sorted (X : Nat → Pd) (id n : Nat) : (cl X id n).Pairwise (· < ·) := List.Pairwise.filter _ List.pairwise_lt_range
theorem cl_order {X : Nat → Pd} {id n i j : Nat} (hij : j ≤ i) (hi : i < (cl X id n).length) : (cl X id n).getD j 0 ≤ (cl X id n).getD i 0 := by
  have hs := List.pairwise_iff_getElem.1 (cl_sorted X id n)
  rw [List.getD_eq_getElem?_getD, List.getD_eq_getElem?_getD, List.getElem?_eq_getElem hi, List.getElem?_eq_getElem (show j < (cl X id n).length by omega)]
  simp only [Option.getD_some]
  by_cases e : j = i
  · subst e; exact Nat.le_refl _
  · exact Nat.le_of_lt (hs j i (by omega) hi (by omega))
theorem rootI_is (X : Nat → Pd) (id n : Nat) : IsRoot X id n (rootI X id n) := by
  have hl := fun i (hi : i < (cl X id n).length) => bN_least (R := fun i => (X ((cl X id n).getD i 0)).vr) (C := fun i => sat (X ((cl X id n).getD i 0)).vc (X ((cl X id n).getD i 0)).cost) (G := fun i => (X ((cl X id n).getD i 0)).vb) (P := fun i => (X ((cl X id n).getD i 0)).vp) (Q := fun i => (X ((cl X id n).getD i 0)).id) (k := (cl X id n).length) (by omega) i hi
  have hj := fun (h0 : 0 < (cl X id n).length) => bN_lt (R := fun i => (X ((cl X id n).getD i 0)).vr) (C := fun i => sat (X ((cl X id n).getD i 0)).vc (X ((cl X id n).getD i 0)).cost) (G := fun i => (X ((cl X id n).getD i 0)).vb) (P := fun i => (X ((cl X id n).getD i 0)).vp) (Q := fun i => (X ((cl X id n).getD i 0)).id) (k := (cl X id n).length) h0
  unfold rootI
  simp only []
  generalize bN (fun i => (X ((cl X id n).getD i 0)).vr) (fun i => sat (X ((cl X id n).getD i 0)).vc (X ((cl X id n).getD i 0)).cost) (fun i => (X ((cl X id n).getD i 0)).vb) (fun i => (X ((cl X id n).getD i 0)).vp) (fun i => (X ((cl X id n).getD i 0)).id) (cl X id n).length = j at *
  have idx : ∀ i, i < n → cand X id i = true → ∃ k, k < (cl X id n).length ∧ (cl X id n).getD k 0 = i := fun i hi hc => by
    have hm : i ∈ cl X id n := (cl_mem X id).2 ⟨hi, hc⟩
    obtain ⟨k, hk, e⟩ := List.mem_iff_getElem.1 hm
    exact ⟨k, hk, by rw [List.getD_eq_getElem?_getD, List.getElem?_eq_getElem hk, e]; rfl⟩
  split
  · rename_i h0
    refine .inl ⟨rfl, fun i hi hc => ?_⟩
    obtain ⟨k, hk, _⟩ := idx i hi hc
    omega
  · rename_i h0
    have hj' := hj (by omega)
    have bef : ∀ i, i < n → cand X id i = true → before X ((cl X id n).getD j 0) i := fun i hi hc => by
      obtain ⟨k, hk, e⟩ := idx i hi hc
      have h1 := hl k hk
      have h2 : j ≤ k → (cl X id n).getD j 0 ≤ i := fun h => by rw [← e]; exact cl_order h hk
      unfold leastE lexA sameA at h1
      simp only [e] at h1
      unfold before vlt veq lx
      omega
    have hm : (cl X id n).getD j 0 ∈ cl X id n := by
      rw [List.getD_eq_getElem?_getD, List.getElem?_eq_getElem hj']; simp
    obtain ⟨hJn, hJc⟩ := (cl_mem X id).1 hm
    generalize (cl X id n).getD j 0 = J at *
    split
    · rename_i hL
      have hv : vlo (X J) id := (ltV_lx _ _ _ _ _ _ _ _).1 hL
      exact .inr ⟨J, rfl, hJn, hJc, hv, bef⟩
    · rename_i hL
      refine .inl ⟨rfl, fun i hi hc hv => hL ?_⟩
      have hb := bef i hi hc
      refine (ltV_lx (X J).vr (sat (X J).vc (X J).cost) (X J).vb (X J).vp id 0 id 0).2 ?_
      unfold vlo at hv
      unfold before vlt veq at hb
      generalize sat (X J).vc (X J).cost = c1 at *
      generalize sat (X i).vc (X i).cost = c2 at *
      unfold lx at *
      omega
end Go.Proofs.Ytidgdanhnpfpmaa
