/- What becomes of a port stays, if it is done once more; what is true of the root port. -/
import Derived.Test.YtidgdanhnpfpmaaUa
namespace Go.Proofs.Ytidgdanhnpfpmaa
open Go.RowKit Go.Sort

theorem rolA_at {D : Bd} {x : Pd} {q : Bool} {zs : Array Value} (j : Nat) (h1 : j ≠ 47) (h2 : j ≠ 43) : (rolA D x q zs 0)[j]? = zs[j]? := by
  unfold rolA
  have one : ∀ v, (putL zs (0 + 47) [v])[j]? = zs[j]? := fun v => by rw [putL_at, if_neg (by simp; omega)]
  have two : ∀ v u, (putL (putL zs (0 + 47) [v]) (0 + 43) [u])[j]? = zs[j]? := fun v u => by rw [putL_at, if_neg (by simp; omega)]; exact one v
  (repeat' split)
  · exact one _
  · exact two _ _
  · exact two _ _
  · exact one _
  · exact two _ _
  · rfl
theorem put_put (zs : Array Value) (v : Value) : putL (putL zs 47 [v]) 47 [v] = putL zs 47 [v] := by
  apply Array.ext_getElem?
  intro j
  simp only [putL_at, putL_size, List.length_cons, List.length_nil]
  split <;> rfl
theorem put_puts (zs : Array Value) (v u : Value) : putL (putL (putL (putL zs 47 [v]) 43 [u]) 47 [v]) 43 [u] = putL (putL zs 47 [v]) 43 [u] := by
  apply Array.ext_getElem?
  intro j
  simp only [putL_at, putL_size, List.length_cons, List.length_nil]
  by_cases h1 : j = 43
  · subst h1
    by_cases hs : 43 < zs.size <;> simp [hs]
  · by_cases h2 : j = 47
    · subst h2
      by_cases hs : 47 < zs.size <;> simp [hs]
    · rw [if_neg (by omega), if_neg (by omega), if_neg (by omega)]
theorem rolA_idem (D : Bd) (x : Pd) (q : Bool) (zs : Array Value) : rolA D x q (rolA D x q zs 0) 0 = rolA D x q zs 0 := by
  unfold rolA
  simp only [Nat.zero_add]
  by_cases h0 : x.info = 0
  · rw [if_pos h0, if_pos h0]; exact put_put _ _
  · rw [if_neg h0, if_neg h0]
    by_cases h1 : x.info = 1
    · rw [if_pos h1, if_pos h1]; exact put_puts _ _ _
    · rw [if_neg h1, if_neg h1]
      by_cases h2 : x.info = 2
      · rw [if_pos h2, if_pos h2]
        by_cases hd : differs D x = true
        · rw [if_pos hd, if_pos hd]; exact put_puts _ _ _
        · rw [if_neg hd, if_neg hd]; exact put_put _ _
      · rw [if_neg h2, if_neg h2]
        by_cases h3 : x.info = 3
        · rw [if_pos h3, if_pos h3]; exact put_puts _ _ _
        · rw [if_neg h3, if_neg h3]
theorem desA_same {D : Bd} {i : Nat} {ys : Array Value} (hy : ys.size = 90) (h48 : ys[48]? = some (.int .u64 D.r)) (h49 : ys[49]? = some (.int .u32 D.c)) (h50 : ys[50]? = some (.int .u64 D.id)) (h51 : ys[51]? = some (.int .u16 i))
    (h60 : ys[60]? = some (.int .i64 D.ra)) (h61 : ys[61]? = some (.int .i64 D.rm)) (h62 : ys[62]? = some (.int .i64 D.h)) (h63 : ys[63]? = some (.int .i64 D.rd)) : desA D i ys 0 = ys := by
  apply Array.ext_getElem?
  intro j
  by_cases hj : ¬ (48 ≤ j ∧ j < 52) ∧ ¬ (60 ≤ j ∧ j < 64)
  · exact desA_at hy j hj
  · have : j = 48 ∨ j = 49 ∨ j = 50 ∨ j = 51 ∨ j = 60 ∨ j = 61 ∨ j = 62 ∨ j = 63 := by omega
    rcases this with rfl | rfl | rfl | rfl | rfl | rfl | rfl | rfl
    · rw [h48]; exact des48 hy
    · rw [h49]; exact des49 hy
    · rw [h50]; exact des50 hy
    · rw [h51]; exact des51 hy
    · rw [h60]; exact des60 hy
    · rw [h61]; exact des61 hy
    · rw [h62]; exact des62 hy
    · rw [h63]; exact des63 hy
theorem newP_idem (D : Bd) (x : Pd) (q : Bool) {xs : Array Value} (hx : xs.size = 90) : newP D x q (newP D x q xs) = newP D x q xs := by
  have hs : (newP D x q xs).size = 90 := by rw [newP_size]; exact hx
  have e : ∀ j, j ≠ 47 → j ≠ 43 → (newP D x q xs)[j]? = (desA D x.id xs 0)[j]? := fun j h1 h2 => rolA_at j h1 h2
  have hd : desA D x.id (newP D x q xs) 0 = newP D x q xs := desA_same hs
    (by rw [e 48 (by omega) (by omega)]; exact des48 hx) (by rw [e 49 (by omega) (by omega)]; exact des49 hx) (by rw [e 50 (by omega) (by omega)]; exact des50 hx) (by rw [e 51 (by omega) (by omega)]; exact des51 hx)
    (by rw [e 60 (by omega) (by omega)]; exact des60 hx) (by rw [e 61 (by omega) (by omega)]; exact des61 hx) (by rw [e 62 (by omega) (by omega)]; exact des62 hx) (by rw [e 63 (by omega) (by omega)]; exact des63 hx)
  show rolA D x q (desA D x.id (newP D x q xs) 0) 0 = _
  rw [hd]
  exact rolA_idem D x q _
theorem newP_at {D : Bd} {x : Pd} {q : Bool} {xs : Array Value} (hx : xs.size = 90) (j : Nat) (h1 : j ≠ 47) (h2 : j ≠ 43) (h3 : ¬ (48 ≤ j ∧ j < 52) ∧ ¬ (60 ≤ j ∧ j < 64)) : (newP D x q xs)[j]? = xs[j]? := by
  unfold newP
  rw [rolA_at j h1 h2, desA_at hx j h3]
theorem newP_in {D : Bd} {x : Pd} {q : Bool} {xs : Array Value} (h : x.In xs) : x.In (newP D x q xs) := by
  have e : ∀ j, j ≠ 47 → j ≠ 43 → (¬ (48 ≤ j ∧ j < 52) ∧ ¬ (60 ≤ j ∧ j < 64)) → (newP D x q xs)[j]? = xs[j]? := fun j a b c => newP_at h.size j a b c
  exact ⟨by rw [newP_size]; exact h.size, by rw [e 0 (by omega) (by omega) (by omega)]; exact h.id, by rw [e 1 (by omega) (by omega) (by omega)]; exact h.cost, by rw [e 44 (by omega) (by omega) (by omega)]; exact h.info,
    by rw [e 56 (by omega) (by omega) (by omega)]; exact h.vr, by rw [e 57 (by omega) (by omega) (by omega)]; exact h.vc, by rw [e 58 (by omega) (by omega) (by omega)]; exact h.vb, by rw [e 59 (by omega) (by omega) (by omega)]; exact h.vp,
    by rw [e 68 (by omega) (by omega) (by omega)]; exact h.a, by rw [e 69 (by omega) (by omega) (by omega)]; exact h.m, by rw [e 70 (by omega) (by omega) (by omega)]; exact h.h, by rw [e 71 (by omega) (by omega) (by omega)]; exact h.d,
    h.lid, h.lcost, h.lvr, h.lvc, h.lvb, h.lvp⟩
theorem newP_role {D : Bd} {x : Pd} {q : Bool} {xs : Array Value} (h : x.In xs) (h3 : x.info = 3) : (newP D x q xs)[47]? = some (.int .i64 (roleOf D x q)) := by
  have hs : (desA D x.id xs 0).size = 90 := by rw [desA_size]; exact h.size
  unfold newP rolA
  rw [if_neg (by omega), if_neg (by omega), if_neg (by omega), if_pos h3]
  simp only [putL_at, putL_size, hs]
  simp
theorem role_no (D : Bd) (x : Pd) : (roleOf D x false == 1) = false := by
  unfold roleOf roleN
  split
  · rename_i h; cases h
  · split
    · rfl
    · split <;> rfl
theorem role_yes (D : Bd) (x : Pd) : roleOf D x true = 1 := rfl
/-- The bridge, once more. -/
theorem rootB_rootB (B : Bd) (X : Nat → Pd) (r : Int) : rootB (rootB B X r) X r = rootB B X r := by
  by_cases hr : r = -1
  · subst hr
    have h : ∀ B : Bd, rootB B X (-1) = B.own := fun B => rootB_none B X
    rw [h B, h B.own]
  · unfold rootB
    rw [if_neg hr, if_neg hr]
/-- No port whose vector came, and isn't the bridge's own, is better than the root. -/
theorem root_best {B : Bd} {X : Nat → Pd} {n i : Nat} (hi : i < n) (h3 : (X i).info = 3) (hE : eqM (X i).vb B.id = false) : ltD (X i) (rootB B X (rootI X B.id n)) = false := by
  have hc : cand X B.id i = true := by simp [cand, h3, hE]
  have hr := rootI_is X B.id n
  generalize rootI X B.id n = r at *
  cases hL : ltD (X i) (rootB B X r)
  · rfl
  · exfalso
    rcases hr with ⟨rfl, h⟩ | ⟨j, rfl, _, _, _, h⟩
    · rw [rootB_none] at hL
      exact h i hi hc ((ltV_lx _ _ _ _ _ _ _ _).1 hL)
    · rw [rootB_at] at hL
      have hb := h i hi hc
      have hl : vlt (X i) (X j) := (ltV_lx _ _ _ _ _ _ _ _).1 hL
      unfold before veq at hb
      unfold vlt at *
      generalize sat (X i).vc (X i).cost = c1 at *
      generalize sat (X j).vc (X j).cost = c2 at *
      unfold lx at *
      omega
/-- The root port's vector is the root's, and better than the bridge's own. -/
theorem root_is {B : Bd} {X : Nat → Pd} {n i : Nat} (hr : ((i : Int) == rootI X B.id n) = true) : eqM (X i).vb B.id = false ∧ eqD (X i) (rootB B X (rootI X B.id n)) = true ∧ ltV (X i).vr (sat (X i).vc (X i).cost : Nat) (X i).vb (X i).vp B.id 0 B.id 0 = true ∧ (rootB B X (rootI X B.id n)).rp = (X i).id ∧ (rootB B X (rootI X B.id n)).ra = wrap64 ((X i).a + 1) := by
  have h := rootI_is X B.id n
  generalize rootI X B.id n = r at *
  simp at hr
  subst hr
  rcases h with ⟨e, _⟩ | ⟨j, e, hj, hc, hv, _⟩
  · omega
  · obtain rfl : i = j := by omega
    rw [rootB_at]
    refine ⟨?_, (eqV_iff _ _ _ _ _ _ _ _).2 ⟨rfl, rfl, rfl, rfl⟩, (ltV_lx _ _ _ _ _ _ _ _).2 hv, rfl, rfl⟩
    simp [cand] at hc
    exact hc.2
end Go.Proofs.Ytidgdanhnpfpmaa
