/- The document's reading of a text as an identifier: the contract of the reference's Parse. Condition: texts of at most 100 bytes. -/
import Derived.Test.YtgeommhambkmgaaDoorX
namespace Go.Proofs.YtgeommhambkmgaaDoor
open Go.RowKit Go.Sort

theorem bt_get (l : List UInt8) (j : Nat) : bt ⟨⟨l⟩⟩ j = (l.getD j 0).toNat := rfl
/-- The first dash behind the first byte. -/
def dashAt (l : List UInt8) (n : Nat) : Prop := 1 ≤ n ∧ n < l.length ∧ bt ⟨⟨l⟩⟩ n = 45 ∧ ∀ j, 1 ≤ j → j < n → bt ⟨⟨l⟩⟩ j ≠ 45
theorem getD_left (a r : List UInt8) (j : Nat) (h : j < a.length) : (a ++ r).getD j 0 = a[j] := by
  simp [List.getD, List.getElem?_append, h]
theorem idOk_at {l a r : List UInt8} (h : idOk l a r) : 1 ≤ a.length ∧ a.length ≤ 4 ∧ a.length < l.length ∧ bt ⟨⟨l⟩⟩ a.length = 45 ∧ ∀ j, j < a.length → (dval (bt ⟨⟨l⟩⟩ j)).isSome = true := by
  obtain ⟨rfl, ⟨h1, h2, h3⟩, h4, h5⟩ := h
  have hp : 0 < a.length := by cases a with | nil => exact absurd rfl h1 | cons => simp
  refine ⟨hp, h4, by simp, ?_, fun j hj => ?_⟩
  · rw [bt_get]; simp [List.getD]
  · rw [bt_get, getD_left a _ j hj]; exact h2 _ (List.getElem_mem _)
theorem dval45 : dval 45 = none := by decide
theorem idOk_dash {l a r : List UInt8} (h : idOk l a r) {n : Nat} (hd : dashAt l n) : a.length = n := by
  obtain ⟨h1, h2, h3, h4, h5⟩ := idOk_at h
  obtain ⟨d1, d2, d3, d4⟩ := hd
  rcases Nat.lt_trichotomy a.length n with hlt | heq | hgt
  · exact absurd h4 (d4 _ h1 hlt)
  · exact heq
  · have := h5 n hgt
    rw [d3, dval45] at this
    cases this
theorem split_at {l : List UInt8} {n : Nat} (hd : dashAt l n) : l = l.take n ++ 45 :: l.drop (n + 1) := by
  obtain ⟨d1, d2, d3, d4⟩ := hd
  have e : l.getD n 0 = 45 := by
    rw [bt_get] at d3
    exact UInt8.toNat_inj.1 d3
  rw [← e, ← drop_get l n d2, List.take_append_drop]
theorem idOk_parts {l a r : List UInt8} (h : idOk l a r) {n : Nat} (hd : dashAt l n) : a = l.take n ∧ r = l.drop (n + 1) := by
  have e := idOk_dash h hd
  have h1 := h.1
  have h2 := split_at hd
  have hl : (l.take n).length = n := by have := hd.2.1; simp; omega
  have h3 := h1.symm.trans h2
  have := List.append_inj h3 (by rw [hl]; exact e)
  exact ⟨this.1, (List.cons.inj this.2).2⟩
theorem take_len {l : List UInt8} {n : Nat} (hd : dashAt l n) : (l.take n).length = n := by have := hd.2.1; simp; omega
/-- What the reference's reading returns. -/
def refE (l : List UInt8) (e : Ending) : Prop := (∃ a r, idOk l a r ∧ e = .returned (.tuple #[.int .u64 (idN (hval a 0) (macOf ⟨⟨r⟩⟩)), .bool true])) ∨ ((¬ ∃ a r, idOk l a r) ∧ e = .returned (.tuple #[.int .u64 0, .bool false]))
theorem no_dash {l : List UInt8} {k : Nat} (hk : k = 5 ∨ l.length ≤ k) (h : ∀ j, 1 ≤ j → j < k → bt ⟨⟨l⟩⟩ j ≠ 45) : ¬ ∃ a r, idOk l a r := by
  rintro ⟨a, r, ho⟩
  obtain ⟨h1, h2, h3, h4, h5⟩ := idOk_at ho
  exact h _ h1 (by omega) h4
theorem bad_fig {l : List UInt8} {n i : Nat} (hd : dashAt l n) (hi : i < n) (hv : dval (bt ⟨⟨l⟩⟩ i) = none) : ¬ ∃ a r, idOk l a r := by
  rintro ⟨a, r, ho⟩
  have e := idOk_dash ho hd
  have := (idOk_at ho).2.2.2.2 i (by omega)
  rw [hv] at this
  cases this
theorem bad_mac {l : List UInt8} {n : Nat} (hd : dashAt l n) (h : ¬ okTxt ⟨⟨l.drop (n + 1)⟩⟩) : ¬ ∃ a r, idOk l a r := by
  rintro ⟨a, r, ho⟩
  have e := idOk_parts ho hd
  exact h (e.2 ▸ ho.2.2.2)
theorem bad_zero {l : List UInt8} {n : Nat} (hd : dashAt l n) (h1 : 1 < n) (h0 : bt ⟨⟨l⟩⟩ 0 = 48) : ¬ ∃ a r, idOk l a r := by
  rintro ⟨a, r, ho⟩
  have e := idOk_dash ho hd
  have h := ho.2.1.2.2 (by omega)
  rw [ho.1, bt_get, getD_left _ _ 0 (by omega)] at h0
  apply h
  have : a.getD 0 0 = a[0]'(by omega) := by simp [List.getD, List.getElem?_eq_getElem (show 0 < a.length by omega)]
  rw [this]
  exact UInt8.toNat_inj.1 h0
theorem good_at {l : List UInt8} {n : Nat} (hd : dashAt l n) (hn : n ≤ 4) (hf : ∀ j, j < n → (dval (bt ⟨⟨l⟩⟩ j)).isSome = true) (hr : okTxt ⟨⟨l.drop (n + 1)⟩⟩) (h0 : 1 < n → bt ⟨⟨l⟩⟩ 0 ≠ 48) : idOk l (l.take n) (l.drop (n + 1)) := by
  have hl := take_len hd
  have hlen := hd.2.1
  refine ⟨split_at hd, ⟨?_, ?_, ?_⟩, by omega, hr⟩
  · intro e; rw [e] at hl; have := hd.1; simp at hl; omega
  · intro c hc
    obtain ⟨j, hj, rfl⟩ := List.getElem_of_mem hc
    have h1 := hf j (by omega)
    rw [bt_get] at h1
    have : l.getD j 0 = (l.take n)[j] := by simp [List.getD, List.getElem?_eq_getElem (show j < l.length by omega)]
    rw [← this]; exact h1
  · intro h1 e
    apply h0 (by omega)
    rw [bt_get]
    have : l.getD 0 0 = (l.take n).getD 0 0 := by
      have hn0 : 0 < n := hd.1
      simp [List.getD, hn0]
    rw [this, e]; rfl
end Go.Proofs.YtgeommhambkmgaaDoor
