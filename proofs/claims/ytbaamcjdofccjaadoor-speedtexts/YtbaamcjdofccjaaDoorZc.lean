/- Texts of numbers, as lists of bytes. Plain facts, no program. -/
import Derived.Test.YtbaamcjdofccjaaDoorE
namespace Go.Proofs.YtbaamcjdofccjaaDoor
open Go.RowKit

theorem ext_list (s : ByteArray) (a b : Nat) : (s.extract a b).data.toList = (s.data.toList.take b).drop a := by
  simp [ByteArray.data_extract, List.extract_eq_take_drop, List.drop_take]
theorem front_list (s : ByteArray) : (front s).data.toList = s.data.toList.take (s.size - 1) := by
  unfold front
  rw [ext_list, List.drop_zero]
def NumL (l : List UInt8) : Prop := (l ≠ [] ∧ ∀ c ∈ l, dg c = true) ∨ ∃ a r, l = a ++ 46 :: r ∧ a ≠ [] ∧ r ≠ [] ∧ (∀ c ∈ a, dg c = true) ∧ ∀ c ∈ r, dg c = true
theorem dg46 : dg 46 = false := by decide
theorem digs_iff (s : ByteArray) : digs s = true ↔ s.data.toList ≠ [] ∧ ∀ c ∈ s.data.toList, dg c = true := by
  unfold digs
  simp only [Bool.and_eq_true, List.all_eq_true, Bool.not_eq_true', List.isEmpty_eq_false_iff]
  exact And.comm
theorem numB_of {t : ByteArray} (h : numB t = true) : NumL t.data.toList := by
  unfold numB at h
  rcases fi_cases t with ⟨h1, _⟩ | ⟨a, r, h1, _, h3⟩
  · rw [if_pos h1] at h
    exact .inl ((digs_iff t).1 h)
  · rw [if_neg (by omega), Bool.and_eq_true, digs_iff, digs_iff, h3, Int.toNat_natCast, ext_list, ext_list, h1] at h
    have e1 : ((a ++ 46 :: r).take a.length).drop 0 = a := by simp
    have hsz : t.size = (a ++ 46 :: r).length := by rw [← h1]; simp
    have e2 : ((a ++ 46 :: r).take t.size).drop (a.length + 1) = r := by
      rw [hsz, List.take_length, show a ++ 46 :: r = (a ++ [46]) ++ r by simp, List.drop_left' (by simp)]
    rw [e1, e2] at h
    exact .inr ⟨a, r, h1, h.1.1, h.2.1, h.1.2, h.2.2⟩
theorem numB_int {t : ByteArray} (h0 : t.data.toList ≠ []) (h : ∀ c ∈ t.data.toList, dg c = true) : firstIdx t 46 = -1 ∧ numB t = true := by
  have h1 : firstIdx t 46 = -1 := by
    rcases fi_cases t with ⟨h1, _⟩ | ⟨a, r, h1, _, _⟩
    · exact h1
    · have := h 46 (by rw [h1]; simp)
      rw [dg46] at this; cases this
  refine ⟨h1, ?_⟩
  unfold numB
  rw [if_pos h1, digs_iff]
  exact ⟨h0, h⟩
theorem numB_dot {t : ByteArray} {a r : List UInt8} (h1 : t.data.toList = a ++ 46 :: r) (ha : a ≠ []) (hr : r ≠ []) (hda : ∀ c ∈ a, dg c = true) (hdr : ∀ c ∈ r, dg c = true) : firstIdx t 46 = a.length ∧ numB t = true := by
  have no46 : ∀ l : List UInt8, (∀ c ∈ l, dg c = true) → ∀ c ∈ l, c ≠ 46 := fun l h c hc e => by
    have := h c hc
    rw [e, dg46] at this; cases this
  have hi : firstIdx t 46 = (a.length : Int) := by
    rcases fi_cases t with ⟨_, h2⟩ | ⟨a', r', h2, h3, h4⟩
    · exact absurd rfl (h2 46 (by rw [h1]; simp))
    · rw [h4]
      have he : a' ++ 46 :: r' = a ++ 46 :: r := by rw [← h2, h1]
      rcases Nat.lt_trichotomy a'.length a.length with c | c | c
      · exfalso
        have x : (a' ++ 46 :: r')[a'.length]? = some 46 := by simp
        rw [he, List.getElem?_append_left c] at x
        exact no46 a hda 46 (List.mem_of_getElem? x) rfl
      · rw [c]
      · exfalso
        have x : (a ++ 46 :: r)[a.length]? = some 46 := by simp
        rw [← he, List.getElem?_append_left c] at x
        exact h3 46 (List.mem_of_getElem? x) rfl
  refine ⟨hi, ?_⟩
  unfold numB
  rw [if_neg (by omega), Bool.and_eq_true, digs_iff, digs_iff, hi, Int.toNat_natCast, ext_list, ext_list, h1]
  have e1 : ((a ++ 46 :: r).take a.length).drop 0 = a := by simp
  have hsz : t.size = (a ++ 46 :: r).length := by rw [← h1]; simp
  have e2 : ((a ++ 46 :: r).take t.size).drop (a.length + 1) = r := by
    rw [hsz, List.take_length, show a ++ 46 :: r = (a ++ [46]) ++ r by simp, List.drop_left' (by simp)]
  rw [e1, e2]
  exact ⟨⟨ha, hda⟩, hr, hdr⟩
theorem get_list (t : ByteArray) (k : Nat) (h : k < t.size) : t.data.toList[k]? = some t[k] := by
  rw [List.getElem?_eq_getElem (by simpa using h)]; rfl
theorem NumS_of {t : ByteArray} (h : NumL t.data.toList) (hl : t.size ≤ 19) : NumS t := by
  have hsz : t.data.toList.length = t.size := by simp
  rcases h with ⟨h0, h1⟩ | ⟨a, r, h1, ha, hr, hda, hdr⟩
  · refine ⟨?_, hl, ?_, ?_, ?_⟩
    · have := List.length_pos_iff.2 h0; omega
    · intro k hk; exact .inl (h1 _ (List.mem_of_getElem? (get_list t k hk)))
    · intro k hk e
      have := h1 _ (List.mem_of_getElem? (get_list t k hk))
      rw [e, dg46] at this; cases this
    · intro hk; exact h1 _ (List.mem_of_getElem? (get_list t 0 hk))
  · have hap := List.length_pos_iff.2 ha
    have hlen : t.size = a.length + (r.length + 1) := by rw [← hsz, h1]; simp
    refine ⟨by omega, hl, ?_, ?_, ?_⟩
    · intro k hk
      have hm := List.mem_of_getElem? (get_list t k hk)
      rw [h1] at hm
      rcases List.mem_append.1 hm with m | m
      · exact .inl (hda _ m)
      · rcases List.mem_cons.1 m with m | m
        · exact .inr m
        · exact .inl (hdr _ m)
    · intro k hk e
      have hg := get_list t k hk
      rw [h1, e] at hg
      have hk' : k = a.length := by
        rcases Nat.lt_trichotomy k a.length with c | c | c
        · exfalso
          rw [List.getElem?_append_left c] at hg
          have := hda _ (List.mem_of_getElem? hg)
          rw [dg46] at this; cases this
        · exact c
        · exfalso
          rw [List.getElem?_append_right (by omega)] at hg
          obtain ⟨j, hj⟩ : ∃ j, k - a.length = j + 1 := ⟨k - a.length - 1, by omega⟩
          rw [hj, List.getElem?_cons_succ] at hg
          have := hdr _ (List.mem_of_getElem? hg)
          rw [dg46] at this; cases this
      rw [hk', h1, List.take_left']
      · unfold hasDot
        rw [List.any_eq_false]
        intro c hc hcc
        have := hda c hc
        have e46 : c = 46 := by simpa using hcc
        rw [e46, dg46] at this; cases this
      · rfl
    · intro hk
      have hg := get_list t 0 hk
      rw [h1, List.getElem?_append_left hap] at hg
      exact hda _ (List.mem_of_getElem? hg)
theorem mant_dot (a r : List UInt8) : mant (a ++ 46 :: r) = mant (a ++ r) := by
  unfold mant
  simp [List.foldl_append, mstep]
theorem frac_dot {a r : List UInt8} (hda : ∀ c ∈ a, dg c = true) : frac (a ++ 46 :: r) = r.length := by
  unfold frac
  have : (a ++ 46 :: r).dropWhile (· != 46) = 46 :: r := by
    induction a with
    | nil => simp
    | cons b a ih =>
      have hb : b ≠ 46 := fun e => by
        have := hda b (List.mem_cons_self ..)
        rw [e, dg46] at this; cases this
      simp [hb]
      exact ih fun c hc => hda c (List.mem_cons_of_mem _ hc)
  rw [this]; simp
theorem frac_int {l : List UInt8} (h : ∀ c ∈ l, dg c = true) : frac l = 0 := by
  refine frac_none ?_
  unfold hasDot
  rw [List.any_eq_false]
  intro c hc hcc
  have := h c hc
  have e46 : c = 46 := by simpa using hcc
  rw [e46, dg46] at this; cases this
end Go.Proofs.YtbaamcjdofccjaaDoor
