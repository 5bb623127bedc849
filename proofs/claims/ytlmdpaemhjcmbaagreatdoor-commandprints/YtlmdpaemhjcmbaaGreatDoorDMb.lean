/- Figures. -/
import Derived.Test.YtlmdpaemhjcmbaaGreatDoorProg
import Derived.Lib.SplitLaws
import Derived.Lib.ItoaLen
import Derived.Lib.AtoiAllCases
import Derived.Lib.Join
namespace Go.Proofs.YtlmdpaemhjcmbaaGreatDoor.Cd
open Go.Lib

/-- What figures say. -/
def vf (a : Nat) (l : List UInt8) : Nat := l.foldl (fun a c => 10 * a + (c.toNat - 48)) a
theorem vf_snoc (a : Nat) (l : List UInt8) (c : UInt8) : vf a (l ++ [c]) = 10 * vf a l + (c.toNat - 48) := by simp [vf]
theorem vf_ge : ∀ (l : List UInt8) (a : Nat), a ≤ vf a l
  | [], _ => Nat.le_refl _
  | c :: l, a => by
    have := vf_ge l (10 * a + (c.toNat - 48))
    show a ≤ vf (10 * a + (c.toNat - 48)) l
    omega
/-- A figure. -/
def fig (c : UInt8) : Prop := 48 ≤ c.toNat ∧ c.toNat ≤ 57
theorem fig_of {u : Nat} (h : u < 10) : fig (UInt8.ofNat (48 + u)) ∧ (UInt8.ofNat (48 + u)).toNat - 48 = u := by
  have : (UInt8.ofNat (48 + u)).toNat = 48 + u := by simp; omega
  unfold fig; rw [this]; omega
theorem dec_big {u : Nat} (h : ¬ u < 10) : decDigits u = decDigits (u / 10) ++ [UInt8.ofNat (48 + u % 10)] := by rw [decDigits, dif_neg h]
theorem fig_dec (u : Nat) : ∀ c ∈ decDigits u, fig c := by
  induction u using Nat.strongRecOn with
  | _ u ih =>
    by_cases h : u < 10
    · rw [decDigits_one h]; intro c hc; rw [List.mem_singleton] at hc; subst hc; exact (fig_of h).1
    · rw [dec_big h]; intro c hc
      rcases List.mem_append.1 hc with hc | hc
      · exact ih _ (by omega) c hc
      · rw [List.mem_singleton] at hc; subst hc; exact (fig_of (by omega)).1
theorem vf_dec (u : Nat) : vf 0 (decDigits u) = u := by
  induction u using Nat.strongRecOn with
  | _ u ih =>
    by_cases h : u < 10
    · rw [decDigits_one h]; simpa [vf] using (fig_of h).2
    · rw [dec_big h, vf_snoc, ih _ (by omega), (fig_of (by omega)).2]; omega
theorem dec_ne (u : Nat) : decDigits u ≠ [] := by
  intro h
  have := decDigits_length u
  have := nDigits_pos u
  rw [h] at *; simp at *; omega
theorem head_app {r : List UInt8} (h : r ≠ []) (t : List UInt8) : (r ++ t).head? = r.head? := by
  cases r with
  | nil => exact absurd rfl h
  | cons a l => rfl
/-- No figure too many. -/
def lean (l : List UInt8) : Prop := l ≠ [] ∧ (1 < l.length → l.head? ≠ some 48)
theorem lean_dec (u : Nat) : lean (decDigits u) := by
  refine ⟨dec_ne u, ?_⟩
  induction u using Nat.strongRecOn with
  | _ u ih =>
    by_cases h : u < 10
    · rw [decDigits_one h]; simp
    · intro _
      rw [dec_big h, head_app (dec_ne _)]
      by_cases h2 : u / 10 < 10
      · rw [decDigits_one h2]
        intro e
        have e' := Option.some.inj e
        have := congrArg UInt8.toNat e'
        have t : (UInt8.ofNat (48 + u / 10)).toNat = 48 + u / 10 := by simp; omega
        rw [t] at this
        have : (48 : UInt8).toNat = 48 := rfl
        omega
      · refine ih _ (by omega) ?_
        have := decDigits_length (u / 10)
        have := nDigits_pos (u / 10 / 10)
        rw [nDigits_big h2] at *
        omega
theorem vf_pos {l : List UInt8} (hf : ∀ c ∈ l, fig c) (hne : l ≠ []) (h0 : l.head? ≠ some 48) : 1 ≤ vf 0 l := by
  cases l with
  | nil => exact absurd rfl hne
  | cons c r =>
    have h1 := hf c (by simp)
    have h2 : c ≠ 48 := fun e => h0 (by simp [e])
    have h3 : c.toNat ≠ 48 := fun e => h2 (UInt8.toNat_inj.1 e)
    have := vf_ge r (10 * 0 + (c.toNat - 48))
    show 1 ≤ vf (10 * 0 + (c.toNat - 48)) r
    unfold fig at h1; omega
theorem dec_vf : ∀ (n : Nat) (l : List UInt8), l.length = n → (∀ c ∈ l, fig c) → lean l → decDigits (vf 0 l) = l
  | 0, l, hn, _, h => absurd (List.length_eq_zero_iff.1 hn) h.1
  | n + 1, l, hn, hf, h => by
    obtain ⟨r, c, rfl⟩ : ∃ r c, l = r ++ [c] := ⟨l.dropLast, l.getLast h.1, (List.dropLast_concat_getLast h.1).symm⟩
    have hc := hf c (by simp)
    have hcc : UInt8.ofNat (48 + (c.toNat - 48)) = c := by
      apply UInt8.toNat_inj.1
      unfold fig at hc
      simp; omega
    rw [vf_snoc]
    by_cases hr : r = []
    · subst hr
      have e : vf 0 [] = 0 := rfl
      rw [e, decDigits_one (by unfold fig at hc; omega)]
      simp only [Nat.mul_zero, Nat.zero_add, hcc]; rfl
    · have hl : 1 < (r ++ [c]).length := by
        have : 0 < r.length := List.length_pos_iff.2 hr
        simp; omega
      have h0 := h.2 hl
      rw [head_app hr] at h0
      have hf' : ∀ d ∈ r, fig d := fun d hd => hf d (by simp [hd])
      have hp := vf_pos hf' hr h0
      have ih := dec_vf n r (by simpa using hn) hf' ⟨hr, fun _ => h0⟩
      unfold fig at hc
      rw [dec_big (by omega), show (10 * vf 0 r + (c.toNat - 48)) / 10 = vf 0 r by omega, show (10 * vf 0 r + (c.toNat - 48)) % 10 = c.toNat - 48 by omega, ih, hcc]
theorem puint_ok : ∀ (l : List UInt8) (a : Nat), (∀ c ∈ l, fig c) → vf a l ≤ 1073741824 → parseUint10 a l = .ok (vf a l)
  | [], a, _, _ => rfl
  | c :: r, a, hf, h => by
    have hc := hf c (by simp)
    have hv : vf a (c :: r) = vf (10 * a + (c.toNat - 48)) r := rfl
    rw [hv] at h ⊢
    have := vf_ge r (10 * a + (c.toNat - 48))
    have ih := puint_ok r (10 * a + (c.toNat - 48)) (fun d hd => hf d (by simp [hd])) h
    unfold fig at hc
    rw [parseUint10, if_pos hc, if_neg (by omega), if_neg (by omega), Nat.mul_comm a 10, ih]
theorem atoi_dec {n : Nat} (h : n ≤ 1073741824) : atoiAll (decDigits n) = .ok (n : Int) := by
  have hp := puint_ok (decDigits n) 0 (fig_dec n) (by rw [vf_dec]; exact h)
  rw [vf_dec] at hp
  have hf := fig_dec n
  cases hd : decDigits n with
  | nil => exact absurd hd (dec_ne n)
  | cons c r =>
    rw [hd] at hp hf
    have hc := hf c (by simp)
    unfold fig at hc
    rw [atoiAll_plain c r (by omega) (by omega), parseMag, if_neg (by simp), hp, signless, if_neg (by omega)]

/-- The number of a word, if it is one's. -/
def num (l : List UInt8) : Option Nat :=
  match atoiAll l with
  | .ok v => if 0 ≤ v ∧ v ≤ 1073741824 ∧ itoa v = l then some v.toNat else none
  | _ => none
theorem itoa_nat (n : Nat) : itoa (n : Int) = decDigits n := by unfold itoa; rw [if_neg (by omega)]; simp
theorem num_dec {n : Nat} (h : n ≤ 1073741824) : num (decDigits n) = some n := by
  unfold num; rw [atoi_dec h]; simp only; rw [if_pos ⟨by omega, by omega, itoa_nat n⟩]; simp
theorem num_some {l : List UInt8} {n : Nat} (h : num l = some n) : n ≤ 1073741824 ∧ l = decDigits n := by
  unfold num at h
  split at h
  · split at h
    · rename_i v _ hv
      have := Option.some.inj h
      refine ⟨by omega, ?_⟩
      rw [← hv.2.2, ← this, ← itoa_nat, Int.toNat_of_nonneg hv.1]
    · cases h
  · cases h
/-- The same, as the reference has it. -/
theorem num_ref {l : List UInt8} (h0 : l ≠ []) (h2 : ¬ (1 < l.length ∧ l.head? = some 48)) (hf : ∀ c ∈ l, fig c) (hv : vf 0 l ≤ 1073741824) : num l = some (vf 0 l) := by
  have := dec_vf _ l rfl hf ⟨h0, fun h e => h2 ⟨h, e⟩⟩
  rw [← this, num_dec hv, this]
theorem dig_len {n : Nat} (h : n ≤ 1073741824) : (decDigits n).length ≤ 10 := by
  rw [decDigits_length]
  false_or_by_contra
  rename_i hc
  have e : nDigits n = nDigits (n / 10 / 10 / 10 / 10 / 10 / 10 / 10 / 10 / 10) + 9 := by
    have k : ∀ u, 1 < nDigits u → nDigits u = nDigits (u / 10) + 1 := fun u hu => by
      by_cases h : u < 10
      · rw [nDigits_small h] at hu; omega
      · exact nDigits_big h
    have := k n
    have := k (n / 10)
    have := k (n / 10 / 10)
    have := k (n / 10 / 10 / 10)
    have := k (n / 10 / 10 / 10 / 10)
    have := k (n / 10 / 10 / 10 / 10 / 10)
    have := k (n / 10 / 10 / 10 / 10 / 10 / 10)
    have := k (n / 10 / 10 / 10 / 10 / 10 / 10 / 10)
    have := k (n / 10 / 10 / 10 / 10 / 10 / 10 / 10 / 10)
    omega
  have hs : n / 10 / 10 / 10 / 10 / 10 / 10 / 10 / 10 / 10 < 10 := by omega
  have := nDigits_small hs
  omega
theorem num_not {l : List UInt8} (h : l = [] ∨ 10 < l.length ∨ (1 < l.length ∧ l.head? = some 48) ∨ (∃ c ∈ l, ¬ fig c) ∨ 1073741824 < vf 0 l) : num l = none := by
  cases hn : num l with
  | none => rfl
  | some n =>
    obtain ⟨hb, rfl⟩ := num_some hn
    rcases h with h | h | h | ⟨c, hc, h⟩ | h
    · exact absurd h (dec_ne n)
    · have := dig_len hb; omega
    · exact absurd h.2 ((lean_dec n).2 h.1)
    · exact absurd (fig_dec n c hc) h
    · rw [vf_dec] at h; omega
theorem dec_no (n : Nat) : ∀ b ∈ decDigits n, b ≠ 32 := fun b hb e => by
  have := fig_dec n b hb
  unfold fig at this
  rw [e] at this
  exact absurd this (by decide)
end Go.Proofs.YtlmdpaemhjcmbaaGreatDoor.Cd
