/- Words of a text. -/
import Derived.Test.YtlmdpaemhjcmbaaGreatDoorProg
import Derived.Lib.SplitLaws
import Derived.Lib.ItoaLen
import Derived.Lib.AtoiAllCases
import Derived.Lib.Join
namespace Go.Proofs.YtlmdpaemhjcmbaaGreatDoor.Cd
open Go.Lib

/-- The words of a text. -/
def sp : List UInt8 → List (List UInt8)
  | [] => [[]]
  | b :: l => if b = 32 then [] :: sp l else match sp l with | [] => [[b]] | x :: r => (b :: x) :: r

theorem sp_ne : ∀ l, sp l ≠ []
  | [] => by simp [sp]
  | b :: l => by
    unfold sp; split
    · simp
    · cases h : sp l <;> simp

theorem index_cons (b : UInt8) (l : List UInt8) : index (b :: l) [32] = if b = 32 then 0 else if index l [32] == -1 then -1 else index l [32] + 1 := by
  rw [index]
  by_cases h : b = 32
  · subst h; simp
  · have : ([32] : List UInt8).isPrefixOf (b :: l) = false := by simp [List.isPrefixOf, Ne.symm h]
    rw [this, if_neg h]; simp

theorem split_sp : ∀ (l : List UInt8), splitK [32] 0 (count l [32]) l = sp l
  | [] => by rw [count_miss (by simp [index])]; rfl
  | b :: l => by
    by_cases h : b = 32
    · subst h
      rw [count_cons_eq, Nat.add_comm, splitK]
      have hi := index_cons 32 l
      simp only [if_true] at hi
      rw [hi]
      simp [sp, split_sp l]
    · rw [count_cons_ne b 32 l h]
      have ih := split_sp l
      have hi := index_cons b l
      rw [if_neg h] at hi
      have hb : sp (b :: l) = match sp l with | [] => [[b]] | x :: r => (b :: x) :: r := by simp [sp, h]
      rw [hb, ← ih]
      by_cases hm : index l [32] = -1
      · rw [count_miss hm]; rfl
      · have hge := index_ge l [32]
        obtain ⟨j, hj⟩ : ∃ j : Nat, index l [32] = j := ⟨(index l [32]).toNat, by omega⟩
        have hi' : index (b :: l) [32] = ((j + 1 : Nat) : Int) := by
          rw [hi, hj]
          have : ((j : Int) == -1) = false := by rw [beq_eq_false_iff_ne]; omega
          rw [this]; simp
        rw [count_hit (by simp) hj, Nat.add_comm 1, splitK, splitK, hi', hj]
        have e1 : (((j + 1 : Nat) : Int) == -1) = false := by rw [beq_eq_false_iff_ne]; omega
        have e2 : ((j : Int) == -1) = false := by rw [beq_eq_false_iff_ne]; omega
        rw [e1, e2]
        simp

/-- Words, joined, are their own words again. -/
theorem sp_word (x : List UInt8) (hx : ∀ b ∈ x, b ≠ 32) : sp x = [x] := by
  induction x with
  | nil => rfl
  | cons b l ih =>
    have hb := hx b (by simp)
    unfold sp
    rw [if_neg hb, ih fun c hc => hx c (by simp [hc])]
theorem sp_app (x r : List UInt8) (hx : ∀ b ∈ x, b ≠ 32) : sp (x ++ 32 :: r) = x :: sp r := by
  induction x with
  | nil => simp [sp]
  | cons b l ih =>
    have hb := hx b (by simp)
    show sp (b :: (l ++ 32 :: r)) = _
    rw [sp, if_neg hb, ih fun c hc => hx c (by simp [hc])]
theorem join_cons2 (x y : List UInt8) (r : List (List UInt8)) (sep : List UInt8) : join (x :: y :: r) sep = x ++ sep ++ join (y :: r) sep := by
  simp [join_cons, joinTail]
theorem sp_join : ∀ (ws : List (List UInt8)), ws ≠ [] → (∀ x ∈ ws, ∀ b ∈ x, b ≠ 32) → sp (join ws [32]) = ws
  | [], h, _ => absurd rfl h
  | [x], _, h => by rw [join_one]; exact sp_word x (h x (by simp))
  | x :: y :: r, _, h => by
    rw [join_cons2, List.append_assoc]
    show sp (x ++ 32 :: join (y :: r) [32]) = _
    rw [sp_app x _ (h x (by simp)), sp_join (y :: r) (by simp) fun z hz => h z (by simp [hz])]
theorem join_sp : ∀ (l : List UInt8), join (sp l) [32] = l
  | [] => by simp [sp, join_one]
  | b :: l => by
    have ih := join_sp l
    unfold sp
    cases hs : sp l with
    | nil => exact absurd hs (sp_ne l)
    | cons x r =>
      rw [hs] at ih
      by_cases h : b = 32
      · subst h
        simp only [if_true]
        rw [join_cons2, ih]; rfl
      · simp only [if_neg h]
        rw [join_cons, List.cons_append]
        rw [join_cons] at ih
        rw [ih]
theorem sp_no : ∀ (l : List UInt8), ∀ x ∈ sp l, ∀ b ∈ x, b ≠ 32
  | [] => by simp [sp]
  | c :: l => by
    intro x hx b hb
    have ih := sp_no l
    unfold sp at hx
    by_cases h : c = 32
    · rw [if_pos h] at hx
      rcases List.mem_cons.1 hx with rfl | hx
      · cases hb
      · exact ih x hx b hb
    · rw [if_neg h] at hx
      cases hs : sp l with
      | nil => exact absurd hs (sp_ne l)
      | cons y r =>
        rw [hs] at hx ih
        rcases List.mem_cons.1 hx with rfl | hx
        · rcases List.mem_cons.1 hb with rfl | hb
          · exact h
          · exact ih y (by simp) b hb
        · exact ih x (by simp [hx]) b hb
/-- A word more at the end: how the reference cuts, from the left. -/
theorem sp_snoc (l : List UInt8) (b : UInt8) : sp (l ++ [b]) = if b = 32 then sp l ++ [[]] else (sp l).dropLast ++ [(sp l).getLastD [] ++ [b]] := by
  induction l with
  | nil => by_cases h : b = 32 <;> simp [sp, h]
  | cons c l ih =>
    show sp (c :: (l ++ [b])) = _
    have hne := sp_ne l
    by_cases hc : c = 32
    · subst hc
      rw [sp, if_pos rfl, ih, sp, if_pos rfl]
      by_cases h : b = 32
      · simp [h]
      · rw [if_neg h, if_neg h]
        cases hs : sp l with
        | nil => exact absurd hs hne
        | cons x r => simp
    · rw [sp, if_neg hc, ih, sp, if_neg hc]
      cases hs : sp l with
      | nil => exact absurd hs hne
      | cons x r =>
        by_cases h : b = 32
        · simp [h]
        · rw [if_neg h, if_neg h]
          cases r with
          | nil => simp
          | cons y r => simp
end Go.Proofs.YtlmdpaemhjcmbaaGreatDoor.Cd
