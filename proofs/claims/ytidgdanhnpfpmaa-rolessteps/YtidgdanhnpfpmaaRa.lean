/- Contract of the reference's role. -/
import Derived.Test.YtidgdanhnpfpmaaY
namespace Go.Proofs.Ytidgdanhnpfpmaa
open Go.RowKit Go.Sort

theorem put_two (ys : Array Value) (u v : Value) : putL (putL ys 43 [u]) 47 [v] = putL (putL ys 47 [v]) 43 [u] := by
  apply Array.ext_getElem?
  intro i
  simp only [putL_at, putL_size, List.length_cons, List.length_nil]
  by_cases h1 : i = 43
  · subst h1; simp
  · by_cases h2 : i = 47
    · subst h2; simp
    · rw [if_neg (by omega), if_neg (by omega), if_neg (by omega), if_neg (by omega)]
theorem put_three (ys : Array Value) (u v z : Value) : putL (putL (putL ys 43 [u]) 47 [v]) 43 [z] = putL (putL ys 47 [v]) 43 [z] := by
  apply Array.ext_getElem?
  intro i
  simp only [putL_at, putL_size, List.length_cons, List.length_nil]
  by_cases h1 : i = 43
  · subst h1
    by_cases hs : 43 < ys.size <;> simp [hs]
  · by_cases h2 : i = 47
    · subst h2; simp
    · rw [if_neg (by omega), if_neg (by omega), if_neg (by omega), if_neg (by omega), if_neg (by omega)]
theorem kput {xs : Array Value} (h : Typed xs) (k : Nat) (v : Value) (q : Option IntKind) (hq : kinds[k]? = some q) (hv : kindOk q v) : Typed (putL xs k [v]) := by
  refine h.put k [v] fun j q' x hq' hx => ?_
  match j, hx with
  | 0, hx =>
    simp at hx hq'
    rw [hq] at hq'
    cases hq'
    rw [← hx]; exact hv
  | j + 1, hx => simp at hx
theorem desA_typed {B : Bd} {q : Nat} {xs : Array Value} (h : Typed xs) : Typed (desA B q xs 0) := by
  unfold desA
  refine kput (Typed.put (Typed.put h _ _ ?_) _ _ ?_) _ _ _ rfl ⟨_, rfl⟩
  · intro j q x hq hx
    match j, hx with
    | 0, hx => simp at hx; subst hx; cases hq; exact ⟨_, rfl⟩
    | 1, hx => simp at hx; subst hx; cases hq; exact ⟨_, rfl⟩
    | 2, hx => simp at hx; subst hx; cases hq; exact ⟨_, rfl⟩
    | 3, hx => simp at hx; subst hx; cases hq; exact ⟨_, rfl⟩
    | j + 4, hx => simp at hx
  · intro j q x hq hx
    match j, hx with
    | 0, hx => simp at hx; subst hx; cases hq; exact ⟨_, rfl⟩
    | 1, hx => simp at hx; subst hx; cases hq; exact ⟨_, rfl⟩
    | 2, hx => simp at hx; subst hx; cases hq; exact ⟨_, rfl⟩
    | 3, hx => simp at hx; subst hx; cases hq; exact ⟨_, rfl⟩
    | j + 4, hx => simp at hx
theorem rolA_typed {B : Bd} {x : Pd} {q : Bool} {xs : Array Value} (h : Typed xs) : Typed (rolA B x q xs 0) := by
  unfold rolA
  have one : ∀ n, Typed (putL xs (0 + 47) [.int .i64 n]) := fun n => kput h _ _ _ rfl ⟨_, rfl⟩
  have two : ∀ n b, Typed (putL (putL xs (0 + 47) [.int .i64 n]) (0 + 43) [.bool b]) := fun n b => kput (one n) _ _ _ rfl ⟨_, rfl⟩
  (repeat' split)
  · exact one _
  · exact two _ _
  · exact two _ _
  · exact one _
  · exact two _ _
  · exact h
theorem newP_typed {B : Bd} {x : Pd} {q : Bool} {xs : Array Value} (h : Typed xs) : Typed (newP B x q xs) := rolA_typed (desA_typed h)
end Go.Proofs.Ytidgdanhnpfpmaa
