/- The law VectorBest of layer 8 holds of the program at this commit: for any vectors and any words the call returns true and leaves its arguments as they were.
   Conditions: none but those of the given row. -/
import Derived.Test.YtiifgdlifiebkaaK1
import Derived.Test.YtiifgdlifiebkaaK2
import Derived.Test.YtiifgdlifiebkaaK3
import Derived.Test.YtiifgdlifiebkaaK4
import Derived.Test.YtiifgdlifiebkaaXb
namespace Go.Proofs.Ytiifgdlifiebkaa
open Go.RowKit Go.Lib
open Go.ChangeShapes Go.WideShapes Go.ChangeAt

theorem vbest_any (a a' : Option Addr) (n n' c c' : Nat) (w : World) (hl : 0 < n → ∃ (b o : Nat) (R C G P : Nat → Nat), a = some ⟨b, o, none⟩ ∧ Vs w b o n R C G P) (ho : 0 < n' → ∃ (b o : Nat) (Q : Nat → Nat), a' = some ⟨b, o, none⟩ ∧ Qs w b o n' Q) :
    Calls Try.prog 5 #[.slice a n c, .slice a' n' c'] w fun e w' => e = .returned (.bool true) ∧ Below w.heap.size w w' := by
  by_cases h1 : 100 < n
  · exact vbest_long1 a a' n n' c c' h1 w
  by_cases h2 : 100 < n'
  · exact vbest_long2 a a' n n' c c' h1 h2 w
  rcases Nat.eq_zero_or_pos n' with rfl | hm
  · rcases Nat.eq_zero_or_pos n with rfl | hn
    · exact vbest_empty a a' c c' w
    · exact vbest_bare a a' n c c' w hn (by omega)
  · obtain ⟨b', o', Q, rfl, hq⟩ := ho hm
    rcases Nat.eq_zero_or_pos n with rfl | hn
    · exact vbest_none a b' o' 0 n' c c' Q w rfl hm (by omega) (by omega) hq
    · obtain ⟨b, o, R, C, G, P, rfl, hv⟩ := hl hn
      by_cases hc : n' < n
      · exact vbest_more b o b' o' n n' c c' R C G P Q w hc hm (by omega) (by omega) hv hq
      · exact vbest_less b o b' o' n n' c c' R C G P Q w hc hn (by omega) (by omega) hv hq

set_option maxRecDepth 100000 in
theorem best_lifted (os : Os) (started : os.Started) (H : Type) (enc : TypeId × Value → H) :
    ReturnsInHanded {} Try.checked os 5 .any (Rows.vectorBestSpec.pre6 enc Try.prog Try.f5 Rows.vectorBestRow.domain false) (Rows.vectorBestSpec.post enc Try.prog Try.f5 false true false false) := by
  refine returnsInHanded_of_change (C := Try.checked) ownT started (by kernel_rfl) Try.func5
    (ChangeSpec.witness6 (enc := enc) (C := Try.checked) false ⟨#[], #[.slice none 0 0, .slice none 0 0], []⟩ 8 (by kernel_rfl) (by kernel_rfl) (by kernel_rfl) (by kernel_rfl)) ?_
  intro W base args ds gs before hval0 hW _ _
  have hval : ∀ (j : Nat) t v, Try.f5.params[j]? = some t → args[j]? = some v → Value.okWide Try.prog W .any base t v := hval0
  have hW' := hW
  obtain ⟨p, q, hA0, hV, rfl, _, _⟩ := hW
  have hA : DataW.TrodAll enc Try.prog W 0 (fun _ => true) true Try.f5.params.toList args.toList ds p := hA0
  rw [Try.params5] at hA hval
  obtain ⟨v0, v1, d0, d1, p0, p1, rfl, rfl, rfl, h0, h1⟩ := trodAll_two hA
  obtain ⟨rfl, rfl⟩ := trodVars_none hV
  simp only [List.append_nil] at hW'
  have hlt : ∀ x, x ∈ p0 ∨ x ∈ p1 → x.block < W.heap.size := fun x hx => by
    have := hW'.lt x (by rcases hx with h | h <;> simp [h])
    simpa using this
  have hl0 : ∀ x ∈ p0, x.block < W.heap.size := fun x hx => hlt x (.inl hx)
  have hl1 : ∀ x ∈ p1, x.block < W.heap.size := fun x hx => hlt x (.inr hx)
  obtain ⟨a, n, c, rfl, hl⟩ := open_vecs (hval 0 39 v0 rfl rfl) h0
  obtain ⟨a', n', c', rfl, ho⟩ := open_nums (hval 1 40 v1 rfl rfl) h1
  refine (vbest_any a a' n n' c c' W hl ho).mono fun e W' ⟨he, hn⟩ => ?_
  subst he
  have h0' := Below.trod laidOut (by kernel_rfl) (of_decide_eq_true (by kernel_rfl)) h0 hn hl0
  have h1' := Below.trod laidOut (by kernel_rfl) (of_decide_eq_true (by kernel_rfl)) h1 hn hl1
  exact ⟨_, rfl, _, _, _, [], _, [], hW', trodAll_mk1 (shut_bool Try.underlying4 _), trodAll_mk2 h0' h1', rfl, hn.frame _, fun h => by cases h⟩
theorem best_holds : Rows.VectorBestSaid :=
  OpenClaim.holds_of_wide 5 Try.f5 rfl rfl rfl rfl rfl rfl rfl ⟨rfl, rfl, rfl, rfl, rfl⟩ rfl rfl rfl rfl rfl (by kernel_rfl) Try.func5 (by kernel_rfl)
    (of_decide_eq_true (by kernel_rfl)) (by unfold Func.isWrapper; first | (rw [if_pos (by decide +kernel)]; kernel_rfl) | (rw [if_neg (by decide +kernel)]; exact ⟨rfl, rfl⟩))
    (fun os started H enc _ => best_lifted os started H enc)
end Go.Proofs.Ytiifgdlifiebkaa
