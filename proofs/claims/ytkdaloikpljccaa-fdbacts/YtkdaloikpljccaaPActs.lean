/- The law FdbActs of layer 10 holds of the program at this commit: for any room, any calls and any address the call returns true and leaves its arguments as they were.
   Conditions: none but those of the given row. -/
import Derived.Test.YtkdaloikpljccaaXc
namespace Go.Proofs.Ytkdaloikpljccaa
open Go.RowKit Go.Lib
open Go.ChangeShapes Go.WideShapes Go.ChangeAt

set_option maxRecDepth 100000 in
theorem fdbActs_lifted (os : Os) (started : os.Started) (H : Type) (enc : TypeId × Value → H) :
    ReturnsInHanded {} Try.checked os 3 .any (Rows.fdbActsSpec.pre6 enc Try.prog Try.f3 Rows.fdbActsRow.domain false) (Rows.fdbActsSpec.post enc Try.prog Try.f3 false true false false) := by
  refine returnsInHanded_of_change (C := Try.checked) ownN started (by kernel_rfl) Try.func3
    (ChangeSpec.witness6 (enc := enc) (C := Try.checked) false ⟨#[], #[.int .i64 0, .slice none 0 0, .agg #[.int .u8 0, .int .u8 0, .int .u8 0, .int .u8 0, .int .u8 0, .int .u8 0]], []⟩ 8 (by kernel_rfl) (by kernel_rfl) (by kernel_rfl) (by kernel_rfl)) ?_
  intro W base args ds gs before hval0 hW _ _
  have hval : ∀ (j : Nat) t v, Try.f3.params[j]? = some t → args[j]? = some v → Value.okWide Try.prog W .any base t v := hval0
  have hW' := hW
  obtain ⟨p, q, hA0, hV, rfl, _, _⟩ := hW
  have hA : DataW.TrodAll enc Try.prog W 0 (fun _ => true) true Try.f3.params.toList args.toList ds p := hA0
  rw [Try.params3] at hA hval
  obtain ⟨v0, v1, v2, d0, d1, d2, p0, p1, p2, rfl, rfl, rfl, h0, h1, h2⟩ := trodAll_three hA
  obtain ⟨rfl, rfl⟩ := trodVars_none hV
  obtain ⟨m, rfl, rfl, rfl, hm⟩ := open_int Try.underlying3 (hval 0 3 v0 rfl rfl) h0
  obtain ⟨x, hx, rfl, rfl, tx⟩ := open_macN (hval 2 24 v2 rfl rfl) h2
  obtain ⟨a, n, c, rfl, hacts⟩ := open_acts (hval 1 22 v1 rfl rfl) h1
  simp only [List.append_nil, List.nil_append] at hW'
  have hl1 : ∀ x ∈ p1, x.block < W.heap.size := fun x hx => by
    have := hW'.lt x (by simp [hx])
    simpa using this
  have hcall : Calls Try.prog 3 #[.int .i64 m, .slice a n c, macN x] W fun r w' => r = .returned (.bool true) ∧ Below W.heap.size W w' := by
    by_cases hn : 300 < n
    · exact acts_long m a n c x hn W
    · exact acts_short m a n c x hn hx W hacts
  refine hcall.mono fun e W' ⟨he, hn⟩ => ?_
  subst he
  have h1' := Below.trod laidOut (by kernel_rfl) (of_decide_eq_true (by kernel_rfl)) h1 hn hl1
  exact ⟨_, rfl, _, _, _, [], _, [], hW', trodAll_mk1 (shut_bool Try.underlying4 _), trodAll_mk3 (shut_int Try.underlying3 hm) h1' (tx _ _ _ _), rfl, hn.frame _, fun h => by cases h⟩
theorem fdbActs_holds : Rows.FdbActsSaid :=
  OpenClaim.holds_of_wide 3 Try.f3 rfl rfl rfl rfl rfl rfl rfl ⟨rfl, rfl, rfl, rfl, rfl⟩ rfl rfl rfl rfl rfl (by kernel_rfl) Try.func3 (by kernel_rfl)
    (of_decide_eq_true (by kernel_rfl)) (by unfold Func.isWrapper; first | (rw [if_pos (by decide +kernel)]; kernel_rfl) | (rw [if_neg (by decide +kernel)]; exact ⟨rfl, rfl⟩))
    (fun os started H enc _ => fdbActs_lifted os started H enc)
end Go.Proofs.Ytkdaloikpljccaa
