/- The law ConfigBridge of layer 11 holds of the program at this commit: for any setting and any bridge the call returns true and leaves its arguments as they were.
   Conditions: none but those of the given row. -/
import Derived.Test.YtiebiajpeocecaaYa
import Derived.Test.YtiebiajpeocecaaZc
namespace Go.Proofs.Ytiebiajpeocecaa
open Go.RowKit Go.Lib
open Go.ChangeShapes Go.WideShapes Go.ChangeAt

theorem bridgeLaw_any {W : World} (c : Cf) (s : Value) (n : Nat) (P : Nat → Pc) (B : Bd) (s' : Value) (m : Nat) (XS : Nat → Array Value) (X : Nat → Pd) (hx : ∀ i, c.x i < 256) (hs : QIn W s n P) (hp : PIn W s' m XS) (hX : ∀ i, i < m → (X i).In (XS i) ∧ Typed (XS i)) (w : World) (hw : w = W) :
    Calls Try.prog 5 #[.agg (c.cells s), .agg (B.cells s')] w fun e w' => e = .returned (.bool true) ∧ Below w.heap.size w w' := by
  subst hw
  obtain ⟨ad, cap, rfl, _⟩ := hs
  by_cases h1 : n ≤ 20
  · by_cases h2 : m ≤ 20
    · exact bridge_short c ad n cap B s' m XS w hx hp (fun i hi => (hX i hi).2) h1 h2
    · exact bridge_long c ad n cap B s' m XS w hp (Or.inr (by omega))
  · exact bridge_long c ad n cap B s' m XS w hp (Or.inl (by omega))
set_option maxRecDepth 100000 in
theorem configbridge_lifted (os : Os) (started : os.Started) (H : Type) (enc : TypeId × Value → H) :
    ReturnsInHanded {} Try.checked os 5 .any (Rows.configBridgeSpec.pre6 enc Try.prog Try.f5 Rows.configBridgeRow.domain false) (Rows.configBridgeSpec.post enc Try.prog Try.f5 false true false false) := by
  refine returnsInHanded_of_change (C := Try.checked) ownT started (by kernel_rfl) Try.func5
    (ChangeSpec.witness6 (enc := enc) (C := Try.checked) false ⟨#[], #[.agg #[.int .u8 0, .int .u8 0, .int .u8 0, .int .u8 0, .int .u8 0, .int .u8 0, .int .i64 0, .int .i64 0, .int .i64 0, .int .i64 0, .int .i64 0, .int .i64 0, .bool false, .int .i64 0, .slice none 0 0], .agg #[.int .u64 0, .int .i64 0, .int .i64 0, .int .i64 0, .int .i64 0, .int .i64 0, .bool false, .int .u64 0, .int .u32 0, .int .u64 0, .int .u16 0, .int .u16 0, .int .i64 0, .int .i64 0, .int .i64 0, .int .i64 0, .int .i64 0, .slice none 0 0]], []⟩ 8 (by kernel_rfl) (by kernel_rfl) (by kernel_rfl) (by kernel_rfl)) ?_
  intro W base args ds gs before hval0 hW _ _
  have hval : ∀ (j : Nat) t v, Try.f5.params[j]? = some t → args[j]? = some v → Value.okWide Try.prog W .any base t v := hval0
  have hW' := hW
  obtain ⟨p, q, hA0, hV, rfl, _, _⟩ := hW
  have hA : DataW.TrodAll enc Try.prog W 0 (fun _ => true) true Try.f5.params.toList args.toList ds p := hA0
  rw [Try.params5] at hA hval
  obtain ⟨v0, v1, d0, d1, p0, p1, rfl, rfl, rfl, h0, h1⟩ := trodAll_two hA
  obtain ⟨rfl, rfl⟩ := trodVars_none hV
  simp only [List.append_nil] at hW'
  have hlt : ∀ x, x ∈ p0 ∨ x ∈ p1 → x.block < W.heap.size := fun x hx => by
    have := hW'.lt x (by rcases hx with h | h <;> simp [h])
    simpa using this
  have hl0 : ∀ x ∈ p0, x.block < W.heap.size := fun x hx => hlt x (.inl hx)
  have hl1 : ∀ x ∈ p1, x.block < W.heap.size := fun x hx => hlt x (.inr hx)
  obtain ⟨c, s, n, P, rfl, hx, hs⟩ := open_config (hval 0 28 v0 rfl rfl) h0
  obtain ⟨B, s', m, XS, X, rfl, _, hp, hX⟩ := open_bridge (hval 1 71 v1 rfl rfl) h1
  refine (bridgeLaw_any c s n P B s' m XS X hx hs hp hX W rfl).mono fun e W' ⟨he, hn⟩ => ?_
  subst he
  have h0' := Below.trod laidOut (by kernel_rfl) (of_decide_eq_true (by kernel_rfl)) h0 hn hl0
  have h1' := Below.trod laidOut (by kernel_rfl) (of_decide_eq_true (by kernel_rfl)) h1 hn hl1
  exact ⟨_, rfl, _, _, _, [], p0 ++ p1, [], hW', trodAll_mk1 (shut_bool Try.underlying4 _), trodAll_mk2 h0' h1', rfl, hn.frame _, fun h => by cases h⟩
theorem configbridge_holds : Rows.ConfigBridgeSaid :=
  OpenClaim.holds_of_wide 5 Try.f5 rfl rfl rfl rfl rfl rfl rfl ⟨rfl, rfl, rfl, rfl, rfl⟩ rfl rfl rfl rfl rfl (by kernel_rfl) Try.func5 (by kernel_rfl)
    (of_decide_eq_true (by kernel_rfl)) (by unfold Func.isWrapper; first | (rw [if_pos (by decide +kernel)]; kernel_rfl) | (rw [if_neg (by decide +kernel)]; exact ⟨rfl, rfl⟩))
    (fun os started H enc _ => configbridge_lifted os started H enc)
end Go.Proofs.Ytiebiajpeocecaa
