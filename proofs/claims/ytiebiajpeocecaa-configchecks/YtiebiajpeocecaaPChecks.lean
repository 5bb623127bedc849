/- The law ConfigChecks of layer 11 holds of the program at this commit: for any setting, any address and any number of ports the call returns true and leaves its arguments as they were.
   Conditions: none but those of the given row. -/
import Derived.Test.YtiebiajpeocecaaG
import Derived.Test.YtiebiajpeocecaaZc
namespace Go.Proofs.Ytiebiajpeocecaa
open Go.RowKit Go.Lib
open Go.ChangeShapes Go.WideShapes Go.ChangeAt

theorem open_mac {W : World} {g : Nat} {v : Value} (hval : Value.okWide Try.prog W .any g 23 v) : ∃ x : Nat → Nat, v = macV x ∧ ∀ i, x i < 256 := by
  obtain ⟨l, rfl, hl, hx⟩ := open_array (ts := [5, 5, 5, 5, 5, 5]) u23 (by kernel_rfl) (by kernel_rfl) hval
  match l, hl with
  | [x0, x1, x2, x3, x4, x5], _ =>
    obtain ⟨n0, rfl, h0⟩ := cell_int u5' (hx 0 5 x0 rfl rfl)
    obtain ⟨n0, rfl, l0⟩ := nat8 h0
    obtain ⟨n1, rfl, h1⟩ := cell_int u5' (hx 1 5 x1 rfl rfl)
    obtain ⟨n1, rfl, l1⟩ := nat8 h1
    obtain ⟨n2, rfl, h2⟩ := cell_int u5' (hx 2 5 x2 rfl rfl)
    obtain ⟨n2, rfl, l2⟩ := nat8 h2
    obtain ⟨n3, rfl, h3⟩ := cell_int u5' (hx 3 5 x3 rfl rfl)
    obtain ⟨n3, rfl, l3⟩ := nat8 h3
    obtain ⟨n4, rfl, h4⟩ := cell_int u5' (hx 4 5 x4 rfl rfl)
    obtain ⟨n4, rfl, l4⟩ := nat8 h4
    obtain ⟨n5, rfl, h5⟩ := cell_int u5' (hx 5 5 x5 rfl rfl)
    obtain ⟨n5, rfl, l5⟩ := nat8 h5
    exact ⟨six n0 n1 n2 n3 n4 n5, rfl, six_lt l0 l1 l2 l3 l4 l5⟩
theorem checksLaw_any {W : World} (c : Cf) (s : Value) (m : Nat) (P : Nat → Pc) (x : Nat → Nat) (k : Int) (hc : ∀ i, c.x i < 256) (hx : ∀ i, x i < 256) (hs : QIn W s m P) (w : World) (hw : w = W) :
    Calls Try.prog 3 #[.agg (c.cells s), macV x, .int .i64 k] w fun e w' => e = .returned (.bool true) ∧ Below w.heap.size w w' := by
  subst hw
  by_cases h1 : m ≤ 100
  · exact checks_short c s m P x k w hc hx hs h1
  · obtain ⟨ad, cap, rfl, _⟩ := hs
    exact checks_long c ad m cap x k w (by omega)
set_option maxRecDepth 100000 in
theorem configchecks_lifted (os : Os) (started : os.Started) (H : Type) (enc : TypeId × Value → H) :
    ReturnsInHanded {} Try.checked os 3 .any (Rows.configChecksSpec.pre6 enc Try.prog Try.f3 Rows.configChecksRow.domain false) (Rows.configChecksSpec.post enc Try.prog Try.f3 false true false false) := by
  refine returnsInHanded_of_change (C := Try.checked) ownT started (by kernel_rfl) Try.func3
    (ChangeSpec.witness6 (enc := enc) (C := Try.checked) false ⟨#[], #[.agg #[.int .u8 0, .int .u8 0, .int .u8 0, .int .u8 0, .int .u8 0, .int .u8 0, .int .i64 0, .int .i64 0, .int .i64 0, .int .i64 0, .int .i64 0, .int .i64 0, .bool false, .int .i64 0, .slice none 0 0], .agg #[.int .u8 0, .int .u8 0, .int .u8 0, .int .u8 0, .int .u8 0, .int .u8 0], .int .i64 0], []⟩ 8 (by kernel_rfl) (by kernel_rfl) (by kernel_rfl) (by kernel_rfl)) ?_
  intro W base args ds gs before hval0 hW _ _
  have hval : ∀ (j : Nat) t v, Try.f3.params[j]? = some t → args[j]? = some v → Value.okWide Try.prog W .any base t v := hval0
  have hW' := hW
  obtain ⟨p, q, hA0, hV, rfl, _, _⟩ := hW
  have hA : DataW.TrodAll enc Try.prog W 0 (fun _ => true) true Try.f3.params.toList args.toList ds p := hA0
  rw [Try.params3] at hA hval
  obtain ⟨v0, v1, v2, d0, d1, d2, p0, p1, p2, rfl, rfl, rfl, h0, h1, h2⟩ := trodAll_three hA
  obtain ⟨rfl, rfl⟩ := trodVars_none hV
  simp only [List.append_nil] at hW'
  have hlt : ∀ x, x ∈ p0 ∨ x ∈ p1 ∨ x ∈ p2 → x.block < W.heap.size := fun x hx => by
    have := hW'.lt x (by rcases hx with h | h | h <;> simp [h])
    simpa using this
  have hl0 : ∀ x ∈ p0, x.block < W.heap.size := fun x hx => hlt x (.inl hx)
  have hl1 : ∀ x ∈ p1, x.block < W.heap.size := fun x hx => hlt x (.inr (.inl hx))
  have hl2 : ∀ x ∈ p2, x.block < W.heap.size := fun x hx => hlt x (.inr (.inr hx))
  obtain ⟨c, s, n, P, rfl, hc, hs⟩ := open_config (hval 0 28 v0 rfl rfl) h0
  obtain ⟨x, rfl, hx⟩ := open_mac (hval 1 23 v1 rfl rfl)
  obtain ⟨k, rfl⟩ := okWide_int Try.underlying3 (hval 2 3 v2 rfl rfl)
  refine (checksLaw_any c s n P x k hc hx hs W rfl).mono fun e W' ⟨he, hn⟩ => ?_
  subst he
  have h0' := Below.trod laidOut (by kernel_rfl) (of_decide_eq_true (by kernel_rfl)) h0 hn hl0
  have h1' := Below.trod laidOut (by kernel_rfl) (of_decide_eq_true (by kernel_rfl)) h1 hn hl1
  have h2' := Below.trod laidOut (by kernel_rfl) (of_decide_eq_true (by kernel_rfl)) h2 hn hl2
  exact ⟨_, rfl, _, _, _, [], p0 ++ (p1 ++ p2), [], hW', trodAll_mk1 (shut_bool Try.underlying4 _), trodAll_mk3 h0' h1' h2', rfl, hn.frame _, fun h => by cases h⟩
theorem configchecks_holds : Rows.ConfigChecksSaid :=
  OpenClaim.holds_of_wide 3 Try.f3 rfl rfl rfl rfl rfl rfl rfl ⟨rfl, rfl, rfl, rfl, rfl⟩ rfl rfl rfl rfl rfl (by kernel_rfl) Try.func3 (by kernel_rfl)
    (of_decide_eq_true (by kernel_rfl)) (by unfold Func.isWrapper; first | (rw [if_pos (by decide +kernel)]; kernel_rfl) | (rw [if_neg (by decide +kernel)]; exact ⟨rfl, rfl⟩))
    (fun os started H enc _ => configchecks_lifted os started H enc)
end Go.Proofs.Ytiebiajpeocecaa
