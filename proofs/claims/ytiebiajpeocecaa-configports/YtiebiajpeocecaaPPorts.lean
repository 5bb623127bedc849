/- The law ConfigPorts of layer 11 holds of the program at this commit: for any port's setting, any speed's bits, and any port, number and link the call returns true and leaves its arguments as they were.
   Conditions: none but those of the given row. -/
import Derived.Test.YtiebiajpeocecaaH
import Derived.Test.YtiebiajpeocecaaZc
namespace Go.Proofs.Ytiebiajpeocecaa
open Go.RowKit Go.Lib
open Go.ChangeShapes Go.WideShapes Go.ChangeAt

theorem open_pc {W : World} {g : Nat} {v : Value} (hval : Value.okWide Try.prog W .any g 34 v) : ∃ p : Pc, v = p.val := by
  obtain ⟨l, rfl, hl, hx⟩ := open_struct (ts := [3, 31, 4, 4, 32]) (show Try.prog.underlying 34 = some (.struct (Try.prog.fieldsOf 34)) by kernel_rfl) (by kernel_rfl) (by kernel_rfl) hval
  match l, hl with
  | [x0, x1, x2, x3, x4], _ =>
    obtain ⟨n0, rfl, _⟩ := cell_int tu3 (hx 0 3 x0 rfl rfl)
    obtain ⟨n1, rfl, h1⟩ := cell_int tu26 (hx 1 31 x1 rfl rfl)
    obtain ⟨n1, rfl, _⟩ := nat32 h1
    obtain ⟨b2, rfl⟩ := cell_bool tu4 (hx 2 4 x2 rfl rfl)
    obtain ⟨b3, rfl⟩ := cell_bool tu4 (hx 3 4 x3 rfl rfl)
    obtain ⟨n4, rfl, _⟩ := cell_int (show Try.prog.underlying 32 = some (.int .i64) by kernel_rfl) (hx 4 32 x4 rfl rfl)
    exact ⟨⟨n0, n1, b2, b3, n4⟩, rfl⟩
/-- The kinds of what is set, with its number and its link. -/
def kinds92 : List (Option IntKind) := kinds ++ [some .i64, none]
theorem chk56 : chk kinds92 5 56 0 = true := by kernel_rfl
theorem cov56 : cov 5 56 = true := by kernel_rfl
theorem c56 : Try.prog.cellsOf 56 = 92 := by kernel_rfl
theorem open_applied {H : Type} {enc : TypeId × Value → H} {W : World} {v : Value} {d : DataW H} {ps : List MemPlace} (hd : DataW.Trod enc Try.prog W 0 (fun _ => true) true 56 v d ps) :
    ∃ (xs A : Array Value) (num : Int) (two : Bool), v = .agg A ∧ Ap xs num two A ∧ Typed xs := by
  obtain ⟨fuel, hf⟩ := hd
  obtain ⟨hl, hk⟩ := trod_kinds kinds92 5 56 0 fuel _ _ chk56 cov56 hf
  rw [c56] at hl hk
  have hk' : ∀ j q, kinds92[j]? = some q → j < 92 → ∃ y, v.cells.toList[j]? = some y ∧ kindOk q y := fun j q hq hj => by
    obtain ⟨q', y, hq', hy, hw⟩ := hk j hj
    rw [Nat.zero_add, hq] at hq'
    cases hq'
    exact ⟨y, hy, hw.ok⟩
  cases v with
  | agg A =>
    have hs : A.size = 92 := by simpa [Value.cells] using hl
    have hc : ∀ j q, kinds92[j]? = some q → j < 92 → ∃ y, A[j]? = some y ∧ kindOk q y := fun j q hq hj => by
      obtain ⟨y, hy, hw⟩ := hk' j q hq hj
      exact ⟨y, by simpa [Value.cells] using hy, hw⟩
    obtain ⟨_, e90, n90, rfl⟩ := hc 90 (some .i64) rfl (by omega)
    obtain ⟨_, e91, b91, rfl⟩ := hc 91 none rfl (by omega)
    refine ⟨A.extract 0 90, A, n90, b91, rfl, ⟨hs, fun k hk9 => ?_, e90, e91⟩, by simp [hs], fun k q y hq hy => ?_⟩
    · rw [Nat.zero_add, Array.getElem?_extract, if_pos (by omega), Nat.zero_add]
    · have hk90 : k < 90 := by rw [← kinds_len]; exact (List.getElem?_eq_some_iff.1 hq).1
      rw [Array.getElem?_extract, if_pos (by omega), Nat.zero_add] at hy
      obtain ⟨y', hy', hw⟩ := hc k q (by unfold kinds92; rw [List.getElem?_append_left (by rw [kinds_len]; exact hk90)]; exact hq) (by omega)
      rw [hy] at hy'
      cases hy'
      exact hw
  | _ => simp [Value.cells] at hl
set_option maxRecDepth 100000 in
theorem configports_lifted (os : Os) (started : os.Started) (H : Type) (enc : TypeId × Value → H) :
    ReturnsInHanded {} Try.checked os 4 .any (Rows.configPortsSpec.pre6 enc Try.prog Try.f4 Rows.configPortsRow.domain false) (Rows.configPortsSpec.post enc Try.prog Try.f4 false true false false) := by
  refine returnsInHanded_of_change (C := Try.checked) ownT started (by kernel_rfl) Try.func4
    (ChangeSpec.witness6 (enc := enc) (C := Try.checked) false ⟨#[], #[.agg #[.int .i64 0, .int .u32 0, .bool false, .bool false, .int .i64 0], .int .u64 0, .agg #[.int .u16 0, .int .u32 0, .bool false, .bool false, .bool false, .bool false, .int .i64 0, .int .i64 0, .int .i64 0, .int .i64 0, .int .i64 0, .int .i64 0, .int .i64 0, .int .i64 0, .int .i64 0, .bool false, .bool false, .bool false, .bool false, .bool false, .bool false, .bool false, .bool false, .bool false, .bool false, .bool false, .bool false, .bool false, .bool false, .bool false, .bool false, .bool false, .bool false, .bool false, .bool false, .bool false, .bool false, .bool false, .bool false, .bool false, .bool false, .bool false, .bool false, .bool false, .int .i64 0, .int .i64 0, .int .i64 0, .int .i64 0, .int .u64 0, .int .u32 0, .int .u64 0, .int .u16 0, .int .u64 0, .int .u32 0, .int .u64 0, .int .u16 0, .int .u64 0, .int .u32 0, .int .u64 0, .int .u16 0, .int .i64 0, .int .i64 0, .int .i64 0, .int .i64 0, .int .i64 0, .int .i64 0, .int .i64 0, .int .i64 0, .int .i64 0, .int .i64 0, .int .i64 0, .int .i64 0, .int .i64 0, .int .u8 0, .int .u64 0, .int .u32 0, .int .u64 0, .int .u16 0, .int .u16 0, .int .u16 0, .int .u16 0, .int .u16 0, .int .i64 0, .int .i64 0, .int .i64 0, .int .i64 0, .int .i64 0, .int .i64 0, .int .i64 0, .int .i64 0, .int .i64 0, .bool false]], []⟩ 8 (by kernel_rfl) (by kernel_rfl) (by kernel_rfl) (by kernel_rfl)) ?_
  intro W base args ds gs before hval0 hW _ _
  have hval : ∀ (j : Nat) t v, Try.f4.params[j]? = some t → args[j]? = some v → Value.okWide Try.prog W .any base t v := hval0
  have hW' := hW
  obtain ⟨p, q, hA0, hV, rfl, _, _⟩ := hW
  have hA : DataW.TrodAll enc Try.prog W 0 (fun _ => true) true Try.f4.params.toList args.toList ds p := hA0
  rw [Try.params4] at hA hval
  obtain ⟨v0, v1, v2, d0, d1, d2, p0, p1, p2, rfl, rfl, rfl, h0, h1, h2⟩ := trodAll_three hA
  obtain ⟨rfl, rfl⟩ := trodVars_none hV
  simp only [List.append_nil] at hW'
  have hlt : ∀ x, x ∈ p0 ∨ x ∈ p1 ∨ x ∈ p2 → x.block < W.heap.size := fun x hx => by
    have := hW'.lt x (by rcases hx with h | h | h <;> simp [h])
    simpa using this
  have hl0 : ∀ x ∈ p0, x.block < W.heap.size := fun x hx => hlt x (.inl hx)
  have hl1 : ∀ x ∈ p1, x.block < W.heap.size := fun x hx => hlt x (.inr (.inl hx))
  have hl2 : ∀ x ∈ p2, x.block < W.heap.size := fun x hx => hlt x (.inr (.inr hx))
  obtain ⟨pc, rfl⟩ := open_pc (hval 0 34 v0 rfl rfl)
  obtain ⟨bits, rfl⟩ := okWide_int Try.underlying40 (hval 1 40 v1 rfl rfl)
  obtain ⟨xs, A, num, two, rfl, hAp, hTy⟩ := open_applied h2
  refine (ports_any pc bits xs A num two W hAp hTy).mono fun e W' ⟨he, hn⟩ => ?_
  subst he
  have h0' := Below.trod laidOut (by kernel_rfl) (of_decide_eq_true (by kernel_rfl)) h0 hn hl0
  have h1' := Below.trod laidOut (by kernel_rfl) (of_decide_eq_true (by kernel_rfl)) h1 hn hl1
  have h2' := Below.trod laidOut (by kernel_rfl) (of_decide_eq_true (by kernel_rfl)) h2 hn hl2
  exact ⟨_, rfl, _, _, _, [], p0 ++ (p1 ++ p2), [], hW', trodAll_mk1 (shut_bool Try.underlying4 _), trodAll_mk3 h0' h1' h2', rfl, hn.frame _, fun h => by cases h⟩
theorem configports_holds : Rows.ConfigPortsSaid :=
  OpenClaim.holds_of_wide 4 Try.f4 rfl rfl rfl rfl rfl rfl rfl ⟨rfl, rfl, rfl, rfl, rfl⟩ rfl rfl rfl rfl rfl (by kernel_rfl) Try.func4 (by kernel_rfl)
    (of_decide_eq_true (by kernel_rfl)) (by unfold Func.isWrapper; first | (rw [if_pos (by decide +kernel)]; kernel_rfl) | (rw [if_neg (by decide +kernel)]; exact ⟨rfl, rfl⟩))
    (fun os started H enc _ => configports_lifted os started H enc)
end Go.Proofs.Ytiebiajpeocecaa
