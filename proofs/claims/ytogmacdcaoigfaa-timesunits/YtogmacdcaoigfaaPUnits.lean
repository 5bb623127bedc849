/- The law TimesUnits of layer 6 holds of the program at this commit: for any times and any message the call returns true and leaves its arguments as they were.
   Conditions: none but those of the given row. -/
import Derived.Test.YtogmacdcaoigfaaF0
import Derived.Test.YtogmacdcaoigfaaF1
import Derived.Test.YtogmacdcaoigfaaF2
import Derived.Test.YtogmacdcaoigfaaF3
import Derived.Test.YtogmacdcaoigfaaF4
import Derived.Test.YtogmacdcaoigfaaX
namespace Go.Proofs.Ytogmacdcaoigfaa
open Go.RowKit Go.Lib
open Go.ChangeShapes Go.WideShapes Go.ChangeAt

theorem unitsLaw_any (a m h d : Int) (k f r c b p : Int) (a' m' h' d' : Nat) (ha : a' < 65536) (hm : m' < 65536) (hh : h' < 65536) (hd : d' < 65536) (w : World) :
    Calls Try.prog 4 #[tmV a m h d, bpV k f r c b p a' m' h' d'] w fun e w' => e = .returned (.bool true) ∧ Below w.heap.size w w' := by
  cases b1 : (decide (0 ≤ a) && decide (a ≤ 255))
  · exact units0 a m h d k f r c b p a' m' h' d' ha hm hh hd b1 w
  · cases b2 : (decide (0 ≤ m) && decide (m ≤ 255))
    · exact units1 a m h d k f r c b p a' m' h' d' ha hm hh hd b1 b2 w
    · cases b3 : (decide (1 ≤ h) && decide (h ≤ 255))
      · exact units2 a m h d k f r c b p a' m' h' d' ha hm hh hd b1 b2 b3 w
      · cases b4 : (decide (0 ≤ d) && decide (d ≤ 255))
        · exact units3 a m h d k f r c b p a' m' h' d' ha hm hh hd b1 b2 b3 b4 w
        · exact units4 a m h d k f r c b p a' m' h' d' ha hm hh hd b1 b2 b3 b4 w
set_option maxRecDepth 100000 in
theorem timesunits_lifted (os : Os) (started : os.Started) (H : Type) (enc : TypeId × Value → H) :
    ReturnsInHanded {} Try.checked os 4 .any (Rows.timesUnitsSpec.pre6 enc Try.prog Try.f4 Rows.timesUnitsRow.domain false) (Rows.timesUnitsSpec.post enc Try.prog Try.f4 false true false false) := by
  refine returnsInHanded_of_change (C := Try.checked) ownT started (by kernel_rfl) Try.func4
    (ChangeSpec.witness6 (enc := enc) (C := Try.checked) false ⟨#[], #[.agg #[.int .i64 0, .int .i64 0, .int .i64 0, .int .i64 0], .agg #[.int .i64 0, .int .u8 0, .int .u64 0, .int .u32 0, .int .u64 0, .int .u16 0, .int .u16 0, .int .u16 0, .int .u16 0, .int .u16 0]], []⟩ 8 (by kernel_rfl) (by kernel_rfl) (by kernel_rfl) (by kernel_rfl)) ?_
  intro W base args ds gs before hval0 hW _ _
  have hval : ∀ (j : Nat) t v, Try.f4.params[j]? = some t → args[j]? = some v → Value.okWide Try.prog W .any base t v := hval0
  have hW' := hW
  obtain ⟨p, q, hA0, hV, rfl, _, _⟩ := hW
  have hA : DataW.TrodAll enc Try.prog W 0 (fun _ => true) true Try.f4.params.toList args.toList ds p := hA0
  rw [Try.params4] at hA hval
  obtain ⟨v0, v1, d0, d1, p0, p1, rfl, rfl, rfl, h0, h1⟩ := trodAll_two hA
  obtain ⟨rfl, rfl⟩ := trodVars_none hV
  simp only [List.append_nil] at hW'
  have hlt : ∀ x, x ∈ p0 ∨ x ∈ p1 → x.block < W.heap.size := fun x hx => by
    have := hW'.lt x (by rcases hx with h | h <;> simp [h])
    simpa using this
  have hl0 : ∀ x ∈ p0, x.block < W.heap.size := fun x hx => hlt x (.inl hx)
  have hl1 : ∀ x ∈ p1, x.block < W.heap.size := fun x hx => hlt x (.inr hx)
  obtain ⟨a, m, h, d, rfl⟩ := open_times (hval 0 23 v0 rfl rfl)
  obtain ⟨k, f, r, c, b, pp, a', m', h', d', ha, hm, hh, hd, rfl⟩ := open_bpdu (hval 1 37 v1 rfl rfl)
  refine (unitsLaw_any a m h d k f r c b pp a' m' h' d' ha hm hh hd W).mono fun e W' ⟨he, hn⟩ => ?_
  subst he
  have h0' := Below.trod laidOut (by kernel_rfl) (of_decide_eq_true (by kernel_rfl)) h0 hn hl0
  have h1' := Below.trod laidOut (by kernel_rfl) (of_decide_eq_true (by kernel_rfl)) h1 hn hl1
  exact ⟨_, rfl, _, _, _, [], p0 ++ p1, [], hW', trodAll_mk1 (shut_bool Try.underlying4 _), trodAll_mk2 h0' h1', rfl, hn.frame _, fun h => by cases h⟩
theorem timesunits_holds : Rows.TimesUnitsSaid :=
  OpenClaim.holds_of_wide 4 Try.f4 rfl rfl rfl rfl rfl rfl rfl ⟨rfl, rfl, rfl, rfl, rfl⟩ rfl rfl rfl rfl rfl (by kernel_rfl) Try.func4 (by kernel_rfl)
    (of_decide_eq_true (by kernel_rfl)) (by unfold Func.isWrapper; first | (rw [if_pos (by decide +kernel)]; kernel_rfl) | (rw [if_neg (by decide +kernel)]; exact ⟨rfl, rfl⟩))
    (fun os started H enc _ => timesunits_lifted os started H enc)
end Go.Proofs.Ytogmacdcaoigfaa
