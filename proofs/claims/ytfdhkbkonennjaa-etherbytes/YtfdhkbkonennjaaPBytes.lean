/- The law EtherBytes of layer 4 holds of the program at this commit: for any frame the call returns true and leaves its argument as it was.
   Conditions: none but those of the given row. -/
import Derived.Test.YtfdhkbkonennjaaSb
import Derived.Test.YtfdhkbkonennjaaSc
import Derived.Test.YtfdhkbkonennjaaV
import Derived.Test.YtfdhkbkonennjaaX
namespace Go.Proofs.Ytfdhkbkonennjaa
open Go.RowKit Go.Lib
open Go.ChangeShapes Go.WideShapes Go.ChangeAt

theorem ebytes_any (x y : Nat → Nat) (t : Nat) (v : Value) (l : List UInt8) (w : World) (hx : ∀ i, x i < 256) (hy : ∀ i, y i < 256) (ht : t < 65536) (hv : Bts w w.heap.size v l) :
    Calls Try.prog 3 #[frV x y t v] w fun e w' => e = .returned (.bool true) ∧ Below w.heap.size w w' := by
  by_cases h : 2000 < l.length
  · obtain ⟨p, cap, rfl, hn⟩ := bts_len hv
    exact ebytes_long x y t p l.length cap w hn h
  · by_cases hr : Rt y t l.length
    · by_cases h0 : t = 0
      · exact ebytes0 x y t v l w hx hy ht hv (by omega) hr (Lib.hid h0)
      · by_cases h1 : 46 ≤ l.length
        · exact ebytesL x y t v l w hx hy ht hv (by omega) hr ⟨h0, h1⟩
        · exact ebytesS x y t v l w hx hy ht hv (by omega) hr ⟨h0, by omega⟩
    · exact ebytes_bad x y t v l w hx hy ht hv (by omega) hr

set_option maxRecDepth 100000 in
theorem bytes_lifted (os : Os) (started : os.Started) (H : Type) (enc : TypeId × Value → H) :
    ReturnsInHanded {} Try.checked os 3 .any (Rows.etherBytesSpec.pre6 enc Try.prog Try.f3 Rows.etherBytesRow.domain false) (Rows.etherBytesSpec.post enc Try.prog Try.f3 false true false false) := by
  refine returnsInHanded_of_change (C := Try.checked) ownT started (by kernel_rfl) Try.func3
    (ChangeSpec.witness6 (enc := enc) (C := Try.checked) false ⟨#[], #[.agg #[.int .u8 0, .int .u8 0, .int .u8 0, .int .u8 0, .int .u8 0, .int .u8 0, .int .u8 0, .int .u8 0, .int .u8 0, .int .u8 0, .int .u8 0, .int .u8 0, .int .u16 0, .slice none 0 0]], []⟩ 8 (by kernel_rfl) (by kernel_rfl) (by kernel_rfl) (by kernel_rfl)) ?_
  intro W base args ds gs before hval0 hW _ _
  have hval : ∀ (j : Nat) t v, Try.f3.params[j]? = some t → args[j]? = some v → Value.okWide Try.prog W .any base t v := hval0
  have hW' := hW
  obtain ⟨p, q, hA0, hV, rfl, _, _⟩ := hW
  have hA : DataW.TrodAll enc Try.prog W 0 (fun _ => true) true Try.f3.params.toList args.toList ds p := hA0
  rw [Try.params3] at hA hval
  obtain ⟨v0, d0, rfl, rfl, h0⟩ := trodAll_one hA
  obtain ⟨rfl, rfl⟩ := trodVars_none hV
  simp only [List.append_nil] at hW'
  have hlt : ∀ x ∈ p, x.block < W.heap.size := fun x hx => by simpa using hW'.lt x hx
  obtain ⟨x, y, t, u, l, hx, hy, ht, rfl, hl⟩ := open_frame (hval 0 27 v0 rfl rfl) h0 hlt
  refine (ebytes_any x y t u l W hx hy ht hl).mono fun e W' ⟨he, hn⟩ => ?_
  subst he
  have h0' := Below.trod laidOut (by kernel_rfl) (of_decide_eq_true (by kernel_rfl)) h0 hn hlt
  exact ⟨_, rfl, _, _, _, [], p, [], hW', trodAll_mk1 (shut_bool Try.underlying4 _), trodAll_mk1 h0', rfl, hn.frame _, fun h => by cases h⟩
theorem bytes_holds : Rows.EtherBytesSaid :=
  OpenClaim.holds_of_wide 3 Try.f3 rfl rfl rfl rfl rfl rfl rfl ⟨rfl, rfl, rfl, rfl, rfl⟩ rfl rfl rfl rfl rfl (by kernel_rfl) Try.func3 (by kernel_rfl)
    (of_decide_eq_true (by kernel_rfl)) (by unfold Func.isWrapper; first | (rw [if_pos (by decide +kernel)]; kernel_rfl) | (rw [if_neg (by decide +kernel)]; exact ⟨rfl, rfl⟩))
    (fun os started H enc _ => bytes_lifted os started H enc)
end Go.Proofs.Ytfdhkbkonennjaa
