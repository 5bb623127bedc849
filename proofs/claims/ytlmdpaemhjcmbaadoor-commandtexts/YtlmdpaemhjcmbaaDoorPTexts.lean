/- The law CommandTexts of layer 12 holds of the program at this commit: for any text and any command the call returns true and leaves its arguments as they were.
   Conditions: those of the given card: the listed variables hold what the text of the program lays in them. -/
import Derived.Test.YtlmdpaemhjcmbaaDoorRh
import Derived.Test.YtlmdpaemhjcmbaaDoorQa
import Derived.Test.YtlmdpaemhjcmbaaDoorTie
import Derived.Test.YtlmdpaemhjcmbaaDoorCards
import Derived.ProofKit
import Derived.ChangeArms
import Derived.Lay
import Derived.SevenTiedAt
namespace Go.Proofs.YtlmdpaemhjcmbaaDoor
open Go.RowKit Go.Lib
open Go.ChangeShapes Go.WideShapes Go.ChangeAt
open Go.ChangeMaps (open_string shut_string)

theorem laidOut : laidOutB Tryd.prog = true := by kernel_rfl
theorem ownT : ownKnob Tryd.prog.godebug = none := by kernel_rfl
/-- The cells of a struct that came in, each with its type. -/
theorem open_struct {P : Program} {T : TypeId} {fs : Array Field} {ts : List TypeId} {W : World} {b : Nat} {v : Value} (hu : P.underlying T = some (.struct fs)) (hc : P.cellTypes P.depth T = some ts) (hn : P.cellsOf T = ts.length) (hval : Value.okWide P W .any b T v) :
    ∃ l : List Value, v = .agg ⟨l⟩ ∧ l.length = ts.length ∧ ∀ (i : Nat) (t : TypeId) (x : Value), ts[i]? = some t → l[i]? = some x → Cell.okWide P W .any b t x := by
  obtain ⟨cs, rfl, hsz, us, hus, _, hrow⟩ : ∃ cs, v = .agg cs ∧ cs.size = P.cellsOf T ∧ Go.Row.okWide P W .any b T cs := by
    simpa [Value.okWide, hu] using hval
  rw [hc] at hus
  cases hus
  obtain ⟨l⟩ := cs
  have hl : l.length = ts.length := by rw [← hn, ← hsz]; rfl
  refine ⟨l, rfl, hl, fun i t x ht hx => ?_⟩
  obtain ⟨u, hu', hok⟩ := hrow i x (by simpa using hx)
  have hi : i < ts.length := (List.getElem?_eq_some_iff.1 ht).1
  rw [Nat.mod_eq_of_lt hi, ht] at hu'
  cases hu'
  exact hok
theorem cell_int {P : Program} {t : TypeId} {k : IntKind} {W : World} {b : Nat} {v : Value} (hu : P.underlying t = some (.int k)) (h : Cell.okWide P W .any b t v) : ∃ n, v = .int k n ∧ k.min ≤ n ∧ n ≤ k.max := by
  unfold Cell.okWide at h
  rw [hu] at h
  simp only [Cell.ok, hu] at h
  cases v <;> simp [IntKind.has] at h
  obtain ⟨rfl, h⟩ := h
  exact ⟨_, rfl, h⟩
theorem cell_bool {P : Program} {t : TypeId} {W : World} {b : Nat} {v : Value} (hu : P.underlying t = some .bool) (h : Cell.okWide P W .any b t v) : ∃ q, v = .bool q := by
  unfold Cell.okWide at h
  rw [hu] at h
  simp only [Cell.ok, hu] at h
  cases v <;> simp at h
  exact ⟨_, rfl⟩
theorem byte_of {n : Int} (h : IntKind.u8.min ≤ n ∧ n ≤ IntKind.u8.max) : ∃ k : Nat, n = k ∧ k < 256 := by
  have e1 : IntKind.u8.min = 0 := by decide
  have e2 : IntKind.u8.max = 255 := by decide
  exact ⟨n.toNat, by omega, by omega⟩
theorem int_of {n : Int} (h : IntKind.i64.min ≤ n ∧ n ≤ IntKind.i64.max) : -9223372036854775808 ≤ n ∧ n ≤ 9223372036854775807 := by
  have e1 : IntKind.i64.min = -9223372036854775808 := by decide
  have e2 : IntKind.i64.max = 9223372036854775807 := by decide
  omega
/-- Six bytes, as a function. -/
def six (n0 n1 n2 n3 n4 n5 : Nat) : Nat → Nat | 0 => n0 | 1 => n1 | 2 => n2 | 3 => n3 | 4 => n4 | 5 => n5 | _ => 0
set_option maxRecDepth 100000 in
theorem open_cm {W : World} {g : Nat} {v : Value} (hval : Value.okWide Tryd.prog W .any g 26 v) : ∃ c : Cm, c.Fit ∧ v = .agg c.cells := by
  obtain ⟨l, rfl, hl, hx⟩ := open_struct (ts := [22, 3, 3, 4, 5, 5, 5, 5, 5, 5]) u26 (by kernel_rfl) (by kernel_rfl) hval
  match l, hl with
  | [x0, x1, x2, x3, y0, y1, y2, y3, y4, y5], _ =>
    have h3 : Tryd.prog.underlying 3 = some (.int .i64) := by kernel_rfl
    have h22 : Tryd.prog.underlying 22 = some (.int .i64) := by kernel_rfl
    have h4 : Tryd.prog.underlying 4 = some .bool := by kernel_rfl
    obtain ⟨a, rfl, ha⟩ := cell_int h22 (hx 0 22 x0 rfl rfl)
    obtain ⟨b, rfl, hb⟩ := cell_int h3 (hx 1 3 x1 rfl rfl)
    obtain ⟨c, rfl, hc⟩ := cell_int h3 (hx 2 3 x2 rfl rfl)
    obtain ⟨d, rfl⟩ := cell_bool h4 (hx 3 4 x3 rfl rfl)
    obtain ⟨n0, rfl, h0⟩ := cell_int u5 (hx 4 5 y0 rfl rfl)
    obtain ⟨n1, rfl, h1⟩ := cell_int u5 (hx 5 5 y1 rfl rfl)
    obtain ⟨n2, rfl, h2⟩ := cell_int u5 (hx 6 5 y2 rfl rfl)
    obtain ⟨n3, rfl, h3'⟩ := cell_int u5 (hx 7 5 y3 rfl rfl)
    obtain ⟨n4, rfl, h4'⟩ := cell_int u5 (hx 8 5 y4 rfl rfl)
    obtain ⟨n5, rfl, h5⟩ := cell_int u5 (hx 9 5 y5 rfl rfl)
    obtain ⟨m0, rfl, b0⟩ := byte_of h0
    obtain ⟨m1, rfl, b1⟩ := byte_of h1
    obtain ⟨m2, rfl, b2⟩ := byte_of h2
    obtain ⟨m3, rfl, b3⟩ := byte_of h3'
    obtain ⟨m4, rfl, b4⟩ := byte_of h4'
    obtain ⟨m5, rfl, b5⟩ := byte_of h5
    refine ⟨⟨a, b, c, d, six m0 m1 m2 m3 m4 m5⟩, ⟨(int_of ha).1, (int_of ha).2, (int_of hb).1, (int_of hb).2, (int_of hc).1, (int_of hc).2, fun i => ?_, fun i hi => ?_⟩, rfl⟩
    · match i with
      | 0 => exact b0
      | 1 => exact b1
      | 2 => exact b2
      | 3 => exact b3
      | 4 => exact b4
      | 5 => exact b5
      | i + 6 => exact (show (0 : Nat) < 256 by omega)
    · match i, hi with
      | i + 6, _ => rfl

set_option maxRecDepth 100000 in
theorem ctexts_lifted (os : Os) (started : os.Started) (H : Type) (enc : TypeId × Value → H) :
    ReturnsInHanded {} Tryd.checked os 3 .any (fun w args => (Rows.commandTextsSpec.pre enc Tryd.prog Tryd.f3 [] false w args ∧ laidMetH Tryd.prog Rows.commandTextsRow.laid w) ∧ sizedMet enc Tryd.prog Tryd.f3 (OpenSpec.ofChange Rows.commandTextsSpec) false w args)
      (Rows.commandTextsSpec.post enc Tryd.prog Tryd.f3 false true false false) := by
  refine returnsInHanded_of_calls (C := Tryd.checked) ownT started (by kernel_rfl)
    (ChangeSpec.witness_shaped (enc := enc) (C := Tryd.checked) (os := os) (X := fun w _ => laidMetH Tryd.prog Rows.commandTextsRow.laid w) false (World.laidAll Tryd.prog os Rows.commandTextsRow.laid) #[.string ⟨#[]⟩, .agg #[.int .i64 0, .int .i64 0, .int .i64 0, .bool false, .int .u8 0, .int .u8 0, .int .u8 0, .int .u8 0, .int .u8 0, .int .u8 0]] 8 (World.laidAll_os _ _ _)
      (World.shaped_of_ZipB (by kernel_rfl) (by kernel_rfl)) (by kernel_rfl) (by kernel_rfl) (by kernel_rfl)
      (by rw [MakeChecks.laidMetH_plain _ _ _ (by kernel_rfl)]; exact laidMet_laidAll _ (by kernel_rfl) (by kernel_rfl))) ?_
  intro w0 tape i _ hsh _ hok hpre _
  obtain ⟨_, _, _, fn', hfn', _, _, _, _, hval0⟩ := hok
  obtain rfl : fn' = Tryd.f3 := Option.some.inj (hfn'.symm.trans Tryd.func3)
  obtain ⟨⟨⟨ds, gs, before, hw, _⟩, hx⟩, _⟩ := hpre
  have hW := DataW.Whole.of_heap (w' := w0.forCall tape i) (by rfl) hw
  have hL : laidMetH Tryd.prog Rows.commandTextsRow.laid (w0.forCall tape i) := laidMetH.of_heap (by rfl) hx
  obtain ⟨ih, args, vars⟩ := i
  simp only at hval0 hW ⊢
  generalize w0.forCall tape ⟨ih, args, vars⟩ = W at *
  generalize w0.heap.size = base at *
  have hval : ∀ (j : Nat) t v, Tryd.f3.params[j]? = some t → args[j]? = some v → Value.okWide Tryd.prog W .any base t v := hval0
  have hW' := hW
  obtain ⟨p, q, hA0, hV, rfl, _, _⟩ := hW
  have hA : DataW.TrodAll enc Tryd.prog W 0 (fun _ => true) true Tryd.f3.params.toList args.toList ds p := hA0
  rw [Tryd.params3] at hA hval
  obtain ⟨v0, v1, d0, d1, p0, p1, rfl, rfl, rfl, h0, h1⟩ := trodAll_two hA
  obtain ⟨rfl, rfl⟩ := trodVars_none hV
  simp only [List.append_nil] at hW'
  have hlt : ∀ x, x ∈ p0 ∨ x ∈ p1 → x.block < W.heap.size := fun x hx => by
    have := hW'.lt x (by rcases hx with h | h <;> simp [h])
    simpa using this
  have hl0 : ∀ x ∈ p0, x.block < W.heap.size := fun x hx => hlt x (.inl hx)
  have hl1 : ∀ x ∈ p1, x.block < W.heap.size := fun x hx => hlt x (.inr hx)
  obtain ⟨s, rfl⟩ := okWide_string Tryd.underlying9 (hval 0 9 v0 rfl rfl)
  obtain ⟨c, hc, rfl⟩ := open_cm (hval 1 26 v1 rfl rfl)
  rw [MakeChecks.laidMetH_plain _ _ _ (by kernel_rfl)] at hL
  have hE := env_of hL hsh (by simp [Rows.commandTextsRow]) (by simp [Rows.commandTextsRow]) (by simp [Rows.commandTextsRow]) (by simp [Rows.commandTextsRow]) (by simp [Rows.commandTextsRow])
  refine (ctexts_any s.data.toList c hc W hE).mono fun e W' ⟨he, hn⟩ => ?_
  subst he
  have h0' := Below.trod laidOut (by kernel_rfl) (of_decide_eq_true (by kernel_rfl)) h0 hn hl0
  have h1' := Below.trod laidOut (by kernel_rfl) (of_decide_eq_true (by kernel_rfl)) h1 hn hl1
  exact ChangeSpec.post_blind ⟨_, _, _, [], p0 ++ p1, [], hW', trodAll_mk1 (shut_bool Tryd.underlying4 _), trodAll_mk2 h0' h1', rfl, hn.frame _, fun h => by cases h⟩
theorem ctexts_holds : Rows.CommandTextsSaid :=
  OpenClaim.holds_of_wide 3 Tryd.f3 rfl rfl rfl rfl rfl rfl rfl ⟨rfl, rfl, rfl, rfl, rfl⟩ rfl rfl rfl rfl rfl (by kernel_rfl) Tryd.func3 (by kernel_rfl)
    (of_decide_eq_true (by kernel_rfl)) (by unfold Func.isWrapper; first | (rw [if_pos (by decide +kernel)]; kernel_rfl) | (rw [if_neg (by decide +kernel)]; exact ⟨rfl, rfl⟩))
    (fun os started H enc _ => ctexts_lifted os started H enc)
theorem ctexts_card : Rows.CommandTextsCardSaid :=
  Claim7.holds_tied_plain_at .later [] [.data, .data, .data, .data, .sentinel, .sentinel, .data, .data, .pinned] true (true, "21102f75a9b91833fd94702932178df340c78e3533dd8b901f1703f926083cea") true
    ctexts_holds (fun _ h => by cases h) (by kernel_rfl) (fun _ h => by cases h) commandTexts_row_tie rfl ⟨rfl, rfl⟩ (by kernel_rfl) rfl
    (fun f fn hf hfn => by
      obtain rfl : f = 3 := Option.some.inj ((show Tryd.prog.funcNamed "catenary/catenarylaw12.CommandTexts" = some 3 by kernel_rfl).symm.trans hf) |>.symm
      obtain rfl : fn = Tryd.f3 := (Option.some.inj (Tryd.func3.symm.trans hfn)).symm
      exact ⟨by kernel_rfl, fun j t ht => by
        rw [Tryd.params3] at ht
        have hm : t ∈ [9, 26] := by simpa using Array.mem_of_getElem? ht
        have hall : ([9, 26].all fun u => !Tryd.prog.wantsStandIn u) = true := by kernel_rfl
        exact (show Tryd.prog.wantsStandIn t = false by simpa using List.all_eq_true.1 hall t hm)⟩)
    (by kernel_rfl)
end Go.Proofs.YtlmdpaemhjcmbaaDoor
