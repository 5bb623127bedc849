/- The law IdentBridges of layer 5 holds of the program at this commit: for any priority, address and word the call returns true and leaves its arguments as they were.
   Conditions: those of the given card: the listed variables of the library hold what the text of the program lays in them. -/
import Derived.Test.YtgeommhambkmgaaDoorX
import Derived.Test.YtgeommhambkmgaaDoorQ
import Derived.Test.YtgeommhambkmgaaDoorTie
import Derived.Test.YtgeommhambkmgaaDoorCards
import Derived.ProofKit
import Derived.ChangeArms
import Derived.Lay
import Derived.SevenTiedAt
import Derived.WalkSmall
namespace Go.Proofs.YtgeommhambkmgaaDoor
open Go.RowKit Go.Lib
open Go.ChangeShapes Go.WideShapes Go.ChangeAt

variable {H : Type} {enc : TypeId × Value → H} {w : World} {base : Nat} {spare : Nat → Bool} {held : Bool}
theorem list6 {α : Type} (l : List α) (h : (⟨l⟩ : Array α).size = 6) : ∃ a b c d e f, l = [a, b, c, d, e, f] := by
  match l, h with
  | [a, b, c, d, e, f], _ => exact ⟨a, b, c, d, e, f, rfl⟩
theorem c23 : Tryd.prog.cellsOf 23 = 6 := by kernel_rfl
theorem byte_wf {n : Int} (h : (Lit.int .u8 n).wf = true) : 0 ≤ n ∧ n < 256 := by
  have e1 : IntKind.u8.min = 0 := by decide
  have e2 : IntKind.u8.max = 255 := by decide
  simp [Lit.wf, e1, e2] at h
  omega
theorem word_wf {n : Int} (h : (Lit.int .u64 n).wf = true) : 0 ≤ n ∧ n < 18446744073709551616 := by
  have e1 : IntKind.u64.min = 0 := by decide
  have e2 : IntKind.u64.max = 18446744073709551615 := by decide
  simp [Lit.wf, e1, e2] at h
  omega
theorem trod_mac {fuel : Nat} {k0 k1 k2 k3 k4 k5 : Value} {x : DataW H × List MemPlace} (h : DataW.trod enc Tryd.prog w base spare held fuel 23 [k0, k1, k2, k3, k4, k5] = some x) :
    ∃ n0 n1 n2 n3 n4 n5 : Int, k0 = .int .u8 n0 ∧ k1 = .int .u8 n1 ∧ k2 = .int .u8 n2 ∧ k3 = .int .u8 n3 ∧ k4 = .int .u8 n4 ∧ k5 = .int .u8 n5 ∧
      x = (.agg [.lit (.int .u8 n0), .lit (.int .u8 n1), .lit (.int .u8 n2), .lit (.int .u8 n3), .lit (.int .u8 n4), .lit (.int .u8 n5)], []) ∧
      (Lit.int .u8 n0).wf = true ∧ (Lit.int .u8 n1).wf = true ∧ (Lit.int .u8 n2).wf = true ∧ (Lit.int .u8 n3).wf = true ∧ (Lit.int .u8 n4).wf = true ∧ (Lit.int .u8 n5).wf = true := by
  cases fuel with
  | zero => simp [DataW.trod] at h
  | succ n =>
    unfold DataW.trod at h
    rw [u23] at h
    have r6 : List.range 6 = [0, 1, 2, 3, 4, 5] := rfl
    simp [r6, c5] at h
    obtain ⟨_, h⟩ := h
    cases h0 : DataW.trod enc Tryd.prog w base spare held n 5 [k0] with
    | none => simp [h0] at h
    | some y0 =>
    cases h1 : DataW.trod enc Tryd.prog w base spare held n 5 [k1] with
    | none => simp [h0, h1] at h
    | some y1 =>
    cases h2 : DataW.trod enc Tryd.prog w base spare held n 5 [k2] with
    | none => simp [h0, h1, h2] at h
    | some y2 =>
    cases h3 : DataW.trod enc Tryd.prog w base spare held n 5 [k3] with
    | none => simp [h0, h1, h2, h3] at h
    | some y3 =>
    cases h4 : DataW.trod enc Tryd.prog w base spare held n 5 [k4] with
    | none => simp [h0, h1, h2, h3, h4] at h
    | some y4 =>
    cases h5 : DataW.trod enc Tryd.prog w base spare held n 5 [k5] with
    | none => simp [h0, h1, h2, h3, h4, h5] at h
    | some y5 =>
      simp [h0, h1, h2, h3, h4, h5] at h
      obtain ⟨n0, e0, rfl, w0⟩ := DataW.trod_int u5 h0
      obtain ⟨n1, e1, rfl, w1⟩ := DataW.trod_int u5 h1
      obtain ⟨n2, e2, rfl, w2⟩ := DataW.trod_int u5 h2
      obtain ⟨n3, e3, rfl, w3⟩ := DataW.trod_int u5 h3
      obtain ⟨n4, e4, rfl, w4⟩ := DataW.trod_int u5 h4
      obtain ⟨n5, e5, rfl, w5⟩ := DataW.trod_int u5 h5
      simp at e0 e1 e2 e3 e4 e5
      subst e0 e1 e2 e3 e4 e5
      exact ⟨n0, n1, n2, n3, n4, n5, rfl, rfl, rfl, rfl, rfl, rfl, h.symm, w0, w1, w2, w3, w4, w5⟩
/-- Six bytes, as a function. -/
def six (n0 n1 n2 n3 n4 n5 : Int) : Nat → Nat | 0 => n0.toNat | 1 => n1.toNat | 2 => n2.toNat | 3 => n3.toNat | 4 => n4.toNat | 5 => n5.toNat | _ => 0
set_option maxRecDepth 100000 in
theorem open_mac {W : World} {b : Nat} {v : Value} {d : DataW H} {ps : List MemPlace} (hval : Value.okWide Tryd.prog W .any b 23 v) (hd : DataW.Trod enc Tryd.prog w base spare held 23 v d ps) :
    ∃ x : Nat → Nat, (∀ i, x i < 256) ∧ v = macV x ∧ ps = [] ∧ ∀ (w' : World) (base' : Nat) (spare' : Nat → Bool) (held' : Bool), DataW.Trod enc Tryd.prog w' base' spare' held' 23 v d [] := by
  obtain ⟨cs, rfl, hsz, _⟩ : ∃ cs, v = .agg cs ∧ cs.size = Tryd.prog.cellsOf 23 ∧ Go.Row.okWide Tryd.prog W .any b 23 cs := by
    simpa [Value.okWide, u23] using hval
  rw [c23] at hsz
  obtain ⟨l⟩ := cs
  obtain ⟨k0, k1, k2, k3, k4, k5, rfl⟩ := list6 l hsz
  obtain ⟨fuel, hf⟩ := hd
  obtain ⟨n0, n1, n2, n3, n4, n5, rfl, rfl, rfl, rfl, rfl, rfl, hx, w0, w1, w2, w3, w4, w5⟩ := trod_mac hf
  simp only [Prod.mk.injEq] at hx
  obtain ⟨rfl, rfl⟩ := hx
  have b0 := byte_wf w0; have b1 := byte_wf w1; have b2 := byte_wf w2; have b3 := byte_wf w3; have b4 := byte_wf w4; have b5 := byte_wf w5
  refine ⟨six n0 n1 n2 n3 n4 n5, ?_, ?_, rfl, fun w' base' spare' held' => ⟨2, ?_⟩⟩
  · intro i
    match i with
    | 0 => exact (by omega : n0.toNat < 256)
    | 1 => exact (by omega : n1.toNat < 256)
    | 2 => exact (by omega : n2.toNat < 256)
    | 3 => exact (by omega : n3.toNat < 256)
    | 4 => exact (by omega : n4.toNat < 256)
    | 5 => exact (by omega : n5.toNat < 256)
    | i + 6 => exact (by omega : 0 < 256)
  · have e0 : ((six n0 n1 n2 n3 n4 n5 0 : Nat) : Int) = n0 := by show (n0.toNat : Int) = n0; omega
    have e1 : ((six n0 n1 n2 n3 n4 n5 1 : Nat) : Int) = n1 := by show (n1.toNat : Int) = n1; omega
    have e2 : ((six n0 n1 n2 n3 n4 n5 2 : Nat) : Int) = n2 := by show (n2.toNat : Int) = n2; omega
    have e3 : ((six n0 n1 n2 n3 n4 n5 3 : Nat) : Int) = n3 := by show (n3.toNat : Int) = n3; omega
    have e4 : ((six n0 n1 n2 n3 n4 n5 4 : Nat) : Int) = n4 := by show (n4.toNat : Int) = n4; omega
    have e5 : ((six n0 n1 n2 n3 n4 n5 5 : Nat) : Int) = n5 := by show (n5.toNat : Int) = n5; omega
    unfold macV
    rw [e0, e1, e2, e3, e4, e5]
  · simp [DataW.trod, Value.cells, c23, c5, w0, w1, w2, w3, w4, w5, show List.range 6 = [0, 1, 2, 3, 4, 5] from rfl]

theorem own : ownKnob Tryd.prog.godebug = none := by kernel_rfl
theorem bridges_any (p : Int) (x : Nat → Nat) (hx : ∀ i, x i < 256) (n : Nat) (hn : n < 18446744073709551616) (w : World) (h : Env w) :
    Calls Tryd.prog 3 #[.int .i64 p, macV x, .int .u64 n] w fun e w' => e = .returned (.bool true) ∧ Below w.heap.size w w' := by
  cases hp : stB p 4096 61440 with
  | false => exact bridges_not p x n hn hp w h
  | true =>
    have h1 : 0 ≤ p := by unfold stB at hp; simp at hp; omega
    obtain ⟨P, rfl⟩ := Int.eq_ofNat_of_zero_le h1
    exact bridges_ok P x hx n hn hp w h
set_option maxRecDepth 100000 in
theorem bridges_lifted (os : Os) (started : os.Started) (H : Type) (enc : TypeId × Value → H) :
    ReturnsInHanded {} Tryd.checked os 3 .any (fun w args => (Rows.identBridgesSpec.pre enc Tryd.prog Tryd.f3 [] false w args ∧ laidMetH Tryd.prog Rows.identBridgesRow.laid w) ∧ sizedMet enc Tryd.prog Tryd.f3 (OpenSpec.ofChange Rows.identBridgesSpec) false w args)
      (Rows.identBridgesSpec.post enc Tryd.prog Tryd.f3 false true false false) := by
  refine returnsInHanded_of_change_and (C := Tryd.checked) (X := fun w _ => laidMetH Tryd.prog Rows.identBridgesRow.laid w) (fun _ _ _ hh h => h.of_heap hh) own started (by kernel_rfl) Tryd.func3
    (ChangeSpec.witness_shaped (enc := enc) (C := Tryd.checked) (os := os) (X := fun w _ => laidMetH Tryd.prog Rows.identBridgesRow.laid w) false (World.laidAll Tryd.prog os Rows.identBridgesRow.laid) #[.int .i64 0, .agg #[.int .u8 0, .int .u8 0, .int .u8 0, .int .u8 0, .int .u8 0, .int .u8 0], .int .u64 0] 8 (World.laidAll_os _ _ _)
      (World.shaped_of_ZipB (by kernel_rfl) (by kernel_rfl)) (by kernel_rfl) (by kernel_rfl) (by kernel_rfl)
      (by rw [MakeChecks.laidMetH_plain _ _ _ (by kernel_rfl)]; exact laidMet_laidAll _ (by kernel_rfl) (by kernel_rfl))) ?_
  intro W base args ds gs before hval0 hW _ _ hL _
  have hval : ∀ (j : Nat) t v, Tryd.f3.params[j]? = some t → args[j]? = some v → Value.okWide Tryd.prog W .any base t v := hval0
  have hW' := hW
  obtain ⟨p, q, hA0, hV, rfl, _, _⟩ := hW
  have hA : DataW.TrodAll enc Tryd.prog W 0 (fun _ => true) true Tryd.f3.params.toList args.toList ds p := hA0
  rw [Tryd.params3] at hA hval
  obtain ⟨v0, v1, v2, d0, d1, d2, p0, p1, p2, rfl, rfl, rfl, h0, h1, h2⟩ := trodAll_three hA
  obtain ⟨rfl, rfl⟩ := trodVars_none hV
  obtain ⟨x, rfl, rfl, rfl, wx⟩ := open_int Tryd.underlying3 (hval 0 3 v0 rfl rfl) h0
  obtain ⟨y, hy, rfl, rfl, ty⟩ := open_mac (hval 1 23 v1 rfl rfl) h1
  obtain ⟨z, rfl, rfl, rfl, wz⟩ := open_int Tryd.underlying24 (hval 2 24 v2 rfl rfl) h2
  simp only [List.append_nil] at hW'
  rw [MakeChecks.laidMetH_plain _ _ _ (by kernel_rfl)] at hL
  have hE : Env W := env_of (laidMet.reads hL (by simp [Rows.identBridgesRow]))
  have hz := word_wf wz
  obtain ⟨n, rfl⟩ : ∃ n : Nat, z = (n : Int) := ⟨z.toNat, by omega⟩
  refine (bridges_any x y hy n (by omega) W hE).mono fun e W' ⟨he, hn⟩ => ?_
  subst he
  exact ⟨_, rfl, _, _, _, [], [], [], hW', trodAll_mk1 (shut_bool Tryd.underlying4 _), trodAll_mk3 (shut_int Tryd.underlying3 wx) (ty _ _ _ _) (shut_int Tryd.underlying24 wz), rfl, hn.frame _, fun h => by cases h⟩

theorem bridges_holds : Rows.IdentBridgesSaid :=
  OpenClaim.holds_of_wide 3 Tryd.f3 rfl rfl rfl rfl rfl rfl rfl ⟨rfl, rfl, rfl, rfl, rfl⟩ rfl rfl rfl rfl rfl (by kernel_rfl) Tryd.func3 (by kernel_rfl)
    (of_decide_eq_true (by kernel_rfl)) (by unfold Func.isWrapper; first | (rw [if_pos (by decide +kernel)]; kernel_rfl) | (rw [if_neg (by decide +kernel)]; exact ⟨rfl, rfl⟩))
    (fun os started H enc _ => bridges_lifted os started H enc)
theorem bridges_card : Rows.IdentBridgesCardSaid :=
  Claim7.holds_tied_plain_at .later [] [.data, .data, .data, .sentinel, .sentinel] true (true, "fb3a24898c346cc62a8b17debb4ddc0d903c7f67322f3b3fe279227d7c89a1fb") true
    bridges_holds (fun _ h => by cases h) (by kernel_rfl) (fun _ h => by cases h) identBridges_row_tie rfl ⟨rfl, rfl⟩ (by kernel_rfl) rfl
    (fun f fn hf hfn => by
      obtain rfl : f = 3 := Option.some.inj ((show Tryd.prog.funcNamed "catenary/catenarylaw05.IdentBridges" = some 3 by kernel_rfl).symm.trans hf) |>.symm
      obtain rfl : fn = Tryd.f3 := (Option.some.inj (Tryd.func3.symm.trans hfn)).symm
      exact ⟨by kernel_rfl, fun j t ht => by
        rw [Tryd.params3] at ht
        have hm : t ∈ [3, 23, 24] := by simpa using Array.mem_of_getElem? ht
        have hall : ([3, 23, 24].all fun u => !Tryd.prog.wantsStandIn u) = true := by kernel_rfl
        exact (show Tryd.prog.wantsStandIn t = false by simpa using List.all_eq_true.1 hall t hm)⟩)
    (by kernel_rfl)
end Go.Proofs.YtgeommhambkmgaaDoor
