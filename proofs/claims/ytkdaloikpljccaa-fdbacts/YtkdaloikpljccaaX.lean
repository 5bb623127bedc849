/- What an address that came in gives. -/
import Derived.Test.YtkdaloikpljccaaT
import Derived.Test.YtkdaloikpljccaaRows
import Derived.ProofKit
import Derived.ChangeArms
namespace Go.Proofs.Ytkdaloikpljccaa
open Go.RowKit Go.Lib
open Go.ChangeShapes Go.WideShapes Go.ChangeAt

variable {H : Type} {enc : TypeId × Value → H} {w : World} {base : Nat} {spare : Nat → Bool} {held : Bool}
theorem list6 {α : Type} (l : List α) (h : (⟨l⟩ : Array α).size = 6) : ∃ a b c d e f, l = [a, b, c, d, e, f] := by
  match l, h with
  | [a, b, c, d, e, f], _ => exact ⟨a, b, c, d, e, f, rfl⟩
theorem c24 : Try.prog.cellsOf 24 = 6 := by kernel_rfl
theorem byte_wf {n : Int} (h : (Lit.int .u8 n).wf = true) : 0 ≤ n ∧ n < 256 := by
  have e1 : IntKind.u8.min = 0 := by decide
  have e2 : IntKind.u8.max = 255 := by decide
  simp [Lit.wf, e1, e2] at h
  omega
theorem trod_mac {fuel : Nat} {k0 k1 k2 k3 k4 k5 : Value} {x : DataW H × List MemPlace} (h : DataW.trod enc Try.prog w base spare held fuel 24 [k0, k1, k2, k3, k4, k5] = some x) :
    ∃ n0 n1 n2 n3 n4 n5 : Int, k0 = .int .u8 n0 ∧ k1 = .int .u8 n1 ∧ k2 = .int .u8 n2 ∧ k3 = .int .u8 n3 ∧ k4 = .int .u8 n4 ∧ k5 = .int .u8 n5 ∧
      x = (.agg [.lit (.int .u8 n0), .lit (.int .u8 n1), .lit (.int .u8 n2), .lit (.int .u8 n3), .lit (.int .u8 n4), .lit (.int .u8 n5)], []) ∧
      (Lit.int .u8 n0).wf = true ∧ (Lit.int .u8 n1).wf = true ∧ (Lit.int .u8 n2).wf = true ∧ (Lit.int .u8 n3).wf = true ∧ (Lit.int .u8 n4).wf = true ∧ (Lit.int .u8 n5).wf = true := by
  cases fuel with
  | zero => simp [DataW.trod] at h
  | succ n =>
    unfold DataW.trod at h
    rw [u23] at h
    have r6 : List.range 6 = [0, 1, 2, 3, 4, 5] := rfl
    simp [r6, c5] at h
    obtain ⟨_, h⟩ := h
    cases h0 : DataW.trod enc Try.prog w base spare held n 5 [k0] with
    | none => simp [h0] at h
    | some y0 =>
    cases h1 : DataW.trod enc Try.prog w base spare held n 5 [k1] with
    | none => simp [h0, h1] at h
    | some y1 =>
    cases h2 : DataW.trod enc Try.prog w base spare held n 5 [k2] with
    | none => simp [h0, h1, h2] at h
    | some y2 =>
    cases h3 : DataW.trod enc Try.prog w base spare held n 5 [k3] with
    | none => simp [h0, h1, h2, h3] at h
    | some y3 =>
    cases h4 : DataW.trod enc Try.prog w base spare held n 5 [k4] with
    | none => simp [h0, h1, h2, h3, h4] at h
    | some y4 =>
    cases h5 : DataW.trod enc Try.prog w base spare held n 5 [k5] with
    | none => simp [h0, h1, h2, h3, h4, h5] at h
    | some y5 =>
      simp [h0, h1, h2, h3, h4, h5] at h
      obtain ⟨n0, e0, rfl, w0⟩ := DataW.trod_int u5 h0
      obtain ⟨n1, e1, rfl, w1⟩ := DataW.trod_int u5 h1
      obtain ⟨n2, e2, rfl, w2⟩ := DataW.trod_int u5 h2
      obtain ⟨n3, e3, rfl, w3⟩ := DataW.trod_int u5 h3
      obtain ⟨n4, e4, rfl, w4⟩ := DataW.trod_int u5 h4
      obtain ⟨n5, e5, rfl, w5⟩ := DataW.trod_int u5 h5
      simp at e0 e1 e2 e3 e4 e5
      subst e0 e1 e2 e3 e4 e5
      exact ⟨n0, n1, n2, n3, n4, n5, rfl, rfl, rfl, rfl, rfl, rfl, h.symm, w0, w1, w2, w3, w4, w5⟩
/-- Six bytes, as a function. -/
def six (n0 n1 n2 n3 n4 n5 : Int) : Nat → Nat | 0 => n0.toNat | 1 => n1.toNat | 2 => n2.toNat | 3 => n3.toNat | 4 => n4.toNat | 5 => n5.toNat | _ => 0
theorem open_mac {W : World} {b : Nat} {v : Value} {d : DataW H} {ps : List MemPlace} (hval : Value.okWide Try.prog W .any b 24 v) (hd : DataW.Trod enc Try.prog w base spare held 24 v d ps) :
    ∃ x : Nat → Nat, (∀ i, x i < 256) ∧ v = macV x ∧ ps = [] ∧ ∀ (w' : World) (base' : Nat) (spare' : Nat → Bool) (held' : Bool), DataW.Trod enc Try.prog w' base' spare' held' 24 v d [] := by
  obtain ⟨cs, rfl, hsz, _⟩ : ∃ cs, v = .agg cs ∧ cs.size = Try.prog.cellsOf 24 ∧ Row.okWide Try.prog W .any b 24 cs := by
    simpa [Value.okWide, u23] using hval
  rw [c24] at hsz
  obtain ⟨l⟩ := cs
  obtain ⟨k0, k1, k2, k3, k4, k5, rfl⟩ := list6 l hsz
  obtain ⟨fuel, hf⟩ := hd
  obtain ⟨n0, n1, n2, n3, n4, n5, rfl, rfl, rfl, rfl, rfl, rfl, hx, w0, w1, w2, w3, w4, w5⟩ := trod_mac hf
  simp only [Prod.mk.injEq] at hx
  obtain ⟨rfl, rfl⟩ := hx
  have b0 := byte_wf w0; have b1 := byte_wf w1; have b2 := byte_wf w2; have b3 := byte_wf w3; have b4 := byte_wf w4; have b5 := byte_wf w5
  refine ⟨six n0 n1 n2 n3 n4 n5, ?_, ?_, rfl, fun w' base' spare' held' => ⟨2, ?_⟩⟩
  · intro i
    match i with
    | 0 => show n0.toNat < 256; omega
    | 1 => show n1.toNat < 256; omega
    | 2 => show n2.toNat < 256; omega
    | 3 => show n3.toNat < 256; omega
    | 4 => show n4.toNat < 256; omega
    | 5 => show n5.toNat < 256; omega
    | i + 6 => show 0 < 256; omega
  · have e0 : ((six n0 n1 n2 n3 n4 n5 0 : Nat) : Int) = n0 := by show (n0.toNat : Int) = n0; omega
    have e1 : ((six n0 n1 n2 n3 n4 n5 1 : Nat) : Int) = n1 := by show (n1.toNat : Int) = n1; omega
    have e2 : ((six n0 n1 n2 n3 n4 n5 2 : Nat) : Int) = n2 := by show (n2.toNat : Int) = n2; omega
    have e3 : ((six n0 n1 n2 n3 n4 n5 3 : Nat) : Int) = n3 := by show (n3.toNat : Int) = n3; omega
    have e4 : ((six n0 n1 n2 n3 n4 n5 4 : Nat) : Int) = n4 := by show (n4.toNat : Int) = n4; omega
    have e5 : ((six n0 n1 n2 n3 n4 n5 5 : Nat) : Int) = n5 := by show (n5.toNat : Int) = n5; omega
    unfold macV
    rw [e0, e1, e2, e3, e4, e5]
  · simp [DataW.trod, Value.cells, c24, c5, w0, w1, w2, w3, w4, w5, show List.range 6 = [0, 1, 2, 3, 4, 5] from rfl]

theorem ownN : ownKnob Try.prog.godebug = none := by kernel_rfl
theorem open_macN {W : World} {b : Nat} {v : Value} {d : DataW H} {ps : List MemPlace} (hval : Value.okWide Try.prog W .any b 24 v) (hd : DataW.Trod enc Try.prog w base spare held 24 v d ps) :
    ∃ n : Nat, n < 281474976710656 ∧ v = macN n ∧ ps = [] ∧ ∀ (w' : World) (base' : Nat) (spare' : Nat → Bool) (held' : Bool), DataW.Trod enc Try.prog w' base' spare' held' 24 v d [] := by
  obtain ⟨x, hx, rfl, h1, h2⟩ := open_mac hval hd
  exact ⟨pref x 6, pref6_lt hx, (ofN_pref hx).symm, h1, h2⟩
end Go.Proofs.Ytkdaloikpljccaa
