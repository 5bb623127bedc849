/- What a slice of calls that came in gives. -/
import Derived.Test.YtkdaloikpljccaaX
import Derived.Test.YtkdaloikpljccaaZa
import Derived.Deep.Slices
import Derived.ChangeSlices
namespace Go.Proofs.Ytkdaloikpljccaa
open Go.RowKit Go.Lib
open Go.ChangeShapes Go.WideShapes Go.ChangeAt

variable {H : Type} {enc : TypeId × Value → H}
theorem und22 : Try.prog.underlying 22 = some (.slice 33) := by kernel_rfl
theorem und33 : Try.prog.underlying 33 = some (.struct (Try.prog.fieldsOf 33)) := by kernel_rfl
theorem fields33 : (Try.prog.fieldsOf 33).toList.map (fun f => (f.name, f.type, f.offset)) = [("Kind", 5, 0), ("Mac", 24, 1), ("N", 3, 7)] := by kernel_rfl
theorem und3 : Try.prog.underlying 3 = some (.int .i64) := by kernel_rfl
theorem c3 : Try.prog.cellsOf 3 = 1 := by kernel_rfl
theorem c33 : Try.prog.cellsOf 33 = 8 := by kernel_rfl
theorem act_cells {w : World} {base : Nat} {spare : Nat → Bool} {held : Bool} {fuel : Nat} {cs : List Value} {x : DataW H × List MemPlace} (h : DataW.trod enc Try.prog w base spare held fuel 33 cs = some x) :
    ∃ (k m : Nat) (N : Int), k < 256 ∧ m < 281474976710656 ∧ cs = (actC k m N).toList := by
  obtain ⟨xs, n, _, _, hl, hxl, hf⟩ := DataW.trod_struct und33 h
  have hff := fields33
  generalize Try.prog.fieldsOf 33 = fs at hf hff hxl
  obtain ⟨fl⟩ := fs
  obtain ⟨f1, f2, f3, rfl⟩ : ∃ f1 f2 f3, fl = [f1, f2, f3] := by
    have hl := congrArg List.length hff
    simp at hl
    match fl, hl with
    | [f1, f2, f3], _ => exact ⟨f1, f2, f3, rfl⟩
  simp only [List.map_cons, List.map_nil, List.cons.injEq, Prod.mk.injEq, and_true] at hff
  obtain ⟨⟨_, t1, o1⟩, ⟨_, t2, o2⟩, ⟨_, t3, o3⟩⟩ := hff
  rw [c33] at hl
  match cs, hl, xs, hxl with
  | [v0, v1, v2, v3, v4, v5, v6, v7], _, [y0, y1, y2], _ =>
    have g0 := hf 0 f1 rfl
    have g1 := hf 1 f2 rfl
    have g2 := hf 2 f3 rfl
    rw [t1, o1, c5] at g0
    rw [t2, o2, c24] at g1
    rw [t3, o3, c3] at g2
    obtain ⟨n0, e0, _, w0⟩ := DataW.trod_int u5 (x := y0) g0
    obtain ⟨n2, e2, _, _⟩ := DataW.trod_int und3 (x := y2) g2
    obtain ⟨m0, m1, m2, m3, m4, m5, h0, h1, h2, h3, h4, h5, _, b0, b1, b2, b3, b4, b5⟩ := trod_mac (x := y1) g1
    simp at e0 e2
    subst e0 e2 h0 h1 h2 h3 h4 h5
    have r0 := byte_wf w0
    have q0 := byte_wf b0; have q1 := byte_wf b1; have q2 := byte_wf b2; have q3 := byte_wf b3; have q4 := byte_wf b4; have q5 := byte_wf b5
    have hx : ∀ i, six m0 m1 m2 m3 m4 m5 i < 256 := by
      intro i
      match i with
      | 0 => show m0.toNat < 256; omega
      | 1 => show m1.toNat < 256; omega
      | 2 => show m2.toNat < 256; omega
      | 3 => show m3.toNat < 256; omega
      | 4 => show m4.toNat < 256; omega
      | 5 => show m5.toNat < 256; omega
      | i + 6 => show 0 < 256; omega
    have hmac := ofN_pref hx
    simp only [macV, Value.agg.injEq, Array.mk.injEq, List.cons.injEq, Value.int.injEq, and_true, true_and] at hmac
    obtain ⟨p0, p1, p2, p3, p4, p5⟩ := hmac
    refine ⟨n0.toNat, pref (six m0 m1 m2 m3 m4 m5) 6, n2, by omega, pref6_lt hx, ?_⟩
    have s0 : ((six m0 m1 m2 m3 m4 m5 0 : Nat) : Int) = m0 := by show (m0.toNat : Int) = m0; omega
    have s1 : ((six m0 m1 m2 m3 m4 m5 1 : Nat) : Int) = m1 := by show (m1.toNat : Int) = m1; omega
    have s2 : ((six m0 m1 m2 m3 m4 m5 2 : Nat) : Int) = m2 := by show (m2.toNat : Int) = m2; omega
    have s3 : ((six m0 m1 m2 m3 m4 m5 3 : Nat) : Int) = m3 := by show (m3.toNat : Int) = m3; omega
    have s4 : ((six m0 m1 m2 m3 m4 m5 4 : Nat) : Int) = m4 := by show (m4.toNat : Int) = m4; omega
    have s5 : ((six m0 m1 m2 m3 m4 m5 5 : Nat) : Int) = m5 := by show (m5.toNat : Int) = m5; omega
    have k0 : ((n0.toNat : Nat) : Int) = n0 := by omega
    unfold actC
    rw [p0, p1, p2, p3, p4, p5, s0, s1, s2, s3, s4, s5, k0]
theorem addN (b o k : Nat) : (⟨b, o, none⟩ : Addr).add k = ⟨b, o + k, none⟩ := by unfold Addr.add; split <;> simp_all
theorem spot_none {w : World} {a : Addr} {v : Value} (h : w.cell? (a.add 0) = some v) : a = ⟨a.block, a.off, none⟩ := by
  have := World.cell?_spot h
  obtain ⟨b, o, s⟩ := a
  have : s = none := by simpa [Addr.add] using this
  rw [this]
theorem open_acts {W : World} {g : Nat} {v : Value} {d : DataW H} {ps : List MemPlace} (hval : Value.okWide Try.prog W .any g 22 v) (hd : DataW.Trod enc Try.prog W 0 (fun _ => true) true 22 v d ps) :
    ∃ (a : Option Addr) (n c : Nat), v = .slice a n c ∧ (0 < n → ∃ (b o : Nat) (K M : Nat → Nat) (Z : Nat → Int), a = some ⟨b, o, none⟩ ∧ As W b o n K M Z) := by
  obtain ⟨a0, len, cap, rfl⟩ := okWide_slice und22 hval
  refine ⟨a0, len, cap, rfl, fun hn => ?_⟩
  obtain ⟨fuel, hf⟩ := hd
  rcases Go.Deep.open_slice und22 hf with ⟨hcs, _⟩ | ⟨a, len', cap', m, k, D, Pl, hcs, _, hl, _, hm, _, hx⟩
  · simp [Value.cells] at hcs; omega
  · simp [Value.cells] at hcs
    obtain ⟨rfl, rfl, rfl⟩ := hcs
    have hmc : m = cap := by simpa using hm
    subst hmc
    have each : ∀ i, i < len → ∃ q : Nat × Nat × Int, q.1 < 256 ∧ q.2.1 < 281474976710656 ∧ ∀ c, c < 8 → W.cell? (a.add (i * 8 + c)) = (actC q.1 q.2.1 q.2.2)[c]? := by
      intro i hi
      obtain ⟨cs', h1, h2⟩ := hx i (by omega)
      rw [c33] at h1
      obtain ⟨kk, mm, NN, hk, hmm, rfl⟩ := act_cells h2
      obtain ⟨_, _, hcell⟩ := World.cells?_some h1
      refine ⟨(kk, mm, NN), hk, hmm, fun c hc => ?_⟩
      have e0 := hcell c hc
      rw [Go.Deep.add_add] at e0
      rw [Array.getElem?_toList] at e0
      exact e0
    obtain ⟨q, hq⟩ := Go.Deep.choose_lt each
    have ha := spot_none (v := .int .u8 ((q 0).1 : Nat)) (by simpa using (hq 0 hn).2.2 0 (by omega))
    refine ⟨a.block, a.off, fun i => (q i).1, fun i => (q i).2.1, fun i => (q i).2.2, by rw [← ha], fun i hi => ?_⟩
    obtain ⟨h0, h1, h2⟩ := hq i hi
    refine ⟨h0, h1, fun c hc => ?_⟩
    have h3 := h2 c hc
    rw [ha, addN] at h3
    rw [Nat.add_assoc]
    exact h3
end Go.Proofs.Ytkdaloikpljccaa
