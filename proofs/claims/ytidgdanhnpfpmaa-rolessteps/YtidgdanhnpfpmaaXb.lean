/- What slices of vectors and of numbers that came in give. -/
import Derived.Test.YtidgdanhnpfpmaaX
import Derived.Test.YtidgdanhnpfpmaaI
import Derived.Deep.Slices
import Derived.ChangeSlices
namespace Go.Proofs.Ytidgdanhnpfpmaa
open Go.RowKit Go.Lib
open Go.ChangeShapes Go.WideShapes Go.ChangeAt

variable {H : Type} {enc : TypeId × Value → H}
theorem und39 : Try.prog.underlying 71 = some (.slice 30) := by kernel_rfl
theorem und25 : Try.prog.underlying 27 = some (.int .u16) := by kernel_rfl
theorem c23 : Try.prog.cellsOf 23 = 1 := by kernel_rfl
theorem c24 : Try.prog.cellsOf 26 = 1 := by kernel_rfl
theorem c25 : Try.prog.cellsOf 27 = 1 := by kernel_rfl
theorem c26 : Try.prog.cellsOf 28 = 1 := by kernel_rfl
theorem c28 : Try.prog.cellsOf 30 = 4 := by kernel_rfl
theorem wf16 {n : Int} (h : (Lit.int .u16 n).wf = true) : ∃ k : Nat, n = k ∧ k < 65536 := nat16 (by simpa [Lit.wf] using h)
theorem wf32 {n : Int} (h : (Lit.int .u32 n).wf = true) : ∃ k : Nat, n = k ∧ k < 4294967296 := nat32 (by simpa [Lit.wf] using h)
theorem vec_cells {w : World} {base : Nat} {spare : Nat → Bool} {held : Bool} {fuel : Nat} {cs : List Value} {x : DataW H × List MemPlace} (h : DataW.trod enc Try.prog w base spare held fuel 30 cs = some x) :
    ∃ r c g p : Nat, cs = [.int .u64 r, .int .u32 c, .int .u64 g, .int .u16 p] := by
  obtain ⟨xs, n, _, _, hl, hxl, hf⟩ := DataW.trod_struct und28 h
  have hff := fields28
  generalize Try.prog.fieldsOf 30 = fs at hf hff hxl
  obtain ⟨fl⟩ := fs
  obtain ⟨f1, f2, f3, f4, rfl⟩ : ∃ f1 f2 f3 f4, fl = [f1, f2, f3, f4] := by
    have hl := congrArg List.length hff
    simp at hl
    match fl, hl with
    | [f1, f2, f3, f4], _ => exact ⟨f1, f2, f3, f4, rfl⟩
  simp only [List.map_cons, List.map_nil, List.cons.injEq, Prod.mk.injEq, and_true] at hff
  obtain ⟨⟨_, t1, o1⟩, ⟨_, t2, o2⟩, ⟨_, t3, o3⟩, ⟨_, t4, o4⟩⟩ := hff
  rw [c28] at hl
  match cs, hl, xs, hxl with
  | [v0, v1, v2, v3], _, [y0, y1, y2, y3], _ =>
    have g0 := hf 0 f1 rfl
    have g1 := hf 1 f2 rfl
    have g2 := hf 2 f3 rfl
    have g3 := hf 3 f4 rfl
    rw [t1, o1, c23] at g0
    rw [t2, o2, c24] at g1
    rw [t3, o3, c23] at g2
    rw [t4, o4, c26] at g3
    obtain ⟨n0, e0, _, w0⟩ := DataW.trod_int und23 (x := y0) g0
    obtain ⟨n1, e1, _, w1⟩ := DataW.trod_int und24 (x := y1) g1
    obtain ⟨n2, e2, _, w2⟩ := DataW.trod_int und23 (x := y2) g2
    obtain ⟨n3, e3, _, w3⟩ := DataW.trod_int und26 (x := y3) g3
    simp at e0 e1 e2 e3
    subst e0 e1 e2 e3
    obtain ⟨r, rfl, _⟩ := word_wf w0
    obtain ⟨c, rfl, _⟩ := wf32 w1
    obtain ⟨g, rfl, _⟩ := word_wf w2
    obtain ⟨p, rfl, _⟩ := wf16 w3
    exact ⟨r, c, g, p, rfl⟩
theorem addN (b o k : Nat) : (⟨b, o, none⟩ : Addr).add k = ⟨b, o + k, none⟩ := by unfold Addr.add; split <;> simp_all
theorem spot_none {w : World} {a : Addr} {v : Value} (h : w.cell? (a.add 0) = some v) : a = ⟨a.block, a.off, none⟩ := by
  have := World.cell?_spot h
  obtain ⟨b, o, s⟩ := a
  have : s = none := by simpa [Addr.add] using this
  rw [this]
theorem open_vecs {W : World} {g : Nat} {v : Value} {d : DataW H} {ps : List MemPlace} (hval : Value.okWide Try.prog W .any g 71 v) (hd : DataW.Trod enc Try.prog W 0 (fun _ => true) true 71 v d ps) :
    ∃ (a : Option Addr) (n c : Nat), v = .slice a n c ∧ (0 < n → ∃ (b o : Nat) (R C G P : Nat → Nat), a = some ⟨b, o, none⟩ ∧ Vs W b o n R C G P) := by
  obtain ⟨a0, len, cap, rfl⟩ := okWide_slice und39 hval
  refine ⟨a0, len, cap, rfl, fun hn => ?_⟩
  obtain ⟨fuel, hf⟩ := hd
  rcases Go.Deep.open_slice und39 hf with ⟨hcs, _⟩ | ⟨a, len', cap', m, k, D, Pl, hcs, _, hl, _, hm, _, hx⟩
  · simp [Value.cells] at hcs; omega
  · simp [Value.cells] at hcs
    obtain ⟨rfl, rfl, rfl⟩ := hcs
    have hmc : m = cap := by simpa using hm
    subst hmc
    have each : ∀ i, i < len → ∃ q : Nat × Nat × Nat × Nat, W.cell? (a.add (i * 4 + 0)) = some (.int .u64 q.1) ∧ W.cell? (a.add (i * 4 + 1)) = some (.int .u32 q.2.1) ∧ W.cell? (a.add (i * 4 + 2)) = some (.int .u64 q.2.2.1) ∧ W.cell? (a.add (i * 4 + 3)) = some (.int .u16 q.2.2.2) := by
      intro i hi
      obtain ⟨cs', h1, h2⟩ := hx i (by omega)
      rw [c28] at h1
      obtain ⟨r, c, g, p, rfl⟩ := vec_cells h2
      obtain ⟨_, _, hcell⟩ := World.cells?_some h1
      have e0 := hcell 0 (by omega)
      have e1 := hcell 1 (by omega)
      have e2 := hcell 2 (by omega)
      have e3 := hcell 3 (by omega)
      rw [Go.Deep.add_add] at e0 e1 e2 e3
      exact ⟨(r, c, g, p), by simpa using e0, by simpa using e1, by simpa using e2, by simpa using e3⟩
    obtain ⟨q, hq⟩ := Go.Deep.choose_lt each
    have ha := spot_none (by simpa using (hq 0 hn).1)
    refine ⟨a.block, a.off, fun i => (q i).1, fun i => (q i).2.1, fun i => (q i).2.2.1, fun i => (q i).2.2.2, by rw [← ha], fun i hi => ?_⟩
    obtain ⟨h0, h1, h2, h3⟩ := hq i hi
    rw [ha, addN] at h0 h1 h2 h3
    exact ⟨h0, h1, h2, h3⟩
end Go.Proofs.Ytidgdanhnpfpmaa
