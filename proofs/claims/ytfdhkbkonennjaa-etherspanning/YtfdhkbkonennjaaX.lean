/- What a frame that came in gives. -/
import Derived.Test.YtfdhkbkonennjaaH
import Derived.Test.YtfdhkbkonennjaaRows
import Derived.ProofKit
import Derived.ChangeArms
namespace Go.Proofs.Ytfdhkbkonennjaa
open Go.RowKit Go.Lib
open Go.ChangeShapes Go.WideShapes Go.ChangeAt

theorem laidOut : laidOutB Try.prog = true := by kernel_rfl
theorem ownT : ownKnob Try.prog.godebug = none := by kernel_rfl
theorem byte_wf {n : Int} (h : (Lit.int .u8 n).wf = true) : 0 ≤ n ∧ n < 256 := by
  have e1 : IntKind.u8.min = 0 := by decide
  have e2 : IntKind.u8.max = 255 := by decide
  simp [Lit.wf, e1, e2] at h
  omega
theorem half_wf {n : Int} (h : (Lit.int .u16 n).wf = true) : 0 ≤ n ∧ n < 65536 := by
  have e1 : IntKind.u16.min = 0 := by decide
  have e2 : IntKind.u16.max = 65535 := by decide
  simp [Lit.wf, e1, e2] at h
  omega
variable {H : Type} {enc : TypeId × Value → H} {w : World} {base : Nat} {spare : Nat → Bool} {held : Bool}
theorem trod_mac {fuel : Nat} {k0 k1 k2 k3 k4 k5 : Value} {x : DataW H × List MemPlace} (h : DataW.trod enc Try.prog w base spare held fuel 23 [k0, k1, k2, k3, k4, k5] = some x) :
    ∃ n0 n1 n2 n3 n4 n5 : Int, k0 = .int .u8 n0 ∧ k1 = .int .u8 n1 ∧ k2 = .int .u8 n2 ∧ k3 = .int .u8 n3 ∧ k4 = .int .u8 n4 ∧ k5 = .int .u8 n5 ∧
      x = (.agg [.lit (.int .u8 n0), .lit (.int .u8 n1), .lit (.int .u8 n2), .lit (.int .u8 n3), .lit (.int .u8 n4), .lit (.int .u8 n5)], []) ∧
      (Lit.int .u8 n0).wf = true ∧ (Lit.int .u8 n1).wf = true ∧ (Lit.int .u8 n2).wf = true ∧ (Lit.int .u8 n3).wf = true ∧ (Lit.int .u8 n4).wf = true ∧ (Lit.int .u8 n5).wf = true := by
  cases fuel with
  | zero => simp [DataW.trod] at h
  | succ n =>
    unfold DataW.trod at h
    rw [undM] at h
    have r6 : List.range 6 = [0, 1, 2, 3, 4, 5] := rfl
    simp [r6, cells5] at h
    obtain ⟨_, h⟩ := h
    cases h0 : DataW.trod enc Try.prog w base spare held n 5 [k0] with
    | none => simp [h0] at h
    | some y0 =>
    cases h1 : DataW.trod enc Try.prog w base spare held n 5 [k1] with
    | none => simp [h0, h1] at h
    | some y1 =>
    cases h2 : DataW.trod enc Try.prog w base spare held n 5 [k2] with
    | none => simp [h0, h1, h2] at h
    | some y2 =>
    cases h3 : DataW.trod enc Try.prog w base spare held n 5 [k3] with
    | none => simp [h0, h1, h2, h3] at h
    | some y3 =>
    cases h4 : DataW.trod enc Try.prog w base spare held n 5 [k4] with
    | none => simp [h0, h1, h2, h3, h4] at h
    | some y4 =>
    cases h5 : DataW.trod enc Try.prog w base spare held n 5 [k5] with
    | none => simp [h0, h1, h2, h3, h4, h5] at h
    | some y5 =>
      simp [h0, h1, h2, h3, h4, h5] at h
      obtain ⟨n0, e0, rfl, w0⟩ := DataW.trod_int und5 h0
      obtain ⟨n1, e1, rfl, w1⟩ := DataW.trod_int und5 h1
      obtain ⟨n2, e2, rfl, w2⟩ := DataW.trod_int und5 h2
      obtain ⟨n3, e3, rfl, w3⟩ := DataW.trod_int und5 h3
      obtain ⟨n4, e4, rfl, w4⟩ := DataW.trod_int und5 h4
      obtain ⟨n5, e5, rfl, w5⟩ := DataW.trod_int und5 h5
      simp at e0 e1 e2 e3 e4 e5
      subst e0 e1 e2 e3 e4 e5
      exact ⟨n0, n1, n2, n3, n4, n5, rfl, rfl, rfl, rfl, rfl, rfl, h.symm, w0, w1, w2, w3, w4, w5⟩
/-- Six bytes, as a function. -/
def six (n0 n1 n2 n3 n4 n5 : Int) : Nat → Nat | 0 => n0.toNat | 1 => n1.toNat | 2 => n2.toNat | 3 => n3.toNat | 4 => n4.toNat | 5 => n5.toNat | _ => 0
theorem six_lt {n0 n1 n2 n3 n4 n5 : Int} (b0 : 0 ≤ n0 ∧ n0 < 256) (b1 : 0 ≤ n1 ∧ n1 < 256) (b2 : 0 ≤ n2 ∧ n2 < 256) (b3 : 0 ≤ n3 ∧ n3 < 256) (b4 : 0 ≤ n4 ∧ n4 < 256) (b5 : 0 ≤ n5 ∧ n5 < 256) : ∀ i, six n0 n1 n2 n3 n4 n5 i < 256 := by
  intro i
  match i with
  | 0 => show n0.toNat < 256; omega
  | 1 => show n1.toNat < 256; omega
  | 2 => show n2.toNat < 256; omega
  | 3 => show n3.toNat < 256; omega
  | 4 => show n4.toNat < 256; omega
  | 5 => show n5.toNat < 256; omega
  | i + 6 => show 0 < 256; omega
theorem six_int {n : Int} (h : 0 ≤ n ∧ n < 256) : ((n.toNat : Nat) : Int) = n := by omega
theorem trod_bytes {W : World} {fuel : Nat} {k : Value} {y : DataW H × List MemPlace} (hf : DataW.trod enc Try.prog W 0 (fun _ => true) true fuel 25 [k] = some y) (hlt : ∀ x ∈ y.2, x.block < W.heap.size) : ∃ l : List UInt8, Bts W W.heap.size k l := by
  rcases open_ints Try.underlying25 Try.underlying5 cells5 hf with ⟨hcs, hx⟩ | ⟨a, len, cap, zs, hcs, _, hl, hm, hz, hx, hcell, hwz⟩
  · simp at hcs
    subst hcs
    exact ⟨[], .inl ⟨rfl, rfl⟩⟩
  · simp at hcs
    subst hcs
    simp only [if_true] at hz
    subst hx
    have hlen : ((zs.take len).map fun n => UInt8.ofNat n.toNat).length = len := by simp; omega
    refine ⟨(zs.take len).map fun n => UInt8.ofNat n.toNat, .inr ⟨a, cap, by rw [hlen], by rw [hlen]; exact hl, hm, fun h => ?_, fun j hj => ?_⟩⟩
    · rw [hlen] at h
      obtain ⟨ab, ao, spot⟩ := a
      exact hlt (.cell ab ao) (MemPlace.mem_row.2 ⟨0, by omega, by simp⟩)
    · rw [hlen] at hj
      rw [hcell j (by omega)]
      have e : zs.getD j 0 = zs[j]'(by omega) := by simp [List.getD, List.getElem?_eq_getElem (show j < zs.length by omega)]
      have hb := byte_wf (hwz _ (List.getElem_mem (show j < zs.length by omega)))
      rw [e]
      simp only [List.getElem_map, List.getElem_take]
      have e2 : (UInt8.ofNat (zs[j]'(by omega)).toNat).toNat = (zs[j]'(by omega)).toNat := by rw [UInt8.toNat_ofNat']; exact Nat.mod_eq_of_lt (by omega)
      unfold bV
      rw [e2, Int.toNat_of_nonneg hb.1]
theorem und27 : Try.prog.underlying 27 = some (.struct (Try.prog.fieldsOf 27)) := by kernel_rfl
theorem cells27 : Try.prog.cellsOf 27 = 14 ∧ Try.prog.cellsOf 23 = 6 ∧ Try.prog.cellsOf 24 = 1 ∧ Try.prog.cellsOf 25 = 1 := by
  refine ⟨?_, ?_, ?_, ?_⟩ <;> kernel_rfl
theorem fields27 : (Try.prog.fieldsOf 27).toList.map (fun f => (f.type, f.offset)) = [(23, 0), (23, 6), (24, 12), (25, 13)] := by kernel_rfl
theorem list14 {α : Type} (l : List α) (h : (⟨l⟩ : Array α).size = 14) : ∃ a b c d e f g h i j k m n o, l = [a, b, c, d, e, f, g, h, i, j, k, m, n, o] := by
  match l, h with
  | [a, b, c, d, e, f, g, h, i, j, k, m, n, o], _ => exact ⟨a, b, c, d, e, f, g, h, i, j, k, m, n, o, rfl⟩
theorem open_frame {W : World} {b : Nat} {v : Value} {d : DataW H} {ps : List MemPlace} (hval : Value.okWide Try.prog W .any b 27 v) (hd : DataW.Trod enc Try.prog W 0 (fun _ => true) true 27 v d ps) (hlt : ∀ x ∈ ps, x.block < W.heap.size) :
    ∃ (x y : Nat → Nat) (t : Nat) (u : Value) (l : List UInt8), (∀ i, x i < 256) ∧ (∀ i, y i < 256) ∧ t < 65536 ∧ v = frV x y t u ∧ Bts W W.heap.size u l := by
  obtain ⟨cs, rfl, hsz, _⟩ : ∃ cs, v = .agg cs ∧ cs.size = Try.prog.cellsOf 27 ∧ Row.okWide Try.prog W .any b 27 cs := by
    simpa [Value.okWide, und27] using hval
  rw [cells27.1] at hsz
  obtain ⟨l⟩ := cs
  obtain ⟨k0, k1, k2, k3, k4, k5, k6, k7, k8, k9, k10, k11, k12, k13, rfl⟩ := list14 l hsz
  obtain ⟨fuel, hf⟩ := hd
  obtain ⟨xs, n, _, hx, _, hlen, hfs⟩ := DataW.trod_struct und27 hf
  have hfl := fields27
  have hff : ∃ f0 f1 f2 f3, (Try.prog.fieldsOf 27).toList = [f0, f1, f2, f3] := by
    have hl := congrArg List.length hfl
    simp only [List.length_map] at hl
    generalize (Try.prog.fieldsOf 27).toList = fs at hl
    match fs, hl with
    | [f0, f1, f2, f3], _ => exact ⟨f0, f1, f2, f3, rfl⟩
  obtain ⟨f0, f1, f2, f3, hff⟩ := hff
  rw [hff] at hfl
  simp only [List.map_cons, List.map_nil, List.cons.injEq, Prod.mk.injEq, and_true] at hfl
  obtain ⟨⟨t0, o0⟩, ⟨t1, o1⟩, ⟨t2, o2⟩, ⟨t3, o3⟩⟩ := hfl
  have hlen4 : xs.length = 4 := by rw [hlen, ← Array.length_toList, hff]; rfl
  have g := fun i f (h : [f0, f1, f2, f3][i]? = some f) => hfs i f (by rw [← Array.getElem?_toList, hff]; exact h)
  have e0 := g 0 f0 rfl
  have e1 := g 1 f1 rfl
  have e2 := g 2 f2 rfl
  have e3 := g 3 f3 rfl
  obtain ⟨c27, c23, c24, c25⟩ := cells27
  rw [t0, o0, c23] at e0
  rw [t1, o1, c23] at e1
  rw [t2, o2, c24] at e2
  rw [t3, o3, c25] at e3
  obtain ⟨y0, y1, y2, y3, rfl⟩ : ∃ y0 y1 y2 y3, xs = [y0, y1, y2, y3] := by
    match xs, hlen4 with
    | [y0, y1, y2, y3], _ => exact ⟨y0, y1, y2, y3, rfl⟩
  simp only [Value.cells, List.drop_zero, List.drop_succ_cons, List.take_succ_cons, List.take_zero, List.getElem?_cons_zero, List.getElem?_cons_succ] at e0 e1 e2 e3
  obtain ⟨n0, n1, n2, n3, n4, n5, rfl, rfl, rfl, rfl, rfl, rfl, _, w0, w1, w2, w3, w4, w5⟩ := trod_mac e0
  obtain ⟨m0, m1, m2, m3, m4, m5, rfl, rfl, rfl, rfl, rfl, rfl, _, v0, v1, v2, v3, v4, v5⟩ := trod_mac e1
  obtain ⟨q, hq, _, wq⟩ := DataW.trod_int (show Try.prog.underlying 24 = some (.int .u16) by kernel_rfl) e2
  simp at hq
  subst hq
  obtain ⟨l, hl⟩ := trod_bytes e3 (fun x hx' => hlt x (by simp only [Prod.mk.injEq] at hx; rw [hx.2]; simp [hx']))
  have a0 := byte_wf w0; have a1 := byte_wf w1; have a2 := byte_wf w2; have a3 := byte_wf w3; have a4 := byte_wf w4; have a5 := byte_wf w5
  have b0 := byte_wf v0; have b1 := byte_wf v1; have b2 := byte_wf v2; have b3 := byte_wf v3; have b4 := byte_wf v4; have b5 := byte_wf v5
  have hq := half_wf wq
  refine ⟨six n0 n1 n2 n3 n4 n5, six m0 m1 m2 m3 m4 m5, q.toNat, k13, l, six_lt a0 a1 a2 a3 a4 a5, six_lt b0 b1 b2 b3 b4 b5, by omega, ?_, hl⟩
  simp only [frV, frC, six, six_int a0, six_int a1, six_int a2, six_int a3, six_int a4, six_int a5, six_int b0, six_int b1, six_int b2, six_int b3, six_int b4, six_int b5, Int.toNat_of_nonneg hq.1]
end Go.Proofs.Ytfdhkbkonennjaa
