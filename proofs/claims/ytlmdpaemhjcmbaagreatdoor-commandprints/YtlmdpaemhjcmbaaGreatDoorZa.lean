/- What came in: a setting, and slices of ports and of commands. -/
import Derived.Test.YtlmdpaemhjcmbaaGreatDoorNd
import Derived.Test.YtlmdpaemhjcmbaaGreatDoorRows
import Derived.ProofKit
import Derived.ChangeArms
import Derived.Deep.Slices
import Derived.ChangeSlices
import Derived.MakeChecks
namespace Go.Proofs.YtlmdpaemhjcmbaaGreatDoor
open Go.RowKit Go.Lib
open Go.ChangeShapes Go.WideShapes Go.ChangeAt

theorem laidOut : laidOutB Tryz.prog = true := by kernel_rfl
theorem ownT : ownKnob Tryz.prog.godebug = none := by kernel_rfl
/-- The cells of a struct that came in, each with its type. -/
theorem open_struct {P : Program} {T : TypeId} {fs : Array Field} {ts : List TypeId} {W : World} {b : Nat} {v : Value} (hu : P.underlying T = some (.struct fs)) (hc : P.cellTypes P.depth T = some ts) (hn : P.cellsOf T = ts.length) (hval : Value.okWide P W .any b T v) :
    ∃ l : List Value, v = .agg ⟨l⟩ ∧ l.length = ts.length ∧ ∀ (i : Nat) (t : TypeId) (x : Value), ts[i]? = some t → l[i]? = some x → Cell.okWide P W .any b t x := by
  obtain ⟨cs, rfl, hsz, us, hus, _, hrow⟩ : ∃ cs, v = .agg cs ∧ cs.size = P.cellsOf T ∧ Go.Row.okWide P W .any b T cs := by
    simpa [Value.okWide, hu] using hval
  rw [hc] at hus
  cases hus
  obtain ⟨l⟩ := cs
  have hl : l.length = ts.length := by rw [← hn, ← hsz]; rfl
  refine ⟨l, rfl, hl, fun i t x ht hx => ?_⟩
  obtain ⟨u, hu', hok⟩ := hrow i x (by simpa using hx)
  have hi : i < ts.length := (List.getElem?_eq_some_iff.1 ht).1
  rw [Nat.mod_eq_of_lt hi, ht] at hu'
  cases hu'
  exact hok
theorem cell_int {P : Program} {t : TypeId} {k : IntKind} {W : World} {b : Nat} {v : Value} (hu : P.underlying t = some (.int k)) (h : Cell.okWide P W .any b t v) : ∃ n, v = .int k n ∧ k.min ≤ n ∧ n ≤ k.max := by
  unfold Cell.okWide at h
  rw [hu] at h
  simp only [Cell.ok, hu] at h
  cases v <;> simp [IntKind.has] at h
  obtain ⟨rfl, h⟩ := h
  exact ⟨_, rfl, h⟩
theorem cell_bool {P : Program} {t : TypeId} {W : World} {b : Nat} {v : Value} (hu : P.underlying t = some .bool) (h : Cell.okWide P W .any b t v) : ∃ q, v = .bool q := by
  unfold Cell.okWide at h
  rw [hu] at h
  simp only [Cell.ok, hu] at h
  cases v <;> simp at h
  exact ⟨_, rfl⟩
theorem byte_of {n : Int} (h : IntKind.u8.min ≤ n ∧ n ≤ IntKind.u8.max) : ∃ k : Nat, n = k ∧ k < 256 := by
  have e1 : IntKind.u8.min = 0 := by decide
  have e2 : IntKind.u8.max = 255 := by decide
  exact ⟨n.toNat, by omega, by omega⟩
theorem nat32 {n : Int} (h : IntKind.u32.min ≤ n ∧ n ≤ IntKind.u32.max) : ∃ k : Nat, n = k ∧ k < 4294967296 := by
  have e1 : IntKind.u32.min = 0 := by decide
  have e2 : IntKind.u32.max = 4294967295 := by decide
  exact ⟨n.toNat, by omega, by omega⟩
theorem wf32 {n : Int} (h : (Lit.int .u32 n).wf = true) : ∃ k : Nat, n = k ∧ k < 4294967296 := nat32 (by simpa [Lit.wf] using h)
theorem wf8 {n : Int} (h : (Lit.int .u8 n).wf = true) : ∃ k : Nat, n = k ∧ k < 256 := byte_of (by simpa [Lit.wf] using h)
theorem wf64 {n : Int} (h : (Lit.int .i64 n).wf = true) : -9223372036854775808 ≤ n ∧ n ≤ 9223372036854775807 := by
  have e1 : IntKind.i64.min = -9223372036854775808 := by decide
  have e2 : IntKind.i64.max = 9223372036854775807 := by decide
  have : IntKind.i64.min ≤ n ∧ n ≤ IntKind.i64.max := by simpa [Lit.wf] using h
  omega
theorem spot_none {w : World} {a : Addr} {v : Value} (h : w.cell? (a.add 0) = some v) : a = ⟨a.block, a.off, none⟩ := by
  have := World.cell?_spot h
  obtain ⟨b, o, s⟩ := a
  have : s = none := by simpa [Addr.add] using this
  rw [this]
/-- Six bytes as an address. -/
def six (a b c d e f : Nat) (i : Nat) : Nat := match i with | 0 => a | 1 => b | 2 => c | 3 => d | 4 => e | 5 => f | _ => 0
theorem six_lt {a b c d e f : Nat} (ha : a < 256) (hb : b < 256) (hc : c < 256) (hd : d < 256) (he : e < 256) (hf : f < 256) (i : Nat) : six a b c d e f i < 256 := by
  unfold six; split <;> omega
theorem tu3 : Tryz.prog.underlying 3 = some (.int .i64) := by kernel_rfl
theorem tu4 : Tryz.prog.underlying 4 = some .bool := by kernel_rfl
theorem tu5 : Tryz.prog.underlying 5 = some (.int .u8) := by kernel_rfl
theorem tu31 : Tryz.prog.underlying 31 = some (.int .i64) := by kernel_rfl
theorem tu55 : Tryz.prog.underlying 55 = some (.int .u32) := by kernel_rfl
theorem tu56 : Tryz.prog.underlying 56 = some (.int .i64) := by kernel_rfl
theorem tu58 : Tryz.prog.underlying 58 = some (.struct (Tryz.prog.fieldsOf 58)) := by kernel_rfl
theorem ce3 : Tryz.prog.cellsOf 3 = 1 := by kernel_rfl
theorem ce4 : Tryz.prog.cellsOf 4 = 1 := by kernel_rfl
theorem ce5 : Tryz.prog.cellsOf 5 = 1 := by kernel_rfl
theorem ce31 : Tryz.prog.cellsOf 31 = 1 := by kernel_rfl
theorem ce55 : Tryz.prog.cellsOf 55 = 1 := by kernel_rfl
theorem ce56 : Tryz.prog.cellsOf 56 = 1 := by kernel_rfl
theorem ce23 : Tryz.prog.cellsOf 23 = 6 := by kernel_rfl
theorem ce26 : Tryz.prog.cellsOf 26 = 1 := by kernel_rfl
theorem ce58 : Tryz.prog.cellsOf 58 = 5 := by kernel_rfl
theorem ce33 : Tryz.prog.cellsOf 33 = 10 := by kernel_rfl
section
variable {H : Type} {enc : TypeId × Value → H}
/-- What the fields of a struct that came in give. -/
theorem field_in {w : World} {base : Nat} {spare : Nat → Bool} {held : Bool} {fuel : Nat} {T : TypeId} {cs : List Value} {x : DataW H × List MemPlace} (hu : Tryz.prog.underlying T = some (.struct (Tryz.prog.fieldsOf T))) (h : DataW.trod enc Tryz.prog w base spare held fuel T cs = some x) :
    cs.length = Tryz.prog.cellsOf T ∧ ∃ n, ∀ (i : Nat) (t : TypeId) (o : Nat), ((Tryz.prog.fieldsOf T)[i]?).map (fun (f : Go.Field) => (f.type, f.offset)) = some (t, o) → ∃ y, DataW.trod enc Tryz.prog w base spare held n t ((cs.drop o).take (Tryz.prog.cellsOf t)) = some y := by
  obtain ⟨xs, n, _, _, hl, hxl, hf⟩ := DataW.trod_struct hu h
  refine ⟨hl, n, fun i t o hfi => ?_⟩
  cases hg : (Tryz.prog.fieldsOf T)[i]? with
  | none => rw [hg] at hfi; cases hfi
  | some f =>
    rw [hg] at hfi
    simp only [Option.map_some, Option.some.injEq, Prod.mk.injEq] at hfi
    obtain ⟨rfl, rfl⟩ := hfi
    have hi : i < (Tryz.prog.fieldsOf T).size := (Array.getElem?_eq_some_iff.1 hg).1
    have := hf i f hg
    rw [List.getElem?_eq_getElem (by rw [hxl]; exact hi)] at this
    exact ⟨_, this⟩
set_option maxRecDepth 100000 in
theorem pc_in {w : World} {base : Nat} {spare : Nat → Bool} {held : Bool} {fuel : Nat} {cs : List Value} {x : DataW H × List MemPlace} (h : DataW.trod enc Tryz.prog w base spare held fuel 58 cs = some x) : ∃ p : Pc, p.cells.toList = cs := by
  obtain ⟨hl, n, hf⟩ := field_in tu58 h
  rw [ce58] at hl
  match cs, hl with
  | [y0, y1, y2, y3, y4], _ =>
    obtain ⟨z0, h0⟩ := hf 0 3 0 (by kernel_rfl)
    obtain ⟨z1, h1⟩ := hf 1 55 1 (by kernel_rfl)
    obtain ⟨z2, h2⟩ := hf 2 4 2 (by kernel_rfl)
    obtain ⟨z3, h3⟩ := hf 3 4 3 (by kernel_rfl)
    obtain ⟨z4, h4⟩ := hf 4 56 4 (by kernel_rfl)
    rw [ce3] at h0
    rw [ce55] at h1
    rw [ce4] at h2 h3
    rw [ce56] at h4
    simp only [List.drop_succ_cons, List.drop_zero, List.take_succ_cons, List.take_zero] at h0 h1 h2 h3 h4
    obtain ⟨n0, e0, _, _⟩ := DataW.trod_int tu3 h0
    obtain ⟨n1, e1, _, w1⟩ := DataW.trod_int tu55 h1
    obtain ⟨n2, e2, _⟩ := DataW.trod_bool tu4 h2
    obtain ⟨n3, e3, _⟩ := DataW.trod_bool tu4 h3
    obtain ⟨n4, e4, _, _⟩ := DataW.trod_int tu56 h4
    obtain ⟨c, rfl, _⟩ := wf32 w1
    simp at e0 e1 e2 e3 e4
    exact ⟨⟨n0, c, n2, n3, n4⟩, by simp [e0, e1, e2, e3, e4]⟩
theorem byte_in {w : World} {base : Nat} {spare : Nat → Bool} {held : Bool} {fuel : Nat} {cs : List Value} {x : DataW H × List MemPlace} (h : DataW.trod enc Tryz.prog w base spare held fuel 23 cs = some x) (i : Nat) (hi : i < 6) : ∃ k : Nat, k < 256 ∧ (cs.drop i).take 1 = [.int .u8 k] := by
  cases fuel with
  | zero => simp [DataW.trod] at h
  | succ f =>
    simp only [DataW.trod, u23] at h
    split at h
    · obtain ⟨xs, hm, hx⟩ := Option.map_eq_some_iff.1 h
      obtain ⟨b, hb, hf⟩ := mapM_at hm i i (by simp [hi])
      rw [ce5, Nat.mul_one] at hf
      obtain ⟨n, e, _, hw⟩ := DataW.trod_int tu5 hf
      obtain ⟨k, rfl, hk⟩ := wf8 hw
      exact ⟨k, hk, e⟩
    · cases h
set_option maxRecDepth 100000 in
theorem cm_in {w : World} {base : Nat} {spare : Nat → Bool} {held : Bool} {fuel : Nat} {cs : List Value} {x : DataW H × List MemPlace} (h : DataW.trod enc Tryz.prog w base spare held fuel 33 cs = some x) : ∃ c : Cd.Cm, c.cells.toList = cs ∧ c.Fit := by
  obtain ⟨hl, n, hf⟩ := field_in Cd.u26 h
  rw [ce33] at hl
  match cs, hl with
  | [y0, y1, y2, y3, y4, y5, y6, y7, y8, y9], _ =>
    obtain ⟨z0, h0⟩ := hf 0 31 0 (by kernel_rfl)
    obtain ⟨z1, h1⟩ := hf 1 3 1 (by kernel_rfl)
    obtain ⟨z2, h2⟩ := hf 2 3 2 (by kernel_rfl)
    obtain ⟨z3, h3⟩ := hf 3 4 3 (by kernel_rfl)
    obtain ⟨z4, h4⟩ := hf 4 23 4 (by kernel_rfl)
    rw [ce31] at h0
    rw [ce3] at h1 h2
    rw [ce4] at h3
    rw [ce23] at h4
    simp only [List.drop_succ_cons, List.drop_zero, List.take_succ_cons, List.take_zero] at h0 h1 h2 h3 h4
    obtain ⟨n0, e0, _, w0⟩ := DataW.trod_int tu31 h0
    obtain ⟨n1, e1, _, w1⟩ := DataW.trod_int tu3 h1
    obtain ⟨n2, e2, _, w2⟩ := DataW.trod_int tu3 h2
    obtain ⟨n3, e3, _⟩ := DataW.trod_bool tu4 h3
    obtain ⟨b0, l0, f0⟩ := byte_in h4 0 (by omega)
    obtain ⟨b1, l1, f1⟩ := byte_in h4 1 (by omega)
    obtain ⟨b2, l2, f2⟩ := byte_in h4 2 (by omega)
    obtain ⟨b3, l3, f3⟩ := byte_in h4 3 (by omega)
    obtain ⟨b4, l4, f4⟩ := byte_in h4 4 (by omega)
    obtain ⟨b5, l5, f5⟩ := byte_in h4 5 (by omega)
    simp at e0 e1 e2 e3 f0 f1 f2 f3 f4 f5
    refine ⟨⟨n0, n1, n2, n3, six b0 b1 b2 b3 b4 b5⟩, by simp [Cd.Cm.cells, six, e0, e1, e2, e3, f0, f1, f2, f3, f4, f5], ⟨(wf64 w0).1, (wf64 w0).2, (wf64 w1).1, (wf64 w1).2, (wf64 w2).1, (wf64 w2).2, six_lt l0 l1 l2 l3 l4 l5, fun i hi => ?_⟩⟩
    match i, hi with
    | i + 6, _ => rfl
theorem und29 : Tryz.prog.underlying 29 = some (.slice 33) := by kernel_rfl
theorem pcs_in {W : World} {fuel : Nat} {s : Value} {x : DataW H × List MemPlace} (h : DataW.trod enc Tryz.prog W 0 (fun _ => true) true fuel 26 [s] = some x) :
    ∃ (n : Nat) (P : Nat → Pc), QIn W s n P := by
  rcases Go.Deep.open_slice und26 h with ⟨hcs, _⟩ | ⟨a, len, cap, m, k, D, Pl, hcs, _, hl, _, hm, _, hx⟩
  · simp at hcs
    subst hcs
    exact ⟨0, fun _ => ⟨0, 0, false, false, 0⟩, none, 0, rfl, fun _ => ⟨rfl, rfl⟩, fun h => absurd h (by omega)⟩
  · simp at hcs
    subst hcs
    have hmc : m = cap := by simpa using hm
    subst hmc
    have each : ∀ i, i < len → ∃ q : Pc, ∀ k, k < 5 → W.cell? ((a.add (i * 5)).add k) = q.cells[k]? := by
      intro i hi
      obtain ⟨cs', h1, h2⟩ := hx i (by omega)
      rw [ce58] at h1
      obtain ⟨p, rfl⟩ := pc_in h2
      obtain ⟨_, _, hcell⟩ := World.cells?_some h1
      refine ⟨p, fun k hk => ?_⟩
      rw [hcell k hk]
      simp
    haveI : Inhabited Pc := ⟨⟨0, 0, false, false, 0⟩⟩
    obtain ⟨q, hq⟩ := Go.Deep.choose_lt each
    refine ⟨len, q, some a, m, rfl, fun h => (by cases h), fun hn => ?_⟩
    have h0 := hq 0 hn 0 (by omega)
    have ha : a = ⟨a.block, a.off, none⟩ := by
      rw [Nat.zero_mul] at h0
      have h00 : (a.add 0).add 0 = a.add 0 := by rw [Go.Deep.add_add]
      rw [h00] at h0
      exact spot_none h0
    refine ⟨a.block, a.off, by rw [← ha], fun i hi k hk => ?_⟩
    have := hq i hi k hk
    rw [ha, addN, addN] at this
    exact this
theorem cms_in {W : World} {fuel : Nat} {s : Value} {x : DataW H × List MemPlace} (h : DataW.trod enc Tryz.prog W 0 (fun _ => true) true fuel 29 [s] = some x) :
    ∃ (n : Nat) (L : Nat → Cd.Cm), LIn W s n L ∧ ∀ i, i < n → (L i).Fit := by
  rcases Go.Deep.open_slice und29 h with ⟨hcs, _⟩ | ⟨a, len, cap, m, k, D, Pl, hcs, _, hl, _, hm, _, hx⟩
  · simp at hcs
    subst hcs
    exact ⟨0, fun _ => Cd.zc 0, ⟨none, 0, rfl, fun h => absurd h (by omega)⟩, fun i hi => absurd hi (by omega)⟩
  · simp at hcs
    subst hcs
    have hmc : m = cap := by simpa using hm
    subst hmc
    have each : ∀ i, i < len → ∃ q : Cd.Cm, (∀ k, k < 10 → W.cell? ((a.add (i * 10)).add k) = q.cells[k]?) ∧ q.Fit := by
      intro i hi
      obtain ⟨cs', h1, h2⟩ := hx i (by omega)
      rw [ce33] at h1
      obtain ⟨p, rfl, hp⟩ := cm_in h2
      obtain ⟨_, _, hcell⟩ := World.cells?_some h1
      refine ⟨p, fun k hk => ?_, hp⟩
      rw [hcell k hk]
      simp
    haveI : Inhabited Cd.Cm := ⟨Cd.zc 0⟩
    obtain ⟨q, hq⟩ := Go.Deep.choose_lt each
    refine ⟨len, q, ⟨some a, m, rfl, fun hn => ?_⟩, fun i hi => (hq i hi).2⟩
    have h0 := (hq 0 hn).1 0 (by omega)
    have ha : a = ⟨a.block, a.off, none⟩ := by
      rw [Nat.zero_mul] at h0
      have h00 : (a.add 0).add 0 = a.add 0 := by rw [Go.Deep.add_add]
      rw [h00] at h0
      exact spot_none h0
    refine ⟨a.block, a.off, by rw [← ha], fun i hi k hk => ?_⟩
    have := (hq i hi).1 k hk
    rw [ha, addN, addN] at this
    exact this
theorem field6 : ((Tryz.prog.fieldsOf 28)[6]?).map (fun f => (f.type, f.offset)) = some (26, 14) := by kernel_rfl
set_option maxRecDepth 100000 in
theorem open_config {W : World} {g : Nat} {v : Value} {d : DataW H} {ps : List MemPlace} (hval : Value.okWide Tryz.prog W .any g 28 v) (hd : DataW.Trod enc Tryz.prog W 0 (fun _ => true) true 28 v d ps) :
    ∃ (c : Cf) (s : Value) (n : Nat) (P : Nat → Pc), v = .agg (c.cells s) ∧ (∀ i, c.x i < 256) ∧ QIn W s n P := by
  obtain ⟨l, rfl, hl, hx⟩ := open_struct (ts := [5, 5, 5, 5, 5, 5, 3, 3, 3, 3, 3, 3, 4, 3, 26]) uC (by kernel_rfl) (by kernel_rfl) hval
  obtain ⟨fuel, hf⟩ := hd
  match l, hl with
  | [x0, x1, x2, x3, x4, x5, x6, x7, x8, x9, x10, x11, x12, x13, x14], _ =>
    obtain ⟨_, n, hff⟩ := field_in uC hf
    obtain ⟨y8, g8⟩ := hff 6 26 14 field6
    rw [ce26] at g8
    simp only [Value.cells, List.drop_succ_cons, List.drop_zero, List.take_succ_cons, List.take_zero] at g8
    obtain ⟨m, P, hp⟩ := pcs_in g8
    obtain ⟨n0, rfl, h0⟩ := cell_int tu5 (hx 0 5 x0 rfl rfl)
    obtain ⟨n0, rfl, l0⟩ := byte_of h0
    obtain ⟨n1, rfl, h1⟩ := cell_int tu5 (hx 1 5 x1 rfl rfl)
    obtain ⟨n1, rfl, l1⟩ := byte_of h1
    obtain ⟨n2, rfl, h2⟩ := cell_int tu5 (hx 2 5 x2 rfl rfl)
    obtain ⟨n2, rfl, l2⟩ := byte_of h2
    obtain ⟨n3, rfl, h3⟩ := cell_int tu5 (hx 3 5 x3 rfl rfl)
    obtain ⟨n3, rfl, l3⟩ := byte_of h3
    obtain ⟨n4, rfl, h4⟩ := cell_int tu5 (hx 4 5 x4 rfl rfl)
    obtain ⟨n4, rfl, l4⟩ := byte_of h4
    obtain ⟨n5, rfl, h5⟩ := cell_int tu5 (hx 5 5 x5 rfl rfl)
    obtain ⟨n5, rfl, l5⟩ := byte_of h5
    obtain ⟨n6, rfl, _⟩ := cell_int tu3 (hx 6 3 x6 rfl rfl)
    obtain ⟨n7, rfl, _⟩ := cell_int tu3 (hx 7 3 x7 rfl rfl)
    obtain ⟨n8, rfl, _⟩ := cell_int tu3 (hx 8 3 x8 rfl rfl)
    obtain ⟨n9, rfl, _⟩ := cell_int tu3 (hx 9 3 x9 rfl rfl)
    obtain ⟨n10, rfl, _⟩ := cell_int tu3 (hx 10 3 x10 rfl rfl)
    obtain ⟨n11, rfl, _⟩ := cell_int tu3 (hx 11 3 x11 rfl rfl)
    obtain ⟨b12, rfl⟩ := cell_bool tu4 (hx 12 4 x12 rfl rfl)
    obtain ⟨n13, rfl, _⟩ := cell_int tu3 (hx 13 3 x13 rfl rfl)
    exact ⟨⟨six n0 n1 n2 n3 n4 n5, n6, n7, n8, n9, n10, n11, b12, n13⟩, x14, m, P, rfl, six_lt l0 l1 l2 l3 l4 l5, hp⟩
end
end Go.Proofs.YtlmdpaemhjcmbaaGreatDoor
