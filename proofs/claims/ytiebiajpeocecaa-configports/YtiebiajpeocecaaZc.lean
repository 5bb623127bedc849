/- What a setting that came in gives. -/
import Derived.Test.YtiebiajpeocecaaZb
namespace Go.Proofs.Ytiebiajpeocecaa
open Go.RowKit Go.Lib
open Go.ChangeShapes Go.WideShapes Go.ChangeAt

variable {H : Type} {enc : TypeId × Value → H}
/-- The kinds of a port's setting. -/
def kinds5 : List (Option IntKind) := [some .i64, some .u32, none, none, some .i64]
theorem chk34 : chk kinds5 3 34 0 = true := by kernel_rfl
theorem cov34 : cov 3 34 = true := by kernel_rfl
theorem c34 : Try.prog.cellsOf 34 = 5 := by kernel_rfl
theorem pc_in {w : World} {base : Nat} {spare : Nat → Bool} {held : Bool} {fuel : Nat} {cs : List Value} {x : DataW H × List MemPlace} (h : DataW.trod enc Try.prog w base spare held fuel 34 cs = some x) : ∃ p : Pc, p.cells.toList = cs := by
  obtain ⟨hl, hk⟩ := trod_kinds kinds5 3 34 0 fuel cs x chk34 cov34 h
  rw [c34] at hl hk
  have get : ∀ j q, kinds5[j]? = some q → j < 5 → ∃ v, cs[j]? = some v ∧ kindWf q v := fun j q hq hj => by
    obtain ⟨q', v, hq', hv, hw⟩ := hk j hj
    rw [Nat.zero_add, hq] at hq'
    cases hq'
    exact ⟨v, hv, hw⟩
  obtain ⟨_, e0, n0, rfl, _⟩ := get 0 (some .i64) rfl (by omega)
  obtain ⟨_, e1, n1, rfl, w1⟩ := get 1 (some .u32) rfl (by omega)
  obtain ⟨_, e2, n2, rfl⟩ := get 2 none rfl (by omega)
  obtain ⟨_, e3, n3, rfl⟩ := get 3 none rfl (by omega)
  obtain ⟨_, e4, n4, rfl, _⟩ := get 4 (some .i64) rfl (by omega)
  obtain ⟨c, rfl, _⟩ := wf32 w1
  match cs, hl with
  | [y0, y1, y2, y3, y4], _ =>
    simp at e0 e1 e2 e3 e4
    exact ⟨⟨n0, c, n2, n3, n4⟩, by simp [e0, e1, e2, e3, e4]⟩
theorem pcs_in {W : World} {fuel : Nat} {s : Value} {x : DataW H × List MemPlace} (h : DataW.trod enc Try.prog W 0 (fun _ => true) true fuel 26 [s] = some x) :
    ∃ (n : Nat) (P : Nat → Pc), QIn W s n P := by
  rcases Go.Deep.open_slice und26 h with ⟨hcs, _⟩ | ⟨a, len, cap, m, k, D, Pl, hcs, _, hl, _, hm, _, hx⟩
  · simp at hcs
    subst hcs
    exact ⟨0, fun _ => ⟨0, 0, false, false, 0⟩, none, 0, rfl, fun _ => ⟨rfl, rfl⟩, fun h => absurd h (by omega)⟩
  · simp at hcs
    subst hcs
    have hmc : m = cap := by simpa using hm
    subst hmc
    have each : ∀ i, i < len → ∃ q : Pc, ∀ k, k < 5 → W.cell? ((a.add (i * 5)).add k) = q.cells[k]? := by
      intro i hi
      obtain ⟨cs', h1, h2⟩ := hx i (by omega)
      rw [c34] at h1
      obtain ⟨p, rfl⟩ := pc_in h2
      obtain ⟨_, _, hcell⟩ := World.cells?_some h1
      refine ⟨p, fun k hk => ?_⟩
      rw [hcell k hk]
      simp
    haveI : Inhabited Pc := ⟨⟨0, 0, false, false, 0⟩⟩
    obtain ⟨q, hq⟩ := Go.Deep.choose_lt each
    refine ⟨len, q, some a, m, rfl, fun h => (by cases h), fun hn => ?_⟩
    have h0 := hq 0 hn 0 (by omega)
    have ha : a = ⟨a.block, a.off, none⟩ := by
      rw [Nat.zero_mul] at h0
      have h00 : (a.add 0).add 0 = a.add 0 := by rw [Go.Deep.add_add]
      rw [h00] at h0
      exact spot_none h0
    refine ⟨a.block, a.off, by rw [← ha], fun i hi k hk => ?_⟩
    have := hq i hi k hk
    rw [ha, addN, addN] at this
    exact this
theorem u5' : Try.prog.underlying 5 = some (.int .u8) := by kernel_rfl
theorem nat8 {n : Int} (h : IntKind.u8.min ≤ n ∧ n ≤ IntKind.u8.max) : ∃ k : Nat, n = k ∧ k < 256 := by
  simp [IntKind.min, IntKind.max, IntKind.signed, IntKind.bits] at h
  exact ⟨n.toNat, by omega, by omega⟩
/-- Six bytes as an address. -/
def six (a b c d e f : Nat) (i : Nat) : Nat := match i with | 0 => a | 1 => b | 2 => c | 3 => d | 4 => e | 5 => f | _ => 0
theorem six_lt {a b c d e f : Nat} (ha : a < 256) (hb : b < 256) (hc : c < 256) (hd : d < 256) (he : e < 256) (hf : f < 256) (i : Nat) : six a b c d e f i < 256 := by
  unfold six; split <;> omega
theorem field6 : ((Try.prog.fieldsOf 28)[6]?).map (fun f => (f.type, f.offset)) = some (26, 14) := by kernel_rfl
theorem size28 : (Try.prog.fieldsOf 28).size = 7 := by kernel_rfl
theorem c26' : Try.prog.cellsOf 26 = 1 := by kernel_rfl
theorem open_config {W : World} {g : Nat} {v : Value} {d : DataW H} {ps : List MemPlace} (hval : Value.okWide Try.prog W .any g 28 v) (hd : DataW.Trod enc Try.prog W 0 (fun _ => true) true 28 v d ps) :
    ∃ (c : Cf) (s : Value) (n : Nat) (P : Nat → Pc), v = .agg (c.cells s) ∧ (∀ i, c.x i < 256) ∧ QIn W s n P := by
  obtain ⟨l, rfl, hl, hx⟩ := open_struct (ts := [5, 5, 5, 5, 5, 5, 3, 3, 3, 3, 3, 3, 4, 3, 26]) uC (by kernel_rfl) (by kernel_rfl) hval
  obtain ⟨fuel, hf⟩ := hd
  match l, hl with
  | [x0, x1, x2, x3, x4, x5, x6, x7, x8, x9, x10, x11, x12, x13, x14], _ =>
    obtain ⟨xs, n, _, _, _, hxl, hff⟩ := DataW.trod_struct uC hf
    obtain ⟨f8, hf8, h8⟩ : ∃ f, (Try.prog.fieldsOf 28)[6]? = some f ∧ (f.type, f.offset) = (26, 14) := by
      have := field6
      cases h : (Try.prog.fieldsOf 28)[6]? with
      | none => rw [h] at this; cases this
      | some f => rw [h] at this; exact ⟨f, rfl, by simpa using this⟩
    simp only [Prod.mk.injEq] at h8
    have g8 := hff 6 f8 hf8
    rw [h8.1, h8.2, c26', List.getElem?_eq_getElem (by rw [hxl, size28]; omega)] at g8
    simp only [Value.cells, List.drop_succ_cons, List.drop_zero, List.take_succ_cons, List.take_zero] at g8
    obtain ⟨m, P, hp⟩ := pcs_in g8
    obtain ⟨n0, rfl, h0⟩ := cell_int u5' (hx 0 5 x0 rfl rfl)
    obtain ⟨n0, rfl, l0⟩ := nat8 h0
    obtain ⟨n1, rfl, h1⟩ := cell_int u5' (hx 1 5 x1 rfl rfl)
    obtain ⟨n1, rfl, l1⟩ := nat8 h1
    obtain ⟨n2, rfl, h2⟩ := cell_int u5' (hx 2 5 x2 rfl rfl)
    obtain ⟨n2, rfl, l2⟩ := nat8 h2
    obtain ⟨n3, rfl, h3⟩ := cell_int u5' (hx 3 5 x3 rfl rfl)
    obtain ⟨n3, rfl, l3⟩ := nat8 h3
    obtain ⟨n4, rfl, h4⟩ := cell_int u5' (hx 4 5 x4 rfl rfl)
    obtain ⟨n4, rfl, l4⟩ := nat8 h4
    obtain ⟨n5, rfl, h5⟩ := cell_int u5' (hx 5 5 x5 rfl rfl)
    obtain ⟨n5, rfl, l5⟩ := nat8 h5
    obtain ⟨n6, rfl, _⟩ := cell_int tu3 (hx 6 3 x6 rfl rfl)
    obtain ⟨n7, rfl, _⟩ := cell_int tu3 (hx 7 3 x7 rfl rfl)
    obtain ⟨n8, rfl, _⟩ := cell_int tu3 (hx 8 3 x8 rfl rfl)
    obtain ⟨n9, rfl, _⟩ := cell_int tu3 (hx 9 3 x9 rfl rfl)
    obtain ⟨n10, rfl, _⟩ := cell_int tu3 (hx 10 3 x10 rfl rfl)
    obtain ⟨n11, rfl, _⟩ := cell_int tu3 (hx 11 3 x11 rfl rfl)
    obtain ⟨b12, rfl⟩ := cell_bool tu4 (hx 12 4 x12 rfl rfl)
    obtain ⟨n13, rfl, _⟩ := cell_int tu3 (hx 13 3 x13 rfl rfl)
    exact ⟨⟨six n0 n1 n2 n3 n4 n5, n6, n7, n8, n9, n10, n11, b12, n13⟩, x14, m, P, rfl, six_lt l0 l1 l2 l3 l4 l5, hp⟩
end Go.Proofs.Ytiebiajpeocecaa
