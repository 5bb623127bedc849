/- What times and messages that came in give. -/
import Derived.Test.YtogmacdcaoigfaaB
import Derived.Test.YtogmacdcaoigfaaRows
import Derived.ProofKit
import Derived.ChangeArms
namespace Go.Proofs.Ytogmacdcaoigfaa
open Go.RowKit Go.Lib
open Go.ChangeShapes Go.WideShapes Go.ChangeAt

theorem laidOut : laidOutB Try.prog = true := by kernel_rfl
theorem ownT : ownKnob Try.prog.godebug = none := by kernel_rfl
/-- The cells of a struct that came in, each with its type. -/
theorem open_struct {P : Program} {T : TypeId} {fs : Array Field} {ts : List TypeId} {W : World} {b : Nat} {v : Value} (hu : P.underlying T = some (.struct fs)) (hc : P.cellTypes P.depth T = some ts) (hn : P.cellsOf T = ts.length) (hval : Value.okWide P W .any b T v) :
    ∃ l : List Value, v = .agg ⟨l⟩ ∧ l.length = ts.length ∧ ∀ (i : Nat) (t : TypeId) (x : Value), ts[i]? = some t → l[i]? = some x → Cell.okWide P W .any b t x := by
  obtain ⟨cs, rfl, hsz, us, hus, _, hrow⟩ : ∃ cs, v = .agg cs ∧ cs.size = P.cellsOf T ∧ Row.okWide P W .any b T cs := by
    simpa [Value.okWide, hu] using hval
  rw [hc] at hus
  cases hus
  obtain ⟨l⟩ := cs
  have hl : l.length = ts.length := by rw [← hn, ← hsz]; rfl
  refine ⟨l, rfl, hl, fun i t x ht hx => ?_⟩
  obtain ⟨u, hu', hok⟩ := hrow i x (by simpa using hx)
  have hi : i < ts.length := (List.getElem?_eq_some_iff.1 ht).1
  rw [Nat.mod_eq_of_lt hi, ht] at hu'
  cases hu'
  exact hok
theorem cell_int {P : Program} {t : TypeId} {k : IntKind} {W : World} {b : Nat} {v : Value} (hu : P.underlying t = some (.int k)) (h : Cell.okWide P W .any b t v) : ∃ n, v = .int k n ∧ k.min ≤ n ∧ n ≤ k.max := by
  unfold Cell.okWide at h
  rw [hu] at h
  simp only [Cell.ok, hu] at h
  cases v <;> simp [IntKind.has] at h
  obtain ⟨rfl, h⟩ := h
  exact ⟨_, rfl, h⟩
theorem open_times {W : World} {g : Nat} {v : Value} (hval : Value.okWide Try.prog W .any g 23 v) : ∃ a m h d : Int, v = tmV a m h d := by
  obtain ⟨l, rfl, hl, hx⟩ := open_struct (ts := [3, 3, 3, 3]) (show Try.prog.underlying 23 = some (.struct (Try.prog.fieldsOf 23)) by kernel_rfl) (by kernel_rfl) (by kernel_rfl) hval
  match l, hl with
  | [x0, x1, x2, x3], _ =>
    have h3 : Try.prog.underlying 3 = some (.int .i64) := by kernel_rfl
    obtain ⟨a, rfl, _⟩ := cell_int h3 (hx 0 3 x0 rfl rfl)
    obtain ⟨m, rfl, _⟩ := cell_int h3 (hx 1 3 x1 rfl rfl)
    obtain ⟨h, rfl, _⟩ := cell_int h3 (hx 2 3 x2 rfl rfl)
    obtain ⟨d, rfl, _⟩ := cell_int h3 (hx 3 3 x3 rfl rfl)
    exact ⟨a, m, h, d, rfl⟩
theorem half_nat {n : Int} (h : IntKind.u16.min ≤ n ∧ n ≤ IntKind.u16.max) : ∃ k : Nat, n = k ∧ k < 65536 := by
  have e1 : IntKind.u16.min = 0 := by decide
  have e2 : IntKind.u16.max = 65535 := by decide
  exact ⟨n.toNat, by omega, by omega⟩
theorem open_bpdu {W : World} {g : Nat} {v : Value} (hval : Value.okWide Try.prog W .any g 37 v) : ∃ (k f r c b p : Int) (a m h d : Nat), a < 65536 ∧ m < 65536 ∧ h < 65536 ∧ d < 65536 ∧ v = bpV k f r c b p a m h d := by
  obtain ⟨l, rfl, hl, hx⟩ := open_struct (ts := [28, 5, 30, 31, 30, 33, 32, 32, 32, 32]) (show Try.prog.underlying 37 = some (.struct (Try.prog.fieldsOf 37)) by kernel_rfl) (by kernel_rfl) (by kernel_rfl) hval
  match l, hl with
  | [x0, x1, x2, x3, x4, x5, x6, x7, x8, x9], _ =>
    have hh : Try.prog.underlying 32 = some (.int .u16) := by kernel_rfl
    have hq : Try.prog.underlying 30 = some (.int .u64) := by kernel_rfl
    obtain ⟨k, rfl, _⟩ := cell_int (k := .i64) (by kernel_rfl) (hx 0 28 x0 rfl rfl)
    obtain ⟨f, rfl, _⟩ := cell_int (k := .u8) (by kernel_rfl) (hx 1 5 x1 rfl rfl)
    obtain ⟨r, rfl, _⟩ := cell_int hq (hx 2 30 x2 rfl rfl)
    obtain ⟨c, rfl, _⟩ := cell_int (k := .u32) (by kernel_rfl) (hx 3 31 x3 rfl rfl)
    obtain ⟨b, rfl, _⟩ := cell_int hq (hx 4 30 x4 rfl rfl)
    obtain ⟨p, rfl, _⟩ := cell_int (k := .u16) (by kernel_rfl) (hx 5 33 x5 rfl rfl)
    obtain ⟨a, rfl, ha⟩ := cell_int hh (hx 6 32 x6 rfl rfl)
    obtain ⟨m, rfl, hm⟩ := cell_int hh (hx 7 32 x7 rfl rfl)
    obtain ⟨h, rfl, hd⟩ := cell_int hh (hx 8 32 x8 rfl rfl)
    obtain ⟨d, rfl, he⟩ := cell_int hh (hx 9 32 x9 rfl rfl)
    obtain ⟨a, rfl, ha'⟩ := half_nat ha
    obtain ⟨m, rfl, hm'⟩ := half_nat hm
    obtain ⟨h, rfl, hd'⟩ := half_nat hd
    obtain ⟨d, rfl, he'⟩ := half_nat he
    exact ⟨k, f, r, c, b, p, a, m, h, d, ha', hm', hd', he', rfl⟩
end Go.Proofs.Ytogmacdcaoigfaa
