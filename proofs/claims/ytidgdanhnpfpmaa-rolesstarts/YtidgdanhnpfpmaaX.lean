/- What vectors and pairs of costs that came in give. -/
import Derived.Test.YtidgdanhnpfpmaaE
import Derived.Test.YtidgdanhnpfpmaaRows
import Derived.ProofKit
import Derived.ChangeArms
namespace Go.Proofs.Ytidgdanhnpfpmaa
open Go.RowKit Go.Lib
open Go.ChangeShapes Go.WideShapes Go.ChangeAt

theorem laidOut : laidOutB Try.prog = true := by kernel_rfl
theorem ownT : ownKnob Try.prog.godebug = none := by kernel_rfl
/-- The cells of a struct that came in, each with its type. -/
theorem open_struct {P : Program} {T : TypeId} {fs : Array Field} {ts : List TypeId} {W : World} {b : Nat} {v : Value} (hu : P.underlying T = some (.struct fs)) (hc : P.cellTypes P.depth T = some ts) (hn : P.cellsOf T = ts.length) (hval : Value.okWide P W .any b T v) :
    ∃ l : List Value, v = .agg ⟨l⟩ ∧ l.length = ts.length ∧ ∀ (i : Nat) (t : TypeId) (x : Value), ts[i]? = some t → l[i]? = some x → Cell.okWide P W .any b t x := by
  obtain ⟨cs, rfl, hsz, us, hus, _, hrow⟩ : ∃ cs, v = .agg cs ∧ cs.size = P.cellsOf T ∧ Row.okWide P W .any b T cs := by
    simpa [Value.okWide, hu] using hval
  rw [hc] at hus
  cases hus
  obtain ⟨l⟩ := cs
  have hl : l.length = ts.length := by rw [← hn, ← hsz]; rfl
  refine ⟨l, rfl, hl, fun i t x ht hx => ?_⟩
  obtain ⟨u, hu', hok⟩ := hrow i x (by simpa using hx)
  have hi : i < ts.length := (List.getElem?_eq_some_iff.1 ht).1
  rw [Nat.mod_eq_of_lt hi, ht] at hu'
  cases hu'
  exact hok
/-- .. of an array. -/
theorem open_array {P : Program} {T e : TypeId} {n : Nat} {ts : List TypeId} {W : World} {b : Nat} {v : Value} (hu : P.underlying T = some (.array n e)) (hc : P.cellTypes P.depth T = some ts) (hn : P.cellsOf T = ts.length) (hval : Value.okWide P W .any b T v) :
    ∃ l : List Value, v = .agg ⟨l⟩ ∧ l.length = ts.length ∧ ∀ (i : Nat) (t : TypeId) (x : Value), ts[i]? = some t → l[i]? = some x → Cell.okWide P W .any b t x := by
  obtain ⟨cs, rfl, hsz, us, hus, _, hrow⟩ : ∃ cs, v = .agg cs ∧ cs.size = P.cellsOf T ∧ Row.okWide P W .any b T cs := by
    simpa [Value.okWide, hu] using hval
  rw [hc] at hus
  cases hus
  obtain ⟨l⟩ := cs
  have hl : l.length = ts.length := by rw [← hn, ← hsz]; rfl
  refine ⟨l, rfl, hl, fun i t x ht hx => ?_⟩
  obtain ⟨u, hu', hok⟩ := hrow i x (by simpa using hx)
  have hi : i < ts.length := (List.getElem?_eq_some_iff.1 ht).1
  rw [Nat.mod_eq_of_lt hi, ht] at hu'
  cases hu'
  exact hok
theorem cell_int {P : Program} {t : TypeId} {k : IntKind} {W : World} {b : Nat} {v : Value} (hu : P.underlying t = some (.int k)) (h : Cell.okWide P W .any b t v) : ∃ n, v = .int k n ∧ k.min ≤ n ∧ n ≤ k.max := by
  unfold Cell.okWide at h
  rw [hu] at h
  simp only [Cell.ok, hu] at h
  cases v <;> simp [IntKind.has] at h
  obtain ⟨rfl, h⟩ := h
  exact ⟨_, rfl, h⟩
theorem nat16 {n : Int} (h : IntKind.u16.min ≤ n ∧ n ≤ IntKind.u16.max) : ∃ k : Nat, n = k ∧ k < 65536 := by
  have e1 : IntKind.u16.min = 0 := by decide
  have e2 : IntKind.u16.max = 65535 := by decide
  exact ⟨n.toNat, by omega, by omega⟩
theorem nat32 {n : Int} (h : IntKind.u32.min ≤ n ∧ n ≤ IntKind.u32.max) : ∃ k : Nat, n = k ∧ k < 4294967296 := by
  have e1 : IntKind.u32.min = 0 := by decide
  have e2 : IntKind.u32.max = 4294967295 := by decide
  exact ⟨n.toNat, by omega, by omega⟩
theorem nat64 {n : Int} (h : IntKind.u64.min ≤ n ∧ n ≤ IntKind.u64.max) : ∃ k : Nat, n = k ∧ k < 18446744073709551616 := by
  have e1 : IntKind.u64.min = 0 := by decide
  have e2 : IntKind.u64.max = 18446744073709551615 := by decide
  exact ⟨n.toNat, by omega, by omega⟩
theorem word_wf {n : Int} (h : (Lit.int .u64 n).wf = true) : ∃ k : Nat, n = k ∧ k < 18446744073709551616 := by
  refine nat64 ?_
  simpa [Lit.wf] using h
theorem und23 : Try.prog.underlying 23 = some (.int .u64) := by kernel_rfl
theorem und24 : Try.prog.underlying 26 = some (.int .u32) := by kernel_rfl
theorem und26 : Try.prog.underlying 28 = some (.int .u16) := by kernel_rfl
theorem open_vec {W : World} {g : Nat} {v : Value} (hval : Value.okWide Try.prog W .any g 30 v) : ∃ r c b p : Nat, r < 18446744073709551616 ∧ c < 4294967296 ∧ b < 18446744073709551616 ∧ p < 65536 ∧ v = vV r c b p := by
  obtain ⟨l, rfl, hl, hx⟩ := open_struct (ts := [23, 26, 23, 28]) (show Try.prog.underlying 30 = some (.struct (Try.prog.fieldsOf 30)) by kernel_rfl) (by kernel_rfl) (by kernel_rfl) hval
  match l, hl with
  | [x0, x1, x2, x3], _ =>
    obtain ⟨r, rfl, hr⟩ := cell_int und23 (hx 0 23 x0 rfl rfl)
    obtain ⟨c, rfl, hc⟩ := cell_int und24 (hx 1 26 x1 rfl rfl)
    obtain ⟨b, rfl, hb⟩ := cell_int und23 (hx 2 23 x2 rfl rfl)
    obtain ⟨p, rfl, hp⟩ := cell_int und26 (hx 3 28 x3 rfl rfl)
    obtain ⟨r, rfl, hr'⟩ := nat64 hr
    obtain ⟨c, rfl, hc'⟩ := nat32 hc
    obtain ⟨b, rfl, hb'⟩ := nat64 hb
    obtain ⟨p, rfl, hp'⟩ := nat16 hp
    exact ⟨r, c, b, p, hr', hc', hb', hp', rfl⟩
end Go.Proofs.Ytidgdanhnpfpmaa
