/- Bridges and ports in memory; contracts of isOwn, behind and Older. -/
import Derived.Test.YtjfdochceejegaaDoorE
namespace Go.Proofs.YtjfdochceejegaaDoor
open Go.RowKit Go.Sort

/-- Times as cells, and as a value. -/
abbrev tmC (a m h d : Int) : Array Value := #[.int .i64 a, .int .i64 m, .int .i64 h, .int .i64 d]
abbrev tmV (a m h d : Int) : Value := .agg (tmC a m h d)
/-- What a bridge knows, but for its ports. -/
structure Bd where
  id : Nat
  a : Int
  m : Int
  h : Int
  d : Int
  tx : Int
  rs : Bool
  r : Nat
  c : Nat
  b : Nat
  p : Nat
  rp : Nat
  ra : Int
  rm : Int
  rh : Int
  rd : Int
  ps : Int
/-- Its cells. -/
abbrev Bd.cells (B : Bd) (s : Value) : Array Value := #[.int .u64 B.id, .int .i64 B.a, .int .i64 B.m, .int .i64 B.h, .int .i64 B.d, .int .i64 B.tx, .bool B.rs, .int .u64 B.r, .int .u32 B.c, .int .u64 B.b, .int .u16 B.p, .int .u16 B.rp, .int .i64 B.ra, .int .i64 B.rm, .int .i64 B.rh, .int .i64 B.rd, .int .i64 B.ps, s]

/-- What a port's functions read of a port. -/
structure Pd where
  id : Nat
  cost : Nat
  info : Int
  vr : Nat
  vc : Nat
  vb : Nat
  vp : Nat
  a : Int
  m : Int
  h : Int
  d : Int
/-- It stands so in a port's cells. -/
structure Pd.In (x : Pd) (xs : Array Value) : Prop where
  size : xs.size = 90
  id : xs[0]? = some (.int .u16 x.id)
  cost : xs[1]? = some (.int .u32 x.cost)
  info : xs[44]? = some (.int .i64 x.info)
  vr : xs[56]? = some (.int .u64 x.vr)
  vc : xs[57]? = some (.int .u32 x.vc)
  vb : xs[58]? = some (.int .u64 x.vb)
  vp : xs[59]? = some (.int .u16 x.vp)
  a : xs[68]? = some (.int .i64 x.a)
  m : xs[69]? = some (.int .i64 x.m)
  h : xs[70]? = some (.int .i64 x.h)
  d : xs[71]? = some (.int .i64 x.d)
  lid : x.id < 65536
  lcost : x.cost < 4294967296
  lvr : x.vr < 18446744073709551616
  lvc : x.vc < 4294967296
  lvb : x.vb < 18446744073709551616
  lvp : x.vp < 65536

/-- A port lies in the cells of a block from a place on. -/
def Sub (A : Array Value) (o : Nat) (xs : Array Value) : Prop := ∀ k, k < 90 → A[o + k]? = xs[k]?
theorem uP : Tryd.prog.underlying 39 = some (.struct (Tryd.prog.fieldsOf 39)) := by kernel_rfl
theorem sP : (Tryd.prog.info? 39).map (·.size) = some 90 := by kernel_rfl
theorem load_port {w : World} {b o : Nat} {A xs : Array Value} {t : TypeId} (hv : VarAt w b A t) (hs : Sub A o xs) (hx : xs.size = 90) :
    (Instr.loadAt 39 (.pointer (some ⟨b, o, none⟩))).run Tryd.prog w = .ok (.agg xs) w := by
  have := run_loadAt_mid (P := Tryd.prog) w b o 39 xs.toList _ (fun j v hj => by
    have hj' : j < 90 := by rw [← hx]; simpa using (List.getElem?_eq_some_iff.1 hj).1
    rw [hv.cell, hs j hj']; simpa using hj) uP rfl (by rw [sP]; simp [hx])
  simpa using this
theorem load_whole {w : World} {b : Nat} {xs : Array Value} {t : TypeId} (hv : VarAt w b xs t) (hx : xs.size = 90) :
    (Instr.loadAt 39 (.pointer (some ⟨b, 0, none⟩))).run Tryd.prog w = .ok (.agg xs) w :=
  load_port hv (fun k _ => by rw [Nat.zero_add]) hx
end Go.Proofs.YtjfdochceejegaaDoor
