/- Bridges and ports in memory; contracts of isOwn, behind and Older. -/
import Derived.Test.YtidgdanhnpfpmaaE
namespace Go.Proofs.Ytidgdanhnpfpmaa
open Go.RowKit Go.Sort

/-- Times as cells, and as a value. -/
abbrev tmC (a m h d : Int) : Array Value := #[.int .i64 a, .int .i64 m, .int .i64 h, .int .i64 d]
abbrev tmV (a m h d : Int) : Value := .agg (tmC a m h d)
theorem older_any (a m h d : Int) (w : World) : Calls Try.prog 36 #[tmV a m h d] w fun e w' => e = .returned (tmV (wrap64 (a + 1)) m h d) ∧ Below w.heap.size w w' := by
  go_enter Try.func36, Try.ntmps36
  go_wp2
  go_returns
  exact ⟨rfl, ((Below.refl _ _).alloc (Nat.le_refl _) _).alloc (by rw [alloc_size]; omega) _⟩

/-- What a bridge knows, but for its ports. -/
structure Bd where
  id : Nat
  a : Int
  m : Int
  h : Int
  d : Int
  tx : Int
  rs : Bool
  r : Nat
  c : Nat
  b : Nat
  p : Nat
  rp : Nat
  ra : Int
  rm : Int
  rh : Int
  rd : Int
  ps : Int
/-- Its cells. -/
abbrev Bd.cells (B : Bd) (s : Value) : Array Value := #[.int .u64 B.id, .int .i64 B.a, .int .i64 B.m, .int .i64 B.h, .int .i64 B.d, .int .i64 B.tx, .bool B.rs, .int .u64 B.r, .int .u32 B.c, .int .u64 B.b, .int .u16 B.p, .int .u16 B.rp, .int .i64 B.ra, .int .i64 B.rm, .int .i64 B.rh, .int .i64 B.rd, .int .i64 B.ps, s]

set_option maxHeartbeats 1000000 in
theorem isOwn_any (r c : Int) (b p i : Nat) (bb : Nat) (hb : b < 18446744073709551616) (hi : i < 18446744073709551616) (w : World) (hc : w.cell? ⟨bb, 0, none⟩ = some (.int .u64 i)) :
    Calls Try.prog 31 #[.pointer (some ⟨bb, 0, none⟩), vV r c b p] w fun e w' => e = .returned (.bool (eqM b i)) ∧ Below w.heap.size w w' := by
  have q := mac50 b i
  have g := g50
  have lb := block_lt_of_cell hc
  have hx := var_new w (vC r c b p) 30
  have hB := box_below w (.cells (vC r c b p) 30)
  have hc' : (w.alloc (.cells (vC r c b p) 30)).cell? ⟨bb, 0, none⟩ = some (.int .u64 i) := by rw [hB.cell (by exact lb)]; exact hc
  have lb' : bb < (w.alloc (.cells (vC r c b p) 30)).heap.size := block_lt_of_cell hc'
  clear hc
  generalize eqM b i = E at *
  go_enter Try.func31, Try.ntmps31
  go_wp2
  generalize (w.alloc (.cells (vC r c b p) 30)) = W at *
  have a2 := fun d os => (hx.grown d os).v.2.2.1
  have a3 : ∀ d os, (grow (redrawn W d) os).cell? ⟨bb, 0, none⟩ = some (.int .u64 i) := fun d os => by rw [(below_regrown W d os).cell (by exact lb')]; exact hc'
  have cx : ∀ d os, Calls Try.prog 39 #[.int .u64 b] (grow (redrawn W d) os) fun e w'' => e = .returned (macV (ofN b)) ∧ ∃ p : Regrown, w'' = grow (redrawn W p.d) p.os := fun d os => Calls.regrown_of (mac_any b hb _)
  have cy : ∀ d os, Calls Try.prog 39 #[.int .u64 i] (grow (redrawn W d) os) fun e w'' => e = .returned (macV (ofN i)) ∧ ∃ p : Regrown, w'' = grow (redrawn W p.d) p.os := fun d os => Calls.regrown_of (mac_any i hi _)
  have HB := Lib.hid hB
  clear hB hx hb hi hc' lb lb'
  generalize ofN b = X at *
  generalize ofN i = Y at *
  refine wp_region_quiet_below (by kernel_rfl) (by kernel_rfl) ?_
  repeat (go_big_quiet_step (first | with_reducible exact cx _ _ | with_reducible exact cy _ _))
  refine wpQuiet_nil ?_
  intro _ hw'
  obtain ⟨⟨dq, osq⟩, hw''⟩ := hw'
  subst hw''
  go_wp2
  go_ret
  exact ⟨rfl, below_next HB.out (below_regrown W dq osq)⟩

/-- What a port's functions read of a port. -/
structure Pd where
  id : Nat
  cost : Nat
  info : Int
  vr : Nat
  vc : Nat
  vb : Nat
  vp : Nat
  a : Int
  m : Int
  h : Int
  d : Int
/-- It stands so in a port's cells. -/
structure Pd.In (x : Pd) (xs : Array Value) : Prop where
  size : xs.size = 90
  id : xs[0]? = some (.int .u16 x.id)
  cost : xs[1]? = some (.int .u32 x.cost)
  info : xs[44]? = some (.int .i64 x.info)
  vr : xs[56]? = some (.int .u64 x.vr)
  vc : xs[57]? = some (.int .u32 x.vc)
  vb : xs[58]? = some (.int .u64 x.vb)
  vp : xs[59]? = some (.int .u16 x.vp)
  a : xs[68]? = some (.int .i64 x.a)
  m : xs[69]? = some (.int .i64 x.m)
  h : xs[70]? = some (.int .i64 x.h)
  d : xs[71]? = some (.int .i64 x.d)
  lid : x.id < 65536
  lcost : x.cost < 4294967296
  lvr : x.vr < 18446744073709551616
  lvc : x.vc < 4294967296
  lvb : x.vb < 18446744073709551616
  lvp : x.vp < 65536

/-- A port lies in the cells of a block from a place on. -/
def Sub (A : Array Value) (o : Nat) (xs : Array Value) : Prop := ∀ k, k < 90 → A[o + k]? = xs[k]?
theorem uP : Try.prog.underlying 50 = some (.struct (Try.prog.fieldsOf 50)) := by kernel_rfl
theorem sP : (Try.prog.info? 50).map (·.size) = some 90 := by kernel_rfl
theorem load_port {w : World} {b o : Nat} {A xs : Array Value} {t : TypeId} (hv : VarAt w b A t) (hs : Sub A o xs) (hx : xs.size = 90) :
    (Instr.loadAt 50 (.pointer (some ⟨b, o, none⟩))).run Try.prog w = .ok (.agg xs) w := by
  have := run_loadAt_mid (P := Try.prog) w b o 50 xs.toList _ (fun j v hj => by
    have hj' : j < 90 := by rw [← hx]; simpa using (List.getElem?_eq_some_iff.1 hj).1
    rw [hv.cell, hs j hj']; simpa using hj) uP rfl (by rw [sP]; simp [hx])
  simpa using this
theorem load_whole {w : World} {b : Nat} {xs : Array Value} {t : TypeId} (hv : VarAt w b xs t) (hx : xs.size = 90) :
    (Instr.loadAt 50 (.pointer (some ⟨b, 0, none⟩))).run Try.prog w = .ok (.agg xs) w :=
  load_port hv (fun k _ => by rw [Nat.zero_add]) hx
end Go.Proofs.Ytidgdanhnpfpmaa
