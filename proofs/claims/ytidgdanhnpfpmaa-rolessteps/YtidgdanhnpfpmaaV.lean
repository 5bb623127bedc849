/- The ports through which the root may be reached; slices that a call makes of them. -/
import Derived.Test.YtidgdanhnpfpmaaT
import Derived.Test.YtidgdanhnpfpmaaP
import Derived.Test.YtidgdanhnpfpmaaK
namespace Go.Proofs.Ytidgdanhnpfpmaa
open Go.RowKit Go.Sort

section
variable (X : Nat → Pd) (id : Nat)
/-- Has a port a vector that came, and that isn't the bridge's own? -/
def cand (i : Nat) : Bool := decide ((X i).info = 3) && !eqM (X i).vb id
/-- Such ports among the first k ones, in order. -/
def cl (k : Nat) : List Nat := (List.range k).filter (cand X id)
theorem cl_take {k : Nat} (h : cand X id k = true) : cl X id (k + 1) = cl X id k ++ [k] := by simp [cl, List.range_succ, h]
theorem cl_skip {k : Nat} (h : cand X id k = false) : cl X id (k + 1) = cl X id k := by simp [cl, List.range_succ, h]
theorem cl_len (k : Nat) : (cl X id k).length ≤ k := by
  have := List.length_filter_le (cand X id) (List.range k)
  simpa [cl] using this
theorem cl_mem {k i : Nat} : i ∈ cl X id k ↔ i < k ∧ cand X id i = true := by simp [cl]
/-- Their vectors, behind their links; their identifiers; their places. -/
def vcs (l : List Nat) : List Value := l.flatMap fun i => [.int .u64 (X i).vr, .int .u32 (sat (X i).vc (X i).cost), .int .u64 (X i).vb, .int .u16 (X i).vp]
def pis (l : List Nat) : List Value := l.map fun i => .int .u16 (X i).id
def ixs (l : List Nat) : List Value := l.map fun i : Nat => .int .i64 (i : Int)
end
theorem und63 : Try.prog.underlying 71 = some (.slice 30) := by kernel_rfl
theorem und64 : Try.prog.underlying 72 = some (.slice 28) := by kernel_rfl
theorem und53 : Try.prog.underlying 57 = some (.slice 3) := by kernel_rfl
theorem info30 : (Try.prog.info? 30).map (fun i => (i.zero, i.size, i.bytes)) = some (some (vV 0 0 0 0), 4, 32) := by kernel_rfl
theorem info28 : (Try.prog.info? 28).map (fun i => (i.zero, i.size, i.bytes)) = some (some (.int .u16 0), 1, 2) := by kernel_rfl
theorem info3 : (Try.prog.info? 3).map (fun i => (i.zero, i.size, i.bytes)) = some (some (.int .i64 0), 1, 8) := by kernel_rfl
theorem own_below {w w' : World} {B : Nat} {e : TypeId} {sz n : Nat} {v : Value} {xs : List Value} (h : w.ownsRow B e sz v n xs) (hb : Below w.heap.size w w') : w'.ownsRow B e sz v n xs :=
  h.kept (row := none) ⟨hb.os, hb.tape, hb.output, hb.size, fun k hk _ => hb.block k hk⟩ (by cases hv : v.ownBlock <;> simp)
theorem own_apart {w : World} {B B' : Nat} {e e' : TypeId} {sz n sz' n' : Nat} {v v' : Value} {xs xs' : List Value} (h : w.ownsRow B e sz v n xs) (h' : w.ownsRow B' e' sz' v' n' xs') (he : e ≠ e') : v.ownBlock = none ∨ v.ownBlock ≠ v'.ownBlock := by
  rcases h.2 with ⟨rfl, _⟩ | ⟨g, _, _, rfl, _, hg, _⟩
  · exact .inl rfl
  · rcases h'.2 with ⟨rfl, _⟩ | ⟨g', _, _, rfl, _, hg', _⟩
    · exact .inr (by simp [Value.ownBlock])
    · right
      simp only [Value.ownBlock, ne_eq, Option.some.injEq]
      rintro rfl
      rw [hg] at hg'
      simp at hg'
      exact he hg'.2
theorem own_slice {w : World} {B : Nat} {e : TypeId} {sz n : Nat} {v : Value} {xs : List Value} (h : w.ownsRow B e sz v n xs) : ∃ a cap, v = .slice a n cap := by
  rcases h.2 with ⟨rfl, rfl⟩ | ⟨g, cap, _, rfl, _⟩
  · exact ⟨none, 0, rfl⟩
  · exact ⟨some ⟨g, 0, none⟩, cap, rfl⟩
/-- What a call made, cell by cell. -/
theorem own_cells {w : World} {B : Nat} {e : TypeId} {sz n : Nat} {v : Value} {xs : List Value} (h : w.ownsRow B e sz v n xs) (hn : 0 < n) : ∃ g cap, v = .slice (some ⟨g, 0, none⟩) n cap ∧ B ≤ g ∧ g < w.heap.size ∧ ∀ (i : Nat) u, xs[i]? = some u → w.cell? ⟨g, i, none⟩ = some u := by
  rcases h.2 with ⟨_, h0⟩ | ⟨g, cap, cur, rfl, hb, hg, _, _, _, ht⟩
  · omega
  · refine ⟨g, cap, rfl, hb, (Array.getElem?_eq_some_iff.1 hg).1, fun i u hi => ?_⟩
    rw [cell_of_row w g i cur e (0, 0) hg, ← Array.getElem?_toList]
    rw [← ht, List.getElem?_take] at hi
    split at hi
    · exact hi
    · cases hi
theorem vcs_at (X : Nat → Pd) : ∀ (l : List Nat) (i : Nat), i < l.length → (vcs X l)[i * 4]? = some (.int .u64 (X (l.getD i 0)).vr) ∧ (vcs X l)[i * 4 + 1]? = some (.int .u32 (sat (X (l.getD i 0)).vc (X (l.getD i 0)).cost)) ∧ (vcs X l)[i * 4 + 2]? = some (.int .u64 (X (l.getD i 0)).vb) ∧ (vcs X l)[i * 4 + 3]? = some (.int .u16 (X (l.getD i 0)).vp)
  | [], i, h => by simp at h
  | a :: l, 0, _ => by simp [vcs]
  | a :: l, i + 1, h => by
    have := vcs_at X l i (by simpa using h)
    have e : ∀ j, (vcs X (a :: l))[(i + 1) * 4 + j]? = (vcs X l)[i * 4 + j]? := fun j => by
      rw [show (i + 1) * 4 + j = (i * 4 + j) + 4 by omega]; simp [vcs]
    have e0 := e 0
    simp only [Nat.add_zero] at e0
    rw [e0, e 1, e 2, e 3]
    simpa using this
theorem vcs_len (X : Nat → Pd) (l : List Nat) : (vcs X l).length = l.length * 4 := by
  induction l with
  | nil => simp [vcs]
  | cons a l ih => simp [vcs] at *; omega
/-- The slices that rootPort makes. -/
structure RP (B : Nat) (X : Nat → Pd) (l : List Nat) (v1 v2 v3 : Value) (w : World) : Prop where
  o1 : w.ownsRow B 30 4 v1 l.length (vcs X l)
  o2 : w.ownsRow B 28 1 v2 l.length (pis X l)
  o3 : w.ownsRow B 3 1 v3 l.length (ixs l)
theorem RP.below {B : Nat} {X : Nat → Pd} {l : List Nat} {v1 v2 v3 : Value} {w w' : World} (h : RP B X l v1 v2 v3 w) (hb : Below w.heap.size w w') : RP B X l v1 v2 v3 w' := ⟨own_below h.o1 hb, own_below h.o2 hb, own_below h.o3 hb⟩
theorem new4 (w : World) (r c b p : Int) : ∀ (j : Nat) u, [Value.int .u64 r, .int .u32 c, .int .u64 b, .int .u16 p][j]? = some u → (w.alloc (.cells (vC r c b p) 30)).cell? ((⟨w.heap.size, 0, none⟩ : Addr).add j) = some u :=
  World.news_of_block (cs := vC r c b p) (heap_alloc_new w _)
theorem vcs_app (X : Nat → Pd) (l : List Nat) (k : Nat) : vcs X (l ++ [k]) = vcs X l ++ [.int .u64 (X k).vr, .int .u32 (sat (X k).vc (X k).cost : Nat), .int .u64 (X k).vb, .int .u16 (X k).vp] := by simp [vcs]
theorem pis_app (X : Nat → Pd) (l : List Nat) (k : Nat) : pis X (l ++ [k]) = pis X l ++ [.int .u16 (X k).id] := by simp [pis]
theorem ixs_app (l : List Nat) (k : Nat) : ixs (l ++ [k]) = ixs l ++ [.int .i64 (k : Int)] := by simp [ixs]
theorem var_kept {w w' : World} {b B n sz : Nat} {xs : Array Value} {t e : TypeId} {v : Value} {ys : List Value} (h : VarAt w b xs t) (ho : w.ownsRow B e sz v n ys) (hne : t ≠ e) (hg : w.grownBy w' v.ownBlock) : VarAt w' b xs t := by
  refine (hg.block b h.lt ?_).trans h
  intro hb
  rcases ho.2 with ⟨rfl, _⟩ | ⟨g, _, _, rfl, _, hgg, _⟩
  · simp [Value.ownBlock] at hb
  · simp [Value.ownBlock] at hb
    subst hb
    unfold VarAt at h
    rw [hgg] at h
    simp at h
    exact hne h.2.symm
theorem own_kept {w w' : World} {B B' : Nat} {e e' : TypeId} {sz n sz' n' : Nat} {v v' : Value} {xs xs' : List Value} (h : w.ownsRow B e sz v n xs) (h' : w.ownsRow B' e' sz' v' n' xs') (he : e ≠ e') (hg : w.grownBy w' v'.ownBlock) : w'.ownsRow B e sz v n xs := h.kept hg (own_apart h h' he)
theorem below_app {B n sz : Nat} {w wr w1 : World} {e : TypeId} {v : Value} {ys : List Value} {o : Obj} (hnx : Below B w wr) (hB : B ≤ wr.heap.size) (ho : (wr.alloc o).ownsRow B e sz v n ys) (hg : (wr.alloc o).grownBy w1 v.ownBlock) : Below B w w1 :=
  (hnx.alloc hB o).grown hg (by simp; omega) (fun j hj => (ho.lt j hj).1)
theorem pis_at (X : Nat → Pd) (l : List Nat) (i : Nat) (h : i < l.length) : (pis X l)[i]? = some (.int .u16 (X (l.getD i 0)).id) := by simp [pis, List.getD, h]
theorem ixs_at (l : List Nat) (i : Nat) (h : i < l.length) : (ixs l)[i]? = some (.int .i64 ((l.getD i 0 : Nat) : Int)) := by simp [ixs, List.getD, h]
end Go.Proofs.Ytidgdanhnpfpmaa
