/- VectorBest's call, where a slice is too long or both are empty. -/
import Derived.Test.YtidgdanhnpfpmaaJ
import Derived.Deep.AppendLies
import Derived.Laws.AppendOwnNone
import Derived.Laws.IdiomStrings
import Derived.Maps.AppendAt
namespace Go.Proofs.Ytidgdanhnpfpmaa
open Go.RowKit Go.Sort

theorem info26 : (Try.prog.info? 28).map (fun i => (i.zero, i.size, i.bytes)) = some (some (.int .u16 0), 1, 2) := by kernel_rfl
theorem und41 : Try.prog.underlying 72 = some (.slice 28) := by kernel_rfl
theorem info_parts {o : Option TypeInfo} {z : Option Value} {s b : Nat} (h : o.map (fun i => (i.zero, i.size, i.bytes)) = some (z, s, b)) : ∃ i, o = some i ∧ i.zero = z ∧ i.size = s ∧ i.bytes = b := by
  cases o with
  | none => simp at h
  | some i => simp at h; exact ⟨i, rfl, h.1, h.2.1, h.2.2⟩
/-- The first k identifiers of ports. -/
def qs (Q : Nat → Nat) (k : Nat) : List Value := (List.range k).map fun i => .int .u16 (Q i)
theorem qs_succ (Q : Nat → Nat) (k : Nat) : qs Q (k + 1) = qs Q k ++ [.int .u16 (Q k)] := by simp [qs, List.range_succ]
theorem qs_len (Q : Nat → Nat) (k : Nat) : (qs Q k).length = k := by simp [qs]
theorem qs_at (Q : Nat → Nat) {k i : Nat} (h : i < k) : (qs Q k)[i]? = some (.int .u16 (Q i)) := by simp [qs, h]
theorem rel_app {B k : Nat} {Q : Nat → Nat} {w wr w1 : World} {v v' : Value} {o : Obj} (hB : B ≤ wr.heap.size) (hown : wr.ownsRow B 28 1 v k (qs Q k)) (hnx : Below B w wr)
    (hown' : w1.ownsRow B 28 1 v' (k + 1) (qs Q k ++ [.int .u16 (Q k)])) (hgrow : (wr.alloc o).grownBy w1 v.ownBlock) : w1.ownsRow B 28 1 v' (k + 1) (qs Q (k + 1)) ∧ Below B w w1 :=
  ⟨by rw [qs_succ]; exact hown', (hnx.alloc (by omega) o).grown hgrow (by simp; omega) (fun j hj => (hown.lt j hj).1)⟩
/-- What a call made of identifiers of ports. -/
theorem own_qs {w : World} {B n : Nat} {Q : Nat → Nat} {v : Value} (h : w.ownsRow B 28 1 v n (qs Q n)) (hn : 0 < n) : ∃ g cap, v = .slice (some ⟨g, 0, none⟩) n cap ∧ B ≤ g ∧ Qs w g 0 n Q := by
  rcases h with ⟨_, ⟨_, h0⟩ | ⟨g, cap, cur, rfl, hb, hg, _, _, _, ht⟩⟩
  · omega
  · refine ⟨g, cap, rfl, hb, fun i hi => ?_⟩
    rw [Nat.zero_add, cell_of_row w g i cur 28 (0, 0) hg]
    have h1 := qs_at Q hi
    rw [← ht, List.getElem?_take, if_pos (by omega)] at h1
    simpa using h1
theorem meas_next {n k : Nat} (h : k < n) : n - (intOf (.int .i64 ((k + 1 : Nat) : Int))).toNat < n - (intOf (.int .i64 (k : Int))).toNat := by simp [intOf]; omega
end Go.Proofs.Ytidgdanhnpfpmaa
