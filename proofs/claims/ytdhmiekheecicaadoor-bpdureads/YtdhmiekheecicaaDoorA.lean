/- Bytes in memory; variables known whole; the contract of slices.Clone on bytes. -/
import Derived.Test.YtdhmiekheecicaaDoorProg
import Derived.WalkKit
import Derived.WalkSpells
import Derived.WalkLawsBesides
import Derived.WalkMore
import Derived.Handy
import Derived.Lib.Hide
import Derived.Deep.QuietTactic
import Derived.BigQuiet
import Derived.IntWalk
import Derived.Lib.QuietBelow
import Derived.StillTailTactics
import Derived.Laws.BitsAllLaws
import Derived.WalkSmall
import Derived.Recover
import Derived.Deep.MidRow
import Derived.ChangeKeysEq
import Derived.Deep.RegionLaw
import Derived.Deep.AppendLies
import Derived.MapKept
import Derived.Laws.IdiomStrings
import Derived.Laws.AppendOwnNone
import Derived.Deep.RegionWith
namespace Go.Proofs.YtdhmiekheecicaaDoor
open Go.RowKit Go.Sort

theorem info5 : (Tryd.prog.info? 5).map (fun i => (i.zero, i.size, i.bytes)) = some (some (.int .u8 0), 1, 1) := by kernel_rfl
theorem und22 : Tryd.prog.underlying 32 = some (.slice 5) := by kernel_rfl
theorem und5 : Tryd.prog.underlying 5 = some (.int .u8) := by kernel_rfl
theorem und9 : Tryd.prog.underlying 9 = some .string := by kernel_rfl
abbrev bV (c : UInt8) : Value := .int .u8 c.toNat
abbrev strV (l : List UInt8) : Value := .string ⟨l.toArray⟩
theorem bytes_oneCell (l : List UInt8) : ∀ u ∈ l.map bV, u.oneCell' = true := by
  intro u hu
  obtain ⟨_, _, rfl⟩ := List.mem_map.1 hu
  rfl

/-- Bytes lie from an address on. -/
def Lie (w : World) (a : Addr) (l : List UInt8) : Prop := ∀ j (hj : j < l.length), w.cell? (a.add j) = some (bV l[j])
theorem Lie.news {w : World} {a : Addr} {l : List UInt8} (h : Lie w a l) : ∀ j u, (l.map bV)[j]? = some u → w.cell? (a.add j) = some u := by
  intro j u hu
  have hj : j < l.length := by have := (List.getElem?_eq_some_iff.1 hu).1; simpa using this
  rw [h j hj]
  simp [hj] at hu
  rw [← hu]
theorem Lie.below {w w' : World} {B : Nat} {a : Addr} {l : List UInt8} (h : Lie w a l) (hb : Below B w w') (ha : 0 < l.length → a.block < B) : Lie w' a l := by
  intro j hj
  replace ha := ha (by omega)
  have : (a.add j).block = a.block := by unfold Addr.add; split <;> rfl
  rw [hb.cell (by rw [this]; exact ha)]
  exact h j hj
/-- A slice that reads as bytes, its cells in a block below B. -/
def Bts (w : World) (B : Nat) (v : Value) (l : List UInt8) : Prop :=
  (v = .slice none 0 0 ∧ l = []) ∨ ∃ a cap, v = .slice (some a) l.length cap ∧ l.length ≤ cap ∧ cap ≤ maxLen ∧ (0 < l.length → a.block < B) ∧ Lie w a l
theorem Bts.below {w w' : World} {B B' : Nat} {v : Value} {l : List UInt8} (h : Bts w B v l) (hb : Below B' w w') (hB : B ≤ B') : Bts w' B v l := by
  rcases h with h | ⟨a, cap, rfl, h1, h2, h3, h4⟩
  · exact .inl h
  · exact .inr ⟨a, cap, rfl, h1, h2, h3, h4.below hb (fun h => by have := h3 h; omega)⟩
theorem Bts.mono {w : World} {B B' : Nat} {v : Value} {l : List UInt8} (h : Bts w B v l) (hB : B ≤ B') : Bts w B' v l := by
  rcases h with h | ⟨a, cap, rfl, h1, h2, h3, h4⟩
  · exact .inl h
  · exact .inr ⟨a, cap, rfl, h1, h2, fun h => by have := h3 h; omega, h4⟩
theorem bts_of_own {w : World} {base : Nat} {v : Value} {l : List UInt8} (h : w.ownsRow base 5 1 v l.length (l.map bV)) : Bts w w.heap.size v l := by
  rcases h.2 with ⟨rfl, hn⟩ | ⟨g, cap, cur, rfl, hb, hg, hc, hm, _, _⟩
  · exact .inl ⟨rfl, List.eq_nil_of_length_eq_zero hn⟩
  · exact .inr ⟨_, _, rfl, hc, hm, fun _ => (Array.getElem?_eq_some_iff.1 hg).1, fun j hj => h.cells rfl j _ (by simp [hj])⟩

/-- A slice's cells lie in no block below A. -/
def Far (A : Nat) (v : Value) : Prop := ∀ a n c, v = .slice (some a) n c → A ≤ a.block
theorem far_of_own {w : World} {base : Nat} {v : Value} {n : Nat} {xs : List Value} (h : w.ownsRow base 5 1 v n xs) : Far base v := by
  intro a m c hv
  rcases h.2 with ⟨rfl, hn⟩ | ⟨g, cap, cur, rfl, hb, _⟩
  · cases hv
  · cases hv; exact hb
theorem Bts.set {w : World} {A B : Nat} {v : Value} {l : List UInt8} (h : Bts w B v l) (hf : Far A v) {c : Addr} (hc : c.block < A) (u : Value) : Bts (w.setCell c u) B v l := by
  rcases h with h | ⟨a, cap, rfl, h1, h2, h3, h4⟩
  · exact .inl h
  · refine .inr ⟨a, cap, rfl, h1, h2, h3, fun j hj => ?_⟩
    have hA := hf a _ _ rfl
    have : (a.add j).block = a.block := by unfold Addr.add; split <;> rfl
    rw [World.cell?_of_block (w := w) (Below.heap_setCell _ _ _ _ (by rw [this]; omega))]
    exact h4 j hj

theorem own_of_heap {w w' : World} {base : Nat} {e : TypeId} {size : Nat} {v : Value} {n : Nat} {xs : List Value} (h : w.ownsRow base e size v n xs) (hh : w'.heap = w.heap) : w'.ownsRow base e size v n xs := by
  unfold World.ownsRow at *; rw [hh]; exact h
theorem own_cast {w : World} {base : Nat} {v : Value} {n : Nat} {xs ys : List Value} {m : Nat} (h : w.ownsRow base 5 1 v n xs) (hn : n = m) (hx : xs = ys) : w.ownsRow base 5 1 v m ys := by
  rw [← hn, ← hx]; exact h

theorem box_below (w : World) (o : Obj) : Below w.heap.size w (w.alloc o) := (Below.refl _ _).alloc (Nat.le_refl _) _
theorem alloc_size (w : World) (o : Obj) : (w.alloc o).heap.size = w.heap.size + 1 := by simp
theorem below_next {w w1 w2 : World} (h : Below w.heap.size w w1) (k : Below w1.heap.size w1 w2) : Below w.heap.size w w2 := h.trans (k.mono h.size)

/-- A variable, known whole. -/
def VarAt (w : World) (b : Nat) (xs : Array Value) (t : TypeId) : Prop := w.heap[b]? = some (.cells xs t)
abbrev OneAt (w : World) (b : Nat) (v : Value) (t : TypeId) : Prop := VarAt w b #[v] t
theorem VarAt.lt {w : World} {b : Nat} {xs : Array Value} {t : TypeId} (h : VarAt w b xs t) : b < w.heap.size := (Array.getElem?_eq_some_iff.1 h).1
theorem VarAt.cell {w : World} {b : Nat} {xs : Array Value} {t : TypeId} (h : VarAt w b xs t) (k : Nat) : w.cell? ⟨b, k, none⟩ = xs[k]? := by
  rw [cell_of_row w b k _ t (0, 0) h]
theorem VarAt.frozen {w : World} {b : Nat} {xs : Array Value} {t : TypeId} (h : VarAt w b xs t) (k : Nat) : w.frozen? ⟨b, k, none⟩ = false := by
  unfold World.frozen?
  simp only []
  rw [show w.heap[b]? = _ from h]
  simp
theorem VarAt.set {w : World} {b : Nat} {xs : Array Value} {t : TypeId} (h : VarAt w b xs t) (k : Nat) (u : Value) : VarAt (w.setCell ⟨b, k, none⟩ u) b (xs.setIfInBounds k u) t := by
  unfold VarAt World.setCell
  simp only [Array.getElem?_modify, if_true]
  rw [show w.heap[b]? = _ from h]
  rfl
theorem VarAt.set_other {w : World} {b : Nat} {xs : Array Value} {t : TypeId} (h : VarAt w b xs t) {a : Addr} (ha : b ≠ a.block) (u : Value) : VarAt (w.setCell a u) b xs t := by
  unfold VarAt
  rw [Below.heap_setCell _ _ _ _ ha]
  exact h
theorem VarAt.below {w w' : World} {b B : Nat} {xs : Array Value} {t : TypeId} (h : VarAt w b xs t) (hb : Below B w w') (hB : b < B) : VarAt w' b xs t := (hb.block b hB).trans h
theorem VarAt.alloc {w : World} {b : Nat} {xs : Array Value} {t : TypeId} (h : VarAt w b xs t) (o : Obj) : VarAt (w.alloc o) b xs t := h.below (box_below w o) h.lt
theorem VarAt.drew {w : World} {b : Nat} {xs : Array Value} {t : TypeId} (h : VarAt w b xs t) : VarAt w.drew b xs t := h
theorem var_new (w : World) (xs : Array Value) (t : TypeId) : VarAt (w.alloc (.cells xs t)) w.heap.size xs t := (MapKept.heap_alloc w _).1

theorem nil_eq (w : World) : (binOp .eql 32 (.slice none 0 0) (.slice none 0 0)).run Tryd.prog w = .ok (.bool true) w := by kernel_rfl
theorem some_eq (a : Addr) (n c : Nat) (w : World) : (binOp .eql 32 (.slice (some a) n c) (.slice none 0 0)).run Tryd.prog w = .ok (.bool false) w := by kernel_rfl

set_option maxHeartbeats 1000000 in
theorem clone_any (v : Value) (l : List UInt8) (B : Nat) (w : World) (h : Bts w B v l) (hB : B ≤ w.heap.size) (hl : l.length ≤ 100000) :
    Calls Tryd.prog 26 #[v] w fun e w' => ∃ v', e = .returned v' ∧ w'.ownsRow w.heap.size 5 1 v' l.length (l.map bV) ∧ Below w.heap.size w w' := by
  obtain ⟨i0, hinf, hz0, hz1, hz2⟩ := info_parts info5
  rcases h with ⟨rfl, rfl⟩ | ⟨a, cap, rfl, h1, h2, h3, h4⟩
  · have e := nil_eq
    go_enter Tryd.func26, Tryd.ntmps26
    go_wp2
    go_ret
    exact ⟨_, rfl, World.ownsRow_nil _ _ _ _, Below.refl _ _⟩
  · have hn := (h4.below (box_below w (.cells #[] 5)) (fun h => by have := h3 h; omega)).news
    have ho := World.ownsRow_made (base := w.heap.size) (e := 5) (size := 1) w #[] 0 (Nat.le_refl _) (by decide) rfl
    have HN := Lib.hid hn
    have HO := Lib.hid ho
    clear hn ho h4
    have e := some_eq a l.length cap
    go_enter Tryd.func26, Tryd.ntmps26
    go_wp2_with (at_builtin; refine wpList_append_own _ rfl _ _ 32 rfl w.heap.size 5 i0 (.int .u8 0) 1 1 und22 hinf hz0 hz1 hz2 rfl (by decide) _ _ _ rfl HO.out a l.length cap (l.map bV) rfl ?d0 HN.out (bytes_oneCell l) ?d3 ?d4 ?d5 ?_)
    case d0 => simp
    case d3 => unfold maxLen; omega
    case d4 => omega
    case d5 => simp
    intro v1 w2 hown hgrow _
    have hb : Below w.heap.size w w2 := (box_below w (.cells #[] 5)).grown hgrow (by simp) (fun j hj => (HO.out.lt j hj).1)
    go_wp2
    go_ret
    exact ⟨_, rfl, own_cast hown (by simp) (by simp), hb⟩
end Go.Proofs.YtdhmiekheecicaaDoor
