/- Contracts of cmp.Compare at three kinds, of cmp.Or, of sums; variables known whole. Each says what one call returns, whatever the world. -/
import Derived.Test.YtidgdanhnpfpmaaProg
import Derived.WalkKit
import Derived.WalkSpells
import Derived.WalkLawsBesides
import Derived.WalkMore
import Derived.Handy
import Derived.Lib.Hide
import Derived.Deep.QuietTactic
import Derived.BigQuiet
import Derived.IntWalk
import Derived.Lib.QuietBelow
import Derived.StillTailTactics
import Derived.Laws.BitsAllLaws
import Derived.WalkSmall
import Derived.Deep.MidRow
import Derived.ChangeKeysEq
import Derived.Deep.RegionLaw
import Derived.MapKept
import Derived.Deep.RegionWith
import Derived.Deep.RegionHeld
namespace Go.Proofs.Ytidgdanhnpfpmaa
open Go.RowKit Go.Sort

theorem ret_int {k : IntKind} {a b : Int} (h : a = b) : Ending.returned (.int k a) = .returned (.int k b) := by rw [h]
theorem ret_bool {a b : Bool} (h : a = b) : Ending.returned (.bool a) = .returned (.bool b) := by rw [h]
theorem box_below (w : World) (o : Obj) : Below w.heap.size w (w.alloc o) := (Below.refl _ _).alloc (Nat.le_refl _) _
theorem alloc_size (w : World) (o : Obj) : (w.alloc o).heap.size = w.heap.size + 1 := by simp
theorem below_next {w w1 w2 : World} (h : Below w.heap.size w w1) (k : Below w1.heap.size w1 w2) : Below w.heap.size w w2 := h.trans (k.mono h.size)

/-- A variable, known whole. -/
def VarAt (w : World) (b : Nat) (xs : Array Value) (t : TypeId) : Prop := w.heap[b]? = some (.cells xs t)
theorem VarAt.lt {w : World} {b : Nat} {xs : Array Value} {t : TypeId} (h : VarAt w b xs t) : b < w.heap.size := (Array.getElem?_eq_some_iff.1 h).1
theorem VarAt.cell {w : World} {b : Nat} {xs : Array Value} {t : TypeId} (h : VarAt w b xs t) (k : Nat) : w.cell? ⟨b, k, none⟩ = xs[k]? := by
  rw [cell_of_row w b k _ t (0, 0) h]
theorem VarAt.frozen {w : World} {b : Nat} {xs : Array Value} {t : TypeId} (h : VarAt w b xs t) (k : Nat) : w.frozen? ⟨b, k, none⟩ = false := by
  unfold World.frozen?
  simp only []
  rw [show w.heap[b]? = _ from h]
  simp
theorem VarAt.set {w : World} {b : Nat} {xs : Array Value} {t : TypeId} (h : VarAt w b xs t) (k : Nat) (u : Value) : VarAt (w.setCell ⟨b, k, none⟩ u) b (xs.setIfInBounds k u) t := by
  unfold VarAt World.setCell
  simp only [Array.getElem?_modify, if_true]
  rw [show w.heap[b]? = _ from h]
  rfl
theorem VarAt.below {w w' : World} {b B : Nat} {xs : Array Value} {t : TypeId} (h : VarAt w b xs t) (hb : Below B w w') (hB : b < B) : VarAt w' b xs t := (hb.block b hB).trans h
theorem VarAt.alloc {w : World} {b : Nat} {xs : Array Value} {t : TypeId} (h : VarAt w b xs t) (o : Obj) : VarAt (w.alloc o) b xs t := h.below (box_below w o) h.lt
theorem VarAt.drew {w : World} {b : Nat} {xs : Array Value} {t : TypeId} (h : VarAt w b xs t) : VarAt w.drew b xs t := h
theorem var_new (w : World) (xs : Array Value) (t : TypeId) : VarAt (w.alloc (.cells xs t)) w.heap.size xs t := (MapKept.heap_alloc w _).1

theorem isNaN26 (x : Int) (w : World) : Calls Try.prog 49 #[.int .u64 x] w fun e w' => e = .returned (.bool false) ∧ w = w' := by
  go_enter Try.func49, Try.ntmps49
  go_wp2
  go_ret
  exact ⟨by simp, rfl⟩
theorem isNaN27 (x : Int) (w : World) : Calls Try.prog 50 #[.int .u32 x] w fun e w' => e = .returned (.bool false) ∧ w = w' := by
  go_enter Try.func50, Try.ntmps50
  go_wp2
  go_ret
  exact ⟨by simp, rfl⟩
theorem isNaN28 (x : Int) (w : World) : Calls Try.prog 48 #[.int .u16 x] w fun e w' => e = .returned (.bool false) ∧ w = w' := by
  go_enter Try.func48, Try.ntmps48
  go_wp2
  go_ret
  exact ⟨by simp, rfl⟩

/-- -1, 0 or 1: how two numbers stand. -/
def sgn (x y : Int) : Int := if x < y then -1 else if y < x then 1 else 0
theorem sgn_lt {x y : Int} (h : x < y) : sgn x y = -1 := by simp [sgn, h]
theorem sgn_gt {x y : Int} (h : y < x) : sgn x y = 1 := by unfold sgn; rw [if_neg (by omega), if_pos h]
theorem sgn_eq {x y : Int} (h1 : ¬ x < y) (h2 : ¬ y < x) : sgn x y = 0 := by unfold sgn; rw [if_neg h1, if_neg h2]

theorem cmp20 (x y : Int) (w : World) : Calls Try.prog 46 #[.int .u64 x, .int .u64 y] w fun e w' => e = .returned (.int .i64 (sgn x y)) ∧ w = w' := by
  by_cases h1 : x < y
  · rw [sgn_lt h1]
    go_enter Try.func46, Try.ntmps46
    go_wp2_with (first | (go_at_call 49; refine (isNaN26 _ _).mono ?_; rintro e w' ⟨rfl, rfl⟩))
    go_ret
    exact ⟨rfl, rfl⟩
  · by_cases h2 : y < x
    · rw [sgn_gt h2]
      go_enter Try.func46, Try.ntmps46
      go_wp2_with (first | (go_at_call 49; refine (isNaN26 _ _).mono ?_; rintro e w' ⟨rfl, rfl⟩))
      go_ret
      exact ⟨rfl, rfl⟩
    · rw [sgn_eq h1 h2]
      go_enter Try.func46, Try.ntmps46
      go_wp2_with (first | (go_at_call 49; refine (isNaN26 _ _).mono ?_; rintro e w' ⟨rfl, rfl⟩))
      go_ret
      exact ⟨rfl, rfl⟩
theorem cmp21 (x y : Int) (w : World) : Calls Try.prog 47 #[.int .u32 x, .int .u32 y] w fun e w' => e = .returned (.int .i64 (sgn x y)) ∧ w = w' := by
  by_cases h1 : x < y
  · rw [sgn_lt h1]
    go_enter Try.func47, Try.ntmps47
    go_wp2_with (first | (go_at_call 50; refine (isNaN27 _ _).mono ?_; rintro e w' ⟨rfl, rfl⟩))
    go_ret
    exact ⟨rfl, rfl⟩
  · by_cases h2 : y < x
    · rw [sgn_gt h2]
      go_enter Try.func47, Try.ntmps47
      go_wp2_with (first | (go_at_call 50; refine (isNaN27 _ _).mono ?_; rintro e w' ⟨rfl, rfl⟩))
      go_ret
      exact ⟨rfl, rfl⟩
    · rw [sgn_eq h1 h2]
      go_enter Try.func47, Try.ntmps47
      go_wp2_with (first | (go_at_call 50; refine (isNaN27 _ _).mono ?_; rintro e w' ⟨rfl, rfl⟩))
      go_ret
      exact ⟨rfl, rfl⟩
theorem cmp22 (x y : Int) (w : World) : Calls Try.prog 43 #[.int .u16 x, .int .u16 y] w fun e w' => e = .returned (.int .i64 (sgn x y)) ∧ w = w' := by
  by_cases h1 : x < y
  · rw [sgn_lt h1]
    go_enter Try.func43, Try.ntmps43
    go_wp2_with (first | (go_at_call 48; refine (isNaN28 _ _).mono ?_; rintro e w' ⟨rfl, rfl⟩))
    go_ret
    exact ⟨rfl, rfl⟩
  · by_cases h2 : y < x
    · rw [sgn_gt h2]
      go_enter Try.func43, Try.ntmps43
      go_wp2_with (first | (go_at_call 48; refine (isNaN28 _ _).mono ?_; rintro e w' ⟨rfl, rfl⟩))
      go_ret
      exact ⟨rfl, rfl⟩
    · rw [sgn_eq h1 h2]
      go_enter Try.func43, Try.ntmps43
      go_wp2_with (first | (go_at_call 48; refine (isNaN28 _ _).mono ?_; rintro e w' ⟨rfl, rfl⟩))
      go_ret
      exact ⟨rfl, rfl⟩

/-- The first number of a list that is not 0; 0: there is none. -/
def orL : List Int → Int | [] => 0 | a :: l => if a = 0 then orL l else a
theorem orL_take {l : List Int} : ∀ {k : Nat}, (∀ j, j < k → l[j]? = some 0) → orL l = orL (l.drop k) := by
  induction l with
  | nil => intro k _; simp
  | cons a l ih =>
    intro k h
    cases k with
    | zero => rfl
    | succ k =>
      have h0 := h 0 (by omega)
      simp at h0
      subst h0
      have := ih (k := k) (fun j hj => by simpa using h (j + 1) (by omega))
      simp [orL, this]
theorem orL_at {l : List Int} {k : Nat} {a : Int} (h : ∀ j, j < k → l[j]? = some 0) (hk : l[k]? = some a) (ha : a ≠ 0) : orL l = a := by
  rw [orL_take h]
  obtain ⟨hlt, rfl⟩ := List.getElem?_eq_some_iff.1 hk
  rw [List.drop_eq_getElem_cons hlt]
  simp [orL, ha]
theorem orL_none {l : List Int} (h : ∀ j, j < l.length → l[j]? = some 0) : orL l = 0 := by
  rw [orL_take h]; simp [orL]

theorem or_any (b : Nat) (l : List Int) (cap : Nat) (w : World) (hl : l.length < 1000) (hc : ∀ k a, l[k]? = some a → w.cell? ⟨b, k, none⟩ = some (.int .i64 a)) :
    Calls Try.prog 41 #[.slice (some ⟨b, 0, none⟩) l.length cap] w fun e w' => e = .returned (.int .i64 (orL l)) ∧ w = w' := by
  have HC := Lib.hid hc
  clear hc
  go_enter Try.func41, Try.ntmps41
  go_wp2
  go_loop [8] (fun i => ∃ k : Nat, k ≤ l.length ∧ i = .int .i64 k ∧ ∀ j, j < k → l[j]? = some 0) (fun i => l.length - (intOf i).toNat)
  case atStart => exact ⟨0, Nat.zero_le _, rfl, fun j hj => absurd hj (by omega)⟩
  case round =>
    obtain ⟨k, hk, rfl, hz⟩ := hrel
    have HZ := Lib.hid hz
    clear hz
    by_cases hlt : k < l.length
    · have hi := HC.out k l[k] (List.getElem?_eq_getElem hlt)
      have hg := Lib.hid (List.getElem?_eq_getElem hlt)
      generalize l[k] = a at *
      by_cases ha : a = 0
      · subst ha
        go_wp2
        refine ⟨⟨k + 1, by omega, by go_num, fun j hj => ?_⟩, by simp [intOf]; omega⟩
        by_cases e : j = k
        · rw [e]; exact hg.out
        · exact HZ.out j (by omega)
      · go_wp2
        go_ret
        exact ⟨ret_int (orL_at HZ.out hg.out ha).symm, rfl⟩
    · have hkl : k = l.length := by omega
      subst hkl
      go_wp2
      go_ret
      exact ⟨ret_int (orL_none HZ.out).symm, rfl⟩
end Go.Proofs.Ytidgdanhnpfpmaa
