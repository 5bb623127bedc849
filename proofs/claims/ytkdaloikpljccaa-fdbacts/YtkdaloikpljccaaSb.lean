/- The order of entries: addr.Compare and the closure that All hands to the sort, with the worlds that they leave. -/
import Derived.Test.YtkdaloikpljccaaN
import Derived.Shelf.SlSortCmp.NoneTotal
import Derived.Test.YtkdaloikpljccaaSa
namespace Go.Proofs.Ytkdaloikpljccaa
open Go.RowKit Go.Sort Go.Shelf

/-- Draws and blocks behind a world. -/
def Grown (w w' : World) : Prop := ∃ q os, w' = grow (w.drewN q) os
theorem Grown.refl (w : World) : Grown w w := ⟨0, #[], by simp [World.drewN]⟩
theorem Grown.drew {w w' : World} (h : Grown w w') : Grown w w'.drew := by
  obtain ⟨q, os, rfl⟩ := h
  exact ⟨q + 1, os, rfl⟩
theorem Grown.alloc {w w' : World} (h : Grown w w') (o : Obj) : Grown w (w'.alloc o) := by
  obtain ⟨q, os, rfl⟩ := h
  exact ⟨q, os ++ #[o], by rw [alloc_eq_grow, grow_grow]⟩
theorem Grown.trans {a b c : World} (h : Grown a b) (k : Grown b c) : Grown a c := by
  obtain ⟨q, os, rfl⟩ := h
  obtain ⟨p, os', rfl⟩ := k
  exact ⟨q + p, os ++ os', by simp [grow, World.drewN, Array.append_assoc, Nat.add_assoc]⟩

theorem Grown.below {w w' : World} (h : Grown w w') : Below w.heap.size w w' := by
  obtain ⟨q, os, rfl⟩ := h
  exact below_regrown w (w.drawn + q) os
theorem number_grown (x : Nat → Nat) (hx : ∀ i, x i < 256) (w : World) :
    Calls Try.prog 44 #[macV x] w fun e w' => e = .returned (.int .u64 (pref x 6)) ∧ Grown w w' := by
  go_enter Try.func44, Try.ntmps44
  go_wp2
  have hb : Grown w (w.alloc (.cells #[.int .u8 (x 0), .int .u8 (x 1), .int .u8 (x 2), .int .u8 (x 3), .int .u8 (x 4), .int .u8 (x 5)] 24)) := (Grown.refl _).alloc _
  have HB := Lib.hid hb
  clear hb
  go_loop [3, 5, 7] (fun t b i => ∃ k : Nat, k ≤ 6 ∧ i = .int .i64 k ∧ t = .int .u64 (pref x k)) (fun _ _ i => 6 - (intOf i).toNat)
  case atStart => exact ⟨0, Nat.zero_le _, rfl, rfl⟩
  case round =>
    obtain ⟨k, hk, rfl, rfl⟩ := hrel
    by_cases hlt : k < 6
    · have hi := mac_index x k hlt
      have hxk := hx k
      go_wp2
      refine ⟨⟨k + 1, by omega, by go_num, by rw [pref_or hx hlt]⟩, by simp [intOf]; omega⟩
    · have : k = 6 := by omega
      subst this
      go_wp2
      go_ret
      exact ⟨rfl, HB.out⟩
/-- Two addresses in their boxes. -/
abbrev S2 (a b : Nat) (x y : Nat → Nat) (w' : World) : Prop :=
  w'.cell? ⟨a, 0, none⟩ = some (.int .u8 (x 0)) ∧ w'.cell? ⟨a, 1, none⟩ = some (.int .u8 (x 1)) ∧ w'.cell? ⟨a, 2, none⟩ = some (.int .u8 (x 2)) ∧ w'.cell? ⟨a, 3, none⟩ = some (.int .u8 (x 3)) ∧ w'.cell? ⟨a, 4, none⟩ = some (.int .u8 (x 4)) ∧ w'.cell? ⟨a, 5, none⟩ = some (.int .u8 (x 5)) ∧
      w'.cell? ⟨b, 0, none⟩ = some (.int .u8 (y 0)) ∧ w'.cell? ⟨b, 1, none⟩ = some (.int .u8 (y 1)) ∧ w'.cell? ⟨b, 2, none⟩ = some (.int .u8 (y 2)) ∧ w'.cell? ⟨b, 3, none⟩ = some (.int .u8 (y 3)) ∧ w'.cell? ⟨b, 4, none⟩ = some (.int .u8 (y 4)) ∧ w'.cell? ⟨b, 5, none⟩ = some (.int .u8 (y 5))
theorem S2.of {a b : Nat} {x y : Nat → Nat} {w : World} (ha : At w a x) (hb : At w b y) : S2 a b x y w :=
  ⟨ha 0 (by omega), ha 1 (by omega), ha 2 (by omega), ha 3 (by omega), ha 4 (by omega), ha 5 (by omega), hb 0 (by omega), hb 1 (by omega), hb 2 (by omega), hb 3 (by omega), hb 4 (by omega), hb 5 (by omega)⟩
theorem S2.at {a b : Nat} {x y : Nat → Nat} {w : World} (h : S2 a b x y w) : At w a x ∧ At w b y := by
  obtain ⟨h0, h1, h2, h3, h4, h5, g0, g1, g2, g3, g4, g5⟩ := h
  constructor
  · intro k hk
    rcases (show k = 0 ∨ k = 1 ∨ k = 2 ∨ k = 3 ∨ k = 4 ∨ k = 5 by omega) with rfl | rfl | rfl | rfl | rfl | rfl <;> assumption
  · intro k hk
    rcases (show k = 0 ∨ k = 1 ∨ k = 2 ∨ k = 3 ∨ k = 4 ∨ k = 5 by omega) with rfl | rfl | rfl | rfl | rfl | rfl <;> assumption
theorem S2.grown {a b : Nat} {x y : Nat → Nat} {w w' : World} (h : S2 a b x y w) (hg : Grown w w') : S2 a b x y w' :=
  S2.of (h.at.1.below hg.below h.at.1.lt) (h.at.2.below hg.below h.at.2.lt)

set_option maxHeartbeats 1000000 in
theorem compare_grown (x y : Nat → Nat) (hx : ∀ i, x i < 256) (hy : ∀ i, y i < 256) (w : World) :
    Calls Try.prog 37 #[macV x, macV y] w fun e w' => e = .returned (.int .i64 (sgn (pref x 6) (pref y 6))) ∧ Grown w w' := by
  obtain ⟨ha, hb, _⟩ := box2_at w x y 24 24
  have HG := Lib.hid (((Grown.refl w).alloc (macO x 24)).alloc (macO y 24))
  have kx := fun w' => number_grown x hx w'
  have ky := fun w' => number_grown y hy w'
  have kc := fun w' => cmp_any (pref x 6) (pref y 6) w'
  go_enter Try.func37, Try.ntmps37
  go_wp2_with fail
  generalize (w.alloc (macO x 24)).alloc (macO y 24) = W at *
  have HS0 := Lib.hid (show S2 w.heap.size (w.heap.size + 1) x y W.drew from S2.of ha hb)
  clear ha hb hx hy
  go_region_held (S2 w.heap.size (w.heap.size + 1) x y)
    (first | with_reducible exact HS0.out | with_reducible assumption | (with_reducible refine S2.grown ?_ ‹Grown _ _›; with_reducible assumption))
    (first | (go_at_call 44; first | (with_reducible refine (kx _).mono ?_; rintro e w1 ⟨rfl, hg⟩) | (with_reducible refine (ky _).mono ?_; rintro e w1 ⟨rfl, hg⟩)) | (go_at_call 43; with_reducible refine (kc _).mono ?_; rintro e w1 ⟨rfl, rfl⟩))
  have hall := ((HG.out.drew.trans ‹Grown W.drew _›).trans hg)
  go_wp2
  go_ret
  exact ⟨rfl, hall⟩

/-- The cells of an entry, as the sort's contract has them. -/
def encE (e : Ent) : List Value := (entC e).toList
def cfE (x y : Ent) : Int := sgn (pref (ofN x.n) 6) (pref (ofN y.n) 6)
theorem all_closure (x y : Ent) (W : World) : Calls Try.prog 36 #[entV x, entV y] W fun e w' => e = .returned (.int .i64 (cfE x y)) ∧ Grown W w' := by
  have hG := ((Grown.refl W).alloc (.cells (entC x) 39)).alloc (.cells (entC y) 39)
  have vx := (var_new W (entC x) 39).alloc (.cells (entC y) 39)
  have vy := var_new (W.alloc (.cells (entC x) 39)) (entC y) 39
  rw [alloc_size] at vy
  have kc := fun w' => compare_grown (ofN x.n) (ofN y.n) (ofN_lt x.n) (ofN_lt y.n) w'
  obtain ⟨x0, x1, x2, x3, x4, x5, _⟩ := entCells vx
  obtain ⟨y0, y1, y2, y3, y4, y5, _⟩ := entCells vy
  have HG := Lib.hid hG
  clear hG vx vy
  unfold cfE
  go_enter Try.func36, Try.ntmps36
  go_wp2_with fail
  refine (kc _).mono ?_
  rintro e w1 ⟨rfl, hg⟩
  have hall := HG.out.trans hg
  clear hg kc
  go_wp2
  go_ret
  exact ⟨rfl, hall⟩
theorem all_lays (blk off size : Nat) (w : World) : CmpLays Try.prog 36 #[] encE 10 cfE blk off size w := fun _ _ _ _ x y => all_closure x y _
theorem ltE (x y : Ent) : ltOf cfE x y = decide (pref (ofN x.n) 6 < pref (ofN y.n) 6) := by
  unfold ltOf cfE sgn
  by_cases h1 : (pref (ofN x.n) 6 : Int) < pref (ofN y.n) 6
  · rw [if_pos h1]
    have : pref (ofN x.n) 6 < pref (ofN y.n) 6 := by omega
    simp [this]
  · rw [if_neg h1]
    have : ¬ pref (ofN x.n) 6 < pref (ofN y.n) 6 := by omega
    by_cases h2 : (pref (ofN y.n) 6 : Int) < pref (ofN x.n) 6 <;> simp [h2, this]
theorem swoE : SWO (ltOf cfE) where
  irrefl x := by rw [ltE]; simp
  trans x y z h1 h2 := by rw [ltE] at *; simp at *; omega
  ntrans x y z h1 h2 := by rw [ltE] at *; simp at *; omega
theorem isAgg39 (w : World) : (isAgg 39).run Try.prog w = .ok true w := by kernel_rfl
theorem sizeOf39 (w : World) : (Go.sizeOf 39).run Try.prog w = .ok 10 w := by kernel_rfl
theorem e36 : ∀ args w, (callFunc 36 args).run Try.prog w = .ok (.enter 36 args) w := enters_of Try.func36 (by kernel_rfl) rfl
/-- THE SORT: a permutation of what the row held, by rising numbers. -/
theorem sort_any (blk off cap : Nat) (d : Array Ent) (w : World) (hH : HoldsK encE 10 w blk off d) (hblk : blk < w.heap.size) (hsz : d.size < 4611686018427387904) :
    Calls Try.prog 35 #[.slice (some ⟨blk, off, none⟩) d.size cap, .func (.func 36) #[] #[]] w fun e w' =>
      e = .returned (.tuple #[]) ∧ ∃ d' n os, PermIn 0 d.size d d' ∧ SortedIn (ltOf cfE) 0 d.size d' ∧ w' = sortWorldK encE 10 w blk off n d' os :=
  AnyQ.slices_SortFunc sortLay 10 isAgg39 sizeOf39 encE (fun _ => rfl) (fun x v hv => by simp [encE] at hv; rcases hv with rfl | rfl | rfl | rfl | rfl | rfl | rfl | rfl | rfl | rfl <;> rfl) cfE swoE 36 #[] blk off cap d w e36 (all_lays blk off d.size w) hH hblk hsz
theorem sort_none (p : Option Addr) (cap : Nat) (fv : Value) (w : World) : Calls Try.prog 35 #[.slice p 0 cap, fv] w fun e w' => e = .returned (.tuple #[]) ∧ w' = w :=
  AnyF.slices_SortFunc_none sortLay p cap fv w
end Go.Proofs.Ytkdaloikpljccaa
