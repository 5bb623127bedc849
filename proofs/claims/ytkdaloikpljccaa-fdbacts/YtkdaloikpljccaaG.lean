/- Contract of Find. -/
import Derived.Test.YtkdaloikpljccaaF
namespace Go.Proofs.Ytkdaloikpljccaa
open Go.RowKit Go.Sort Go.Maps
variable {w w' : World} {tb b : Nat} {most : Int} {E : Nat → Option Ent} {l : List Ent}

abbrev noEnt : Value := .agg #[.int .u8 0, .int .u8 0, .int .u8 0, .int .u8 0, .int .u8 0, .int .u8 0, .int .i64 0, .int .u32 0, .int .i64 0, .bool false]
def foundV (o : Option Ent) : Value := match o with | some e => .tuple #[entV e, .bool true] | none => .tuple #[noEnt, .bool false]
theorem below_set10 {B b : Nat} {a w : World} (h : Below B a w) (hb : B ≤ b) (v0 v1 v2 v3 v4 v5 v6 v7 v8 v9 : Value) :
    Below B a ((((((((((w.setCell ⟨b, 0, none⟩ v0).setCell ⟨b, 1, none⟩ v1).setCell ⟨b, 2, none⟩ v2).setCell ⟨b, 3, none⟩ v3).setCell ⟨b, 4, none⟩ v4).setCell ⟨b, 5, none⟩ v5).setCell ⟨b, 6, none⟩ v6).setCell ⟨b, 7, none⟩ v7).setCell ⟨b, 8, none⟩ v8).setCell ⟨b, 9, none⟩ v9) :=
  (((((((((h.setCell hb _).setCell hb _).setCell hb _).setCell hb _).setCell hb _).setCell hb _).setCell hb _).setCell hb _).setCell hb _).setCell hb _
abbrev noC : Array Value := #[.int .u8 0, .int .u8 0, .int .u8 0, .int .u8 0, .int .u8 0, .int .u8 0, .int .i64 0, .int .u32 0, .int .i64 0, .bool false]
theorem find_any (h : Tab w tb b most E l) {n : Nat} (hn : n < 281474976710656) :
    Calls Try.prog 10 #[.pointer (some ⟨tb, 0, none⟩), macN n] w fun e w' => e = .returned (foundV (fnd l n)) ∧ Below w.heap.size w w' := by
  have hb := (box_below w (macO (ofN n) 24)).alloc (by simp) (.cells noC 39)
  have h1 := h.below hb
  obtain ⟨c0, c1, c2, c3, c4, c5⟩ := ((box_at w (ofN n) 24).below (box_below _ (.cells noC 39)) (by simp)).n
  have r1 := h1.row.cell 1
  have HB := Lib.hid hb
  rcases h1.look hn with ⟨q, e, hq, he, rfl, hl⟩ | ⟨hno, hl⟩
  · rw [fnd_some h.up he]
    have k0 := (h1.ents q e hq).cell 0
    have k1 := (h1.ents q e hq).cell 1
    have k2 := (h1.ents q e hq).cell 2
    have k3 := (h1.ents q e hq).cell 3
    have k4 := (h1.ents q e hq).cell 4
    have k5 := (h1.ents q e hq).cell 5
    have k6 := (h1.ents q e hq).cell 6
    have k7 := (h1.ents q e hq).cell 7
    have k8 := (h1.ents q e hq).cell 8
    have k9 := (h1.ents q e hq).cell 9
    simp at r1 k0 k1 k2 k3 k4 k5 k6 k7 k8 k9
    have hl' : ∀ k, _ := fun k => hl (((w.alloc (macO (ofN e.n) 24)).alloc (.cells noC 39)).drewN k) rfl
    simp only [macN, macV] at hl'
    clear hb hl h h1 he hn hq
    go_enter Try.func10, Try.ntmps10
    go_wp2
    go_quiet (fail)
    go_wp2
    go_returns
    exact ⟨rfl, below_set10 (below_dn HB.out) (by omega) _ _ _ _ _ _ _ _ _ _⟩
  · rw [fnd_none hno]
    simp at r1
    have hl' : ∀ k, _ := fun k => hl (((w.alloc (macO (ofN n) 24)).alloc (.cells noC 39)).drewN k) rfl
    simp only [macN, macV] at hl'
    clear hb hl h h1 hno hn
    go_enter Try.func10, Try.ntmps10
    go_wp2
    go_quiet (fail)
    go_wp2
    go_returns
    exact ⟨rfl, below_set10 (below_dn HB.out) (by omega) _ _ _ _ _ _ _ _ _ _⟩
theorem find_nil (n : Nat) (w : World) :
    Calls Try.prog 10 #[.pointer none, macN n] w fun e w' => e = .returned (foundV none) ∧ Below w.heap.size w w' := by
  have hb := ((box_below w (macO (ofN n) 24)).alloc (by simp) (.cells #[.int .u8 0, .int .u8 0, .int .u8 0, .int .u8 0, .int .u8 0, .int .u8 0, .int .i64 0, .int .u32 0, .int .i64 0, .bool false] 39))
  have HB := Lib.hid hb
  clear hb
  go_enter Try.func10, Try.ntmps10
  go_wp2
  go_returns
  exact ⟨rfl, HB.out⟩
end Go.Proofs.Ytkdaloikpljccaa
