/- Contracts of what reads a table: isStatic, hasRoom, Find, Len. -/
import Derived.Test.YtkdaloikpljccaaE
namespace Go.Proofs.Ytkdaloikpljccaa
open Go.RowKit Go.Sort Go.Maps

/-- The entry of an address. -/
def fnd (l : List Ent) (n : Nat) : Option Ent := l.find? fun e => e.n == n
def has (l : List Ent) (n : Nat) : Bool := (fnd l n).isSome
def stat (l : List Ent) (n : Nat) : Bool := match fnd l n with | some e => e.st | none => false
theorem fnd_some {l : List Ent} (h : Up l) {e : Ent} (he : e ∈ l) : fnd l e.n = some e := by
  unfold fnd
  cases hf : l.find? (fun x => x.n == e.n) with
  | none =>
    have := List.find?_eq_none.1 hf e he
    simp at this
  | some x =>
    have h1 := List.find?_some hf
    have h2 := List.mem_of_find?_eq_some hf
    simp at h1
    rw [h.one h2 he h1]
theorem fnd_none {l : List Ent} {n : Nat} (h : ∀ e ∈ l, e.n ≠ n) : fnd l n = none := by
  unfold fnd
  rw [List.find?_eq_none]
  intro e he
  simpa using h e he

variable {w w' : World} {tb b : Nat} {most : Int} {E : Nat → Option Ent} {l : List Ent}
theorem At.n {w : World} {b n : Nat} (h : At w b (ofN n)) : w.cell? ⟨b, 0, none⟩ = some (.int .u8 (ofN n 0 : Nat)) ∧ w.cell? ⟨b, 1, none⟩ = some (.int .u8 (ofN n 1 : Nat)) ∧ w.cell? ⟨b, 2, none⟩ = some (.int .u8 (ofN n 2 : Nat)) ∧ w.cell? ⟨b, 3, none⟩ = some (.int .u8 (ofN n 3 : Nat)) ∧ w.cell? ⟨b, 4, none⟩ = some (.int .u8 (ofN n 4 : Nat)) ∧ w.cell? ⟨b, 5, none⟩ = some (.int .u8 (ofN n 5 : Nat)) :=
  ⟨h 0 (by omega), h 1 (by omega), h 2 (by omega), h 3 (by omega), h 4 (by omega), h 5 (by omega)⟩

theorem Tab.len (h : Tab w tb b most E l) (w' : World) (hw : w'.heap[b]? = w.heap[b]?) (ty : TypeId) : (Builtin.len_ #[49] ty #[.map (some b)]).run Try.prog w' = .ok (.int .i64 (l.length : Nat)) w' := by
  obtain ⟨es, hown, hs⟩ := h.owns
  have h1 := (own_block hown hw).len und49 ty
  obtain ⟨es', he, hp⟩ := hown.tidy law24
  cases he
  rw [h1, Maps.size_eq, hs.same_length h.up hp]

theorem below_dn {B n : Nat} {a w : World} (h : Below B a w) : Below B a (w.drewN n) := ⟨h.os, h.tape, h.output, h.size, h.block⟩
theorem isStatic_any (h : Tab w tb b most E l) {n : Nat} (hn : n < 281474976710656) :
    Calls Try.prog 29 #[.pointer (some ⟨tb, 0, none⟩), macN n] w fun e w' => e = .returned (.bool (stat l n)) ∧ Below w.heap.size w w' := by
  have hb := box_below w (macO (ofN n) 24)
  have h1 := h.below hb
  obtain ⟨c0, c1, c2, c3, c4, c5⟩ := (box_at w (ofN n) 24).n
  have r1 := h1.row.cell 1
  have HB := Lib.hid hb
  rcases h1.look hn with ⟨q, e, hq, he, rfl, hl⟩ | ⟨hno, hl⟩
  · have hs : stat l e.n = e.st := by unfold stat; rw [fnd_some h.up he]
    rw [hs]
    have s9 := (h1.ents q e hq).cell 9
    simp at r1 s9
    have hl' : ∀ k, _ := fun k => hl ((w.alloc (macO (ofN e.n) 24)).drewN k) rfl
    simp only [macN, macV] at hl'
    clear hb hl h h1 hs he hn hq
    go_enter Try.func29, Try.ntmps29
    go_wp2
    go_quiet (fail)
    go_wp2
    go_ret
    exact ⟨rfl, below_dn HB.out⟩
  · have hs : stat l n = false := by unfold stat; rw [fnd_none hno]
    rw [hs]
    simp at r1
    have hl' : ∀ k, _ := fun k => hl ((w.alloc (macO (ofN n) 24)).drewN k) rfl
    simp only [macN, macV] at hl'
    clear hb hl h h1 hs hno hn
    go_enter Try.func29, Try.ntmps29
    go_wp2
    go_quiet (fail)
    go_wp2
    go_ret
    exact ⟨rfl, below_dn HB.out⟩

theorem hasRoom_any (h : Tab w tb b most E l) {n : Nat} (hn : n < 281474976710656) :
    Calls Try.prog 30 #[.pointer (some ⟨tb, 0, none⟩), macN n] w fun e w' => e = .returned (.bool (has l n || decide ((l.length : Int) < most))) ∧ Below w.heap.size w w' := by
  have hb := box_below w (macO (ofN n) 24)
  have h1 := h.below hb
  obtain ⟨c0, c1, c2, c3, c4, c5⟩ := (box_at w (ofN n) 24).n
  have r0 := h1.row.cell 0
  have r1 := h1.row.cell 1
  simp at r0 r1
  have HB := Lib.hid hb
  rcases h1.look hn with ⟨q, e, hq, he, rfl, hl⟩ | ⟨hno, hl⟩
  · have hs : has l e.n = true := by unfold has; rw [fnd_some h.up he]; rfl
    rw [hs, Bool.true_or]
    have hl' : ∀ k, _ := fun k => hl ((w.alloc (macO (ofN e.n) 24)).drewN k) rfl
    simp only [macN, macV] at hl'
    clear hb hl h h1 hs he hn hq
    go_enter Try.func30, Try.ntmps30
    go_wp2
    go_quiet (fail)
    go_wp2
    go_quiet (fail)
    go_wp2
    go_ret
    exact ⟨rfl, below_dn (below_dn HB.out)⟩
  · have hs : has l n = false := by unfold has; rw [fnd_none hno]; rfl
    rw [hs, Bool.false_or]
    have hl' : ∀ k, _ := fun k => hl ((w.alloc (macO (ofN n) 24)).drewN k) rfl
    have hn' : ∀ k ty, _ := fun k ty => h1.len ((w.alloc (macO (ofN n) 24)).drewN k) rfl ty
    simp only [macN, macV] at hl' hn'
    clear hb hl h h1 hs hno hn
    go_enter Try.func30, Try.ntmps30
    go_wp2
    go_quiet (fail)
    go_wp2
    go_quiet (fail)
    go_wp2
    go_ret
    exact ⟨rfl, below_dn (below_dn HB.out)⟩

theorem len_any (h : Tab w tb b most E l) : Calls Try.prog 16 #[.pointer (some ⟨tb, 0, none⟩)] w fun e w' => e = .returned (.int .i64 (l.length : Nat)) ∧ w = w' := by
  have r1 := h.row.cell 1
  simp at r1
  have hn' : ∀ ty, _ := fun ty => h.len w rfl ty
  clear h
  go_enter Try.func16, Try.ntmps16
  go_wp2
  go_ret
  exact ⟨rfl, rfl⟩
theorem len_nil (w : World) : Calls Try.prog 16 #[.pointer none] w fun e w' => e = .returned (.int .i64 0) ∧ w = w' := by
  go_enter Try.func16, Try.ntmps16
  go_wp2
  go_ret
  exact ⟨rfl, rfl⟩
end Go.Proofs.Ytkdaloikpljccaa
