/- Entries of layer 10, variables known whole, what may turn (Off), and a table in memory (Tab): a map from addresses to blocks of entries, which reads as a list by rising numbers. -/
import Derived.Test.YtkdaloikpljccaaL
import Derived.Maps.RangeWalk
import Derived.Maps.Ext
import Derived.Maps.OwnSet
import Derived.DeepKeys4
import Derived.Deep.RegionLaw
import Derived.MapKept
import Derived.Deep.RegionWith
import Derived.Deep.RegionHeld
namespace Go.Proofs.Ytkdaloikpljccaa
open Go.RowKit Go.Sort Go.Maps

/-- A variable, known whole. -/
def VarAt (w : World) (b : Nat) (xs : Array Value) (t : TypeId) : Prop := w.heap[b]? = some (.cells xs t)
theorem VarAt.lt {w : World} {b : Nat} {xs : Array Value} {t : TypeId} (h : VarAt w b xs t) : b < w.heap.size := (Array.getElem?_eq_some_iff.1 h).1
theorem VarAt.cell {w : World} {b : Nat} {xs : Array Value} {t : TypeId} (h : VarAt w b xs t) (k : Nat) : w.cell? ⟨b, k, none⟩ = xs[k]? := by
  rw [cell_of_row w b k _ t (0, 0) h]
theorem VarAt.frozen {w : World} {b : Nat} {xs : Array Value} {t : TypeId} (h : VarAt w b xs t) (k : Nat) : w.frozen? ⟨b, k, none⟩ = false := by
  unfold World.frozen?
  simp only []
  rw [show w.heap[b]? = _ from h]
  simp
theorem VarAt.set {w : World} {b : Nat} {xs : Array Value} {t : TypeId} (h : VarAt w b xs t) (k : Nat) (u : Value) : VarAt (w.setCell ⟨b, k, none⟩ u) b (xs.setIfInBounds k u) t := by
  unfold VarAt World.setCell
  simp only [Array.getElem?_modify, if_true]
  rw [show w.heap[b]? = _ from h]
  rfl
theorem VarAt.below {w w' : World} {b B : Nat} {xs : Array Value} {t : TypeId} (h : VarAt w b xs t) (hb : Below B w w') (hB : b < B) : VarAt w' b xs t := (hb.block b hB).trans h
theorem VarAt.alloc {w : World} {b : Nat} {xs : Array Value} {t : TypeId} (h : VarAt w b xs t) (o : Obj) : VarAt (w.alloc o) b xs t := h.below (box_below w o) h.lt
theorem VarAt.drew {w : World} {b : Nat} {xs : Array Value} {t : TypeId} (h : VarAt w b xs t) : VarAt w.drew b xs t := h
theorem var_new (w : World) (xs : Array Value) (t : TypeId) : VarAt (w.alloc (.cells xs t)) w.heap.size xs t := (MapKept.heap_alloc w _).1
theorem var_ne {w : World} {b c : Nat} {xs ys : Array Value} {t s : TypeId} (h : VarAt w b xs t) (k : VarAt w c ys s) (hn : t ≠ s) : b ≠ c := fun e => by
  subst e
  unfold VarAt at h k
  rw [h] at k
  simp at k
  exact hn k.2

/-- What may turn: the blocks of F, and what is new. -/
structure Off (F : Nat → Prop) (w w' : World) : Prop where
  os : w'.os = w.os
  tape : w'.tape = w.tape
  output : w'.output = w.output
  size : w.heap.size ≤ w'.heap.size
  block : ∀ k, k < w.heap.size → ¬ F k → w'.heap[k]? = w.heap[k]?
theorem Off.refl (F : Nat → Prop) (w : World) : Off F w w := ⟨rfl, rfl, rfl, Nat.le_refl _, fun _ _ _ => rfl⟩
theorem Off.trans {F G : Nat → Prop} {a b c : World} (h : Off F a b) (k : Off G b c) (hg : ∀ i, i < a.heap.size → G i → F i) : Off F a c :=
  ⟨k.os.trans h.os, k.tape.trans h.tape, k.output.trans h.output, Nat.le_trans h.size k.size, fun i hi hf => (k.block i (Nat.lt_of_lt_of_le hi h.size) (fun hgi => hf (hg i hi hgi))).trans (h.block i hi hf)⟩
theorem Off.mono {F G : Nat → Prop} {a b : World} (h : Off F a b) (hg : ∀ i, i < a.heap.size → F i → G i) : Off G a b := ⟨h.os, h.tape, h.output, h.size, fun i hi hf => h.block i hi (fun x => hf (hg i hi x))⟩
theorem Below.off {w w' : World} (h : Below w.heap.size w w') (F : Nat → Prop) : Off F w w' := ⟨h.os, h.tape, h.output, h.size, fun k hk _ => h.block k hk⟩
theorem Off.below {F : Nat → Prop} {w w' : World} {B : Nat} (h : Off F w w') (hB : B ≤ w.heap.size) (hf : ∀ k, k < B → ¬ F k) : Below B w w' := ⟨h.os, h.tape, h.output, h.size, fun k hk => h.block k (by omega) (hf k hk)⟩
theorem Off.var {F : Nat → Prop} {w w' : World} {b : Nat} {xs : Array Value} {t : TypeId} (h : VarAt w b xs t) (ho : Off F w w') (hf : ¬ F b) : VarAt w' b xs t := (ho.block b h.lt hf).trans h
theorem off_grown {w w' : World} {b : Nat} (h : w.grownBy w' (some b)) : Off (fun k => k = b) w w' := ⟨h.os, h.tape, h.output, h.size, fun k hk hf => h.block k hk (fun e => hf (by cases e; rfl))⟩
theorem Off.grown {w w' : World} {b : Nat} (h : Off (fun k => k = b) w w') : w.grownBy w' (some b) := ⟨h.os, h.tape, h.output, h.size, fun k hk hf => h.block k hk (fun e => hf (by rw [e]))⟩
theorem below_of_grown {w w' : World} (h : w.grownBy w' none) : Below w.heap.size w w' := ⟨h.os, h.tape, h.output, h.size, fun k hk => h.block k hk (by simp)⟩
theorem grown_of_below {w w' : World} (h : Below w.heap.size w w') : w.grownBy w' none := ⟨h.os, h.tape, h.output, h.size, fun k hk _ => h.block k hk⟩

/-- An entry: its address' number, its port, its ports, its age, whether it is static. -/
structure Ent where
  n : Nat
  port : Int
  ports : Int
  age : Int
  st : Bool
instance : Inhabited Ent := ⟨⟨0, 0, 0, 0, false⟩⟩
abbrev macN (n : Nat) : Value := macV (ofN n)
abbrev entC (e : Ent) : Array Value := #[.int .u8 (ofN e.n 0), .int .u8 (ofN e.n 1), .int .u8 (ofN e.n 2), .int .u8 (ofN e.n 3), .int .u8 (ofN e.n 4), .int .u8 (ofN e.n 5), .int .i64 e.port, .int .u32 e.ports, .int .i64 e.age, .bool e.st]
abbrev entV (e : Ent) : Value := .agg (entC e)

theorem laidOut : laidOutB Try.prog = true := by kernel_rfl
theorem row24 : (24 : TypeId) < Try.prog.types.size := of_decide_eq_true (by kernel_rfl)
theorem wide24 : (match Try.prog.underlying 24 with | some (.array _ _) | some (.struct _) => true | _ => false) = true := by kernel_rfl
theorem law24 : Keyed Try.prog 24 := Keyed.of_law (deep_law_laid laidOut (m := 2) (by omega) row24 (by kernel_rfl) wide24)
theorem und49 : Try.prog.underlying 49 = some (.map 24 59) := by kernel_rfl
theorem ofN_byte (n i : Nat) : (Lit.int .u8 (ofN n i : Nat)).wf = true := by
  have := ofN_lt n i
  have e1 : IntKind.min .u8 = 0 := rfl
  have e2 : IntKind.max .u8 = 255 := rfl
  simp only [Lit.wf, e1, e2, Bool.and_eq_true, decide_eq_true_eq]
  omega
theorem key24 (n : Nat) : ∃ kl, keyOf Try.prog 24 (macN n) = some kl := by
  obtain ⟨k, hk⟩ : ∃ k, Try.prog.types.size = k + 1 := ⟨Try.prog.types.size - 1, (Nat.sub_add_cancel (Nat.lt_of_le_of_lt (Nat.zero_le _) row24)).symm⟩
  have h1 : ∀ i, Try.prog.keyLits (k + 1) 5 [.int .u8 (ofN n i : Nat)] = some [.int .u8 (ofN n i : Nat)] := fun i => by
    unfold Program.keyLits
    rw [u5]
    simp [ofN_byte]
  have h2 : Try.prog.keyLits (k + 1 + 1) 24 (macN n).cells.toList = some [.int .u8 (ofN n 0 : Nat), .int .u8 (ofN n 1 : Nat), .int .u8 (ofN n 2 : Nat), .int .u8 (ofN n 3 : Nat), .int .u8 (ofN n 4 : Nat), .int .u8 (ofN n 5 : Nat)] := by
    unfold Program.keyLits
    rw [u23]
    have e6 : Try.prog.cellsOf 24 = 6 := by kernel_rfl
    simp [Value.cells, e6, c5, List.range_succ, h1]
  have h3 : Try.prog.keyType 24 = true := by kernel_rfl
  have h4 : Value.formed Try.prog 24 (macN n) = true := by
    have e6 : Try.prog.cellsOf 24 = 6 := by kernel_rfl
    simp [Value.formed, e6]
  unfold keyOf
  rw [u23, hk]
  simp only [h3, h4, Bool.and_self, if_true, h2]
  exact ⟨_, rfl⟩
noncomputable def lk (n : Nat) : Lit := (keyOf Try.prog 24 (macN n)).getD .nil
theorem lk_key (n : Nat) : keyOf Try.prog 24 (macN n) = some (lk n) := by
  obtain ⟨kl, h⟩ := key24 n
  unfold lk
  rw [h]
  rfl
theorem macN_inj {n m : Nat} (hn : n < 281474976710656) (hm : m < 281474976710656) (h : macN n = macN m) : n = m := by
  have e : ∀ i, i < 6 → ofN n i = ofN m i := by
    simp at h
    obtain ⟨h0, h1, h2, h3, h4, h5⟩ := h
    intro i hi
    rcases (show i = 0 ∨ i = 1 ∨ i = 2 ∨ i = 3 ∨ i = 4 ∨ i = 5 by omega) with rfl | rfl | rfl | rfl | rfl | rfl <;> omega
  have e1 := pref_ofN n
  have e2 := pref_ofN m
  rw [pref6] at e1 e2
  rw [e 0 (by omega), e 1 (by omega), e 2 (by omega), e 3 (by omega), e 4 (by omega), e 5 (by omega)] at e1
  omega
theorem lk_inj {n m : Nat} (hn : n < 281474976710656) (hm : m < 281474976710656) (h : lk n = lk m) : n = m :=
  macN_inj hn hm (law24.inj (lk_key n) (h ▸ lk_key m))
end Go.Proofs.Ytkdaloikpljccaa
