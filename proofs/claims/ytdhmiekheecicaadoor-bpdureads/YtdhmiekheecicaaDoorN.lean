/- A reading under way; the contracts of the Reader's methods in it, for both ways each may go. -/
import Derived.Test.YtdhmiekheecicaaDoorL
namespace Go.Proofs.YtdhmiekheecicaaDoor
open Go.RowKit Go.Sort

/-- All blocks but one are as they were. -/
structure Kept (b : Nat) (w w' : World) : Prop where
  os : w'.os = w.os
  tape : w'.tape = w.tape
  output : w'.output = w.output
  size : w.heap.size ≤ w'.heap.size
  block : ∀ k, k < w.heap.size → k ≠ b → w'.heap[k]? = w.heap[k]?
theorem Kept.refl (b : Nat) (w : World) : Kept b w w := ⟨rfl, rfl, rfl, Nat.le_refl _, fun _ _ _ => rfl⟩
theorem kept_of_below {b : Nat} {w w' : World} (h : Below w.heap.size w w') : Kept b w w' := ⟨h.os, h.tape, h.output, h.size, fun k hk _ => h.block k hk⟩
theorem Kept.below {b : Nat} {w w' : World} (h : Kept b w w') (hb : b ≤ w.heap.size) : Below b w w' := ⟨h.os, h.tape, h.output, h.size, fun k hk => h.block k (by omega) (by omega)⟩
theorem Kept.trans {b : Nat} {w w1 w2 : World} (h : Kept b w w1) (k : Kept b w1 w2) : Kept b w w2 :=
  ⟨k.os.trans h.os, k.tape.trans h.tape, k.output.trans h.output, Nat.le_trans h.size k.size, fun j hj hne => (k.block j (Nat.lt_of_lt_of_le hj h.size) hne).trans (h.block j hj hne)⟩
theorem Kept.set {b : Nat} {w w' : World} (h : Kept b w w') {a : Addr} (ha : w.heap.size ≤ a.block ∨ a.block = b) (u : Value) : Kept b w (w'.setCell a u) :=
  ⟨h.os, h.tape, h.output, by simpa [World.setCell] using h.size, fun k hk hne => by rw [Below.heap_setCell _ _ _ _ (by omega)]; exact h.block k hk hne⟩
theorem kept_of_adv {b : Nat} {w w' : World} {v : Value} (h : Adv b w v w') : Kept b w w' := by
  obtain ⟨w2, h1, rfl⟩ := h
  exact (kept_of_below (b := b) h1).set (a := ⟨b, 0, none⟩) (.inr rfl) v
theorem VarAt.kept {w w' : World} {k b : Nat} {xs : Array Value} {t : TypeId} (h : VarAt w k xs t) (hk : Kept b w w') (hne : k ≠ b) : VarAt w' k xs t := (hk.block k h.lt hne).trans h
theorem setCell_size (w : World) (a : Addr) (u : Value) : (w.setCell a u).heap.size = w.heap.size := by simp [World.setCell]

/-- A reading that was stopped with a number. -/
def Stops (b s : Nat) (w : World) (x : Int) (e : Ending) (w' : World) : Prop := e = stopped s ∧ ∃ w2, Below b w w2 ∧ w' = w2.setCell ⟨s, 0, none⟩ (.int .i64 x)
/-- A reading under way: l is left. -/
structure St (b s : Nat) (w0 : World) (l : List UInt8) (v : Value) (w : World) : Prop where
  rd : RdAt w b v s
  bts : Bts w b v l
  stop : OneAt w s (.int .i64 0) 63
  kept : Kept b w0 w
  lt : b < w0.heap.size
  slt : s < b
  len : l.length ≤ 10000
theorem St.below {b s : Nat} {w0 w : World} {l : List UInt8} {v : Value} (h : St b s w0 l v w) : Below b w0 w := h.kept.below (Nat.le_of_lt h.lt)
theorem St.grown {b s : Nat} {w0 w w' : World} {l : List UInt8} {v : Value} (h : St b s w0 l v w) (hb : Below w.heap.size w w') : St b s w0 l v w' :=
  ⟨h.rd.below hb h.rd.lt, h.bts.below hb (Nat.le_of_lt h.rd.lt), h.stop.below hb h.stop.lt, h.kept.trans (kept_of_below hb), h.lt, h.slt, h.len⟩
theorem St.alloc {b s : Nat} {w0 w : World} {l : List UInt8} {v : Value} (h : St b s w0 l v w) (o : Obj) : St b s w0 l v (w.alloc o) := h.grown (box_below _ _)
theorem St.set {b s : Nat} {w0 w : World} {l : List UInt8} {v : Value} (h : St b s w0 l v w) {g : Nat} (hg : w0.heap.size ≤ g) (j : Nat) (u : Value) : St b s w0 l v (w.setCell ⟨g, j, none⟩ u) :=
  have h1 := h.lt
  have h2 := h.slt
  ⟨h.rd.set_other (a := ⟨g, j, none⟩) (by show b ≠ g; omega) u, h.bts.below ((Below.refl b w).setCell (p := ⟨g, j, none⟩) (by show b ≤ g; omega) u) (Nat.le_refl _), h.stop.set_other (a := ⟨g, j, none⟩) (by show s ≠ g; omega) u,
    h.kept.set (a := ⟨g, j, none⟩) (.inl hg) u, h.lt, h.slt, h.len⟩
theorem St.stops {b s : Nat} {w0 w w' : World} {l : List UInt8} {v : Value} {x : Int} {e : Ending} (h : St b s w0 l v w) (he : e = stopped s ∧ w' = w.setCell ⟨s, 0, none⟩ (.int .i64 x)) : Stops b s w0 x e w' := ⟨he.1, w, h.below, he.2⟩

theorem St.num {b s : Nat} {w0 w : World} {l : List UInt8} {v : Value} (h : St b s w0 l v w) (n : Nat) (hn : n ≤ 8) :
    Calls Tryd.prog 37 #[ptr b, .int .i64 n] w fun e w' => (n ≤ l.length ∧ ∃ v', e = .returned (.int .u64 (numOf (l.take n))) ∧ St b s w0 (l.drop n) v' w' ∧ Kept b w w') ∨ (l.length < n ∧ Stops b s w0 2 e w') := by
  have hl := h.len
  have h1 := h.lt
  have h2 := h.kept.size
  have h3 := h.slt
  by_cases hc : n ≤ l.length
  · refine (number_ok b s v l n w h.rd h.bts hc hn (by omega)).mono ?_
    rintro e w' ⟨v2, rfl, hb, rd, bt, -, adv⟩
    have k := kept_of_adv adv
    exact .inl ⟨hc, v2, rfl, ⟨rd, bt, h.stop.kept k (by omega), h.kept.trans k, h.lt, h.slt, by rw [List.length_drop]; omega⟩, k⟩
  · exact (number_cut b s v l n 0 w h.rd h.bts (by omega) (by omega) h.stop h.slt).mono fun e w' hs => .inr ⟨by omega, h.stops hs⟩
theorem St.byts {b s : Nat} {w0 w : World} {l : List UInt8} {v : Value} (h : St b s w0 l v w) (n : Nat) :
    Calls Tryd.prog 30 #[ptr b, .int .i64 n] w fun e w' => (n ≤ l.length ∧ ∃ x v', e = .returned x ∧ St b s w0 (l.drop n) v' w' ∧ Kept b w w') ∨ (l.length < n ∧ Stops b s w0 2 e w') := by
  have hl := h.len
  have h1 := h.lt
  have h2 := h.kept.size
  have h3 := h.slt
  by_cases hc : n ≤ l.length
  · refine (bytes_ok b s v l n w h.rd h.bts hc (by omega)).mono ?_
    rintro e w' ⟨x, v2, rfl, hb, rd, bt, -, -, adv⟩
    have k := kept_of_adv adv
    exact .inl ⟨hc, x, v2, rfl, ⟨rd, bt, h.stop.kept k (by omega), h.kept.trans k, h.lt, h.slt, by rw [List.length_drop]; omega⟩, k⟩
  · exact (bytes_cut b s v l n 0 w h.rd h.bts (by omega) (by omega) h.stop h.slt).mono fun e w' hs => .inr ⟨by omega, h.stops hs⟩
theorem St.halt {b s : Nat} {w0 w : World} {l : List UInt8} {v : Value} (h : St b s w0 l v w) (x : Int) : Calls Tryd.prog 31 #[ptr b, .int .i64 x] w (Stops b s w0 x) :=
  (stop_any b s v x 0 w h.rd h.stop h.slt).mono fun _ _ hs => h.stops hs
theorem St.left {b s : Nat} {w0 w : World} {l : List UInt8} {v : Value} (h : St b s w0 l v w) : Calls Tryd.prog 35 #[ptr b] w fun e w' => e = .returned (.int .i64 l.length) ∧ w = w' := left_any b s v l b w h.rd h.bts
set_option maxHeartbeats 1000000 in
theorem St.is {b s : Nat} {w0 w : World} {l : List UInt8} {v : Value} (h : St b s w0 l v w) (n : Nat) (hn : n ≤ 8) (hl : n ≤ l.length) (x : Int) :
    Calls Tryd.prog 36 #[ptr b, .int .i64 n, .int .u64 0, .int .i64 x] w fun e w' => (numOf (l.take n) = 0 ∧ ∃ v', e = .returned (.tuple #[]) ∧ St b s w0 (l.drop n) v' w') ∨ (numOf (l.take n) ≠ 0 ∧ Stops b s w0 x e w') := by
  have c := h.num n hn
  clear h
  go_enter Tryd.func36, Tryd.ntmps36
  go_wp2_with fail
  refine c.mono ?_
  intro e w1 hE
  rcases hE.symm with ⟨hc, -⟩ | ⟨-, v1, rfl, S, -⟩
  · omega
  clear c hl
  have c2 := S.halt x
  have SS := Lib.hid S
  generalize hN : numOf (l.take n) = N at *
  have HN := Lib.hid hN
  clear hN S
  by_cases h0 : N = 0
  · subst h0
    clear c2
    go_wp2_with fail
    go_end0
    exact .inl ⟨HN.out, v1, rfl, SS.out⟩
  · go_wp2_with fail
    refine c2.mono ?_
    rintro e w2 hs
    obtain ⟨rfl, hs2⟩ := hs
    exact ⟨rfl, .inr ⟨by rw [HN.out]; exact h0, rfl, hs2⟩⟩
end Go.Proofs.YtdhmiekheecicaaDoor
