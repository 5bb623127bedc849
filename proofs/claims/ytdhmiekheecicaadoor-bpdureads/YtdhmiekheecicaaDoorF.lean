/- The contract of octet.Read, for a function that returns, that stops the reading, or that panics otherwise. -/
import Derived.Test.YtdhmiekheecicaaDoorE
namespace Go.Proofs.YtdhmiekheecicaaDoor
open Go.RowKit Go.Sort

/-- The world in which Read calls its function: r, r + 1, r + 2 (r: where memory ended) are its result, its stop, and the variable that points to it. -/
structure InRead (r : Nat) (w : World) (l : List UInt8) (b : Nat) (v : Value) (w1 : World) : Prop where
  below : Below r w w1
  rd : RdAt w1 b v (r + 1)
  bts : Bts w1 b v l
  res : OneAt w1 r (.int .i64 0) 34
  stop : OneAt w1 (r + 1) (.int .i64 0) 63
  own : OneAt w1 (r + 2) (ptr (r + 1)) 61
  lt : r + 2 < b
  far : Far (r + 3) v

/-- A post that says something else of panics. -/
def atPanic (S : List PanicEntry → Act → World → Prop) (Q : Exit → Act → World → Prop) : Exit → Act → World → Prop
  | .panic c, a, w => S c a w
  | e, a, w => Q e a w

theorem atPanic_normal {S : List PanicEntry → Act → World → Prop} {Q : Exit → Act → World → Prop} {a : Act} {w : World} (h : Q .normal a w) : atPanic S Q .normal a w := h
theorem wp_atPanic {P : Program} {c : Code} {Q : Exit → Act → World → Prop} {a : Act} {w : World} {S : List PanicEntry → Act → World → Prop} (hS : ∀ ch a w, S ch a w → Q (.panic ch) a w) (h : c.wp P (atPanic S Q) a w) : c.wp P Q a w := by
  refine Code.wp_mono (fun e a w h => ?_) h
  cases e with
  | panic c => exact hS _ _ _ h
  | normal => exact h
  | exit _ => exact h
  | goto _ => exact h
  | ret => exact h
  | outgrown => exact h

/-- What Read defers. -/
abbrev endD (r : Nat) : Deferred := { target := .fn (.func 27) #[ptr (r + 1 + 1), ptr r], args := #[] }
def inPanic (r : Nat) (E : Ending → World → Prop) (c : List PanicEntry) (a : Act) (w : World) : Prop := a.defers = [endD r] ∧ a.tmps.getD 4 undef = ptr r ∧ E (.panicked c) w
theorem panic_put {r : Nat} {E : Ending → World → Prop} {Q : Exit → Act → World → Prop} {k : Nat} (v : Value) (hk : k ≠ 4) : ∀ c a w, atPanic (inPanic r E) Q (.panic c) (a.put (some k) v) w → atPanic (inPanic r E) Q (.panic c) a w := by
  rintro c a w ⟨h1, h2, h3⟩
  refine ⟨h1, ?_, h3⟩
  rw [← h2]
  simp [Act.put, Array.getD_eq_getD_getElem?, hk]
theorem read_start (w : World) : ∃ w0 : World, w0 = (((w.alloc (.cells #[.int .i64 0] 34)).alloc (.cells #[.int .i64 0] 63)).alloc (.cells #[ptr (w.heap.size + 1)] 61)) ∧
    OneAt w0 w.heap.size (.int .i64 0) 34 ∧ OneAt w0 (w.heap.size + 1) (.int .i64 0) 63 ∧ OneAt w0 (w.heap.size + 2) (ptr (w.heap.size + 1)) 61 ∧ Below w.heap.size w w0 ∧ w0.heap.size = w.heap.size + 3 := by
  refine ⟨_, rfl, ((var_new w _ _).alloc _).alloc _, ?_, ?_, ((box_below _ _).alloc (by rw [alloc_size]; omega) _).alloc (by rw [alloc_size, alloc_size]; omega) _, by rw [alloc_size, alloc_size, alloc_size]⟩
  · have := var_new (w.alloc (.cells #[.int .i64 0] 34)) #[.int .i64 0] 63
    rw [alloc_size] at this
    exact this.alloc _
  · have := var_new ((w.alloc (.cells #[.int .i64 0] 34)).alloc (.cells #[.int .i64 0] 63)) #[ptr (w.heap.size + 1)] 61
    rwa [alloc_size, alloc_size] at this

set_option maxHeartbeats 1000000 in
theorem read_any (F : FuncId) (caps : Array Value) (v : Value) (l : List UInt8) (w : World) (E R : Ending → World → Prop) (hF : ∀ args w, (callFunc F args).run Tryd.prog w = .ok (.enter F args) w) (hv : Bts w w.heap.size v l) (hl : l.length ≤ 10000)
    (hf : ∀ b vr w1, InRead w.heap.size w l b vr w1 → Calls Tryd.prog F (#[ptr b] ++ caps) w1 E)
    (h1 : ∀ x w2, E (.returned x) w2 → OneAt w2 w.heap.size (.int .i64 0) 34 ∧ R (.returned (.int .i64 0)) (w2.setCell ⟨w.heap.size, 0, none⟩ (.int .i64 0)))
    (h2 : ∀ c w2, E (.panicked c) w2 → ∀ tmps : Array Value, tmps.getD 4 undef = ptr w.heap.size → Leaves Tryd.prog Tryd.f20 tmps R [endD w.heap.size] (.panicking c) w2)
    (h3 : ∀ w2, ¬ E .outgrown w2) :
    Calls Tryd.prog 20 #[v, .func (.func F) #[] caps] w R := by
  have hmf : ∀ (fn : Fn) (first cap : Array Value) (w : World), (Instr.makeFunc fn first cap).run Tryd.prog w = .ok (.func fn first cap) w := fun _ _ _ _ => rfl
  have hne : ∀ w, (binOp .neq 54 (.func (.func F) #[] caps) .nilFunc).run Tryd.prog w = .ok (.bool true) w := fun w => by kernel_rfl
  have HF := Lib.hid hf
  have HV := Lib.hid hv
  have H1 := Lib.hid h1
  have H2 := Lib.hid h2
  have H3 := Lib.hid h3
  clear hf hv h1 h2 h3
  go_enter_defers Tryd.func20, Tryd.ntmps20
  go_wp2_with fail
  obtain ⟨w0, e0, o1, o2, o3, hb, hsz⟩ := read_start w
  rw [← e0]
  clear e0
  have l0 : w0.cell? ⟨w.heap.size + 1 + 1, 0, none⟩ = some (ptr (w.heap.size + 1)) := o3.cell 0
  have fin : ∀ (v1 : Value) (w1 : World), w1.ownsRow w0.heap.size 5 1 v1 l.length (l.map bV) → Below w0.heap.size w0 w1 → InRead w.heap.size w l w1.heap.size v1 (w1.alloc (.cells #[v1, ptr (w.heap.size + 1)] 65)) := by
    intro v1 w1 hown hb1
    have hs1 := hb1.size
    exact { below := (hb.trans (hb1.mono (by omega))).alloc (by omega) _, rd := var_new _ _ _, bts := (bts_of_own hown).below (box_below _ _) (Nat.le_refl _),
            res := (o1.below hb1 (by omega)).alloc _, stop := (o2.below hb1 (by omega)).alloc _, own := (o3.below hb1 (by omega)).alloc _, lt := by omega, far := by rw [← hsz]; exact far_of_own hown }
  have CL := Lib.hid (clone_any v l w.heap.size w0.drew (HV.out.below hb.drew (Nat.le_refl _)) (by show w.heap.size ≤ w0.heap.size; omega) (by omega))
  refine wp_atPanic (S := inPanic w.heap.size E) (fun c a2 w2 h => ?_) ?_
  · obtain ⟨p1, p2, p3⟩ := h
    have h := H2.out c w2 p3 _ p2
    rw [← p1] at h
    exact h
  refine wp_region_any (by kernel_rfl) ?_
  change wpAny _ _ _ _ _ _ _ (World.drew _)
  refine wpAny_take (i := 0) (v := ?_) rfl (by kernel_rfl) (by kernel_rfl) (by kernel_rfl) (panic_put _ (by decide)) (Or.inl ⟨by rfl, ?_⟩) ?_
  rotate_left
  · (intro w9; go_simp; try with_reducible rfl)
  refine wpAny_take (i := 1) (v := ?_) rfl (by kernel_rfl) (by kernel_rfl) (by kernel_rfl) (panic_put _ (by decide)) (Or.inl ⟨by rfl, ?_⟩) ?_
  rotate_left
  · (intro w9; go_simp; try with_reducible rfl)
  refine wpAny_ready (rs := [2, 3]) (by kernel_rfl) (by simp) (AllReady.cons rfl (fun K hK => ?_) (AllReady.cons rfl (fun K hK => ?_) AllReady.nil))
  · go_simp
    refine (CL.out).mono ?_
    rintro e w1 ⟨v1, rfl, hown, hb1⟩
    refine hK _ _ ?_
    clear hK K
    have hin := fin v1 w1 hown ⟨hb1.os, hb1.tape, hb1.output, hb1.size, hb1.block⟩
    obtain ⟨-, p, cap, rfl, -⟩ := bts_parts hin.bts
    have l1 : w1.cell? ⟨w.heap.size + 1 + 1, 0, none⟩ = some (ptr (w.heap.size + 1)) := by
      rw [hb1.cell (by show w.heap.size + 1 + 1 < w0.heap.size; omega)]; exact l0
    have IN := Lib.hid hin
    clear hin hown hb1
    refine wpAny_ready (rs := [3]) (by kernel_rfl) (by simp) (AllReady.cons rfl (fun K hK => ?_) AllReady.nil)
    go_simp
    refine hK _ _ ?_
    clear hK K
    refine wpAny_take (i := 4) (v := ?_) rfl (by kernel_rfl) (by kernel_rfl) (by kernel_rfl) (panic_put _ (by decide)) (Or.inl ⟨by rfl, ?_⟩) ?_
    rotate_left
    · (intro w9; go_simp; try with_reducible rfl)
    refine wpAny_ready (rs := [5]) (by kernel_rfl) (by simp) (AllReady.cons rfl (fun K hK => ?_) AllReady.nil)
    go_simp
    refine hK _ _ ?_
    clear hK K
    refine wpAny_ready (rs := [6]) (by kernel_rfl) (by simp) (AllReady.cons rfl (fun K hK => ?_) AllReady.nil)
    go_simp
    refine (HF.out _ _ _ IN.out).mono ?_
    rintro e w2 hE
    cases e with
    | returned x =>
      obtain ⟨c0, hR⟩ := H1.out x w2 hE
      refine hK _ _ ?_
      clear hK K
      refine wpAny_done (by kernel_rfl) (atPanic_normal ?_) _
      have c1 : w2.cell? ⟨w.heap.size, 0, none⟩ = some (.int .i64 0) := c0.cell 0
      have f1 := c0.frozen 0
      have c2 : (w2.setCell ⟨w.heap.size, 0, none⟩ (.int .i64 0)).cell? ⟨w.heap.size, 0, none⟩ = some (.int .i64 0) := (c0.set 0 (.int .i64 0)).cell 0
      clear c0
      go_wp2_with fail
      refine leaves_cons (f := 27) (args := #[ptr (w.heap.size + 1 + 1), ptr w.heap.size]) (by simp) (by simp [go_sem]) ?_
      refine (end_idle _ _ _).mono ?_
      rintro e u' w'' ⟨rfl, rfl, rfl⟩
      simp [Leaves, settle, results, Tryd.results20, go_sem, c2, hR]
    | panicked c => exact ⟨rfl, rfl, hE⟩
    | outgrown => exact (H3.out _ hE).elim
  · go_simp
    refine hK _ _ ?_
    clear hK K
    refine wpAny_ready (rs := [2]) (by kernel_rfl) (by simp) (AllReady.cons rfl (fun K hK => ?_) AllReady.nil)
    go_simp
    refine (CL.out).mono ?_
    rintro e w1 ⟨v1, rfl, hown, hb1⟩
    refine hK _ _ ?_
    clear hK K
    have hin := fin v1 w1 hown ⟨hb1.os, hb1.tape, hb1.output, hb1.size, hb1.block⟩
    obtain ⟨-, p, cap, rfl, -⟩ := bts_parts hin.bts
    have l1 : w1.cell? ⟨w.heap.size + 1 + 1, 0, none⟩ = some (ptr (w.heap.size + 1)) := by
      rw [hb1.cell (by show w.heap.size + 1 + 1 < w0.heap.size; omega)]; exact l0
    have IN := Lib.hid hin
    clear hin hown hb1
    refine wpAny_take (i := 4) (v := ?_) rfl (by kernel_rfl) (by kernel_rfl) (by kernel_rfl) (panic_put _ (by decide)) (Or.inl ⟨by rfl, ?_⟩) ?_
    rotate_left
    · (intro w9; go_simp; try with_reducible rfl)
    refine wpAny_ready (rs := [5]) (by kernel_rfl) (by simp) (AllReady.cons rfl (fun K hK => ?_) AllReady.nil)
    go_simp
    refine hK _ _ ?_
    clear hK K
    refine wpAny_ready (rs := [6]) (by kernel_rfl) (by simp) (AllReady.cons rfl (fun K hK => ?_) AllReady.nil)
    go_simp
    refine (HF.out _ _ _ IN.out).mono ?_
    rintro e w2 hE
    cases e with
    | returned x =>
      obtain ⟨c0, hR⟩ := H1.out x w2 hE
      refine hK _ _ ?_
      clear hK K
      refine wpAny_done (by kernel_rfl) (atPanic_normal ?_) _
      have c1 : w2.cell? ⟨w.heap.size, 0, none⟩ = some (.int .i64 0) := c0.cell 0
      have f1 := c0.frozen 0
      have c2 : (w2.setCell ⟨w.heap.size, 0, none⟩ (.int .i64 0)).cell? ⟨w.heap.size, 0, none⟩ = some (.int .i64 0) := (c0.set 0 (.int .i64 0)).cell 0
      clear c0
      go_wp2_with fail
      refine leaves_cons (f := 27) (args := #[ptr (w.heap.size + 1 + 1), ptr w.heap.size]) (by simp) (by simp [go_sem]) ?_
      refine (end_idle _ _ _).mono ?_
      rintro e u' w'' ⟨rfl, rfl, rfl⟩
      simp [Leaves, settle, results, Tryd.results20, go_sem, c2, hR]
    | panicked c => exact ⟨rfl, rfl, hE⟩
    | outgrown => exact (H3.out _ hE).elim

theorem read_ret (F : FuncId) (caps : Array Value) (v : Value) (l : List UInt8) (w : World) (R : World → Prop) (hF : ∀ args w, (callFunc F args).run Tryd.prog w = .ok (.enter F args) w) (hv : Bts w w.heap.size v l) (hl : l.length ≤ 10000)
    (hf : ∀ b vr w1, InRead w.heap.size w l b vr w1 → Calls Tryd.prog F (#[ptr b] ++ caps) w1 fun e w2 => e = .returned (.tuple #[]) ∧ OneAt w2 w.heap.size (.int .i64 0) 34 ∧ R w2) :
    Calls Tryd.prog 20 #[v, .func (.func F) #[] caps] w fun e w' => e = .returned (.int .i64 0) ∧ ∃ w2, R w2 ∧ w' = w2.setCell ⟨w.heap.size, 0, none⟩ (.int .i64 0) :=
  read_any F caps v l w _ _ hF hv hl hf (fun _ w2 h => ⟨h.2.1, rfl, w2, h.2.2, rfl⟩) (fun _ _ h => by cases h.1) (fun _ h => by cases h.1)

theorem read_stop (F : FuncId) (caps : Array Value) (v : Value) (l : List UInt8) (x : Int) (w : World) (R : World → Prop) (hF : ∀ args w, (callFunc F args).run Tryd.prog w = .ok (.enter F args) w) (hv : Bts w w.heap.size v l) (hl : l.length ≤ 10000)
    (hf : ∀ b vr w1, InRead w.heap.size w l b vr w1 → Calls Tryd.prog F (#[ptr b] ++ caps) w1 fun e w2 => e = stopped (w.heap.size + 1) ∧ OneAt w2 w.heap.size (.int .i64 0) 34 ∧ OneAt w2 (w.heap.size + 1) (.int .i64 x) 63 ∧ OneAt w2 (w.heap.size + 2) (ptr (w.heap.size + 1)) 61 ∧ R w2) :
    Calls Tryd.prog 20 #[v, .func (.func F) #[] caps] w fun e w' => e = .returned (.int .i64 x) ∧ ∃ w2, R w2 ∧ w' = w2.setCell ⟨w.heap.size, 0, none⟩ (.int .i64 x) := by
  refine read_any F caps v l w _ _ hF hv hl hf (fun _ w2 h => by cases h.1) (fun c w2 h tmps ht => ?_) (fun _ h => by cases h.1)
  obtain ⟨hc, h0, h1, h2, hR⟩ := h
  cases hc
  refine leaves_cons (f := 27) (args := #[ptr (w.heap.size + 1 + 1), ptr w.heap.size]) (by simp) (by simp [go_sem]) ?_
  refine (end_stop (w.heap.size + 1 + 1) w.heap.size (w.heap.size + 1) 0 x [] w2 h2 h1 h0).mono ?_
  rintro e u' w'' ⟨rfl, rfl, rfl⟩
  have c2 : (w2.setCell ⟨w.heap.size, 0, none⟩ (.int .i64 x)).cell? ⟨w.heap.size, 0, none⟩ = some (.int .i64 x) := (h0.set 0 (.int .i64 x)).cell 0
  have hR' : ∃ w3, R w3 ∧ w2.setCell ⟨w.heap.size, 0, none⟩ (.int .i64 x) = w3.setCell ⟨w.heap.size, 0, none⟩ (.int .i64 x) := ⟨w2, hR, rfl⟩
  have ht' : tmps[4]?.getD undef = ptr w.heap.size := by simpa [Array.getD_eq_getD_getElem?] using ht
  simp [Leaves, settle, results, Tryd.results20, go_sem, ht', c2, hR']

end Go.Proofs.YtdhmiekheecicaaDoor
