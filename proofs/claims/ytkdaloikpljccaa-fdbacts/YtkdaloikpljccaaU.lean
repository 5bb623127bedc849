/- The law's model of a table: entries in a slice, by rising numbers; where an address stands. -/
import Derived.Test.YtkdaloikpljccaaSd
namespace Go.Proofs.Ytkdaloikpljccaa
open Go.RowKit Go.Sort Go.Maps

/-- The first place whose number is no less. -/
def pos : List Ent → Nat → Nat
  | [], _ => 0
  | x :: r, n => if x.n < n then pos r n + 1 else 0
theorem pos_eq {n : Nat} : ∀ {l : List Ent} {k : Nat}, k ≤ l.length → (∀ i e, i < k → l[i]? = some e → e.n < n) → (∀ e, l[k]? = some e → ¬ e.n < n) → pos l n = k
  | [], k, h, _, _ => by simp at h; subst h; rfl
  | x :: r, 0, _, _, h2 => by
    unfold pos
    rw [if_neg (h2 x (by simp))]
  | x :: r, k + 1, h, h1, h2 => by
    unfold pos
    rw [if_pos (h1 0 x (by omega) (by simp)), pos_eq (l := r) (k := k) (by simp at h; omega) (fun i e hi he => h1 (i + 1) e (by omega) (by simpa using he)) (fun e he => h2 e (by simpa using he))]
theorem pos_le {n : Nat} : ∀ l : List Ent, pos l n ≤ l.length
  | [] => Nat.le_refl _
  | x :: r => by
    unfold pos
    split
    · simp; exact pos_le r
    · exact Nat.zero_le _
theorem has_cons {x : Ent} {r : List Ent} {n : Nat} : has (x :: r) n = (x.n == n || has r n) := by
  unfold has fnd
  rw [List.find?_cons]
  cases x.n == n <;> simp
/-- With an entry: it stands there. -/
theorem pos_has {n : Nat} : ∀ {l : List Ent}, Up l → has l n = true → ∃ e, l[pos l n]? = some e ∧ e.n = n ∧ fnd l n = some e
  | [], _, h => by simp [has, fnd] at h
  | x :: r, hu, h => by
    rw [has_cons] at h
    by_cases hx : x.n = n
    · refine ⟨x, ?_, hx, ?_⟩
      · unfold pos
        rw [if_neg (by omega)]
        simp
      · unfold fnd
        rw [List.find?_cons_of_pos]
        simp [hx]
    · have h' : has r n = true := by simpa [hx] using h
      obtain ⟨e, h1, h2, h3⟩ := pos_has hu.tail h'
      have hlt : x.n < n := by
        have := hu.head e (List.mem_of_getElem? h1)
        omega
      refine ⟨e, ?_, h2, ?_⟩
      · unfold pos
        rw [if_pos hlt]
        simpa using h1
      · unfold fnd
        rw [List.find?_cons_of_neg (by simpa using hx)]
        exact h3
theorem putE_set {e : Ent} : ∀ {l : List Ent}, Up l → has l e.n = true → putE e l = l.set (pos l e.n) e
  | [], _, h => by simp [has, fnd] at h
  | x :: r, hu, h => by
    rw [has_cons] at h
    by_cases hx : x.n = e.n
    · unfold putE pos
      rw [if_neg (by omega), if_pos hx, if_neg (by omega)]
      rfl
    · have h' : has r e.n = true := by simpa [hx] using h
      obtain ⟨y, h1, h2, _⟩ := pos_has hu.tail h'
      have hlt : x.n < e.n := by
        have := hu.head y (List.mem_of_getElem? h1)
        omega
      unfold putE pos
      rw [if_pos hlt, if_pos hlt, putE_set hu.tail h']
      rfl
theorem putE_ins {e : Ent} : ∀ {l : List Ent}, has l e.n = false → putE e l = l.take (pos l e.n) ++ e :: l.drop (pos l e.n)
  | [], _ => rfl
  | x :: r, h => by
    rw [has_cons] at h
    simp at h
    unfold putE pos
    by_cases hx : x.n < e.n
    · rw [if_pos hx, if_pos hx, putE_ins h.2]
      rfl
    · rw [if_neg hx, if_neg h.1, if_neg hx]
      rfl

/-- The model: its row of two cells, its slice, the list that it reads as. -/
structure Mdl (w : World) (mb : Nat) (v : Value) (most : Int) (B : Nat) (l : List Ent) : Prop where
  row : VarAt w mb #[v, .int .i64 most] 31
  own : w.ownsRow B 39 10 v l.length (l.flatMap encE)
  up : Up l
  few : l.length ≤ 60
variable {w w' : World} {mb B : Nat} {v : Value} {most : Int} {l : List Ent}
theorem Mdl.below (h : Mdl w mb v most B l) (hb : Below w.heap.size w w') : Mdl w' mb v most B l :=
  ⟨h.row.below hb h.row.lt, own_heap h.own (fun k _ hk _ => hb.block k hk), h.up, h.few⟩
theorem Mdl.off {F : Nat → Prop} (h : Mdl w mb v most B l) (ho : Off F w w') (h1 : ¬ F mb) (h2 : ∀ k, v.ownBlock = some k → ¬ F k) : Mdl w' mb v most B l :=
  ⟨ho.var h.row h1, own_heap h.own (fun k _ hk hv => ho.block k hk (h2 k hv)), h.up, h.few⟩
/-- The slice, taken apart. -/
theorem Mdl.slice (h : Mdl w mb v most B l) : (∃ p cap, v = .slice p l.length cap) ∧ (l = [] ∨ ∃ g cap, v = .slice (some ⟨g, 0, none⟩) l.length cap ∧ Row10 w g l ∧ l.length ≤ cap ∧ B ≤ g ∧ g < w.heap.size ∧ ∀ k, w.frozen? ⟨g, k, none⟩ = false) := by
  obtain ⟨hl, ⟨rfl, hn⟩ | ⟨g, cap, cur, rfl, hB, hg, h2, h3, h4, h5⟩⟩ := h.own
  · exact ⟨⟨none, 0, by rw [hn]⟩, Or.inl (List.eq_nil_of_length_eq_zero hn)⟩
  · refine ⟨⟨_, cap, rfl⟩, Or.inr ⟨g, cap, rfl, ?_, h2, hB, (Array.getElem?_eq_some_iff.1 hg).1, fun k => VarAt.frozen (show VarAt w g cur 39 from hg) k⟩⟩
    intro i e hi c hc
    have hv : VarAt w g cur 39 := hg
    have hi' : i < l.length := (List.getElem?_eq_some_iff.1 hi).1
    have e1 : cur[i * 10 + c]? = (l.flatMap encE)[i * 10 + c]? := by
      rw [← h5, List.getElem?_take]
      simp
      omega
    rw [hv.cell, e1, flat_at l i e hi c hc]
    simp [encE]
theorem idx29 (b o n c k : Nat) (h : k < n) (w : World) : (Instr.indexAt 29 (.slice (some ⟨b, o, none⟩) n c) (.int .i64 k)).run Try.prog w = .ok (.pointer (some ⟨b, o + k * 10, none⟩)) w := by
  go_simp
theorem Row10.cells {g i : Nat} {e : Ent} (h : Row10 w g l) (hi : l[i]? = some e) : w.cell? ⟨g, i * 10, none⟩ = some (.int .u8 (ofN e.n 0 : Nat)) ∧ w.cell? ⟨g, i * 10 + 1, none⟩ = some (.int .u8 (ofN e.n 1 : Nat)) ∧ w.cell? ⟨g, i * 10 + 2, none⟩ = some (.int .u8 (ofN e.n 2 : Nat)) ∧ w.cell? ⟨g, i * 10 + 3, none⟩ = some (.int .u8 (ofN e.n 3 : Nat)) ∧ w.cell? ⟨g, i * 10 + 4, none⟩ = some (.int .u8 (ofN e.n 4 : Nat)) ∧ w.cell? ⟨g, i * 10 + 5, none⟩ = some (.int .u8 (ofN e.n 5 : Nat)) ∧ w.cell? ⟨g, i * 10 + 6, none⟩ = some (.int .i64 e.port) ∧ w.cell? ⟨g, i * 10 + 7, none⟩ = some (.int .u32 e.ports) ∧ w.cell? ⟨g, i * 10 + 8, none⟩ = some (.int .i64 e.age) ∧ w.cell? ⟨g, i * 10 + 9, none⟩ = some (.bool e.st) :=
  ⟨h i e hi 0 (by omega), h i e hi 1 (by omega), h i e hi 2 (by omega), h i e hi 3 (by omega), h i e hi 4 (by omega), h i e hi 5 (by omega), h i e hi 6 (by omega), h i e hi 7 (by omega), h i e hi 8 (by omega), h i e hi 9 (by omega)⟩
/-- Two addresses compared. -/
theorem mac_eq (n m : Nat) (hn : n < 281474976710656) (hm : m < 281474976710656) (w : World) : (Op.equalIn 10000 24 (macN n) (macN m)).run Try.prog w = .ok (n == m) w := by
  by_cases h : n = m
  · subst h
    rw [mac_same]
    simp
  · rw [mac_equal]
    have hf : ((ofN n 0 : Int) == (ofN m 0 : Int) && ((ofN n 1 : Int) == (ofN m 1 : Int) && ((ofN n 2 : Int) == (ofN m 2 : Int) && ((ofN n 3 : Int) == (ofN m 3 : Int) && ((ofN n 4 : Int) == (ofN m 4 : Int) && ((ofN n 5 : Int) == (ofN m 5 : Int) && true)))))) = false := by
      rw [Bool.eq_false_iff]
      intro ht
      simp at ht
      obtain ⟨h0, h1, h2, h3, h4, h5⟩ := ht
      exact h (macN_inj hn hm (by unfold macN macV; rw [h0, h1, h2, h3, h4, h5]))
    rw [hf]
    simp [h]
theorem eqItem8 {xs ys : Array Value} {i : Nat} {is : List Nat} {a b : Int} {r : Bool} {w : World} (hx : xs[i]? = some (.int .u8 a)) (hy : ys[i]? = some (.int .u8 b))
    (hr : (Op.eqItems 9998 5 1 xs ys is).run Try.prog w = .ok r w) : (Op.eqItems 9998 5 1 xs ys (i :: is)).run Try.prog w = .ok (a == b && r) w := by
  have e : i * 1 = i := Nat.mul_one i
  simp only [Op.eqItems, Sem.run_bind, e, part5 _ _ _ hx, part5 _ _ _ hy, Result.andThen_ok, run_equalIn_int _ 9997 5 .u8 .u8 a b u5]
  by_cases h : a = b
  · simp [h, hr]
  · simp [h]
theorem mac_same8 (a0 a1 a2 a3 a4 a5 : Int) (w : World) : (Op.equalIn 9999 24 (.agg #[.int .u8 a0, .int .u8 a1, .int .u8 a2, .int .u8 a3, .int .u8 a4, .int .u8 a5]) (.agg #[.int .u8 a0, .int .u8 a1, .int .u8 a2, .int .u8 a3, .int .u8 a4, .int .u8 a5])).run Try.prog w = .ok true w := by
  obtain ⟨i, hi⟩ := i5
  rw [run_equalIn_array w 9998 _ _ u23 hi, c5]
  have h := eqItem8 (w := w) (xs := #[.int .u8 a0, .int .u8 a1, .int .u8 a2, .int .u8 a3, .int .u8 a4, .int .u8 a5]) (ys := #[.int .u8 a0, .int .u8 a1, .int .u8 a2, .int .u8 a3, .int .u8 a4, .int .u8 a5]) (i := 0) rfl rfl (eqItem8 (i := 1) rfl rfl (eqItem8 (i := 2) rfl rfl (eqItem8 (i := 3) rfl rfl (eqItem8 (i := 4) rfl rfl (eqItem8 (i := 5) rfl rfl (is := []) (r := true) rfl)))))
  simp only [beq_self_eq_true, Bool.and_self] at h
  exact h
theorem und39 : Try.prog.underlying 39 = some (.struct (Try.prog.fieldsOf 39)) := by kernel_rfl
theorem held39 : Try.prog.stoodInHeld 39 = false := by kernel_rfl
theorem fields39 : (Try.prog.fieldsOf 39).toList.map (fun f => (f.name, f.type, f.offset)) = [("Mac", 24, 0), ("Port", 3, 6), ("Ports", 37, 7), ("Age", 3, 8), ("Static", 4, 9)] := by kernel_rfl
section
variable (a0 a1 a2 a3 a4 a5 p q g : Int) (s : Bool) (w : World)
abbrev eCs (a0 a1 a2 a3 a4 a5 p q g : Int) (s : Bool) : Array Value := #[.int .u8 a0, .int .u8 a1, .int .u8 a2, .int .u8 a3, .int .u8 a4, .int .u8 a5, .int .i64 p, .int .u32 q, .int .i64 g, .bool s]
theorem e_part0 : (part 24 (eCs a0 a1 a2 a3 a4 a5 p q g s) 0).run Try.prog w = .ok (.agg #[.int .u8 a0, .int .u8 a1, .int .u8 a2, .int .u8 a3, .int .u8 a4, .int .u8 a5]) w := by kernel_rfl
theorem e_part6 : (part 3 (eCs a0 a1 a2 a3 a4 a5 p q g s) 6).run Try.prog w = .ok (.int .i64 p) w := by kernel_rfl
theorem e_part7 : (part 37 (eCs a0 a1 a2 a3 a4 a5 p q g s) 7).run Try.prog w = .ok (.int .u32 q) w := by kernel_rfl
theorem e_part8 : (part 3 (eCs a0 a1 a2 a3 a4 a5 p q g s) 8).run Try.prog w = .ok (.int .i64 g) w := by kernel_rfl
theorem e_part9 : (part 4 (eCs a0 a1 a2 a3 a4 a5 p q g s) 9).run Try.prog w = .ok (.bool s) w := by kernel_rfl
/-- An entry is like itself. -/
theorem e_self : (Op.equalIn 10000 39 (.agg (eCs a0 a1 a2 a3 a4 a5 p q g s)) (.agg (eCs a0 a1 a2 a3 a4 a5 p q g s))).run Try.prog w = .ok true w := by
  rw [run_equalIn_struct w 9999 39 _ _ und39 held39]
  have hf := fields39
  generalize (Try.prog.fieldsOf 39).toList = fs at hf ⊢
  obtain ⟨f1, f2, f3, f4, f5, rfl⟩ : ∃ f1 f2 f3 f4 f5, fs = [f1, f2, f3, f4, f5] := by
    have hl := congrArg List.length hf
    simp at hl
    match fs, hl with
    | [f1, f2, f3, f4, f5], _ => exact ⟨f1, f2, f3, f4, f5, rfl⟩
  simp only [List.map_cons, List.map_nil, List.cons.injEq, Prod.mk.injEq, and_true] at hf
  obtain ⟨⟨n1, t1, o1⟩, ⟨n2, t2, o2⟩, ⟨n3, t3, o3⟩, ⟨n4, t4, o4⟩, ⟨n5, t5, o5⟩⟩ := hf
  have i1 := fun x w => run_equalIn_int (P := Try.prog) w 9998 3 .i64 .i64 x x (by kernel_rfl)
  have i2 := fun x w => run_equalIn_int (P := Try.prog) w 9998 37 .u32 .u32 x x (by kernel_rfl)
  have i3 := fun x w => run_equalIn_bool (P := Try.prog) w 9998 4 x x (by kernel_rfl)
  simp only [Op.eqFields, n1, n2, n3, n4, n5, t1, t2, t3, t4, t5, o1, o2, o3, o4, o5]
  simp only [Sem.run_bind, e_part0, e_part6, e_part7, e_part8, e_part9, mac_same8, i1, i2, i3, Result.andThen_ok, Sem.run_ite]
  simp
theorem g39 : Try.prog.eqGuardType Try.prog.depth 39 = false := by kernel_rfl
end
end Go.Proofs.Ytkdaloikpljccaa
