/- RolesStarts' third region: two copies and two variables, made in whatever order. -/
import Derived.Test.YtidgdanhnpfpmaaWd
namespace Go.Proofs.Ytidgdanhnpfpmaa
open Go.RowKit Go.Sort

/-- The region's operations, as the cut lays them. -/
abbrev ops42 : Array Oper := #[{ dst := some 16, op := Op.load 34 (Operand.tmp 1), type := 34, pos := "law.go:42", after := #[], guard := none }, { dst := some 17, op := Op.call { callee := Callee.value (Operand.func 7), args := #[Operand.tmp 16], argTypes := #[34] }, type := 34, pos := "law.go:42", after := #[{ on := 0, ground := Ground.data }], guard := none }, { dst := some 18, op := Op.load 34 (Operand.tmp 1), type := 34, pos := "law.go:42", after := #[], guard := none }, { dst := some 19, op := Op.call { callee := Callee.value (Operand.func 7), args := #[Operand.tmp 18], argTypes := #[34] }, type := 34, pos := "law.go:42", after := #[{ on := 2, ground := Ground.data }, { on := 1, ground := Ground.chain }], guard := none }, { dst := some 3, op := Op.alloc 34, type := 0, pos := "law.go:42", after := #[], guard := none }, { dst := some 4, op := Op.alloc 34, type := 0, pos := "law.go:42", after := #[], guard := none }, { dst := none, op := Op.store 34 (Operand.tmp 3) (Operand.tmp 17), type := 0, pos := "law.go:42", after := #[{ on := 4, ground := Ground.data }, { on := 1, ground := Ground.data }, { on := 3, ground := Ground.chain }, { on := 0, ground := Ground.phase }, { on := 1, ground := Ground.phase }, { on := 2, ground := Ground.textOnly Departure.lateStores }, { on := 3, ground := Ground.phase }, { on := 4, ground := Ground.phase }, { on := 5, ground := Ground.phase }], guard := none }, { dst := none, op := Op.store 34 (Operand.tmp 4) (Operand.tmp 19), type := 0, pos := "law.go:42", after := #[{ on := 5, ground := Ground.data }, { on := 3, ground := Ground.data }, { on := 6, ground := Ground.chain }, { on := 0, ground := Ground.phase }, { on := 1, ground := Ground.phase }, { on := 2, ground := Ground.phase }, { on := 3, ground := Ground.phase }, { on := 4, ground := Ground.phase }, { on := 5, ground := Ground.phase }, { on := 6, ground := Ground.phase }], guard := none }]
/-- What is so of the world while they are done: the box of the argument, what came in, what has been made. -/
structure St (C Z : Array Value) (s : Value) (n q : Nat) (XS : Nat → Array Value) (w0 w : World) (ps : List Nat) (x y : Option Nat) : Prop where
  hb : VarAt w q C 34
  pin : PIn w s n XS
  bel : Below q w0 w
  pc : ∀ p ∈ ps, q < p ∧ ∃ A, VarAt w p A 50 ∧ n * 90 ≤ A.size ∧ ∀ i, i < n → Sub A (i * 90) (XS i)
  nd : ps.Nodup
  ax : ∀ b, x = some b → q < b ∧ VarAt w b Z 34
  ay : ∀ b, y = some b → q < b ∧ VarAt w b Z 34
  xy : ∀ b, x = some b → y ≠ some b
section
variable {C Z : Array Value} {s : Value} {n q : Nat} {XS : Nat → Array Value} {w0 w w' : World} {ps : List Nat} {x y : Option Nat}
theorem St.go (h : St C Z s n q XS w0 w ps x y) (hx : ∀ i, i < n → (XS i).size = 90) (hb : Below w.heap.size w w') : St C Z s n q XS w0 w' ps x y :=
  ⟨h.hb.below hb h.hb.lt, h.pin.below hx hb, h.bel.trans (hb.mono (Nat.le_of_lt h.hb.lt)),
    fun p hp => ⟨(h.pc p hp).1, by obtain ⟨A, h1, h2⟩ := (h.pc p hp).2; exact ⟨A, h1.below hb h1.lt, h2⟩⟩, h.nd,
    fun b e => ⟨(h.ax b e).1, (h.ax b e).2.below hb (h.ax b e).2.lt⟩, fun b e => ⟨(h.ay b e).1, (h.ay b e).2.below hb (h.ay b e).2.lt⟩, h.xy⟩
theorem St.call (h : St C Z s n q XS w0 w ps x y) (hx : ∀ i, i < n → (XS i).size = 90) {p : Nat} (hk : Kept3 w w' p n XS) (hb : Below w.heap.size w w') : St C Z s n q XS w0 w' (p :: ps) x y := by
  have g := h.go hx hb
  obtain ⟨A, h1, h2, h3, h4⟩ := hk
  have hl := h.hb.lt
  refine ⟨g.hb, g.pin, g.bel, fun r hr => ?_, List.nodup_cons.2 ⟨fun hm => ?_, g.nd⟩, g.ax, g.ay, g.xy⟩
  · rcases List.mem_cons.1 hr with rfl | hr
    · exact ⟨by omega, A, h1, h2, h3⟩
    · exact g.pc r hr
  · obtain ⟨_, _, h5, _⟩ := h.pc p hm
    have := h5.lt
    omega
theorem St.allocX (h : St C Z s n q XS w0 w ps none y) (hx : ∀ i, i < n → (XS i).size = 90) : St C Z s n q XS w0 (w.alloc (.cells Z 34)) ps (some w.heap.size) y := by
  have g := h.go hx (box_below w (.cells Z 34))
  exact ⟨g.hb, g.pin, g.bel, g.pc, g.nd, fun b e => by cases e; exact ⟨h.hb.lt, var_new _ _ _⟩, g.ay,
    fun b e f => by cases e; have := (h.ay _ f).2.lt; omega⟩
theorem St.allocY (h : St C Z s n q XS w0 w ps x none) (hx : ∀ i, i < n → (XS i).size = 90) : St C Z s n q XS w0 (w.alloc (.cells Z 34)) ps x (some w.heap.size) := by
  have g := h.go hx (box_below w (.cells Z 34))
  exact ⟨g.hb, g.pin, g.bel, g.pc, g.nd, g.ax, fun b e => by cases e; exact ⟨h.hb.lt, var_new _ _ _⟩,
    fun b e f => by cases f; have := (h.ax _ e).2.lt; omega⟩
end
section
variable {C Z : Array Value} {D : Nat → Nat → Array Value} {s : Value} {n q : Nat} {XS : Nat → Array Value} {w0 : World} {Q : Exit → Act → World → Prop} {t0 t2 t5 t6 t7 t8 t9 t10 t11 t12 t13 t14 t15 t20 t21 t22 t23 t24 t25 t26 t27 t28 t29 t30 t31 t32 t33 t34 t35 t36 t37 t38 t39 t40 t41 t42 t43 t44 t45 t46 t47 t48 t49 t50 t51 t52 t53 : Value}
theorem st2xy (p1 c1 p2 c2 ex ey : Nat) (_hx : ∀ i, i < n → (XS i).size = 90) (_kCp : Hid (∀ w, PIn w s n XS → Calls Try.prog 7 #[.agg C] w fun e w' => ∃ pb cap, e = .returned (.agg (D pb cap)) ∧ Kept3 w w' pb n XS ∧ Below w.heap.size w w')) (_zz : ∀ w, (zeroValue 34).run Try.prog w = .ok (.agg Z) w)
    (KQ : Hid (∀ (w : World) (p1 c1 p2 c2 ex ey : Nat), St C Z s n q XS w0 w [p2, p1] (some ex) (some ey) → wpAnyH Try.prog .any ops42 Q (fun w' => VarAt w' q C 34) 2 #[true, true, true, true, true, true, false, false] ⟨#[t0, .pointer (some ⟨q, 0, none⟩), t2, .pointer (some ⟨ex, 0, none⟩), .pointer (some ⟨ey, 0, none⟩), t5, t6, t7, t8, t9, t10, t11, t12, t13, t14, t15, .agg C, .agg (D p1 c1), .agg C, .agg (D p2 c2), t20, t21, t22, t23, t24, t25, t26, t27, t28, t29, t30, t31, t32, t33, t34, t35, t36, t37, t38, t39, t40, t41, t42, t43, t44, t45, t46, t47, t48, t49, t50, t51, t52, t53], []⟩ w))
    (w : World) (h : St C Z s n q XS w0 w [p2, p1] (some ex) (some ey)) : wpAnyH Try.prog .any ops42 Q (fun w' => VarAt w' q C 34) 2 #[true, true, true, true, true, true, false, false] ⟨#[t0, .pointer (some ⟨q, 0, none⟩), t2, .pointer (some ⟨ex, 0, none⟩), .pointer (some ⟨ey, 0, none⟩), t5, t6, t7, t8, t9, t10, t11, t12, t13, t14, t15, .agg C, .agg (D p1 c1), .agg C, .agg (D p2 c2), t20, t21, t22, t23, t24, t25, t26, t27, t28, t29, t30, t31, t32, t33, t34, t35, t36, t37, t38, t39, t40, t41, t42, t43, t44, t45, t46, t47, t48, t49, t50, t51, t52, t53], []⟩ w := by
  exact KQ.out w p1 c1 p2 c2 ex ey h
theorem st2x (p1 c1 p2 c2 ex : Nat) (hx : ∀ i, i < n → (XS i).size = 90) (kCp : Hid (∀ w, PIn w s n XS → Calls Try.prog 7 #[.agg C] w fun e w' => ∃ pb cap, e = .returned (.agg (D pb cap)) ∧ Kept3 w w' pb n XS ∧ Below w.heap.size w w')) (zz : ∀ w, (zeroValue 34).run Try.prog w = .ok (.agg Z) w)
    (KQ : Hid (∀ (w : World) (p1 c1 p2 c2 ex ey : Nat), St C Z s n q XS w0 w [p2, p1] (some ex) (some ey) → wpAnyH Try.prog .any ops42 Q (fun w' => VarAt w' q C 34) 2 #[true, true, true, true, true, true, false, false] ⟨#[t0, .pointer (some ⟨q, 0, none⟩), t2, .pointer (some ⟨ex, 0, none⟩), .pointer (some ⟨ey, 0, none⟩), t5, t6, t7, t8, t9, t10, t11, t12, t13, t14, t15, .agg C, .agg (D p1 c1), .agg C, .agg (D p2 c2), t20, t21, t22, t23, t24, t25, t26, t27, t28, t29, t30, t31, t32, t33, t34, t35, t36, t37, t38, t39, t40, t41, t42, t43, t44, t45, t46, t47, t48, t49, t50, t51, t52, t53], []⟩ w))
    (w : World) (h : St C Z s n q XS w0 w [p2, p1] (some ex) none) : wpAnyH Try.prog .any ops42 Q (fun w' => VarAt w' q C 34) 3 #[true, true, true, true, true, false, false, false] ⟨#[t0, .pointer (some ⟨q, 0, none⟩), t2, .pointer (some ⟨ex, 0, none⟩), undef, t5, t6, t7, t8, t9, t10, t11, t12, t13, t14, t15, .agg C, .agg (D p1 c1), .agg C, .agg (D p2 c2), t20, t21, t22, t23, t24, t25, t26, t27, t28, t29, t30, t31, t32, t33, t34, t35, t36, t37, t38, t39, t40, t41, t42, t43, t44, t45, t46, t47, t48, t49, t50, t51, t52, t53], []⟩ w := by
  refine wpAnyH_ready (rs := [5]) (by kernel_rfl) (by simp) (AllReadyH.cons rfl (fun K hK => ?_) AllReadyH.nil)
  · go_simp
    refine hK.out _ _ (h.hb.alloc _) (fun _ => ?_)
    clear hK K
    simp only [List.setIfInBounds_toArray, List.set_cons_zero, List.set_cons_succ]
    exact st2xy p1 c1 p2 c2 ex w.heap.size hx kCp zz KQ _ (h.allocY hx)
theorem st2y (p1 c1 p2 c2 ey : Nat) (hx : ∀ i, i < n → (XS i).size = 90) (kCp : Hid (∀ w, PIn w s n XS → Calls Try.prog 7 #[.agg C] w fun e w' => ∃ pb cap, e = .returned (.agg (D pb cap)) ∧ Kept3 w w' pb n XS ∧ Below w.heap.size w w')) (zz : ∀ w, (zeroValue 34).run Try.prog w = .ok (.agg Z) w)
    (KQ : Hid (∀ (w : World) (p1 c1 p2 c2 ex ey : Nat), St C Z s n q XS w0 w [p2, p1] (some ex) (some ey) → wpAnyH Try.prog .any ops42 Q (fun w' => VarAt w' q C 34) 2 #[true, true, true, true, true, true, false, false] ⟨#[t0, .pointer (some ⟨q, 0, none⟩), t2, .pointer (some ⟨ex, 0, none⟩), .pointer (some ⟨ey, 0, none⟩), t5, t6, t7, t8, t9, t10, t11, t12, t13, t14, t15, .agg C, .agg (D p1 c1), .agg C, .agg (D p2 c2), t20, t21, t22, t23, t24, t25, t26, t27, t28, t29, t30, t31, t32, t33, t34, t35, t36, t37, t38, t39, t40, t41, t42, t43, t44, t45, t46, t47, t48, t49, t50, t51, t52, t53], []⟩ w))
    (w : World) (h : St C Z s n q XS w0 w [p2, p1] none (some ey)) : wpAnyH Try.prog .any ops42 Q (fun w' => VarAt w' q C 34) 3 #[true, true, true, true, false, true, false, false] ⟨#[t0, .pointer (some ⟨q, 0, none⟩), t2, undef, .pointer (some ⟨ey, 0, none⟩), t5, t6, t7, t8, t9, t10, t11, t12, t13, t14, t15, .agg C, .agg (D p1 c1), .agg C, .agg (D p2 c2), t20, t21, t22, t23, t24, t25, t26, t27, t28, t29, t30, t31, t32, t33, t34, t35, t36, t37, t38, t39, t40, t41, t42, t43, t44, t45, t46, t47, t48, t49, t50, t51, t52, t53], []⟩ w := by
  refine wpAnyH_ready (rs := [4]) (by kernel_rfl) (by simp) (AllReadyH.cons rfl (fun K hK => ?_) AllReadyH.nil)
  · go_simp
    refine hK.out _ _ (h.hb.alloc _) (fun _ => ?_)
    clear hK K
    simp only [List.setIfInBounds_toArray, List.set_cons_zero, List.set_cons_succ]
    exact st2xy p1 c1 p2 c2 w.heap.size ey hx kCp zz KQ _ (h.allocX hx)
theorem st2 (p1 c1 p2 c2 : Nat) (hx : ∀ i, i < n → (XS i).size = 90) (kCp : Hid (∀ w, PIn w s n XS → Calls Try.prog 7 #[.agg C] w fun e w' => ∃ pb cap, e = .returned (.agg (D pb cap)) ∧ Kept3 w w' pb n XS ∧ Below w.heap.size w w')) (zz : ∀ w, (zeroValue 34).run Try.prog w = .ok (.agg Z) w)
    (KQ : Hid (∀ (w : World) (p1 c1 p2 c2 ex ey : Nat), St C Z s n q XS w0 w [p2, p1] (some ex) (some ey) → wpAnyH Try.prog .any ops42 Q (fun w' => VarAt w' q C 34) 2 #[true, true, true, true, true, true, false, false] ⟨#[t0, .pointer (some ⟨q, 0, none⟩), t2, .pointer (some ⟨ex, 0, none⟩), .pointer (some ⟨ey, 0, none⟩), t5, t6, t7, t8, t9, t10, t11, t12, t13, t14, t15, .agg C, .agg (D p1 c1), .agg C, .agg (D p2 c2), t20, t21, t22, t23, t24, t25, t26, t27, t28, t29, t30, t31, t32, t33, t34, t35, t36, t37, t38, t39, t40, t41, t42, t43, t44, t45, t46, t47, t48, t49, t50, t51, t52, t53], []⟩ w))
    (w : World) (h : St C Z s n q XS w0 w [p2, p1] none none) : wpAnyH Try.prog .any ops42 Q (fun w' => VarAt w' q C 34) 4 #[true, true, true, true, false, false, false, false] ⟨#[t0, .pointer (some ⟨q, 0, none⟩), t2, undef, undef, t5, t6, t7, t8, t9, t10, t11, t12, t13, t14, t15, .agg C, .agg (D p1 c1), .agg C, .agg (D p2 c2), t20, t21, t22, t23, t24, t25, t26, t27, t28, t29, t30, t31, t32, t33, t34, t35, t36, t37, t38, t39, t40, t41, t42, t43, t44, t45, t46, t47, t48, t49, t50, t51, t52, t53], []⟩ w := by
  refine wpAnyH_ready (rs := [4, 5]) (by kernel_rfl) (by simp) (AllReadyH.cons rfl (fun K hK => ?_) (AllReadyH.cons rfl (fun K hK => ?_) AllReadyH.nil))
  · go_simp
    refine hK.out _ _ (h.hb.alloc _) (fun _ => ?_)
    clear hK K
    simp only [List.setIfInBounds_toArray, List.set_cons_zero, List.set_cons_succ]
    exact st2x p1 c1 p2 c2 w.heap.size hx kCp zz KQ _ (h.allocX hx)
  · go_simp
    refine hK.out _ _ (h.hb.alloc _) (fun _ => ?_)
    clear hK K
    simp only [List.setIfInBounds_toArray, List.set_cons_zero, List.set_cons_succ]
    exact st2y p1 c1 p2 c2 w.heap.size hx kCp zz KQ _ (h.allocY hx)
theorem st1xy (p1 c1 ex ey : Nat) (hx : ∀ i, i < n → (XS i).size = 90) (kCp : Hid (∀ w, PIn w s n XS → Calls Try.prog 7 #[.agg C] w fun e w' => ∃ pb cap, e = .returned (.agg (D pb cap)) ∧ Kept3 w w' pb n XS ∧ Below w.heap.size w w')) (zz : ∀ w, (zeroValue 34).run Try.prog w = .ok (.agg Z) w)
    (KQ : Hid (∀ (w : World) (p1 c1 p2 c2 ex ey : Nat), St C Z s n q XS w0 w [p2, p1] (some ex) (some ey) → wpAnyH Try.prog .any ops42 Q (fun w' => VarAt w' q C 34) 2 #[true, true, true, true, true, true, false, false] ⟨#[t0, .pointer (some ⟨q, 0, none⟩), t2, .pointer (some ⟨ex, 0, none⟩), .pointer (some ⟨ey, 0, none⟩), t5, t6, t7, t8, t9, t10, t11, t12, t13, t14, t15, .agg C, .agg (D p1 c1), .agg C, .agg (D p2 c2), t20, t21, t22, t23, t24, t25, t26, t27, t28, t29, t30, t31, t32, t33, t34, t35, t36, t37, t38, t39, t40, t41, t42, t43, t44, t45, t46, t47, t48, t49, t50, t51, t52, t53], []⟩ w))
    (w : World) (h : St C Z s n q XS w0 w [p1] (some ex) (some ey)) : wpAnyH Try.prog .any ops42 Q (fun w' => VarAt w' q C 34) 3 #[true, true, true, false, true, true, false, false] ⟨#[t0, .pointer (some ⟨q, 0, none⟩), t2, .pointer (some ⟨ex, 0, none⟩), .pointer (some ⟨ey, 0, none⟩), t5, t6, t7, t8, t9, t10, t11, t12, t13, t14, t15, .agg C, .agg (D p1 c1), .agg C, undef, t20, t21, t22, t23, t24, t25, t26, t27, t28, t29, t30, t31, t32, t33, t34, t35, t36, t37, t38, t39, t40, t41, t42, t43, t44, t45, t46, t47, t48, t49, t50, t51, t52, t53], []⟩ w := by
  refine wpAnyH_ready (rs := [3]) (by kernel_rfl) (by simp) (AllReadyH.cons rfl (fun K hK => ?_) AllReadyH.nil)
  · go_simp
    refine (kCp.out _ h.pin).mono ?_
    rintro e w1 ⟨p2, c2, rfl, hk, hb⟩
    refine hK.out _ _ (h.hb.below hb h.hb.lt) (fun _ => ?_)
    clear hK K
    simp only [List.setIfInBounds_toArray, List.set_cons_zero, List.set_cons_succ]
    exact st2xy p1 c1 p2 c2 ex ey hx kCp zz KQ w1 (h.call hx hk hb)
theorem st1x (p1 c1 ex : Nat) (hx : ∀ i, i < n → (XS i).size = 90) (kCp : Hid (∀ w, PIn w s n XS → Calls Try.prog 7 #[.agg C] w fun e w' => ∃ pb cap, e = .returned (.agg (D pb cap)) ∧ Kept3 w w' pb n XS ∧ Below w.heap.size w w')) (zz : ∀ w, (zeroValue 34).run Try.prog w = .ok (.agg Z) w)
    (KQ : Hid (∀ (w : World) (p1 c1 p2 c2 ex ey : Nat), St C Z s n q XS w0 w [p2, p1] (some ex) (some ey) → wpAnyH Try.prog .any ops42 Q (fun w' => VarAt w' q C 34) 2 #[true, true, true, true, true, true, false, false] ⟨#[t0, .pointer (some ⟨q, 0, none⟩), t2, .pointer (some ⟨ex, 0, none⟩), .pointer (some ⟨ey, 0, none⟩), t5, t6, t7, t8, t9, t10, t11, t12, t13, t14, t15, .agg C, .agg (D p1 c1), .agg C, .agg (D p2 c2), t20, t21, t22, t23, t24, t25, t26, t27, t28, t29, t30, t31, t32, t33, t34, t35, t36, t37, t38, t39, t40, t41, t42, t43, t44, t45, t46, t47, t48, t49, t50, t51, t52, t53], []⟩ w))
    (w : World) (h : St C Z s n q XS w0 w [p1] (some ex) none) : wpAnyH Try.prog .any ops42 Q (fun w' => VarAt w' q C 34) 4 #[true, true, true, false, true, false, false, false] ⟨#[t0, .pointer (some ⟨q, 0, none⟩), t2, .pointer (some ⟨ex, 0, none⟩), undef, t5, t6, t7, t8, t9, t10, t11, t12, t13, t14, t15, .agg C, .agg (D p1 c1), .agg C, undef, t20, t21, t22, t23, t24, t25, t26, t27, t28, t29, t30, t31, t32, t33, t34, t35, t36, t37, t38, t39, t40, t41, t42, t43, t44, t45, t46, t47, t48, t49, t50, t51, t52, t53], []⟩ w := by
  refine wpAnyH_ready (rs := [3, 5]) (by kernel_rfl) (by simp) (AllReadyH.cons rfl (fun K hK => ?_) (AllReadyH.cons rfl (fun K hK => ?_) AllReadyH.nil))
  · go_simp
    refine (kCp.out _ h.pin).mono ?_
    rintro e w1 ⟨p2, c2, rfl, hk, hb⟩
    refine hK.out _ _ (h.hb.below hb h.hb.lt) (fun _ => ?_)
    clear hK K
    simp only [List.setIfInBounds_toArray, List.set_cons_zero, List.set_cons_succ]
    exact st2x p1 c1 p2 c2 ex hx kCp zz KQ w1 (h.call hx hk hb)
  · go_simp
    refine hK.out _ _ (h.hb.alloc _) (fun _ => ?_)
    clear hK K
    simp only [List.setIfInBounds_toArray, List.set_cons_zero, List.set_cons_succ]
    exact st1xy p1 c1 ex w.heap.size hx kCp zz KQ _ (h.allocY hx)
theorem st1y (p1 c1 ey : Nat) (hx : ∀ i, i < n → (XS i).size = 90) (kCp : Hid (∀ w, PIn w s n XS → Calls Try.prog 7 #[.agg C] w fun e w' => ∃ pb cap, e = .returned (.agg (D pb cap)) ∧ Kept3 w w' pb n XS ∧ Below w.heap.size w w')) (zz : ∀ w, (zeroValue 34).run Try.prog w = .ok (.agg Z) w)
    (KQ : Hid (∀ (w : World) (p1 c1 p2 c2 ex ey : Nat), St C Z s n q XS w0 w [p2, p1] (some ex) (some ey) → wpAnyH Try.prog .any ops42 Q (fun w' => VarAt w' q C 34) 2 #[true, true, true, true, true, true, false, false] ⟨#[t0, .pointer (some ⟨q, 0, none⟩), t2, .pointer (some ⟨ex, 0, none⟩), .pointer (some ⟨ey, 0, none⟩), t5, t6, t7, t8, t9, t10, t11, t12, t13, t14, t15, .agg C, .agg (D p1 c1), .agg C, .agg (D p2 c2), t20, t21, t22, t23, t24, t25, t26, t27, t28, t29, t30, t31, t32, t33, t34, t35, t36, t37, t38, t39, t40, t41, t42, t43, t44, t45, t46, t47, t48, t49, t50, t51, t52, t53], []⟩ w))
    (w : World) (h : St C Z s n q XS w0 w [p1] none (some ey)) : wpAnyH Try.prog .any ops42 Q (fun w' => VarAt w' q C 34) 4 #[true, true, true, false, false, true, false, false] ⟨#[t0, .pointer (some ⟨q, 0, none⟩), t2, undef, .pointer (some ⟨ey, 0, none⟩), t5, t6, t7, t8, t9, t10, t11, t12, t13, t14, t15, .agg C, .agg (D p1 c1), .agg C, undef, t20, t21, t22, t23, t24, t25, t26, t27, t28, t29, t30, t31, t32, t33, t34, t35, t36, t37, t38, t39, t40, t41, t42, t43, t44, t45, t46, t47, t48, t49, t50, t51, t52, t53], []⟩ w := by
  refine wpAnyH_ready (rs := [3, 4]) (by kernel_rfl) (by simp) (AllReadyH.cons rfl (fun K hK => ?_) (AllReadyH.cons rfl (fun K hK => ?_) AllReadyH.nil))
  · go_simp
    refine (kCp.out _ h.pin).mono ?_
    rintro e w1 ⟨p2, c2, rfl, hk, hb⟩
    refine hK.out _ _ (h.hb.below hb h.hb.lt) (fun _ => ?_)
    clear hK K
    simp only [List.setIfInBounds_toArray, List.set_cons_zero, List.set_cons_succ]
    exact st2y p1 c1 p2 c2 ey hx kCp zz KQ w1 (h.call hx hk hb)
  · go_simp
    refine hK.out _ _ (h.hb.alloc _) (fun _ => ?_)
    clear hK K
    simp only [List.setIfInBounds_toArray, List.set_cons_zero, List.set_cons_succ]
    exact st1xy p1 c1 w.heap.size ey hx kCp zz KQ _ (h.allocX hx)
theorem st1 (p1 c1 : Nat) (hx : ∀ i, i < n → (XS i).size = 90) (kCp : Hid (∀ w, PIn w s n XS → Calls Try.prog 7 #[.agg C] w fun e w' => ∃ pb cap, e = .returned (.agg (D pb cap)) ∧ Kept3 w w' pb n XS ∧ Below w.heap.size w w')) (zz : ∀ w, (zeroValue 34).run Try.prog w = .ok (.agg Z) w)
    (KQ : Hid (∀ (w : World) (p1 c1 p2 c2 ex ey : Nat), St C Z s n q XS w0 w [p2, p1] (some ex) (some ey) → wpAnyH Try.prog .any ops42 Q (fun w' => VarAt w' q C 34) 2 #[true, true, true, true, true, true, false, false] ⟨#[t0, .pointer (some ⟨q, 0, none⟩), t2, .pointer (some ⟨ex, 0, none⟩), .pointer (some ⟨ey, 0, none⟩), t5, t6, t7, t8, t9, t10, t11, t12, t13, t14, t15, .agg C, .agg (D p1 c1), .agg C, .agg (D p2 c2), t20, t21, t22, t23, t24, t25, t26, t27, t28, t29, t30, t31, t32, t33, t34, t35, t36, t37, t38, t39, t40, t41, t42, t43, t44, t45, t46, t47, t48, t49, t50, t51, t52, t53], []⟩ w))
    (w : World) (h : St C Z s n q XS w0 w [p1] none none) : wpAnyH Try.prog .any ops42 Q (fun w' => VarAt w' q C 34) 5 #[true, true, true, false, false, false, false, false] ⟨#[t0, .pointer (some ⟨q, 0, none⟩), t2, undef, undef, t5, t6, t7, t8, t9, t10, t11, t12, t13, t14, t15, .agg C, .agg (D p1 c1), .agg C, undef, t20, t21, t22, t23, t24, t25, t26, t27, t28, t29, t30, t31, t32, t33, t34, t35, t36, t37, t38, t39, t40, t41, t42, t43, t44, t45, t46, t47, t48, t49, t50, t51, t52, t53], []⟩ w := by
  refine wpAnyH_ready (rs := [3, 4, 5]) (by kernel_rfl) (by simp) (AllReadyH.cons rfl (fun K hK => ?_) (AllReadyH.cons rfl (fun K hK => ?_) (AllReadyH.cons rfl (fun K hK => ?_) AllReadyH.nil)))
  · go_simp
    refine (kCp.out _ h.pin).mono ?_
    rintro e w1 ⟨p2, c2, rfl, hk, hb⟩
    refine hK.out _ _ (h.hb.below hb h.hb.lt) (fun _ => ?_)
    clear hK K
    simp only [List.setIfInBounds_toArray, List.set_cons_zero, List.set_cons_succ]
    exact st2 p1 c1 p2 c2 hx kCp zz KQ w1 (h.call hx hk hb)
  · go_simp
    refine hK.out _ _ (h.hb.alloc _) (fun _ => ?_)
    clear hK K
    simp only [List.setIfInBounds_toArray, List.set_cons_zero, List.set_cons_succ]
    exact st1x p1 c1 w.heap.size hx kCp zz KQ _ (h.allocX hx)
  · go_simp
    refine hK.out _ _ (h.hb.alloc _) (fun _ => ?_)
    clear hK K
    simp only [List.setIfInBounds_toArray, List.set_cons_zero, List.set_cons_succ]
    exact st1y p1 c1 w.heap.size hx kCp zz KQ _ (h.allocY hx)
theorem st0xy (ex ey : Nat) (hx : ∀ i, i < n → (XS i).size = 90) (kCp : Hid (∀ w, PIn w s n XS → Calls Try.prog 7 #[.agg C] w fun e w' => ∃ pb cap, e = .returned (.agg (D pb cap)) ∧ Kept3 w w' pb n XS ∧ Below w.heap.size w w')) (zz : ∀ w, (zeroValue 34).run Try.prog w = .ok (.agg Z) w)
    (KQ : Hid (∀ (w : World) (p1 c1 p2 c2 ex ey : Nat), St C Z s n q XS w0 w [p2, p1] (some ex) (some ey) → wpAnyH Try.prog .any ops42 Q (fun w' => VarAt w' q C 34) 2 #[true, true, true, true, true, true, false, false] ⟨#[t0, .pointer (some ⟨q, 0, none⟩), t2, .pointer (some ⟨ex, 0, none⟩), .pointer (some ⟨ey, 0, none⟩), t5, t6, t7, t8, t9, t10, t11, t12, t13, t14, t15, .agg C, .agg (D p1 c1), .agg C, .agg (D p2 c2), t20, t21, t22, t23, t24, t25, t26, t27, t28, t29, t30, t31, t32, t33, t34, t35, t36, t37, t38, t39, t40, t41, t42, t43, t44, t45, t46, t47, t48, t49, t50, t51, t52, t53], []⟩ w))
    (w : World) (h : St C Z s n q XS w0 w [] (some ex) (some ey)) : wpAnyH Try.prog .any ops42 Q (fun w' => VarAt w' q C 34) 4 #[true, false, true, false, true, true, false, false] ⟨#[t0, .pointer (some ⟨q, 0, none⟩), t2, .pointer (some ⟨ex, 0, none⟩), .pointer (some ⟨ey, 0, none⟩), t5, t6, t7, t8, t9, t10, t11, t12, t13, t14, t15, .agg C, undef, .agg C, undef, t20, t21, t22, t23, t24, t25, t26, t27, t28, t29, t30, t31, t32, t33, t34, t35, t36, t37, t38, t39, t40, t41, t42, t43, t44, t45, t46, t47, t48, t49, t50, t51, t52, t53], []⟩ w := by
  refine wpAnyH_ready (rs := [1]) (by kernel_rfl) (by simp) (AllReadyH.cons rfl (fun K hK => ?_) AllReadyH.nil)
  · go_simp
    refine (kCp.out _ h.pin).mono ?_
    rintro e w1 ⟨p1, c1, rfl, hk, hb⟩
    refine hK.out _ _ (h.hb.below hb h.hb.lt) (fun _ => ?_)
    clear hK K
    simp only [List.setIfInBounds_toArray, List.set_cons_zero, List.set_cons_succ]
    exact st1xy p1 c1 ex ey hx kCp zz KQ w1 (h.call hx hk hb)
theorem st0x (ex : Nat) (hx : ∀ i, i < n → (XS i).size = 90) (kCp : Hid (∀ w, PIn w s n XS → Calls Try.prog 7 #[.agg C] w fun e w' => ∃ pb cap, e = .returned (.agg (D pb cap)) ∧ Kept3 w w' pb n XS ∧ Below w.heap.size w w')) (zz : ∀ w, (zeroValue 34).run Try.prog w = .ok (.agg Z) w)
    (KQ : Hid (∀ (w : World) (p1 c1 p2 c2 ex ey : Nat), St C Z s n q XS w0 w [p2, p1] (some ex) (some ey) → wpAnyH Try.prog .any ops42 Q (fun w' => VarAt w' q C 34) 2 #[true, true, true, true, true, true, false, false] ⟨#[t0, .pointer (some ⟨q, 0, none⟩), t2, .pointer (some ⟨ex, 0, none⟩), .pointer (some ⟨ey, 0, none⟩), t5, t6, t7, t8, t9, t10, t11, t12, t13, t14, t15, .agg C, .agg (D p1 c1), .agg C, .agg (D p2 c2), t20, t21, t22, t23, t24, t25, t26, t27, t28, t29, t30, t31, t32, t33, t34, t35, t36, t37, t38, t39, t40, t41, t42, t43, t44, t45, t46, t47, t48, t49, t50, t51, t52, t53], []⟩ w))
    (w : World) (h : St C Z s n q XS w0 w [] (some ex) none) : wpAnyH Try.prog .any ops42 Q (fun w' => VarAt w' q C 34) 5 #[true, false, true, false, true, false, false, false] ⟨#[t0, .pointer (some ⟨q, 0, none⟩), t2, .pointer (some ⟨ex, 0, none⟩), undef, t5, t6, t7, t8, t9, t10, t11, t12, t13, t14, t15, .agg C, undef, .agg C, undef, t20, t21, t22, t23, t24, t25, t26, t27, t28, t29, t30, t31, t32, t33, t34, t35, t36, t37, t38, t39, t40, t41, t42, t43, t44, t45, t46, t47, t48, t49, t50, t51, t52, t53], []⟩ w := by
  refine wpAnyH_ready (rs := [1, 5]) (by kernel_rfl) (by simp) (AllReadyH.cons rfl (fun K hK => ?_) (AllReadyH.cons rfl (fun K hK => ?_) AllReadyH.nil))
  · go_simp
    refine (kCp.out _ h.pin).mono ?_
    rintro e w1 ⟨p1, c1, rfl, hk, hb⟩
    refine hK.out _ _ (h.hb.below hb h.hb.lt) (fun _ => ?_)
    clear hK K
    simp only [List.setIfInBounds_toArray, List.set_cons_zero, List.set_cons_succ]
    exact st1x p1 c1 ex hx kCp zz KQ w1 (h.call hx hk hb)
  · go_simp
    refine hK.out _ _ (h.hb.alloc _) (fun _ => ?_)
    clear hK K
    simp only [List.setIfInBounds_toArray, List.set_cons_zero, List.set_cons_succ]
    exact st0xy ex w.heap.size hx kCp zz KQ _ (h.allocY hx)
theorem st0y (ey : Nat) (hx : ∀ i, i < n → (XS i).size = 90) (kCp : Hid (∀ w, PIn w s n XS → Calls Try.prog 7 #[.agg C] w fun e w' => ∃ pb cap, e = .returned (.agg (D pb cap)) ∧ Kept3 w w' pb n XS ∧ Below w.heap.size w w')) (zz : ∀ w, (zeroValue 34).run Try.prog w = .ok (.agg Z) w)
    (KQ : Hid (∀ (w : World) (p1 c1 p2 c2 ex ey : Nat), St C Z s n q XS w0 w [p2, p1] (some ex) (some ey) → wpAnyH Try.prog .any ops42 Q (fun w' => VarAt w' q C 34) 2 #[true, true, true, true, true, true, false, false] ⟨#[t0, .pointer (some ⟨q, 0, none⟩), t2, .pointer (some ⟨ex, 0, none⟩), .pointer (some ⟨ey, 0, none⟩), t5, t6, t7, t8, t9, t10, t11, t12, t13, t14, t15, .agg C, .agg (D p1 c1), .agg C, .agg (D p2 c2), t20, t21, t22, t23, t24, t25, t26, t27, t28, t29, t30, t31, t32, t33, t34, t35, t36, t37, t38, t39, t40, t41, t42, t43, t44, t45, t46, t47, t48, t49, t50, t51, t52, t53], []⟩ w))
    (w : World) (h : St C Z s n q XS w0 w [] none (some ey)) : wpAnyH Try.prog .any ops42 Q (fun w' => VarAt w' q C 34) 5 #[true, false, true, false, false, true, false, false] ⟨#[t0, .pointer (some ⟨q, 0, none⟩), t2, undef, .pointer (some ⟨ey, 0, none⟩), t5, t6, t7, t8, t9, t10, t11, t12, t13, t14, t15, .agg C, undef, .agg C, undef, t20, t21, t22, t23, t24, t25, t26, t27, t28, t29, t30, t31, t32, t33, t34, t35, t36, t37, t38, t39, t40, t41, t42, t43, t44, t45, t46, t47, t48, t49, t50, t51, t52, t53], []⟩ w := by
  refine wpAnyH_ready (rs := [1, 4]) (by kernel_rfl) (by simp) (AllReadyH.cons rfl (fun K hK => ?_) (AllReadyH.cons rfl (fun K hK => ?_) AllReadyH.nil))
  · go_simp
    refine (kCp.out _ h.pin).mono ?_
    rintro e w1 ⟨p1, c1, rfl, hk, hb⟩
    refine hK.out _ _ (h.hb.below hb h.hb.lt) (fun _ => ?_)
    clear hK K
    simp only [List.setIfInBounds_toArray, List.set_cons_zero, List.set_cons_succ]
    exact st1y p1 c1 ey hx kCp zz KQ w1 (h.call hx hk hb)
  · go_simp
    refine hK.out _ _ (h.hb.alloc _) (fun _ => ?_)
    clear hK K
    simp only [List.setIfInBounds_toArray, List.set_cons_zero, List.set_cons_succ]
    exact st0xy w.heap.size ey hx kCp zz KQ _ (h.allocX hx)
theorem st0 (hx : ∀ i, i < n → (XS i).size = 90) (kCp : Hid (∀ w, PIn w s n XS → Calls Try.prog 7 #[.agg C] w fun e w' => ∃ pb cap, e = .returned (.agg (D pb cap)) ∧ Kept3 w w' pb n XS ∧ Below w.heap.size w w')) (zz : ∀ w, (zeroValue 34).run Try.prog w = .ok (.agg Z) w)
    (KQ : Hid (∀ (w : World) (p1 c1 p2 c2 ex ey : Nat), St C Z s n q XS w0 w [p2, p1] (some ex) (some ey) → wpAnyH Try.prog .any ops42 Q (fun w' => VarAt w' q C 34) 2 #[true, true, true, true, true, true, false, false] ⟨#[t0, .pointer (some ⟨q, 0, none⟩), t2, .pointer (some ⟨ex, 0, none⟩), .pointer (some ⟨ey, 0, none⟩), t5, t6, t7, t8, t9, t10, t11, t12, t13, t14, t15, .agg C, .agg (D p1 c1), .agg C, .agg (D p2 c2), t20, t21, t22, t23, t24, t25, t26, t27, t28, t29, t30, t31, t32, t33, t34, t35, t36, t37, t38, t39, t40, t41, t42, t43, t44, t45, t46, t47, t48, t49, t50, t51, t52, t53], []⟩ w))
    (w : World) (h : St C Z s n q XS w0 w [] none none) : wpAnyH Try.prog .any ops42 Q (fun w' => VarAt w' q C 34) 6 #[true, false, true, false, false, false, false, false] ⟨#[t0, .pointer (some ⟨q, 0, none⟩), t2, undef, undef, t5, t6, t7, t8, t9, t10, t11, t12, t13, t14, t15, .agg C, undef, .agg C, undef, t20, t21, t22, t23, t24, t25, t26, t27, t28, t29, t30, t31, t32, t33, t34, t35, t36, t37, t38, t39, t40, t41, t42, t43, t44, t45, t46, t47, t48, t49, t50, t51, t52, t53], []⟩ w := by
  refine wpAnyH_ready (rs := [1, 4, 5]) (by kernel_rfl) (by simp) (AllReadyH.cons rfl (fun K hK => ?_) (AllReadyH.cons rfl (fun K hK => ?_) (AllReadyH.cons rfl (fun K hK => ?_) AllReadyH.nil)))
  · go_simp
    refine (kCp.out _ h.pin).mono ?_
    rintro e w1 ⟨p1, c1, rfl, hk, hb⟩
    refine hK.out _ _ (h.hb.below hb h.hb.lt) (fun _ => ?_)
    clear hK K
    simp only [List.setIfInBounds_toArray, List.set_cons_zero, List.set_cons_succ]
    exact st1 p1 c1 hx kCp zz KQ w1 (h.call hx hk hb)
  · go_simp
    refine hK.out _ _ (h.hb.alloc _) (fun _ => ?_)
    clear hK K
    simp only [List.setIfInBounds_toArray, List.set_cons_zero, List.set_cons_succ]
    exact st0x w.heap.size hx kCp zz KQ _ (h.allocX hx)
  · go_simp
    refine hK.out _ _ (h.hb.alloc _) (fun _ => ?_)
    clear hK K
    simp only [List.setIfInBounds_toArray, List.set_cons_zero, List.set_cons_succ]
    exact st0y w.heap.size hx kCp zz KQ _ (h.allocY hx)
end
end Go.Proofs.Ytidgdanhnpfpmaa
