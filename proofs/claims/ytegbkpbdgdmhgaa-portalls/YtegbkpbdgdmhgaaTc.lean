/- PortAlls' third region: three copies and three variables, made in whatever order. -/
import Derived.Test.YtegbkpbdgdmhgaaTa
namespace Go.Proofs.Ytegbkpbdgdmhgaa
open Go.RowKit Go.Sort

/-- The region's operations, as the cut lays them. -/
abbrev ops39 : Array Oper := #[{ dst := some 16, op := Op.load 34 (Operand.tmp 2), type := 34, pos := "law.go:39", after := #[], guard := none }, { dst := some 17, op := Op.call { callee := Callee.value (Operand.func 7), args := #[Operand.tmp 16], argTypes := #[34] }, type := 34, pos := "law.go:39", after := #[{ on := 0, ground := Ground.data }], guard := none }, { dst := some 18, op := Op.load 34 (Operand.tmp 2), type := 34, pos := "law.go:39", after := #[], guard := none }, { dst := some 19, op := Op.call { callee := Callee.value (Operand.func 7), args := #[Operand.tmp 18], argTypes := #[34] }, type := 34, pos := "law.go:39", after := #[{ on := 2, ground := Ground.data }, { on := 1, ground := Ground.chain }], guard := none }, { dst := some 20, op := Op.load 34 (Operand.tmp 2), type := 34, pos := "law.go:39", after := #[], guard := none }, { dst := some 21, op := Op.call { callee := Callee.value (Operand.func 7), args := #[Operand.tmp 20], argTypes := #[34] }, type := 34, pos := "law.go:39", after := #[{ on := 4, ground := Ground.data }, { on := 3, ground := Ground.chain }], guard := none }, { dst := some 5, op := Op.alloc 34, type := 0, pos := "law.go:39", after := #[], guard := none }, { dst := some 6, op := Op.alloc 34, type := 0, pos := "law.go:39", after := #[], guard := none }, { dst := some 7, op := Op.alloc 34, type := 0, pos := "law.go:39", after := #[], guard := none }, { dst := none, op := Op.store 34 (Operand.tmp 5) (Operand.tmp 17), type := 0, pos := "law.go:39", after := #[{ on := 6, ground := Ground.data }, { on := 1, ground := Ground.data }, { on := 5, ground := Ground.chain }, { on := 0, ground := Ground.phase }, { on := 1, ground := Ground.phase }, { on := 2, ground := Ground.phase }, { on := 3, ground := Ground.phase }, { on := 4, ground := Ground.phase }, { on := 5, ground := Ground.phase }, { on := 6, ground := Ground.phase }, { on := 7, ground := Ground.phase }, { on := 8, ground := Ground.phase }], guard := none }, { dst := none, op := Op.store 34 (Operand.tmp 6) (Operand.tmp 19), type := 0, pos := "law.go:39", after := #[{ on := 7, ground := Ground.data }, { on := 3, ground := Ground.data }, { on := 9, ground := Ground.chain }, { on := 0, ground := Ground.phase }, { on := 1, ground := Ground.phase }, { on := 2, ground := Ground.phase }, { on := 3, ground := Ground.phase }, { on := 4, ground := Ground.phase }, { on := 5, ground := Ground.phase }, { on := 6, ground := Ground.phase }, { on := 7, ground := Ground.phase }, { on := 8, ground := Ground.phase }, { on := 9, ground := Ground.phase }], guard := none }, { dst := none, op := Op.store 34 (Operand.tmp 7) (Operand.tmp 21), type := 0, pos := "law.go:39", after := #[{ on := 8, ground := Ground.data }, { on := 5, ground := Ground.data }, { on := 10, ground := Ground.chain }, { on := 0, ground := Ground.phase }, { on := 1, ground := Ground.phase }, { on := 2, ground := Ground.phase }, { on := 3, ground := Ground.phase }, { on := 4, ground := Ground.phase }, { on := 5, ground := Ground.phase }, { on := 6, ground := Ground.phase }, { on := 7, ground := Ground.phase }, { on := 8, ground := Ground.phase }, { on := 9, ground := Ground.phase }, { on := 10, ground := Ground.phase }], guard := none }]
/-- What is so of the world while they are done: the box of the argument, what came in, what has been made. -/
structure St (C Z : Array Value) (s : Value) (n q : Nat) (XS : Nat → Array Value) (w0 w : World) (ps : List Nat) (x y z : Option Nat) : Prop where
  hb : VarAt w q C 34
  pin : PIn w s n XS
  bel : Below q w0 w
  pc : ∀ p ∈ ps, q < p ∧ ∃ A, VarAt w p A 49 ∧ n * 90 ≤ A.size ∧ ∀ i, i < n → Sub A (i * 90) (XS i)
  nd : ps.Nodup
  ax : ∀ b, x = some b → q < b ∧ VarAt w b Z 34
  ay : ∀ b, y = some b → q < b ∧ VarAt w b Z 34
  az : ∀ b, z = some b → q < b ∧ VarAt w b Z 34
  xy : ∀ b, x = some b → y ≠ some b
  xz : ∀ b, x = some b → z ≠ some b
  yz : ∀ b, y = some b → z ≠ some b
section
variable {C Z : Array Value} {s : Value} {n q : Nat} {XS : Nat → Array Value} {w0 w w' : World} {ps : List Nat} {x y z : Option Nat}
theorem St.go (h : St C Z s n q XS w0 w ps x y z) (hx : ∀ i, i < n → (XS i).size = 90) (hb : Below w.heap.size w w') : St C Z s n q XS w0 w' ps x y z :=
  ⟨h.hb.below hb h.hb.lt, h.pin.below hx hb, h.bel.trans (hb.mono (Nat.le_of_lt h.hb.lt)),
    fun p hp => ⟨(h.pc p hp).1, by obtain ⟨A, h1, h2⟩ := (h.pc p hp).2; exact ⟨A, h1.below hb h1.lt, h2⟩⟩, h.nd,
    fun b e => ⟨(h.ax b e).1, (h.ax b e).2.below hb (h.ax b e).2.lt⟩, fun b e => ⟨(h.ay b e).1, (h.ay b e).2.below hb (h.ay b e).2.lt⟩, fun b e => ⟨(h.az b e).1, (h.az b e).2.below hb (h.az b e).2.lt⟩, h.xy, h.xz, h.yz⟩
theorem St.call (h : St C Z s n q XS w0 w ps x y z) (hx : ∀ i, i < n → (XS i).size = 90) {p : Nat} (hk : Kept3 w w' p n XS) (hb : Below w.heap.size w w') : St C Z s n q XS w0 w' (p :: ps) x y z := by
  have g := h.go hx hb
  obtain ⟨A, h1, h2, h3, h4⟩ := hk
  have hl := h.hb.lt
  refine ⟨g.hb, g.pin, g.bel, fun r hr => ?_, List.nodup_cons.2 ⟨fun hm => ?_, g.nd⟩, g.ax, g.ay, g.az, g.xy, g.xz, g.yz⟩
  · rcases List.mem_cons.1 hr with rfl | hr
    · exact ⟨by omega, A, h1, h2, h3⟩
    · exact g.pc r hr
  · obtain ⟨_, _, h5, _⟩ := h.pc p hm
    have := h5.lt
    omega
theorem St.allocX (h : St C Z s n q XS w0 w ps none y z) (hx : ∀ i, i < n → (XS i).size = 90) : St C Z s n q XS w0 (w.alloc (.cells Z 34)) ps (some w.heap.size) y z := by
  have g := h.go hx (box_below w (.cells Z 34))
  exact ⟨g.hb, g.pin, g.bel, g.pc, g.nd, fun b e => by cases e; exact ⟨h.hb.lt, var_new _ _ _⟩, g.ay, g.az,
    fun b e f => by cases e; have := (h.ay _ f).2.lt; omega, fun b e f => by cases e; have := (h.az _ f).2.lt; omega, g.yz⟩
theorem St.allocY (h : St C Z s n q XS w0 w ps x none z) (hx : ∀ i, i < n → (XS i).size = 90) : St C Z s n q XS w0 (w.alloc (.cells Z 34)) ps x (some w.heap.size) z := by
  have g := h.go hx (box_below w (.cells Z 34))
  exact ⟨g.hb, g.pin, g.bel, g.pc, g.nd, g.ax, fun b e => by cases e; exact ⟨h.hb.lt, var_new _ _ _⟩, g.az,
    fun b e f => by cases f; have := (h.ax _ e).2.lt; omega, g.xz, fun b e f => by cases e; have := (h.az _ f).2.lt; omega⟩
theorem St.allocZ (h : St C Z s n q XS w0 w ps x y none) (hx : ∀ i, i < n → (XS i).size = 90) : St C Z s n q XS w0 (w.alloc (.cells Z 34)) ps x y (some w.heap.size) := by
  have g := h.go hx (box_below w (.cells Z 34))
  exact ⟨g.hb, g.pin, g.bel, g.pc, g.nd, g.ax, g.ay, fun b e => by cases e; exact ⟨h.hb.lt, var_new _ _ _⟩, g.xy,
    fun b e f => by cases f; have := (h.ax _ e).2.lt; omega, fun b e f => by cases f; have := (h.ay _ e).2.lt; omega⟩
end
section
variable {C Z : Array Value} {D : Nat → Nat → Array Value} {s : Value} {n q : Nat} {XS : Nat → Array Value} {w0 : World} {Q : Exit → Act → World → Prop} {t0 t1 t3 t4 t8 t9 t10 t11 t12 t13 t14 t15 t22 t23 t24 t25 t26 t27 t28 t29 t30 t31 t32 t33 t34 t35 t36 t37 t38 t39 t40 t41 t42 t43 t44 t45 t46 t47 t48 t49 t50 t51 t52 t53 t54 t55 t56 : Value}
theorem st3xyz (p1 c1 p2 c2 p3 c3 ex ey ez : Nat) (hx : ∀ i, i < n → (XS i).size = 90) (kCp : Hid (∀ w, PIn w s n XS → Calls Try.prog 7 #[.agg C] w fun e w' => ∃ pb cap, e = .returned (.agg (D pb cap)) ∧ Kept3 w w' pb n XS ∧ Below w.heap.size w w')) (zz : ∀ w, (zeroValue 34).run Try.prog w = .ok (.agg Z) w)
    (KQ : Hid (∀ (w : World) (p1 c1 p2 c2 p3 c3 ex ey ez : Nat), St C Z s n q XS w0 w [p3, p2, p1] (some ex) (some ey) (some ez) → wpAnyH Try.prog .any ops39 Q (fun w' => VarAt w' q C 34) 3 #[true, true, true, true, true, true, true, true, true, false, false, false] ⟨#[t0, t1, .pointer (some ⟨q, 0, none⟩), t3, t4, .pointer (some ⟨ex, 0, none⟩), .pointer (some ⟨ey, 0, none⟩), .pointer (some ⟨ez, 0, none⟩), t8, t9, t10, t11, t12, t13, t14, t15, .agg C, .agg (D p1 c1), .agg C, .agg (D p2 c2), .agg C, .agg (D p3 c3), t22, t23, t24, t25, t26, t27, t28, t29, t30, t31, t32, t33, t34, t35, t36, t37, t38, t39, t40, t41, t42, t43, t44, t45, t46, t47, t48, t49, t50, t51, t52, t53, t54, t55, t56], []⟩ w))
    (w : World) (h : St C Z s n q XS w0 w [p3, p2, p1] (some ex) (some ey) (some ez)) : wpAnyH Try.prog .any ops39 Q (fun w' => VarAt w' q C 34) 3 #[true, true, true, true, true, true, true, true, true, false, false, false] ⟨#[t0, t1, .pointer (some ⟨q, 0, none⟩), t3, t4, .pointer (some ⟨ex, 0, none⟩), .pointer (some ⟨ey, 0, none⟩), .pointer (some ⟨ez, 0, none⟩), t8, t9, t10, t11, t12, t13, t14, t15, .agg C, .agg (D p1 c1), .agg C, .agg (D p2 c2), .agg C, .agg (D p3 c3), t22, t23, t24, t25, t26, t27, t28, t29, t30, t31, t32, t33, t34, t35, t36, t37, t38, t39, t40, t41, t42, t43, t44, t45, t46, t47, t48, t49, t50, t51, t52, t53, t54, t55, t56], []⟩ w := by
  exact KQ.out w p1 c1 p2 c2 p3 c3 ex ey ez h
theorem st3xy (p1 c1 p2 c2 p3 c3 ex ey : Nat) (hx : ∀ i, i < n → (XS i).size = 90) (kCp : Hid (∀ w, PIn w s n XS → Calls Try.prog 7 #[.agg C] w fun e w' => ∃ pb cap, e = .returned (.agg (D pb cap)) ∧ Kept3 w w' pb n XS ∧ Below w.heap.size w w')) (zz : ∀ w, (zeroValue 34).run Try.prog w = .ok (.agg Z) w)
    (KQ : Hid (∀ (w : World) (p1 c1 p2 c2 p3 c3 ex ey ez : Nat), St C Z s n q XS w0 w [p3, p2, p1] (some ex) (some ey) (some ez) → wpAnyH Try.prog .any ops39 Q (fun w' => VarAt w' q C 34) 3 #[true, true, true, true, true, true, true, true, true, false, false, false] ⟨#[t0, t1, .pointer (some ⟨q, 0, none⟩), t3, t4, .pointer (some ⟨ex, 0, none⟩), .pointer (some ⟨ey, 0, none⟩), .pointer (some ⟨ez, 0, none⟩), t8, t9, t10, t11, t12, t13, t14, t15, .agg C, .agg (D p1 c1), .agg C, .agg (D p2 c2), .agg C, .agg (D p3 c3), t22, t23, t24, t25, t26, t27, t28, t29, t30, t31, t32, t33, t34, t35, t36, t37, t38, t39, t40, t41, t42, t43, t44, t45, t46, t47, t48, t49, t50, t51, t52, t53, t54, t55, t56], []⟩ w))
    (w : World) (h : St C Z s n q XS w0 w [p3, p2, p1] (some ex) (some ey) none) : wpAnyH Try.prog .any ops39 Q (fun w' => VarAt w' q C 34) 4 #[true, true, true, true, true, true, true, true, false, false, false, false] ⟨#[t0, t1, .pointer (some ⟨q, 0, none⟩), t3, t4, .pointer (some ⟨ex, 0, none⟩), .pointer (some ⟨ey, 0, none⟩), undef, t8, t9, t10, t11, t12, t13, t14, t15, .agg C, .agg (D p1 c1), .agg C, .agg (D p2 c2), .agg C, .agg (D p3 c3), t22, t23, t24, t25, t26, t27, t28, t29, t30, t31, t32, t33, t34, t35, t36, t37, t38, t39, t40, t41, t42, t43, t44, t45, t46, t47, t48, t49, t50, t51, t52, t53, t54, t55, t56], []⟩ w := by
  refine wpAnyH_ready (rs := [8]) (by kernel_rfl) (by simp) (AllReadyH.cons rfl (fun K hK => ?_) AllReadyH.nil)
  · go_simp
    refine hK.out _ _ (h.hb.alloc _) (fun _ => ?_)
    clear hK K
    simp only [List.setIfInBounds_toArray, List.set_cons_zero, List.set_cons_succ]
    exact st3xyz p1 c1 p2 c2 p3 c3 ex ey w.heap.size hx kCp zz KQ _ (h.allocZ hx)
theorem st3xz (p1 c1 p2 c2 p3 c3 ex ez : Nat) (hx : ∀ i, i < n → (XS i).size = 90) (kCp : Hid (∀ w, PIn w s n XS → Calls Try.prog 7 #[.agg C] w fun e w' => ∃ pb cap, e = .returned (.agg (D pb cap)) ∧ Kept3 w w' pb n XS ∧ Below w.heap.size w w')) (zz : ∀ w, (zeroValue 34).run Try.prog w = .ok (.agg Z) w)
    (KQ : Hid (∀ (w : World) (p1 c1 p2 c2 p3 c3 ex ey ez : Nat), St C Z s n q XS w0 w [p3, p2, p1] (some ex) (some ey) (some ez) → wpAnyH Try.prog .any ops39 Q (fun w' => VarAt w' q C 34) 3 #[true, true, true, true, true, true, true, true, true, false, false, false] ⟨#[t0, t1, .pointer (some ⟨q, 0, none⟩), t3, t4, .pointer (some ⟨ex, 0, none⟩), .pointer (some ⟨ey, 0, none⟩), .pointer (some ⟨ez, 0, none⟩), t8, t9, t10, t11, t12, t13, t14, t15, .agg C, .agg (D p1 c1), .agg C, .agg (D p2 c2), .agg C, .agg (D p3 c3), t22, t23, t24, t25, t26, t27, t28, t29, t30, t31, t32, t33, t34, t35, t36, t37, t38, t39, t40, t41, t42, t43, t44, t45, t46, t47, t48, t49, t50, t51, t52, t53, t54, t55, t56], []⟩ w))
    (w : World) (h : St C Z s n q XS w0 w [p3, p2, p1] (some ex) none (some ez)) : wpAnyH Try.prog .any ops39 Q (fun w' => VarAt w' q C 34) 4 #[true, true, true, true, true, true, true, false, true, false, false, false] ⟨#[t0, t1, .pointer (some ⟨q, 0, none⟩), t3, t4, .pointer (some ⟨ex, 0, none⟩), undef, .pointer (some ⟨ez, 0, none⟩), t8, t9, t10, t11, t12, t13, t14, t15, .agg C, .agg (D p1 c1), .agg C, .agg (D p2 c2), .agg C, .agg (D p3 c3), t22, t23, t24, t25, t26, t27, t28, t29, t30, t31, t32, t33, t34, t35, t36, t37, t38, t39, t40, t41, t42, t43, t44, t45, t46, t47, t48, t49, t50, t51, t52, t53, t54, t55, t56], []⟩ w := by
  refine wpAnyH_ready (rs := [7]) (by kernel_rfl) (by simp) (AllReadyH.cons rfl (fun K hK => ?_) AllReadyH.nil)
  · go_simp
    refine hK.out _ _ (h.hb.alloc _) (fun _ => ?_)
    clear hK K
    simp only [List.setIfInBounds_toArray, List.set_cons_zero, List.set_cons_succ]
    exact st3xyz p1 c1 p2 c2 p3 c3 ex w.heap.size ez hx kCp zz KQ _ (h.allocY hx)
theorem st3yz (p1 c1 p2 c2 p3 c3 ey ez : Nat) (hx : ∀ i, i < n → (XS i).size = 90) (kCp : Hid (∀ w, PIn w s n XS → Calls Try.prog 7 #[.agg C] w fun e w' => ∃ pb cap, e = .returned (.agg (D pb cap)) ∧ Kept3 w w' pb n XS ∧ Below w.heap.size w w')) (zz : ∀ w, (zeroValue 34).run Try.prog w = .ok (.agg Z) w)
    (KQ : Hid (∀ (w : World) (p1 c1 p2 c2 p3 c3 ex ey ez : Nat), St C Z s n q XS w0 w [p3, p2, p1] (some ex) (some ey) (some ez) → wpAnyH Try.prog .any ops39 Q (fun w' => VarAt w' q C 34) 3 #[true, true, true, true, true, true, true, true, true, false, false, false] ⟨#[t0, t1, .pointer (some ⟨q, 0, none⟩), t3, t4, .pointer (some ⟨ex, 0, none⟩), .pointer (some ⟨ey, 0, none⟩), .pointer (some ⟨ez, 0, none⟩), t8, t9, t10, t11, t12, t13, t14, t15, .agg C, .agg (D p1 c1), .agg C, .agg (D p2 c2), .agg C, .agg (D p3 c3), t22, t23, t24, t25, t26, t27, t28, t29, t30, t31, t32, t33, t34, t35, t36, t37, t38, t39, t40, t41, t42, t43, t44, t45, t46, t47, t48, t49, t50, t51, t52, t53, t54, t55, t56], []⟩ w))
    (w : World) (h : St C Z s n q XS w0 w [p3, p2, p1] none (some ey) (some ez)) : wpAnyH Try.prog .any ops39 Q (fun w' => VarAt w' q C 34) 4 #[true, true, true, true, true, true, false, true, true, false, false, false] ⟨#[t0, t1, .pointer (some ⟨q, 0, none⟩), t3, t4, undef, .pointer (some ⟨ey, 0, none⟩), .pointer (some ⟨ez, 0, none⟩), t8, t9, t10, t11, t12, t13, t14, t15, .agg C, .agg (D p1 c1), .agg C, .agg (D p2 c2), .agg C, .agg (D p3 c3), t22, t23, t24, t25, t26, t27, t28, t29, t30, t31, t32, t33, t34, t35, t36, t37, t38, t39, t40, t41, t42, t43, t44, t45, t46, t47, t48, t49, t50, t51, t52, t53, t54, t55, t56], []⟩ w := by
  refine wpAnyH_ready (rs := [6]) (by kernel_rfl) (by simp) (AllReadyH.cons rfl (fun K hK => ?_) AllReadyH.nil)
  · go_simp
    refine hK.out _ _ (h.hb.alloc _) (fun _ => ?_)
    clear hK K
    simp only [List.setIfInBounds_toArray, List.set_cons_zero, List.set_cons_succ]
    exact st3xyz p1 c1 p2 c2 p3 c3 w.heap.size ey ez hx kCp zz KQ _ (h.allocX hx)
theorem st3x (p1 c1 p2 c2 p3 c3 ex : Nat) (hx : ∀ i, i < n → (XS i).size = 90) (kCp : Hid (∀ w, PIn w s n XS → Calls Try.prog 7 #[.agg C] w fun e w' => ∃ pb cap, e = .returned (.agg (D pb cap)) ∧ Kept3 w w' pb n XS ∧ Below w.heap.size w w')) (zz : ∀ w, (zeroValue 34).run Try.prog w = .ok (.agg Z) w)
    (KQ : Hid (∀ (w : World) (p1 c1 p2 c2 p3 c3 ex ey ez : Nat), St C Z s n q XS w0 w [p3, p2, p1] (some ex) (some ey) (some ez) → wpAnyH Try.prog .any ops39 Q (fun w' => VarAt w' q C 34) 3 #[true, true, true, true, true, true, true, true, true, false, false, false] ⟨#[t0, t1, .pointer (some ⟨q, 0, none⟩), t3, t4, .pointer (some ⟨ex, 0, none⟩), .pointer (some ⟨ey, 0, none⟩), .pointer (some ⟨ez, 0, none⟩), t8, t9, t10, t11, t12, t13, t14, t15, .agg C, .agg (D p1 c1), .agg C, .agg (D p2 c2), .agg C, .agg (D p3 c3), t22, t23, t24, t25, t26, t27, t28, t29, t30, t31, t32, t33, t34, t35, t36, t37, t38, t39, t40, t41, t42, t43, t44, t45, t46, t47, t48, t49, t50, t51, t52, t53, t54, t55, t56], []⟩ w))
    (w : World) (h : St C Z s n q XS w0 w [p3, p2, p1] (some ex) none none) : wpAnyH Try.prog .any ops39 Q (fun w' => VarAt w' q C 34) 5 #[true, true, true, true, true, true, true, false, false, false, false, false] ⟨#[t0, t1, .pointer (some ⟨q, 0, none⟩), t3, t4, .pointer (some ⟨ex, 0, none⟩), undef, undef, t8, t9, t10, t11, t12, t13, t14, t15, .agg C, .agg (D p1 c1), .agg C, .agg (D p2 c2), .agg C, .agg (D p3 c3), t22, t23, t24, t25, t26, t27, t28, t29, t30, t31, t32, t33, t34, t35, t36, t37, t38, t39, t40, t41, t42, t43, t44, t45, t46, t47, t48, t49, t50, t51, t52, t53, t54, t55, t56], []⟩ w := by
  refine wpAnyH_ready (rs := [7, 8]) (by kernel_rfl) (by simp) (AllReadyH.cons rfl (fun K hK => ?_) (AllReadyH.cons rfl (fun K hK => ?_) AllReadyH.nil))
  · go_simp
    refine hK.out _ _ (h.hb.alloc _) (fun _ => ?_)
    clear hK K
    simp only [List.setIfInBounds_toArray, List.set_cons_zero, List.set_cons_succ]
    exact st3xy p1 c1 p2 c2 p3 c3 ex w.heap.size hx kCp zz KQ _ (h.allocY hx)
  · go_simp
    refine hK.out _ _ (h.hb.alloc _) (fun _ => ?_)
    clear hK K
    simp only [List.setIfInBounds_toArray, List.set_cons_zero, List.set_cons_succ]
    exact st3xz p1 c1 p2 c2 p3 c3 ex w.heap.size hx kCp zz KQ _ (h.allocZ hx)
theorem st3y (p1 c1 p2 c2 p3 c3 ey : Nat) (hx : ∀ i, i < n → (XS i).size = 90) (kCp : Hid (∀ w, PIn w s n XS → Calls Try.prog 7 #[.agg C] w fun e w' => ∃ pb cap, e = .returned (.agg (D pb cap)) ∧ Kept3 w w' pb n XS ∧ Below w.heap.size w w')) (zz : ∀ w, (zeroValue 34).run Try.prog w = .ok (.agg Z) w)
    (KQ : Hid (∀ (w : World) (p1 c1 p2 c2 p3 c3 ex ey ez : Nat), St C Z s n q XS w0 w [p3, p2, p1] (some ex) (some ey) (some ez) → wpAnyH Try.prog .any ops39 Q (fun w' => VarAt w' q C 34) 3 #[true, true, true, true, true, true, true, true, true, false, false, false] ⟨#[t0, t1, .pointer (some ⟨q, 0, none⟩), t3, t4, .pointer (some ⟨ex, 0, none⟩), .pointer (some ⟨ey, 0, none⟩), .pointer (some ⟨ez, 0, none⟩), t8, t9, t10, t11, t12, t13, t14, t15, .agg C, .agg (D p1 c1), .agg C, .agg (D p2 c2), .agg C, .agg (D p3 c3), t22, t23, t24, t25, t26, t27, t28, t29, t30, t31, t32, t33, t34, t35, t36, t37, t38, t39, t40, t41, t42, t43, t44, t45, t46, t47, t48, t49, t50, t51, t52, t53, t54, t55, t56], []⟩ w))
    (w : World) (h : St C Z s n q XS w0 w [p3, p2, p1] none (some ey) none) : wpAnyH Try.prog .any ops39 Q (fun w' => VarAt w' q C 34) 5 #[true, true, true, true, true, true, false, true, false, false, false, false] ⟨#[t0, t1, .pointer (some ⟨q, 0, none⟩), t3, t4, undef, .pointer (some ⟨ey, 0, none⟩), undef, t8, t9, t10, t11, t12, t13, t14, t15, .agg C, .agg (D p1 c1), .agg C, .agg (D p2 c2), .agg C, .agg (D p3 c3), t22, t23, t24, t25, t26, t27, t28, t29, t30, t31, t32, t33, t34, t35, t36, t37, t38, t39, t40, t41, t42, t43, t44, t45, t46, t47, t48, t49, t50, t51, t52, t53, t54, t55, t56], []⟩ w := by
  refine wpAnyH_ready (rs := [6, 8]) (by kernel_rfl) (by simp) (AllReadyH.cons rfl (fun K hK => ?_) (AllReadyH.cons rfl (fun K hK => ?_) AllReadyH.nil))
  · go_simp
    refine hK.out _ _ (h.hb.alloc _) (fun _ => ?_)
    clear hK K
    simp only [List.setIfInBounds_toArray, List.set_cons_zero, List.set_cons_succ]
    exact st3xy p1 c1 p2 c2 p3 c3 w.heap.size ey hx kCp zz KQ _ (h.allocX hx)
  · go_simp
    refine hK.out _ _ (h.hb.alloc _) (fun _ => ?_)
    clear hK K
    simp only [List.setIfInBounds_toArray, List.set_cons_zero, List.set_cons_succ]
    exact st3yz p1 c1 p2 c2 p3 c3 ey w.heap.size hx kCp zz KQ _ (h.allocZ hx)
theorem st3z (p1 c1 p2 c2 p3 c3 ez : Nat) (hx : ∀ i, i < n → (XS i).size = 90) (kCp : Hid (∀ w, PIn w s n XS → Calls Try.prog 7 #[.agg C] w fun e w' => ∃ pb cap, e = .returned (.agg (D pb cap)) ∧ Kept3 w w' pb n XS ∧ Below w.heap.size w w')) (zz : ∀ w, (zeroValue 34).run Try.prog w = .ok (.agg Z) w)
    (KQ : Hid (∀ (w : World) (p1 c1 p2 c2 p3 c3 ex ey ez : Nat), St C Z s n q XS w0 w [p3, p2, p1] (some ex) (some ey) (some ez) → wpAnyH Try.prog .any ops39 Q (fun w' => VarAt w' q C 34) 3 #[true, true, true, true, true, true, true, true, true, false, false, false] ⟨#[t0, t1, .pointer (some ⟨q, 0, none⟩), t3, t4, .pointer (some ⟨ex, 0, none⟩), .pointer (some ⟨ey, 0, none⟩), .pointer (some ⟨ez, 0, none⟩), t8, t9, t10, t11, t12, t13, t14, t15, .agg C, .agg (D p1 c1), .agg C, .agg (D p2 c2), .agg C, .agg (D p3 c3), t22, t23, t24, t25, t26, t27, t28, t29, t30, t31, t32, t33, t34, t35, t36, t37, t38, t39, t40, t41, t42, t43, t44, t45, t46, t47, t48, t49, t50, t51, t52, t53, t54, t55, t56], []⟩ w))
    (w : World) (h : St C Z s n q XS w0 w [p3, p2, p1] none none (some ez)) : wpAnyH Try.prog .any ops39 Q (fun w' => VarAt w' q C 34) 5 #[true, true, true, true, true, true, false, false, true, false, false, false] ⟨#[t0, t1, .pointer (some ⟨q, 0, none⟩), t3, t4, undef, undef, .pointer (some ⟨ez, 0, none⟩), t8, t9, t10, t11, t12, t13, t14, t15, .agg C, .agg (D p1 c1), .agg C, .agg (D p2 c2), .agg C, .agg (D p3 c3), t22, t23, t24, t25, t26, t27, t28, t29, t30, t31, t32, t33, t34, t35, t36, t37, t38, t39, t40, t41, t42, t43, t44, t45, t46, t47, t48, t49, t50, t51, t52, t53, t54, t55, t56], []⟩ w := by
  refine wpAnyH_ready (rs := [6, 7]) (by kernel_rfl) (by simp) (AllReadyH.cons rfl (fun K hK => ?_) (AllReadyH.cons rfl (fun K hK => ?_) AllReadyH.nil))
  · go_simp
    refine hK.out _ _ (h.hb.alloc _) (fun _ => ?_)
    clear hK K
    simp only [List.setIfInBounds_toArray, List.set_cons_zero, List.set_cons_succ]
    exact st3xz p1 c1 p2 c2 p3 c3 w.heap.size ez hx kCp zz KQ _ (h.allocX hx)
  · go_simp
    refine hK.out _ _ (h.hb.alloc _) (fun _ => ?_)
    clear hK K
    simp only [List.setIfInBounds_toArray, List.set_cons_zero, List.set_cons_succ]
    exact st3yz p1 c1 p2 c2 p3 c3 w.heap.size ez hx kCp zz KQ _ (h.allocY hx)
theorem st3 (p1 c1 p2 c2 p3 c3 : Nat) (hx : ∀ i, i < n → (XS i).size = 90) (kCp : Hid (∀ w, PIn w s n XS → Calls Try.prog 7 #[.agg C] w fun e w' => ∃ pb cap, e = .returned (.agg (D pb cap)) ∧ Kept3 w w' pb n XS ∧ Below w.heap.size w w')) (zz : ∀ w, (zeroValue 34).run Try.prog w = .ok (.agg Z) w)
    (KQ : Hid (∀ (w : World) (p1 c1 p2 c2 p3 c3 ex ey ez : Nat), St C Z s n q XS w0 w [p3, p2, p1] (some ex) (some ey) (some ez) → wpAnyH Try.prog .any ops39 Q (fun w' => VarAt w' q C 34) 3 #[true, true, true, true, true, true, true, true, true, false, false, false] ⟨#[t0, t1, .pointer (some ⟨q, 0, none⟩), t3, t4, .pointer (some ⟨ex, 0, none⟩), .pointer (some ⟨ey, 0, none⟩), .pointer (some ⟨ez, 0, none⟩), t8, t9, t10, t11, t12, t13, t14, t15, .agg C, .agg (D p1 c1), .agg C, .agg (D p2 c2), .agg C, .agg (D p3 c3), t22, t23, t24, t25, t26, t27, t28, t29, t30, t31, t32, t33, t34, t35, t36, t37, t38, t39, t40, t41, t42, t43, t44, t45, t46, t47, t48, t49, t50, t51, t52, t53, t54, t55, t56], []⟩ w))
    (w : World) (h : St C Z s n q XS w0 w [p3, p2, p1] none none none) : wpAnyH Try.prog .any ops39 Q (fun w' => VarAt w' q C 34) 6 #[true, true, true, true, true, true, false, false, false, false, false, false] ⟨#[t0, t1, .pointer (some ⟨q, 0, none⟩), t3, t4, undef, undef, undef, t8, t9, t10, t11, t12, t13, t14, t15, .agg C, .agg (D p1 c1), .agg C, .agg (D p2 c2), .agg C, .agg (D p3 c3), t22, t23, t24, t25, t26, t27, t28, t29, t30, t31, t32, t33, t34, t35, t36, t37, t38, t39, t40, t41, t42, t43, t44, t45, t46, t47, t48, t49, t50, t51, t52, t53, t54, t55, t56], []⟩ w := by
  refine wpAnyH_ready (rs := [6, 7, 8]) (by kernel_rfl) (by simp) (AllReadyH.cons rfl (fun K hK => ?_) (AllReadyH.cons rfl (fun K hK => ?_) (AllReadyH.cons rfl (fun K hK => ?_) AllReadyH.nil)))
  · go_simp
    refine hK.out _ _ (h.hb.alloc _) (fun _ => ?_)
    clear hK K
    simp only [List.setIfInBounds_toArray, List.set_cons_zero, List.set_cons_succ]
    exact st3x p1 c1 p2 c2 p3 c3 w.heap.size hx kCp zz KQ _ (h.allocX hx)
  · go_simp
    refine hK.out _ _ (h.hb.alloc _) (fun _ => ?_)
    clear hK K
    simp only [List.setIfInBounds_toArray, List.set_cons_zero, List.set_cons_succ]
    exact st3y p1 c1 p2 c2 p3 c3 w.heap.size hx kCp zz KQ _ (h.allocY hx)
  · go_simp
    refine hK.out _ _ (h.hb.alloc _) (fun _ => ?_)
    clear hK K
    simp only [List.setIfInBounds_toArray, List.set_cons_zero, List.set_cons_succ]
    exact st3z p1 c1 p2 c2 p3 c3 w.heap.size hx kCp zz KQ _ (h.allocZ hx)
theorem st2xyz (p1 c1 p2 c2 ex ey ez : Nat) (hx : ∀ i, i < n → (XS i).size = 90) (kCp : Hid (∀ w, PIn w s n XS → Calls Try.prog 7 #[.agg C] w fun e w' => ∃ pb cap, e = .returned (.agg (D pb cap)) ∧ Kept3 w w' pb n XS ∧ Below w.heap.size w w')) (zz : ∀ w, (zeroValue 34).run Try.prog w = .ok (.agg Z) w)
    (KQ : Hid (∀ (w : World) (p1 c1 p2 c2 p3 c3 ex ey ez : Nat), St C Z s n q XS w0 w [p3, p2, p1] (some ex) (some ey) (some ez) → wpAnyH Try.prog .any ops39 Q (fun w' => VarAt w' q C 34) 3 #[true, true, true, true, true, true, true, true, true, false, false, false] ⟨#[t0, t1, .pointer (some ⟨q, 0, none⟩), t3, t4, .pointer (some ⟨ex, 0, none⟩), .pointer (some ⟨ey, 0, none⟩), .pointer (some ⟨ez, 0, none⟩), t8, t9, t10, t11, t12, t13, t14, t15, .agg C, .agg (D p1 c1), .agg C, .agg (D p2 c2), .agg C, .agg (D p3 c3), t22, t23, t24, t25, t26, t27, t28, t29, t30, t31, t32, t33, t34, t35, t36, t37, t38, t39, t40, t41, t42, t43, t44, t45, t46, t47, t48, t49, t50, t51, t52, t53, t54, t55, t56], []⟩ w))
    (w : World) (h : St C Z s n q XS w0 w [p2, p1] (some ex) (some ey) (some ez)) : wpAnyH Try.prog .any ops39 Q (fun w' => VarAt w' q C 34) 4 #[true, true, true, true, true, false, true, true, true, false, false, false] ⟨#[t0, t1, .pointer (some ⟨q, 0, none⟩), t3, t4, .pointer (some ⟨ex, 0, none⟩), .pointer (some ⟨ey, 0, none⟩), .pointer (some ⟨ez, 0, none⟩), t8, t9, t10, t11, t12, t13, t14, t15, .agg C, .agg (D p1 c1), .agg C, .agg (D p2 c2), .agg C, undef, t22, t23, t24, t25, t26, t27, t28, t29, t30, t31, t32, t33, t34, t35, t36, t37, t38, t39, t40, t41, t42, t43, t44, t45, t46, t47, t48, t49, t50, t51, t52, t53, t54, t55, t56], []⟩ w := by
  refine wpAnyH_ready (rs := [5]) (by kernel_rfl) (by simp) (AllReadyH.cons rfl (fun K hK => ?_) AllReadyH.nil)
  · go_simp
    refine (kCp.out _ h.pin).mono ?_
    rintro e w1 ⟨p3, c3, rfl, hk, hb⟩
    refine hK.out _ _ (h.hb.below hb h.hb.lt) (fun _ => ?_)
    clear hK K
    simp only [List.setIfInBounds_toArray, List.set_cons_zero, List.set_cons_succ]
    exact st3xyz p1 c1 p2 c2 p3 c3 ex ey ez hx kCp zz KQ w1 (h.call hx hk hb)
theorem st2xy (p1 c1 p2 c2 ex ey : Nat) (hx : ∀ i, i < n → (XS i).size = 90) (kCp : Hid (∀ w, PIn w s n XS → Calls Try.prog 7 #[.agg C] w fun e w' => ∃ pb cap, e = .returned (.agg (D pb cap)) ∧ Kept3 w w' pb n XS ∧ Below w.heap.size w w')) (zz : ∀ w, (zeroValue 34).run Try.prog w = .ok (.agg Z) w)
    (KQ : Hid (∀ (w : World) (p1 c1 p2 c2 p3 c3 ex ey ez : Nat), St C Z s n q XS w0 w [p3, p2, p1] (some ex) (some ey) (some ez) → wpAnyH Try.prog .any ops39 Q (fun w' => VarAt w' q C 34) 3 #[true, true, true, true, true, true, true, true, true, false, false, false] ⟨#[t0, t1, .pointer (some ⟨q, 0, none⟩), t3, t4, .pointer (some ⟨ex, 0, none⟩), .pointer (some ⟨ey, 0, none⟩), .pointer (some ⟨ez, 0, none⟩), t8, t9, t10, t11, t12, t13, t14, t15, .agg C, .agg (D p1 c1), .agg C, .agg (D p2 c2), .agg C, .agg (D p3 c3), t22, t23, t24, t25, t26, t27, t28, t29, t30, t31, t32, t33, t34, t35, t36, t37, t38, t39, t40, t41, t42, t43, t44, t45, t46, t47, t48, t49, t50, t51, t52, t53, t54, t55, t56], []⟩ w))
    (w : World) (h : St C Z s n q XS w0 w [p2, p1] (some ex) (some ey) none) : wpAnyH Try.prog .any ops39 Q (fun w' => VarAt w' q C 34) 5 #[true, true, true, true, true, false, true, true, false, false, false, false] ⟨#[t0, t1, .pointer (some ⟨q, 0, none⟩), t3, t4, .pointer (some ⟨ex, 0, none⟩), .pointer (some ⟨ey, 0, none⟩), undef, t8, t9, t10, t11, t12, t13, t14, t15, .agg C, .agg (D p1 c1), .agg C, .agg (D p2 c2), .agg C, undef, t22, t23, t24, t25, t26, t27, t28, t29, t30, t31, t32, t33, t34, t35, t36, t37, t38, t39, t40, t41, t42, t43, t44, t45, t46, t47, t48, t49, t50, t51, t52, t53, t54, t55, t56], []⟩ w := by
  refine wpAnyH_ready (rs := [5, 8]) (by kernel_rfl) (by simp) (AllReadyH.cons rfl (fun K hK => ?_) (AllReadyH.cons rfl (fun K hK => ?_) AllReadyH.nil))
  · go_simp
    refine (kCp.out _ h.pin).mono ?_
    rintro e w1 ⟨p3, c3, rfl, hk, hb⟩
    refine hK.out _ _ (h.hb.below hb h.hb.lt) (fun _ => ?_)
    clear hK K
    simp only [List.setIfInBounds_toArray, List.set_cons_zero, List.set_cons_succ]
    exact st3xy p1 c1 p2 c2 p3 c3 ex ey hx kCp zz KQ w1 (h.call hx hk hb)
  · go_simp
    refine hK.out _ _ (h.hb.alloc _) (fun _ => ?_)
    clear hK K
    simp only [List.setIfInBounds_toArray, List.set_cons_zero, List.set_cons_succ]
    exact st2xyz p1 c1 p2 c2 ex ey w.heap.size hx kCp zz KQ _ (h.allocZ hx)
theorem st2xz (p1 c1 p2 c2 ex ez : Nat) (hx : ∀ i, i < n → (XS i).size = 90) (kCp : Hid (∀ w, PIn w s n XS → Calls Try.prog 7 #[.agg C] w fun e w' => ∃ pb cap, e = .returned (.agg (D pb cap)) ∧ Kept3 w w' pb n XS ∧ Below w.heap.size w w')) (zz : ∀ w, (zeroValue 34).run Try.prog w = .ok (.agg Z) w)
    (KQ : Hid (∀ (w : World) (p1 c1 p2 c2 p3 c3 ex ey ez : Nat), St C Z s n q XS w0 w [p3, p2, p1] (some ex) (some ey) (some ez) → wpAnyH Try.prog .any ops39 Q (fun w' => VarAt w' q C 34) 3 #[true, true, true, true, true, true, true, true, true, false, false, false] ⟨#[t0, t1, .pointer (some ⟨q, 0, none⟩), t3, t4, .pointer (some ⟨ex, 0, none⟩), .pointer (some ⟨ey, 0, none⟩), .pointer (some ⟨ez, 0, none⟩), t8, t9, t10, t11, t12, t13, t14, t15, .agg C, .agg (D p1 c1), .agg C, .agg (D p2 c2), .agg C, .agg (D p3 c3), t22, t23, t24, t25, t26, t27, t28, t29, t30, t31, t32, t33, t34, t35, t36, t37, t38, t39, t40, t41, t42, t43, t44, t45, t46, t47, t48, t49, t50, t51, t52, t53, t54, t55, t56], []⟩ w))
    (w : World) (h : St C Z s n q XS w0 w [p2, p1] (some ex) none (some ez)) : wpAnyH Try.prog .any ops39 Q (fun w' => VarAt w' q C 34) 5 #[true, true, true, true, true, false, true, false, true, false, false, false] ⟨#[t0, t1, .pointer (some ⟨q, 0, none⟩), t3, t4, .pointer (some ⟨ex, 0, none⟩), undef, .pointer (some ⟨ez, 0, none⟩), t8, t9, t10, t11, t12, t13, t14, t15, .agg C, .agg (D p1 c1), .agg C, .agg (D p2 c2), .agg C, undef, t22, t23, t24, t25, t26, t27, t28, t29, t30, t31, t32, t33, t34, t35, t36, t37, t38, t39, t40, t41, t42, t43, t44, t45, t46, t47, t48, t49, t50, t51, t52, t53, t54, t55, t56], []⟩ w := by
  refine wpAnyH_ready (rs := [5, 7]) (by kernel_rfl) (by simp) (AllReadyH.cons rfl (fun K hK => ?_) (AllReadyH.cons rfl (fun K hK => ?_) AllReadyH.nil))
  · go_simp
    refine (kCp.out _ h.pin).mono ?_
    rintro e w1 ⟨p3, c3, rfl, hk, hb⟩
    refine hK.out _ _ (h.hb.below hb h.hb.lt) (fun _ => ?_)
    clear hK K
    simp only [List.setIfInBounds_toArray, List.set_cons_zero, List.set_cons_succ]
    exact st3xz p1 c1 p2 c2 p3 c3 ex ez hx kCp zz KQ w1 (h.call hx hk hb)
  · go_simp
    refine hK.out _ _ (h.hb.alloc _) (fun _ => ?_)
    clear hK K
    simp only [List.setIfInBounds_toArray, List.set_cons_zero, List.set_cons_succ]
    exact st2xyz p1 c1 p2 c2 ex w.heap.size ez hx kCp zz KQ _ (h.allocY hx)
theorem st2yz (p1 c1 p2 c2 ey ez : Nat) (hx : ∀ i, i < n → (XS i).size = 90) (kCp : Hid (∀ w, PIn w s n XS → Calls Try.prog 7 #[.agg C] w fun e w' => ∃ pb cap, e = .returned (.agg (D pb cap)) ∧ Kept3 w w' pb n XS ∧ Below w.heap.size w w')) (zz : ∀ w, (zeroValue 34).run Try.prog w = .ok (.agg Z) w)
    (KQ : Hid (∀ (w : World) (p1 c1 p2 c2 p3 c3 ex ey ez : Nat), St C Z s n q XS w0 w [p3, p2, p1] (some ex) (some ey) (some ez) → wpAnyH Try.prog .any ops39 Q (fun w' => VarAt w' q C 34) 3 #[true, true, true, true, true, true, true, true, true, false, false, false] ⟨#[t0, t1, .pointer (some ⟨q, 0, none⟩), t3, t4, .pointer (some ⟨ex, 0, none⟩), .pointer (some ⟨ey, 0, none⟩), .pointer (some ⟨ez, 0, none⟩), t8, t9, t10, t11, t12, t13, t14, t15, .agg C, .agg (D p1 c1), .agg C, .agg (D p2 c2), .agg C, .agg (D p3 c3), t22, t23, t24, t25, t26, t27, t28, t29, t30, t31, t32, t33, t34, t35, t36, t37, t38, t39, t40, t41, t42, t43, t44, t45, t46, t47, t48, t49, t50, t51, t52, t53, t54, t55, t56], []⟩ w))
    (w : World) (h : St C Z s n q XS w0 w [p2, p1] none (some ey) (some ez)) : wpAnyH Try.prog .any ops39 Q (fun w' => VarAt w' q C 34) 5 #[true, true, true, true, true, false, false, true, true, false, false, false] ⟨#[t0, t1, .pointer (some ⟨q, 0, none⟩), t3, t4, undef, .pointer (some ⟨ey, 0, none⟩), .pointer (some ⟨ez, 0, none⟩), t8, t9, t10, t11, t12, t13, t14, t15, .agg C, .agg (D p1 c1), .agg C, .agg (D p2 c2), .agg C, undef, t22, t23, t24, t25, t26, t27, t28, t29, t30, t31, t32, t33, t34, t35, t36, t37, t38, t39, t40, t41, t42, t43, t44, t45, t46, t47, t48, t49, t50, t51, t52, t53, t54, t55, t56], []⟩ w := by
  refine wpAnyH_ready (rs := [5, 6]) (by kernel_rfl) (by simp) (AllReadyH.cons rfl (fun K hK => ?_) (AllReadyH.cons rfl (fun K hK => ?_) AllReadyH.nil))
  · go_simp
    refine (kCp.out _ h.pin).mono ?_
    rintro e w1 ⟨p3, c3, rfl, hk, hb⟩
    refine hK.out _ _ (h.hb.below hb h.hb.lt) (fun _ => ?_)
    clear hK K
    simp only [List.setIfInBounds_toArray, List.set_cons_zero, List.set_cons_succ]
    exact st3yz p1 c1 p2 c2 p3 c3 ey ez hx kCp zz KQ w1 (h.call hx hk hb)
  · go_simp
    refine hK.out _ _ (h.hb.alloc _) (fun _ => ?_)
    clear hK K
    simp only [List.setIfInBounds_toArray, List.set_cons_zero, List.set_cons_succ]
    exact st2xyz p1 c1 p2 c2 w.heap.size ey ez hx kCp zz KQ _ (h.allocX hx)
theorem st2x (p1 c1 p2 c2 ex : Nat) (hx : ∀ i, i < n → (XS i).size = 90) (kCp : Hid (∀ w, PIn w s n XS → Calls Try.prog 7 #[.agg C] w fun e w' => ∃ pb cap, e = .returned (.agg (D pb cap)) ∧ Kept3 w w' pb n XS ∧ Below w.heap.size w w')) (zz : ∀ w, (zeroValue 34).run Try.prog w = .ok (.agg Z) w)
    (KQ : Hid (∀ (w : World) (p1 c1 p2 c2 p3 c3 ex ey ez : Nat), St C Z s n q XS w0 w [p3, p2, p1] (some ex) (some ey) (some ez) → wpAnyH Try.prog .any ops39 Q (fun w' => VarAt w' q C 34) 3 #[true, true, true, true, true, true, true, true, true, false, false, false] ⟨#[t0, t1, .pointer (some ⟨q, 0, none⟩), t3, t4, .pointer (some ⟨ex, 0, none⟩), .pointer (some ⟨ey, 0, none⟩), .pointer (some ⟨ez, 0, none⟩), t8, t9, t10, t11, t12, t13, t14, t15, .agg C, .agg (D p1 c1), .agg C, .agg (D p2 c2), .agg C, .agg (D p3 c3), t22, t23, t24, t25, t26, t27, t28, t29, t30, t31, t32, t33, t34, t35, t36, t37, t38, t39, t40, t41, t42, t43, t44, t45, t46, t47, t48, t49, t50, t51, t52, t53, t54, t55, t56], []⟩ w))
    (w : World) (h : St C Z s n q XS w0 w [p2, p1] (some ex) none none) : wpAnyH Try.prog .any ops39 Q (fun w' => VarAt w' q C 34) 6 #[true, true, true, true, true, false, true, false, false, false, false, false] ⟨#[t0, t1, .pointer (some ⟨q, 0, none⟩), t3, t4, .pointer (some ⟨ex, 0, none⟩), undef, undef, t8, t9, t10, t11, t12, t13, t14, t15, .agg C, .agg (D p1 c1), .agg C, .agg (D p2 c2), .agg C, undef, t22, t23, t24, t25, t26, t27, t28, t29, t30, t31, t32, t33, t34, t35, t36, t37, t38, t39, t40, t41, t42, t43, t44, t45, t46, t47, t48, t49, t50, t51, t52, t53, t54, t55, t56], []⟩ w := by
  refine wpAnyH_ready (rs := [5, 7, 8]) (by kernel_rfl) (by simp) (AllReadyH.cons rfl (fun K hK => ?_) (AllReadyH.cons rfl (fun K hK => ?_) (AllReadyH.cons rfl (fun K hK => ?_) AllReadyH.nil)))
  · go_simp
    refine (kCp.out _ h.pin).mono ?_
    rintro e w1 ⟨p3, c3, rfl, hk, hb⟩
    refine hK.out _ _ (h.hb.below hb h.hb.lt) (fun _ => ?_)
    clear hK K
    simp only [List.setIfInBounds_toArray, List.set_cons_zero, List.set_cons_succ]
    exact st3x p1 c1 p2 c2 p3 c3 ex hx kCp zz KQ w1 (h.call hx hk hb)
  · go_simp
    refine hK.out _ _ (h.hb.alloc _) (fun _ => ?_)
    clear hK K
    simp only [List.setIfInBounds_toArray, List.set_cons_zero, List.set_cons_succ]
    exact st2xy p1 c1 p2 c2 ex w.heap.size hx kCp zz KQ _ (h.allocY hx)
  · go_simp
    refine hK.out _ _ (h.hb.alloc _) (fun _ => ?_)
    clear hK K
    simp only [List.setIfInBounds_toArray, List.set_cons_zero, List.set_cons_succ]
    exact st2xz p1 c1 p2 c2 ex w.heap.size hx kCp zz KQ _ (h.allocZ hx)
theorem st2y (p1 c1 p2 c2 ey : Nat) (hx : ∀ i, i < n → (XS i).size = 90) (kCp : Hid (∀ w, PIn w s n XS → Calls Try.prog 7 #[.agg C] w fun e w' => ∃ pb cap, e = .returned (.agg (D pb cap)) ∧ Kept3 w w' pb n XS ∧ Below w.heap.size w w')) (zz : ∀ w, (zeroValue 34).run Try.prog w = .ok (.agg Z) w)
    (KQ : Hid (∀ (w : World) (p1 c1 p2 c2 p3 c3 ex ey ez : Nat), St C Z s n q XS w0 w [p3, p2, p1] (some ex) (some ey) (some ez) → wpAnyH Try.prog .any ops39 Q (fun w' => VarAt w' q C 34) 3 #[true, true, true, true, true, true, true, true, true, false, false, false] ⟨#[t0, t1, .pointer (some ⟨q, 0, none⟩), t3, t4, .pointer (some ⟨ex, 0, none⟩), .pointer (some ⟨ey, 0, none⟩), .pointer (some ⟨ez, 0, none⟩), t8, t9, t10, t11, t12, t13, t14, t15, .agg C, .agg (D p1 c1), .agg C, .agg (D p2 c2), .agg C, .agg (D p3 c3), t22, t23, t24, t25, t26, t27, t28, t29, t30, t31, t32, t33, t34, t35, t36, t37, t38, t39, t40, t41, t42, t43, t44, t45, t46, t47, t48, t49, t50, t51, t52, t53, t54, t55, t56], []⟩ w))
    (w : World) (h : St C Z s n q XS w0 w [p2, p1] none (some ey) none) : wpAnyH Try.prog .any ops39 Q (fun w' => VarAt w' q C 34) 6 #[true, true, true, true, true, false, false, true, false, false, false, false] ⟨#[t0, t1, .pointer (some ⟨q, 0, none⟩), t3, t4, undef, .pointer (some ⟨ey, 0, none⟩), undef, t8, t9, t10, t11, t12, t13, t14, t15, .agg C, .agg (D p1 c1), .agg C, .agg (D p2 c2), .agg C, undef, t22, t23, t24, t25, t26, t27, t28, t29, t30, t31, t32, t33, t34, t35, t36, t37, t38, t39, t40, t41, t42, t43, t44, t45, t46, t47, t48, t49, t50, t51, t52, t53, t54, t55, t56], []⟩ w := by
  refine wpAnyH_ready (rs := [5, 6, 8]) (by kernel_rfl) (by simp) (AllReadyH.cons rfl (fun K hK => ?_) (AllReadyH.cons rfl (fun K hK => ?_) (AllReadyH.cons rfl (fun K hK => ?_) AllReadyH.nil)))
  · go_simp
    refine (kCp.out _ h.pin).mono ?_
    rintro e w1 ⟨p3, c3, rfl, hk, hb⟩
    refine hK.out _ _ (h.hb.below hb h.hb.lt) (fun _ => ?_)
    clear hK K
    simp only [List.setIfInBounds_toArray, List.set_cons_zero, List.set_cons_succ]
    exact st3y p1 c1 p2 c2 p3 c3 ey hx kCp zz KQ w1 (h.call hx hk hb)
  · go_simp
    refine hK.out _ _ (h.hb.alloc _) (fun _ => ?_)
    clear hK K
    simp only [List.setIfInBounds_toArray, List.set_cons_zero, List.set_cons_succ]
    exact st2xy p1 c1 p2 c2 w.heap.size ey hx kCp zz KQ _ (h.allocX hx)
  · go_simp
    refine hK.out _ _ (h.hb.alloc _) (fun _ => ?_)
    clear hK K
    simp only [List.setIfInBounds_toArray, List.set_cons_zero, List.set_cons_succ]
    exact st2yz p1 c1 p2 c2 ey w.heap.size hx kCp zz KQ _ (h.allocZ hx)
theorem st2z (p1 c1 p2 c2 ez : Nat) (hx : ∀ i, i < n → (XS i).size = 90) (kCp : Hid (∀ w, PIn w s n XS → Calls Try.prog 7 #[.agg C] w fun e w' => ∃ pb cap, e = .returned (.agg (D pb cap)) ∧ Kept3 w w' pb n XS ∧ Below w.heap.size w w')) (zz : ∀ w, (zeroValue 34).run Try.prog w = .ok (.agg Z) w)
    (KQ : Hid (∀ (w : World) (p1 c1 p2 c2 p3 c3 ex ey ez : Nat), St C Z s n q XS w0 w [p3, p2, p1] (some ex) (some ey) (some ez) → wpAnyH Try.prog .any ops39 Q (fun w' => VarAt w' q C 34) 3 #[true, true, true, true, true, true, true, true, true, false, false, false] ⟨#[t0, t1, .pointer (some ⟨q, 0, none⟩), t3, t4, .pointer (some ⟨ex, 0, none⟩), .pointer (some ⟨ey, 0, none⟩), .pointer (some ⟨ez, 0, none⟩), t8, t9, t10, t11, t12, t13, t14, t15, .agg C, .agg (D p1 c1), .agg C, .agg (D p2 c2), .agg C, .agg (D p3 c3), t22, t23, t24, t25, t26, t27, t28, t29, t30, t31, t32, t33, t34, t35, t36, t37, t38, t39, t40, t41, t42, t43, t44, t45, t46, t47, t48, t49, t50, t51, t52, t53, t54, t55, t56], []⟩ w))
    (w : World) (h : St C Z s n q XS w0 w [p2, p1] none none (some ez)) : wpAnyH Try.prog .any ops39 Q (fun w' => VarAt w' q C 34) 6 #[true, true, true, true, true, false, false, false, true, false, false, false] ⟨#[t0, t1, .pointer (some ⟨q, 0, none⟩), t3, t4, undef, undef, .pointer (some ⟨ez, 0, none⟩), t8, t9, t10, t11, t12, t13, t14, t15, .agg C, .agg (D p1 c1), .agg C, .agg (D p2 c2), .agg C, undef, t22, t23, t24, t25, t26, t27, t28, t29, t30, t31, t32, t33, t34, t35, t36, t37, t38, t39, t40, t41, t42, t43, t44, t45, t46, t47, t48, t49, t50, t51, t52, t53, t54, t55, t56], []⟩ w := by
  refine wpAnyH_ready (rs := [5, 6, 7]) (by kernel_rfl) (by simp) (AllReadyH.cons rfl (fun K hK => ?_) (AllReadyH.cons rfl (fun K hK => ?_) (AllReadyH.cons rfl (fun K hK => ?_) AllReadyH.nil)))
  · go_simp
    refine (kCp.out _ h.pin).mono ?_
    rintro e w1 ⟨p3, c3, rfl, hk, hb⟩
    refine hK.out _ _ (h.hb.below hb h.hb.lt) (fun _ => ?_)
    clear hK K
    simp only [List.setIfInBounds_toArray, List.set_cons_zero, List.set_cons_succ]
    exact st3z p1 c1 p2 c2 p3 c3 ez hx kCp zz KQ w1 (h.call hx hk hb)
  · go_simp
    refine hK.out _ _ (h.hb.alloc _) (fun _ => ?_)
    clear hK K
    simp only [List.setIfInBounds_toArray, List.set_cons_zero, List.set_cons_succ]
    exact st2xz p1 c1 p2 c2 w.heap.size ez hx kCp zz KQ _ (h.allocX hx)
  · go_simp
    refine hK.out _ _ (h.hb.alloc _) (fun _ => ?_)
    clear hK K
    simp only [List.setIfInBounds_toArray, List.set_cons_zero, List.set_cons_succ]
    exact st2yz p1 c1 p2 c2 w.heap.size ez hx kCp zz KQ _ (h.allocY hx)
theorem st2 (p1 c1 p2 c2 : Nat) (hx : ∀ i, i < n → (XS i).size = 90) (kCp : Hid (∀ w, PIn w s n XS → Calls Try.prog 7 #[.agg C] w fun e w' => ∃ pb cap, e = .returned (.agg (D pb cap)) ∧ Kept3 w w' pb n XS ∧ Below w.heap.size w w')) (zz : ∀ w, (zeroValue 34).run Try.prog w = .ok (.agg Z) w)
    (KQ : Hid (∀ (w : World) (p1 c1 p2 c2 p3 c3 ex ey ez : Nat), St C Z s n q XS w0 w [p3, p2, p1] (some ex) (some ey) (some ez) → wpAnyH Try.prog .any ops39 Q (fun w' => VarAt w' q C 34) 3 #[true, true, true, true, true, true, true, true, true, false, false, false] ⟨#[t0, t1, .pointer (some ⟨q, 0, none⟩), t3, t4, .pointer (some ⟨ex, 0, none⟩), .pointer (some ⟨ey, 0, none⟩), .pointer (some ⟨ez, 0, none⟩), t8, t9, t10, t11, t12, t13, t14, t15, .agg C, .agg (D p1 c1), .agg C, .agg (D p2 c2), .agg C, .agg (D p3 c3), t22, t23, t24, t25, t26, t27, t28, t29, t30, t31, t32, t33, t34, t35, t36, t37, t38, t39, t40, t41, t42, t43, t44, t45, t46, t47, t48, t49, t50, t51, t52, t53, t54, t55, t56], []⟩ w))
    (w : World) (h : St C Z s n q XS w0 w [p2, p1] none none none) : wpAnyH Try.prog .any ops39 Q (fun w' => VarAt w' q C 34) 7 #[true, true, true, true, true, false, false, false, false, false, false, false] ⟨#[t0, t1, .pointer (some ⟨q, 0, none⟩), t3, t4, undef, undef, undef, t8, t9, t10, t11, t12, t13, t14, t15, .agg C, .agg (D p1 c1), .agg C, .agg (D p2 c2), .agg C, undef, t22, t23, t24, t25, t26, t27, t28, t29, t30, t31, t32, t33, t34, t35, t36, t37, t38, t39, t40, t41, t42, t43, t44, t45, t46, t47, t48, t49, t50, t51, t52, t53, t54, t55, t56], []⟩ w := by
  refine wpAnyH_ready (rs := [5, 6, 7, 8]) (by kernel_rfl) (by simp) (AllReadyH.cons rfl (fun K hK => ?_) (AllReadyH.cons rfl (fun K hK => ?_) (AllReadyH.cons rfl (fun K hK => ?_) (AllReadyH.cons rfl (fun K hK => ?_) AllReadyH.nil))))
  · go_simp
    refine (kCp.out _ h.pin).mono ?_
    rintro e w1 ⟨p3, c3, rfl, hk, hb⟩
    refine hK.out _ _ (h.hb.below hb h.hb.lt) (fun _ => ?_)
    clear hK K
    simp only [List.setIfInBounds_toArray, List.set_cons_zero, List.set_cons_succ]
    exact st3 p1 c1 p2 c2 p3 c3 hx kCp zz KQ w1 (h.call hx hk hb)
  · go_simp
    refine hK.out _ _ (h.hb.alloc _) (fun _ => ?_)
    clear hK K
    simp only [List.setIfInBounds_toArray, List.set_cons_zero, List.set_cons_succ]
    exact st2x p1 c1 p2 c2 w.heap.size hx kCp zz KQ _ (h.allocX hx)
  · go_simp
    refine hK.out _ _ (h.hb.alloc _) (fun _ => ?_)
    clear hK K
    simp only [List.setIfInBounds_toArray, List.set_cons_zero, List.set_cons_succ]
    exact st2y p1 c1 p2 c2 w.heap.size hx kCp zz KQ _ (h.allocY hx)
  · go_simp
    refine hK.out _ _ (h.hb.alloc _) (fun _ => ?_)
    clear hK K
    simp only [List.setIfInBounds_toArray, List.set_cons_zero, List.set_cons_succ]
    exact st2z p1 c1 p2 c2 w.heap.size hx kCp zz KQ _ (h.allocZ hx)
theorem st1xyz (p1 c1 ex ey ez : Nat) (hx : ∀ i, i < n → (XS i).size = 90) (kCp : Hid (∀ w, PIn w s n XS → Calls Try.prog 7 #[.agg C] w fun e w' => ∃ pb cap, e = .returned (.agg (D pb cap)) ∧ Kept3 w w' pb n XS ∧ Below w.heap.size w w')) (zz : ∀ w, (zeroValue 34).run Try.prog w = .ok (.agg Z) w)
    (KQ : Hid (∀ (w : World) (p1 c1 p2 c2 p3 c3 ex ey ez : Nat), St C Z s n q XS w0 w [p3, p2, p1] (some ex) (some ey) (some ez) → wpAnyH Try.prog .any ops39 Q (fun w' => VarAt w' q C 34) 3 #[true, true, true, true, true, true, true, true, true, false, false, false] ⟨#[t0, t1, .pointer (some ⟨q, 0, none⟩), t3, t4, .pointer (some ⟨ex, 0, none⟩), .pointer (some ⟨ey, 0, none⟩), .pointer (some ⟨ez, 0, none⟩), t8, t9, t10, t11, t12, t13, t14, t15, .agg C, .agg (D p1 c1), .agg C, .agg (D p2 c2), .agg C, .agg (D p3 c3), t22, t23, t24, t25, t26, t27, t28, t29, t30, t31, t32, t33, t34, t35, t36, t37, t38, t39, t40, t41, t42, t43, t44, t45, t46, t47, t48, t49, t50, t51, t52, t53, t54, t55, t56], []⟩ w))
    (w : World) (h : St C Z s n q XS w0 w [p1] (some ex) (some ey) (some ez)) : wpAnyH Try.prog .any ops39 Q (fun w' => VarAt w' q C 34) 5 #[true, true, true, false, true, false, true, true, true, false, false, false] ⟨#[t0, t1, .pointer (some ⟨q, 0, none⟩), t3, t4, .pointer (some ⟨ex, 0, none⟩), .pointer (some ⟨ey, 0, none⟩), .pointer (some ⟨ez, 0, none⟩), t8, t9, t10, t11, t12, t13, t14, t15, .agg C, .agg (D p1 c1), .agg C, undef, .agg C, undef, t22, t23, t24, t25, t26, t27, t28, t29, t30, t31, t32, t33, t34, t35, t36, t37, t38, t39, t40, t41, t42, t43, t44, t45, t46, t47, t48, t49, t50, t51, t52, t53, t54, t55, t56], []⟩ w := by
  refine wpAnyH_ready (rs := [3]) (by kernel_rfl) (by simp) (AllReadyH.cons rfl (fun K hK => ?_) AllReadyH.nil)
  · go_simp
    refine (kCp.out _ h.pin).mono ?_
    rintro e w1 ⟨p2, c2, rfl, hk, hb⟩
    refine hK.out _ _ (h.hb.below hb h.hb.lt) (fun _ => ?_)
    clear hK K
    simp only [List.setIfInBounds_toArray, List.set_cons_zero, List.set_cons_succ]
    exact st2xyz p1 c1 p2 c2 ex ey ez hx kCp zz KQ w1 (h.call hx hk hb)
theorem st1xy (p1 c1 ex ey : Nat) (hx : ∀ i, i < n → (XS i).size = 90) (kCp : Hid (∀ w, PIn w s n XS → Calls Try.prog 7 #[.agg C] w fun e w' => ∃ pb cap, e = .returned (.agg (D pb cap)) ∧ Kept3 w w' pb n XS ∧ Below w.heap.size w w')) (zz : ∀ w, (zeroValue 34).run Try.prog w = .ok (.agg Z) w)
    (KQ : Hid (∀ (w : World) (p1 c1 p2 c2 p3 c3 ex ey ez : Nat), St C Z s n q XS w0 w [p3, p2, p1] (some ex) (some ey) (some ez) → wpAnyH Try.prog .any ops39 Q (fun w' => VarAt w' q C 34) 3 #[true, true, true, true, true, true, true, true, true, false, false, false] ⟨#[t0, t1, .pointer (some ⟨q, 0, none⟩), t3, t4, .pointer (some ⟨ex, 0, none⟩), .pointer (some ⟨ey, 0, none⟩), .pointer (some ⟨ez, 0, none⟩), t8, t9, t10, t11, t12, t13, t14, t15, .agg C, .agg (D p1 c1), .agg C, .agg (D p2 c2), .agg C, .agg (D p3 c3), t22, t23, t24, t25, t26, t27, t28, t29, t30, t31, t32, t33, t34, t35, t36, t37, t38, t39, t40, t41, t42, t43, t44, t45, t46, t47, t48, t49, t50, t51, t52, t53, t54, t55, t56], []⟩ w))
    (w : World) (h : St C Z s n q XS w0 w [p1] (some ex) (some ey) none) : wpAnyH Try.prog .any ops39 Q (fun w' => VarAt w' q C 34) 6 #[true, true, true, false, true, false, true, true, false, false, false, false] ⟨#[t0, t1, .pointer (some ⟨q, 0, none⟩), t3, t4, .pointer (some ⟨ex, 0, none⟩), .pointer (some ⟨ey, 0, none⟩), undef, t8, t9, t10, t11, t12, t13, t14, t15, .agg C, .agg (D p1 c1), .agg C, undef, .agg C, undef, t22, t23, t24, t25, t26, t27, t28, t29, t30, t31, t32, t33, t34, t35, t36, t37, t38, t39, t40, t41, t42, t43, t44, t45, t46, t47, t48, t49, t50, t51, t52, t53, t54, t55, t56], []⟩ w := by
  refine wpAnyH_ready (rs := [3, 8]) (by kernel_rfl) (by simp) (AllReadyH.cons rfl (fun K hK => ?_) (AllReadyH.cons rfl (fun K hK => ?_) AllReadyH.nil))
  · go_simp
    refine (kCp.out _ h.pin).mono ?_
    rintro e w1 ⟨p2, c2, rfl, hk, hb⟩
    refine hK.out _ _ (h.hb.below hb h.hb.lt) (fun _ => ?_)
    clear hK K
    simp only [List.setIfInBounds_toArray, List.set_cons_zero, List.set_cons_succ]
    exact st2xy p1 c1 p2 c2 ex ey hx kCp zz KQ w1 (h.call hx hk hb)
  · go_simp
    refine hK.out _ _ (h.hb.alloc _) (fun _ => ?_)
    clear hK K
    simp only [List.setIfInBounds_toArray, List.set_cons_zero, List.set_cons_succ]
    exact st1xyz p1 c1 ex ey w.heap.size hx kCp zz KQ _ (h.allocZ hx)
theorem st1xz (p1 c1 ex ez : Nat) (hx : ∀ i, i < n → (XS i).size = 90) (kCp : Hid (∀ w, PIn w s n XS → Calls Try.prog 7 #[.agg C] w fun e w' => ∃ pb cap, e = .returned (.agg (D pb cap)) ∧ Kept3 w w' pb n XS ∧ Below w.heap.size w w')) (zz : ∀ w, (zeroValue 34).run Try.prog w = .ok (.agg Z) w)
    (KQ : Hid (∀ (w : World) (p1 c1 p2 c2 p3 c3 ex ey ez : Nat), St C Z s n q XS w0 w [p3, p2, p1] (some ex) (some ey) (some ez) → wpAnyH Try.prog .any ops39 Q (fun w' => VarAt w' q C 34) 3 #[true, true, true, true, true, true, true, true, true, false, false, false] ⟨#[t0, t1, .pointer (some ⟨q, 0, none⟩), t3, t4, .pointer (some ⟨ex, 0, none⟩), .pointer (some ⟨ey, 0, none⟩), .pointer (some ⟨ez, 0, none⟩), t8, t9, t10, t11, t12, t13, t14, t15, .agg C, .agg (D p1 c1), .agg C, .agg (D p2 c2), .agg C, .agg (D p3 c3), t22, t23, t24, t25, t26, t27, t28, t29, t30, t31, t32, t33, t34, t35, t36, t37, t38, t39, t40, t41, t42, t43, t44, t45, t46, t47, t48, t49, t50, t51, t52, t53, t54, t55, t56], []⟩ w))
    (w : World) (h : St C Z s n q XS w0 w [p1] (some ex) none (some ez)) : wpAnyH Try.prog .any ops39 Q (fun w' => VarAt w' q C 34) 6 #[true, true, true, false, true, false, true, false, true, false, false, false] ⟨#[t0, t1, .pointer (some ⟨q, 0, none⟩), t3, t4, .pointer (some ⟨ex, 0, none⟩), undef, .pointer (some ⟨ez, 0, none⟩), t8, t9, t10, t11, t12, t13, t14, t15, .agg C, .agg (D p1 c1), .agg C, undef, .agg C, undef, t22, t23, t24, t25, t26, t27, t28, t29, t30, t31, t32, t33, t34, t35, t36, t37, t38, t39, t40, t41, t42, t43, t44, t45, t46, t47, t48, t49, t50, t51, t52, t53, t54, t55, t56], []⟩ w := by
  refine wpAnyH_ready (rs := [3, 7]) (by kernel_rfl) (by simp) (AllReadyH.cons rfl (fun K hK => ?_) (AllReadyH.cons rfl (fun K hK => ?_) AllReadyH.nil))
  · go_simp
    refine (kCp.out _ h.pin).mono ?_
    rintro e w1 ⟨p2, c2, rfl, hk, hb⟩
    refine hK.out _ _ (h.hb.below hb h.hb.lt) (fun _ => ?_)
    clear hK K
    simp only [List.setIfInBounds_toArray, List.set_cons_zero, List.set_cons_succ]
    exact st2xz p1 c1 p2 c2 ex ez hx kCp zz KQ w1 (h.call hx hk hb)
  · go_simp
    refine hK.out _ _ (h.hb.alloc _) (fun _ => ?_)
    clear hK K
    simp only [List.setIfInBounds_toArray, List.set_cons_zero, List.set_cons_succ]
    exact st1xyz p1 c1 ex w.heap.size ez hx kCp zz KQ _ (h.allocY hx)
theorem st1yz (p1 c1 ey ez : Nat) (hx : ∀ i, i < n → (XS i).size = 90) (kCp : Hid (∀ w, PIn w s n XS → Calls Try.prog 7 #[.agg C] w fun e w' => ∃ pb cap, e = .returned (.agg (D pb cap)) ∧ Kept3 w w' pb n XS ∧ Below w.heap.size w w')) (zz : ∀ w, (zeroValue 34).run Try.prog w = .ok (.agg Z) w)
    (KQ : Hid (∀ (w : World) (p1 c1 p2 c2 p3 c3 ex ey ez : Nat), St C Z s n q XS w0 w [p3, p2, p1] (some ex) (some ey) (some ez) → wpAnyH Try.prog .any ops39 Q (fun w' => VarAt w' q C 34) 3 #[true, true, true, true, true, true, true, true, true, false, false, false] ⟨#[t0, t1, .pointer (some ⟨q, 0, none⟩), t3, t4, .pointer (some ⟨ex, 0, none⟩), .pointer (some ⟨ey, 0, none⟩), .pointer (some ⟨ez, 0, none⟩), t8, t9, t10, t11, t12, t13, t14, t15, .agg C, .agg (D p1 c1), .agg C, .agg (D p2 c2), .agg C, .agg (D p3 c3), t22, t23, t24, t25, t26, t27, t28, t29, t30, t31, t32, t33, t34, t35, t36, t37, t38, t39, t40, t41, t42, t43, t44, t45, t46, t47, t48, t49, t50, t51, t52, t53, t54, t55, t56], []⟩ w))
    (w : World) (h : St C Z s n q XS w0 w [p1] none (some ey) (some ez)) : wpAnyH Try.prog .any ops39 Q (fun w' => VarAt w' q C 34) 6 #[true, true, true, false, true, false, false, true, true, false, false, false] ⟨#[t0, t1, .pointer (some ⟨q, 0, none⟩), t3, t4, undef, .pointer (some ⟨ey, 0, none⟩), .pointer (some ⟨ez, 0, none⟩), t8, t9, t10, t11, t12, t13, t14, t15, .agg C, .agg (D p1 c1), .agg C, undef, .agg C, undef, t22, t23, t24, t25, t26, t27, t28, t29, t30, t31, t32, t33, t34, t35, t36, t37, t38, t39, t40, t41, t42, t43, t44, t45, t46, t47, t48, t49, t50, t51, t52, t53, t54, t55, t56], []⟩ w := by
  refine wpAnyH_ready (rs := [3, 6]) (by kernel_rfl) (by simp) (AllReadyH.cons rfl (fun K hK => ?_) (AllReadyH.cons rfl (fun K hK => ?_) AllReadyH.nil))
  · go_simp
    refine (kCp.out _ h.pin).mono ?_
    rintro e w1 ⟨p2, c2, rfl, hk, hb⟩
    refine hK.out _ _ (h.hb.below hb h.hb.lt) (fun _ => ?_)
    clear hK K
    simp only [List.setIfInBounds_toArray, List.set_cons_zero, List.set_cons_succ]
    exact st2yz p1 c1 p2 c2 ey ez hx kCp zz KQ w1 (h.call hx hk hb)
  · go_simp
    refine hK.out _ _ (h.hb.alloc _) (fun _ => ?_)
    clear hK K
    simp only [List.setIfInBounds_toArray, List.set_cons_zero, List.set_cons_succ]
    exact st1xyz p1 c1 w.heap.size ey ez hx kCp zz KQ _ (h.allocX hx)
theorem st1x (p1 c1 ex : Nat) (hx : ∀ i, i < n → (XS i).size = 90) (kCp : Hid (∀ w, PIn w s n XS → Calls Try.prog 7 #[.agg C] w fun e w' => ∃ pb cap, e = .returned (.agg (D pb cap)) ∧ Kept3 w w' pb n XS ∧ Below w.heap.size w w')) (zz : ∀ w, (zeroValue 34).run Try.prog w = .ok (.agg Z) w)
    (KQ : Hid (∀ (w : World) (p1 c1 p2 c2 p3 c3 ex ey ez : Nat), St C Z s n q XS w0 w [p3, p2, p1] (some ex) (some ey) (some ez) → wpAnyH Try.prog .any ops39 Q (fun w' => VarAt w' q C 34) 3 #[true, true, true, true, true, true, true, true, true, false, false, false] ⟨#[t0, t1, .pointer (some ⟨q, 0, none⟩), t3, t4, .pointer (some ⟨ex, 0, none⟩), .pointer (some ⟨ey, 0, none⟩), .pointer (some ⟨ez, 0, none⟩), t8, t9, t10, t11, t12, t13, t14, t15, .agg C, .agg (D p1 c1), .agg C, .agg (D p2 c2), .agg C, .agg (D p3 c3), t22, t23, t24, t25, t26, t27, t28, t29, t30, t31, t32, t33, t34, t35, t36, t37, t38, t39, t40, t41, t42, t43, t44, t45, t46, t47, t48, t49, t50, t51, t52, t53, t54, t55, t56], []⟩ w))
    (w : World) (h : St C Z s n q XS w0 w [p1] (some ex) none none) : wpAnyH Try.prog .any ops39 Q (fun w' => VarAt w' q C 34) 7 #[true, true, true, false, true, false, true, false, false, false, false, false] ⟨#[t0, t1, .pointer (some ⟨q, 0, none⟩), t3, t4, .pointer (some ⟨ex, 0, none⟩), undef, undef, t8, t9, t10, t11, t12, t13, t14, t15, .agg C, .agg (D p1 c1), .agg C, undef, .agg C, undef, t22, t23, t24, t25, t26, t27, t28, t29, t30, t31, t32, t33, t34, t35, t36, t37, t38, t39, t40, t41, t42, t43, t44, t45, t46, t47, t48, t49, t50, t51, t52, t53, t54, t55, t56], []⟩ w := by
  refine wpAnyH_ready (rs := [3, 7, 8]) (by kernel_rfl) (by simp) (AllReadyH.cons rfl (fun K hK => ?_) (AllReadyH.cons rfl (fun K hK => ?_) (AllReadyH.cons rfl (fun K hK => ?_) AllReadyH.nil)))
  · go_simp
    refine (kCp.out _ h.pin).mono ?_
    rintro e w1 ⟨p2, c2, rfl, hk, hb⟩
    refine hK.out _ _ (h.hb.below hb h.hb.lt) (fun _ => ?_)
    clear hK K
    simp only [List.setIfInBounds_toArray, List.set_cons_zero, List.set_cons_succ]
    exact st2x p1 c1 p2 c2 ex hx kCp zz KQ w1 (h.call hx hk hb)
  · go_simp
    refine hK.out _ _ (h.hb.alloc _) (fun _ => ?_)
    clear hK K
    simp only [List.setIfInBounds_toArray, List.set_cons_zero, List.set_cons_succ]
    exact st1xy p1 c1 ex w.heap.size hx kCp zz KQ _ (h.allocY hx)
  · go_simp
    refine hK.out _ _ (h.hb.alloc _) (fun _ => ?_)
    clear hK K
    simp only [List.setIfInBounds_toArray, List.set_cons_zero, List.set_cons_succ]
    exact st1xz p1 c1 ex w.heap.size hx kCp zz KQ _ (h.allocZ hx)
theorem st1y (p1 c1 ey : Nat) (hx : ∀ i, i < n → (XS i).size = 90) (kCp : Hid (∀ w, PIn w s n XS → Calls Try.prog 7 #[.agg C] w fun e w' => ∃ pb cap, e = .returned (.agg (D pb cap)) ∧ Kept3 w w' pb n XS ∧ Below w.heap.size w w')) (zz : ∀ w, (zeroValue 34).run Try.prog w = .ok (.agg Z) w)
    (KQ : Hid (∀ (w : World) (p1 c1 p2 c2 p3 c3 ex ey ez : Nat), St C Z s n q XS w0 w [p3, p2, p1] (some ex) (some ey) (some ez) → wpAnyH Try.prog .any ops39 Q (fun w' => VarAt w' q C 34) 3 #[true, true, true, true, true, true, true, true, true, false, false, false] ⟨#[t0, t1, .pointer (some ⟨q, 0, none⟩), t3, t4, .pointer (some ⟨ex, 0, none⟩), .pointer (some ⟨ey, 0, none⟩), .pointer (some ⟨ez, 0, none⟩), t8, t9, t10, t11, t12, t13, t14, t15, .agg C, .agg (D p1 c1), .agg C, .agg (D p2 c2), .agg C, .agg (D p3 c3), t22, t23, t24, t25, t26, t27, t28, t29, t30, t31, t32, t33, t34, t35, t36, t37, t38, t39, t40, t41, t42, t43, t44, t45, t46, t47, t48, t49, t50, t51, t52, t53, t54, t55, t56], []⟩ w))
    (w : World) (h : St C Z s n q XS w0 w [p1] none (some ey) none) : wpAnyH Try.prog .any ops39 Q (fun w' => VarAt w' q C 34) 7 #[true, true, true, false, true, false, false, true, false, false, false, false] ⟨#[t0, t1, .pointer (some ⟨q, 0, none⟩), t3, t4, undef, .pointer (some ⟨ey, 0, none⟩), undef, t8, t9, t10, t11, t12, t13, t14, t15, .agg C, .agg (D p1 c1), .agg C, undef, .agg C, undef, t22, t23, t24, t25, t26, t27, t28, t29, t30, t31, t32, t33, t34, t35, t36, t37, t38, t39, t40, t41, t42, t43, t44, t45, t46, t47, t48, t49, t50, t51, t52, t53, t54, t55, t56], []⟩ w := by
  refine wpAnyH_ready (rs := [3, 6, 8]) (by kernel_rfl) (by simp) (AllReadyH.cons rfl (fun K hK => ?_) (AllReadyH.cons rfl (fun K hK => ?_) (AllReadyH.cons rfl (fun K hK => ?_) AllReadyH.nil)))
  · go_simp
    refine (kCp.out _ h.pin).mono ?_
    rintro e w1 ⟨p2, c2, rfl, hk, hb⟩
    refine hK.out _ _ (h.hb.below hb h.hb.lt) (fun _ => ?_)
    clear hK K
    simp only [List.setIfInBounds_toArray, List.set_cons_zero, List.set_cons_succ]
    exact st2y p1 c1 p2 c2 ey hx kCp zz KQ w1 (h.call hx hk hb)
  · go_simp
    refine hK.out _ _ (h.hb.alloc _) (fun _ => ?_)
    clear hK K
    simp only [List.setIfInBounds_toArray, List.set_cons_zero, List.set_cons_succ]
    exact st1xy p1 c1 w.heap.size ey hx kCp zz KQ _ (h.allocX hx)
  · go_simp
    refine hK.out _ _ (h.hb.alloc _) (fun _ => ?_)
    clear hK K
    simp only [List.setIfInBounds_toArray, List.set_cons_zero, List.set_cons_succ]
    exact st1yz p1 c1 ey w.heap.size hx kCp zz KQ _ (h.allocZ hx)
theorem st1z (p1 c1 ez : Nat) (hx : ∀ i, i < n → (XS i).size = 90) (kCp : Hid (∀ w, PIn w s n XS → Calls Try.prog 7 #[.agg C] w fun e w' => ∃ pb cap, e = .returned (.agg (D pb cap)) ∧ Kept3 w w' pb n XS ∧ Below w.heap.size w w')) (zz : ∀ w, (zeroValue 34).run Try.prog w = .ok (.agg Z) w)
    (KQ : Hid (∀ (w : World) (p1 c1 p2 c2 p3 c3 ex ey ez : Nat), St C Z s n q XS w0 w [p3, p2, p1] (some ex) (some ey) (some ez) → wpAnyH Try.prog .any ops39 Q (fun w' => VarAt w' q C 34) 3 #[true, true, true, true, true, true, true, true, true, false, false, false] ⟨#[t0, t1, .pointer (some ⟨q, 0, none⟩), t3, t4, .pointer (some ⟨ex, 0, none⟩), .pointer (some ⟨ey, 0, none⟩), .pointer (some ⟨ez, 0, none⟩), t8, t9, t10, t11, t12, t13, t14, t15, .agg C, .agg (D p1 c1), .agg C, .agg (D p2 c2), .agg C, .agg (D p3 c3), t22, t23, t24, t25, t26, t27, t28, t29, t30, t31, t32, t33, t34, t35, t36, t37, t38, t39, t40, t41, t42, t43, t44, t45, t46, t47, t48, t49, t50, t51, t52, t53, t54, t55, t56], []⟩ w))
    (w : World) (h : St C Z s n q XS w0 w [p1] none none (some ez)) : wpAnyH Try.prog .any ops39 Q (fun w' => VarAt w' q C 34) 7 #[true, true, true, false, true, false, false, false, true, false, false, false] ⟨#[t0, t1, .pointer (some ⟨q, 0, none⟩), t3, t4, undef, undef, .pointer (some ⟨ez, 0, none⟩), t8, t9, t10, t11, t12, t13, t14, t15, .agg C, .agg (D p1 c1), .agg C, undef, .agg C, undef, t22, t23, t24, t25, t26, t27, t28, t29, t30, t31, t32, t33, t34, t35, t36, t37, t38, t39, t40, t41, t42, t43, t44, t45, t46, t47, t48, t49, t50, t51, t52, t53, t54, t55, t56], []⟩ w := by
  refine wpAnyH_ready (rs := [3, 6, 7]) (by kernel_rfl) (by simp) (AllReadyH.cons rfl (fun K hK => ?_) (AllReadyH.cons rfl (fun K hK => ?_) (AllReadyH.cons rfl (fun K hK => ?_) AllReadyH.nil)))
  · go_simp
    refine (kCp.out _ h.pin).mono ?_
    rintro e w1 ⟨p2, c2, rfl, hk, hb⟩
    refine hK.out _ _ (h.hb.below hb h.hb.lt) (fun _ => ?_)
    clear hK K
    simp only [List.setIfInBounds_toArray, List.set_cons_zero, List.set_cons_succ]
    exact st2z p1 c1 p2 c2 ez hx kCp zz KQ w1 (h.call hx hk hb)
  · go_simp
    refine hK.out _ _ (h.hb.alloc _) (fun _ => ?_)
    clear hK K
    simp only [List.setIfInBounds_toArray, List.set_cons_zero, List.set_cons_succ]
    exact st1xz p1 c1 w.heap.size ez hx kCp zz KQ _ (h.allocX hx)
  · go_simp
    refine hK.out _ _ (h.hb.alloc _) (fun _ => ?_)
    clear hK K
    simp only [List.setIfInBounds_toArray, List.set_cons_zero, List.set_cons_succ]
    exact st1yz p1 c1 w.heap.size ez hx kCp zz KQ _ (h.allocY hx)
theorem st1 (p1 c1 : Nat) (hx : ∀ i, i < n → (XS i).size = 90) (kCp : Hid (∀ w, PIn w s n XS → Calls Try.prog 7 #[.agg C] w fun e w' => ∃ pb cap, e = .returned (.agg (D pb cap)) ∧ Kept3 w w' pb n XS ∧ Below w.heap.size w w')) (zz : ∀ w, (zeroValue 34).run Try.prog w = .ok (.agg Z) w)
    (KQ : Hid (∀ (w : World) (p1 c1 p2 c2 p3 c3 ex ey ez : Nat), St C Z s n q XS w0 w [p3, p2, p1] (some ex) (some ey) (some ez) → wpAnyH Try.prog .any ops39 Q (fun w' => VarAt w' q C 34) 3 #[true, true, true, true, true, true, true, true, true, false, false, false] ⟨#[t0, t1, .pointer (some ⟨q, 0, none⟩), t3, t4, .pointer (some ⟨ex, 0, none⟩), .pointer (some ⟨ey, 0, none⟩), .pointer (some ⟨ez, 0, none⟩), t8, t9, t10, t11, t12, t13, t14, t15, .agg C, .agg (D p1 c1), .agg C, .agg (D p2 c2), .agg C, .agg (D p3 c3), t22, t23, t24, t25, t26, t27, t28, t29, t30, t31, t32, t33, t34, t35, t36, t37, t38, t39, t40, t41, t42, t43, t44, t45, t46, t47, t48, t49, t50, t51, t52, t53, t54, t55, t56], []⟩ w))
    (w : World) (h : St C Z s n q XS w0 w [p1] none none none) : wpAnyH Try.prog .any ops39 Q (fun w' => VarAt w' q C 34) 8 #[true, true, true, false, true, false, false, false, false, false, false, false] ⟨#[t0, t1, .pointer (some ⟨q, 0, none⟩), t3, t4, undef, undef, undef, t8, t9, t10, t11, t12, t13, t14, t15, .agg C, .agg (D p1 c1), .agg C, undef, .agg C, undef, t22, t23, t24, t25, t26, t27, t28, t29, t30, t31, t32, t33, t34, t35, t36, t37, t38, t39, t40, t41, t42, t43, t44, t45, t46, t47, t48, t49, t50, t51, t52, t53, t54, t55, t56], []⟩ w := by
  refine wpAnyH_ready (rs := [3, 6, 7, 8]) (by kernel_rfl) (by simp) (AllReadyH.cons rfl (fun K hK => ?_) (AllReadyH.cons rfl (fun K hK => ?_) (AllReadyH.cons rfl (fun K hK => ?_) (AllReadyH.cons rfl (fun K hK => ?_) AllReadyH.nil))))
  · go_simp
    refine (kCp.out _ h.pin).mono ?_
    rintro e w1 ⟨p2, c2, rfl, hk, hb⟩
    refine hK.out _ _ (h.hb.below hb h.hb.lt) (fun _ => ?_)
    clear hK K
    simp only [List.setIfInBounds_toArray, List.set_cons_zero, List.set_cons_succ]
    exact st2 p1 c1 p2 c2 hx kCp zz KQ w1 (h.call hx hk hb)
  · go_simp
    refine hK.out _ _ (h.hb.alloc _) (fun _ => ?_)
    clear hK K
    simp only [List.setIfInBounds_toArray, List.set_cons_zero, List.set_cons_succ]
    exact st1x p1 c1 w.heap.size hx kCp zz KQ _ (h.allocX hx)
  · go_simp
    refine hK.out _ _ (h.hb.alloc _) (fun _ => ?_)
    clear hK K
    simp only [List.setIfInBounds_toArray, List.set_cons_zero, List.set_cons_succ]
    exact st1y p1 c1 w.heap.size hx kCp zz KQ _ (h.allocY hx)
  · go_simp
    refine hK.out _ _ (h.hb.alloc _) (fun _ => ?_)
    clear hK K
    simp only [List.setIfInBounds_toArray, List.set_cons_zero, List.set_cons_succ]
    exact st1z p1 c1 w.heap.size hx kCp zz KQ _ (h.allocZ hx)
theorem st0xyz (ex ey ez : Nat) (hx : ∀ i, i < n → (XS i).size = 90) (kCp : Hid (∀ w, PIn w s n XS → Calls Try.prog 7 #[.agg C] w fun e w' => ∃ pb cap, e = .returned (.agg (D pb cap)) ∧ Kept3 w w' pb n XS ∧ Below w.heap.size w w')) (zz : ∀ w, (zeroValue 34).run Try.prog w = .ok (.agg Z) w)
    (KQ : Hid (∀ (w : World) (p1 c1 p2 c2 p3 c3 ex ey ez : Nat), St C Z s n q XS w0 w [p3, p2, p1] (some ex) (some ey) (some ez) → wpAnyH Try.prog .any ops39 Q (fun w' => VarAt w' q C 34) 3 #[true, true, true, true, true, true, true, true, true, false, false, false] ⟨#[t0, t1, .pointer (some ⟨q, 0, none⟩), t3, t4, .pointer (some ⟨ex, 0, none⟩), .pointer (some ⟨ey, 0, none⟩), .pointer (some ⟨ez, 0, none⟩), t8, t9, t10, t11, t12, t13, t14, t15, .agg C, .agg (D p1 c1), .agg C, .agg (D p2 c2), .agg C, .agg (D p3 c3), t22, t23, t24, t25, t26, t27, t28, t29, t30, t31, t32, t33, t34, t35, t36, t37, t38, t39, t40, t41, t42, t43, t44, t45, t46, t47, t48, t49, t50, t51, t52, t53, t54, t55, t56], []⟩ w))
    (w : World) (h : St C Z s n q XS w0 w [] (some ex) (some ey) (some ez)) : wpAnyH Try.prog .any ops39 Q (fun w' => VarAt w' q C 34) 6 #[true, false, true, false, true, false, true, true, true, false, false, false] ⟨#[t0, t1, .pointer (some ⟨q, 0, none⟩), t3, t4, .pointer (some ⟨ex, 0, none⟩), .pointer (some ⟨ey, 0, none⟩), .pointer (some ⟨ez, 0, none⟩), t8, t9, t10, t11, t12, t13, t14, t15, .agg C, undef, .agg C, undef, .agg C, undef, t22, t23, t24, t25, t26, t27, t28, t29, t30, t31, t32, t33, t34, t35, t36, t37, t38, t39, t40, t41, t42, t43, t44, t45, t46, t47, t48, t49, t50, t51, t52, t53, t54, t55, t56], []⟩ w := by
  refine wpAnyH_ready (rs := [1]) (by kernel_rfl) (by simp) (AllReadyH.cons rfl (fun K hK => ?_) AllReadyH.nil)
  · go_simp
    refine (kCp.out _ h.pin).mono ?_
    rintro e w1 ⟨p1, c1, rfl, hk, hb⟩
    refine hK.out _ _ (h.hb.below hb h.hb.lt) (fun _ => ?_)
    clear hK K
    simp only [List.setIfInBounds_toArray, List.set_cons_zero, List.set_cons_succ]
    exact st1xyz p1 c1 ex ey ez hx kCp zz KQ w1 (h.call hx hk hb)
theorem st0xy (ex ey : Nat) (hx : ∀ i, i < n → (XS i).size = 90) (kCp : Hid (∀ w, PIn w s n XS → Calls Try.prog 7 #[.agg C] w fun e w' => ∃ pb cap, e = .returned (.agg (D pb cap)) ∧ Kept3 w w' pb n XS ∧ Below w.heap.size w w')) (zz : ∀ w, (zeroValue 34).run Try.prog w = .ok (.agg Z) w)
    (KQ : Hid (∀ (w : World) (p1 c1 p2 c2 p3 c3 ex ey ez : Nat), St C Z s n q XS w0 w [p3, p2, p1] (some ex) (some ey) (some ez) → wpAnyH Try.prog .any ops39 Q (fun w' => VarAt w' q C 34) 3 #[true, true, true, true, true, true, true, true, true, false, false, false] ⟨#[t0, t1, .pointer (some ⟨q, 0, none⟩), t3, t4, .pointer (some ⟨ex, 0, none⟩), .pointer (some ⟨ey, 0, none⟩), .pointer (some ⟨ez, 0, none⟩), t8, t9, t10, t11, t12, t13, t14, t15, .agg C, .agg (D p1 c1), .agg C, .agg (D p2 c2), .agg C, .agg (D p3 c3), t22, t23, t24, t25, t26, t27, t28, t29, t30, t31, t32, t33, t34, t35, t36, t37, t38, t39, t40, t41, t42, t43, t44, t45, t46, t47, t48, t49, t50, t51, t52, t53, t54, t55, t56], []⟩ w))
    (w : World) (h : St C Z s n q XS w0 w [] (some ex) (some ey) none) : wpAnyH Try.prog .any ops39 Q (fun w' => VarAt w' q C 34) 7 #[true, false, true, false, true, false, true, true, false, false, false, false] ⟨#[t0, t1, .pointer (some ⟨q, 0, none⟩), t3, t4, .pointer (some ⟨ex, 0, none⟩), .pointer (some ⟨ey, 0, none⟩), undef, t8, t9, t10, t11, t12, t13, t14, t15, .agg C, undef, .agg C, undef, .agg C, undef, t22, t23, t24, t25, t26, t27, t28, t29, t30, t31, t32, t33, t34, t35, t36, t37, t38, t39, t40, t41, t42, t43, t44, t45, t46, t47, t48, t49, t50, t51, t52, t53, t54, t55, t56], []⟩ w := by
  refine wpAnyH_ready (rs := [1, 8]) (by kernel_rfl) (by simp) (AllReadyH.cons rfl (fun K hK => ?_) (AllReadyH.cons rfl (fun K hK => ?_) AllReadyH.nil))
  · go_simp
    refine (kCp.out _ h.pin).mono ?_
    rintro e w1 ⟨p1, c1, rfl, hk, hb⟩
    refine hK.out _ _ (h.hb.below hb h.hb.lt) (fun _ => ?_)
    clear hK K
    simp only [List.setIfInBounds_toArray, List.set_cons_zero, List.set_cons_succ]
    exact st1xy p1 c1 ex ey hx kCp zz KQ w1 (h.call hx hk hb)
  · go_simp
    refine hK.out _ _ (h.hb.alloc _) (fun _ => ?_)
    clear hK K
    simp only [List.setIfInBounds_toArray, List.set_cons_zero, List.set_cons_succ]
    exact st0xyz ex ey w.heap.size hx kCp zz KQ _ (h.allocZ hx)
theorem st0xz (ex ez : Nat) (hx : ∀ i, i < n → (XS i).size = 90) (kCp : Hid (∀ w, PIn w s n XS → Calls Try.prog 7 #[.agg C] w fun e w' => ∃ pb cap, e = .returned (.agg (D pb cap)) ∧ Kept3 w w' pb n XS ∧ Below w.heap.size w w')) (zz : ∀ w, (zeroValue 34).run Try.prog w = .ok (.agg Z) w)
    (KQ : Hid (∀ (w : World) (p1 c1 p2 c2 p3 c3 ex ey ez : Nat), St C Z s n q XS w0 w [p3, p2, p1] (some ex) (some ey) (some ez) → wpAnyH Try.prog .any ops39 Q (fun w' => VarAt w' q C 34) 3 #[true, true, true, true, true, true, true, true, true, false, false, false] ⟨#[t0, t1, .pointer (some ⟨q, 0, none⟩), t3, t4, .pointer (some ⟨ex, 0, none⟩), .pointer (some ⟨ey, 0, none⟩), .pointer (some ⟨ez, 0, none⟩), t8, t9, t10, t11, t12, t13, t14, t15, .agg C, .agg (D p1 c1), .agg C, .agg (D p2 c2), .agg C, .agg (D p3 c3), t22, t23, t24, t25, t26, t27, t28, t29, t30, t31, t32, t33, t34, t35, t36, t37, t38, t39, t40, t41, t42, t43, t44, t45, t46, t47, t48, t49, t50, t51, t52, t53, t54, t55, t56], []⟩ w))
    (w : World) (h : St C Z s n q XS w0 w [] (some ex) none (some ez)) : wpAnyH Try.prog .any ops39 Q (fun w' => VarAt w' q C 34) 7 #[true, false, true, false, true, false, true, false, true, false, false, false] ⟨#[t0, t1, .pointer (some ⟨q, 0, none⟩), t3, t4, .pointer (some ⟨ex, 0, none⟩), undef, .pointer (some ⟨ez, 0, none⟩), t8, t9, t10, t11, t12, t13, t14, t15, .agg C, undef, .agg C, undef, .agg C, undef, t22, t23, t24, t25, t26, t27, t28, t29, t30, t31, t32, t33, t34, t35, t36, t37, t38, t39, t40, t41, t42, t43, t44, t45, t46, t47, t48, t49, t50, t51, t52, t53, t54, t55, t56], []⟩ w := by
  refine wpAnyH_ready (rs := [1, 7]) (by kernel_rfl) (by simp) (AllReadyH.cons rfl (fun K hK => ?_) (AllReadyH.cons rfl (fun K hK => ?_) AllReadyH.nil))
  · go_simp
    refine (kCp.out _ h.pin).mono ?_
    rintro e w1 ⟨p1, c1, rfl, hk, hb⟩
    refine hK.out _ _ (h.hb.below hb h.hb.lt) (fun _ => ?_)
    clear hK K
    simp only [List.setIfInBounds_toArray, List.set_cons_zero, List.set_cons_succ]
    exact st1xz p1 c1 ex ez hx kCp zz KQ w1 (h.call hx hk hb)
  · go_simp
    refine hK.out _ _ (h.hb.alloc _) (fun _ => ?_)
    clear hK K
    simp only [List.setIfInBounds_toArray, List.set_cons_zero, List.set_cons_succ]
    exact st0xyz ex w.heap.size ez hx kCp zz KQ _ (h.allocY hx)
theorem st0yz (ey ez : Nat) (hx : ∀ i, i < n → (XS i).size = 90) (kCp : Hid (∀ w, PIn w s n XS → Calls Try.prog 7 #[.agg C] w fun e w' => ∃ pb cap, e = .returned (.agg (D pb cap)) ∧ Kept3 w w' pb n XS ∧ Below w.heap.size w w')) (zz : ∀ w, (zeroValue 34).run Try.prog w = .ok (.agg Z) w)
    (KQ : Hid (∀ (w : World) (p1 c1 p2 c2 p3 c3 ex ey ez : Nat), St C Z s n q XS w0 w [p3, p2, p1] (some ex) (some ey) (some ez) → wpAnyH Try.prog .any ops39 Q (fun w' => VarAt w' q C 34) 3 #[true, true, true, true, true, true, true, true, true, false, false, false] ⟨#[t0, t1, .pointer (some ⟨q, 0, none⟩), t3, t4, .pointer (some ⟨ex, 0, none⟩), .pointer (some ⟨ey, 0, none⟩), .pointer (some ⟨ez, 0, none⟩), t8, t9, t10, t11, t12, t13, t14, t15, .agg C, .agg (D p1 c1), .agg C, .agg (D p2 c2), .agg C, .agg (D p3 c3), t22, t23, t24, t25, t26, t27, t28, t29, t30, t31, t32, t33, t34, t35, t36, t37, t38, t39, t40, t41, t42, t43, t44, t45, t46, t47, t48, t49, t50, t51, t52, t53, t54, t55, t56], []⟩ w))
    (w : World) (h : St C Z s n q XS w0 w [] none (some ey) (some ez)) : wpAnyH Try.prog .any ops39 Q (fun w' => VarAt w' q C 34) 7 #[true, false, true, false, true, false, false, true, true, false, false, false] ⟨#[t0, t1, .pointer (some ⟨q, 0, none⟩), t3, t4, undef, .pointer (some ⟨ey, 0, none⟩), .pointer (some ⟨ez, 0, none⟩), t8, t9, t10, t11, t12, t13, t14, t15, .agg C, undef, .agg C, undef, .agg C, undef, t22, t23, t24, t25, t26, t27, t28, t29, t30, t31, t32, t33, t34, t35, t36, t37, t38, t39, t40, t41, t42, t43, t44, t45, t46, t47, t48, t49, t50, t51, t52, t53, t54, t55, t56], []⟩ w := by
  refine wpAnyH_ready (rs := [1, 6]) (by kernel_rfl) (by simp) (AllReadyH.cons rfl (fun K hK => ?_) (AllReadyH.cons rfl (fun K hK => ?_) AllReadyH.nil))
  · go_simp
    refine (kCp.out _ h.pin).mono ?_
    rintro e w1 ⟨p1, c1, rfl, hk, hb⟩
    refine hK.out _ _ (h.hb.below hb h.hb.lt) (fun _ => ?_)
    clear hK K
    simp only [List.setIfInBounds_toArray, List.set_cons_zero, List.set_cons_succ]
    exact st1yz p1 c1 ey ez hx kCp zz KQ w1 (h.call hx hk hb)
  · go_simp
    refine hK.out _ _ (h.hb.alloc _) (fun _ => ?_)
    clear hK K
    simp only [List.setIfInBounds_toArray, List.set_cons_zero, List.set_cons_succ]
    exact st0xyz w.heap.size ey ez hx kCp zz KQ _ (h.allocX hx)
theorem st0x (ex : Nat) (hx : ∀ i, i < n → (XS i).size = 90) (kCp : Hid (∀ w, PIn w s n XS → Calls Try.prog 7 #[.agg C] w fun e w' => ∃ pb cap, e = .returned (.agg (D pb cap)) ∧ Kept3 w w' pb n XS ∧ Below w.heap.size w w')) (zz : ∀ w, (zeroValue 34).run Try.prog w = .ok (.agg Z) w)
    (KQ : Hid (∀ (w : World) (p1 c1 p2 c2 p3 c3 ex ey ez : Nat), St C Z s n q XS w0 w [p3, p2, p1] (some ex) (some ey) (some ez) → wpAnyH Try.prog .any ops39 Q (fun w' => VarAt w' q C 34) 3 #[true, true, true, true, true, true, true, true, true, false, false, false] ⟨#[t0, t1, .pointer (some ⟨q, 0, none⟩), t3, t4, .pointer (some ⟨ex, 0, none⟩), .pointer (some ⟨ey, 0, none⟩), .pointer (some ⟨ez, 0, none⟩), t8, t9, t10, t11, t12, t13, t14, t15, .agg C, .agg (D p1 c1), .agg C, .agg (D p2 c2), .agg C, .agg (D p3 c3), t22, t23, t24, t25, t26, t27, t28, t29, t30, t31, t32, t33, t34, t35, t36, t37, t38, t39, t40, t41, t42, t43, t44, t45, t46, t47, t48, t49, t50, t51, t52, t53, t54, t55, t56], []⟩ w))
    (w : World) (h : St C Z s n q XS w0 w [] (some ex) none none) : wpAnyH Try.prog .any ops39 Q (fun w' => VarAt w' q C 34) 8 #[true, false, true, false, true, false, true, false, false, false, false, false] ⟨#[t0, t1, .pointer (some ⟨q, 0, none⟩), t3, t4, .pointer (some ⟨ex, 0, none⟩), undef, undef, t8, t9, t10, t11, t12, t13, t14, t15, .agg C, undef, .agg C, undef, .agg C, undef, t22, t23, t24, t25, t26, t27, t28, t29, t30, t31, t32, t33, t34, t35, t36, t37, t38, t39, t40, t41, t42, t43, t44, t45, t46, t47, t48, t49, t50, t51, t52, t53, t54, t55, t56], []⟩ w := by
  refine wpAnyH_ready (rs := [1, 7, 8]) (by kernel_rfl) (by simp) (AllReadyH.cons rfl (fun K hK => ?_) (AllReadyH.cons rfl (fun K hK => ?_) (AllReadyH.cons rfl (fun K hK => ?_) AllReadyH.nil)))
  · go_simp
    refine (kCp.out _ h.pin).mono ?_
    rintro e w1 ⟨p1, c1, rfl, hk, hb⟩
    refine hK.out _ _ (h.hb.below hb h.hb.lt) (fun _ => ?_)
    clear hK K
    simp only [List.setIfInBounds_toArray, List.set_cons_zero, List.set_cons_succ]
    exact st1x p1 c1 ex hx kCp zz KQ w1 (h.call hx hk hb)
  · go_simp
    refine hK.out _ _ (h.hb.alloc _) (fun _ => ?_)
    clear hK K
    simp only [List.setIfInBounds_toArray, List.set_cons_zero, List.set_cons_succ]
    exact st0xy ex w.heap.size hx kCp zz KQ _ (h.allocY hx)
  · go_simp
    refine hK.out _ _ (h.hb.alloc _) (fun _ => ?_)
    clear hK K
    simp only [List.setIfInBounds_toArray, List.set_cons_zero, List.set_cons_succ]
    exact st0xz ex w.heap.size hx kCp zz KQ _ (h.allocZ hx)
theorem st0y (ey : Nat) (hx : ∀ i, i < n → (XS i).size = 90) (kCp : Hid (∀ w, PIn w s n XS → Calls Try.prog 7 #[.agg C] w fun e w' => ∃ pb cap, e = .returned (.agg (D pb cap)) ∧ Kept3 w w' pb n XS ∧ Below w.heap.size w w')) (zz : ∀ w, (zeroValue 34).run Try.prog w = .ok (.agg Z) w)
    (KQ : Hid (∀ (w : World) (p1 c1 p2 c2 p3 c3 ex ey ez : Nat), St C Z s n q XS w0 w [p3, p2, p1] (some ex) (some ey) (some ez) → wpAnyH Try.prog .any ops39 Q (fun w' => VarAt w' q C 34) 3 #[true, true, true, true, true, true, true, true, true, false, false, false] ⟨#[t0, t1, .pointer (some ⟨q, 0, none⟩), t3, t4, .pointer (some ⟨ex, 0, none⟩), .pointer (some ⟨ey, 0, none⟩), .pointer (some ⟨ez, 0, none⟩), t8, t9, t10, t11, t12, t13, t14, t15, .agg C, .agg (D p1 c1), .agg C, .agg (D p2 c2), .agg C, .agg (D p3 c3), t22, t23, t24, t25, t26, t27, t28, t29, t30, t31, t32, t33, t34, t35, t36, t37, t38, t39, t40, t41, t42, t43, t44, t45, t46, t47, t48, t49, t50, t51, t52, t53, t54, t55, t56], []⟩ w))
    (w : World) (h : St C Z s n q XS w0 w [] none (some ey) none) : wpAnyH Try.prog .any ops39 Q (fun w' => VarAt w' q C 34) 8 #[true, false, true, false, true, false, false, true, false, false, false, false] ⟨#[t0, t1, .pointer (some ⟨q, 0, none⟩), t3, t4, undef, .pointer (some ⟨ey, 0, none⟩), undef, t8, t9, t10, t11, t12, t13, t14, t15, .agg C, undef, .agg C, undef, .agg C, undef, t22, t23, t24, t25, t26, t27, t28, t29, t30, t31, t32, t33, t34, t35, t36, t37, t38, t39, t40, t41, t42, t43, t44, t45, t46, t47, t48, t49, t50, t51, t52, t53, t54, t55, t56], []⟩ w := by
  refine wpAnyH_ready (rs := [1, 6, 8]) (by kernel_rfl) (by simp) (AllReadyH.cons rfl (fun K hK => ?_) (AllReadyH.cons rfl (fun K hK => ?_) (AllReadyH.cons rfl (fun K hK => ?_) AllReadyH.nil)))
  · go_simp
    refine (kCp.out _ h.pin).mono ?_
    rintro e w1 ⟨p1, c1, rfl, hk, hb⟩
    refine hK.out _ _ (h.hb.below hb h.hb.lt) (fun _ => ?_)
    clear hK K
    simp only [List.setIfInBounds_toArray, List.set_cons_zero, List.set_cons_succ]
    exact st1y p1 c1 ey hx kCp zz KQ w1 (h.call hx hk hb)
  · go_simp
    refine hK.out _ _ (h.hb.alloc _) (fun _ => ?_)
    clear hK K
    simp only [List.setIfInBounds_toArray, List.set_cons_zero, List.set_cons_succ]
    exact st0xy w.heap.size ey hx kCp zz KQ _ (h.allocX hx)
  · go_simp
    refine hK.out _ _ (h.hb.alloc _) (fun _ => ?_)
    clear hK K
    simp only [List.setIfInBounds_toArray, List.set_cons_zero, List.set_cons_succ]
    exact st0yz ey w.heap.size hx kCp zz KQ _ (h.allocZ hx)
theorem st0z (ez : Nat) (hx : ∀ i, i < n → (XS i).size = 90) (kCp : Hid (∀ w, PIn w s n XS → Calls Try.prog 7 #[.agg C] w fun e w' => ∃ pb cap, e = .returned (.agg (D pb cap)) ∧ Kept3 w w' pb n XS ∧ Below w.heap.size w w')) (zz : ∀ w, (zeroValue 34).run Try.prog w = .ok (.agg Z) w)
    (KQ : Hid (∀ (w : World) (p1 c1 p2 c2 p3 c3 ex ey ez : Nat), St C Z s n q XS w0 w [p3, p2, p1] (some ex) (some ey) (some ez) → wpAnyH Try.prog .any ops39 Q (fun w' => VarAt w' q C 34) 3 #[true, true, true, true, true, true, true, true, true, false, false, false] ⟨#[t0, t1, .pointer (some ⟨q, 0, none⟩), t3, t4, .pointer (some ⟨ex, 0, none⟩), .pointer (some ⟨ey, 0, none⟩), .pointer (some ⟨ez, 0, none⟩), t8, t9, t10, t11, t12, t13, t14, t15, .agg C, .agg (D p1 c1), .agg C, .agg (D p2 c2), .agg C, .agg (D p3 c3), t22, t23, t24, t25, t26, t27, t28, t29, t30, t31, t32, t33, t34, t35, t36, t37, t38, t39, t40, t41, t42, t43, t44, t45, t46, t47, t48, t49, t50, t51, t52, t53, t54, t55, t56], []⟩ w))
    (w : World) (h : St C Z s n q XS w0 w [] none none (some ez)) : wpAnyH Try.prog .any ops39 Q (fun w' => VarAt w' q C 34) 8 #[true, false, true, false, true, false, false, false, true, false, false, false] ⟨#[t0, t1, .pointer (some ⟨q, 0, none⟩), t3, t4, undef, undef, .pointer (some ⟨ez, 0, none⟩), t8, t9, t10, t11, t12, t13, t14, t15, .agg C, undef, .agg C, undef, .agg C, undef, t22, t23, t24, t25, t26, t27, t28, t29, t30, t31, t32, t33, t34, t35, t36, t37, t38, t39, t40, t41, t42, t43, t44, t45, t46, t47, t48, t49, t50, t51, t52, t53, t54, t55, t56], []⟩ w := by
  refine wpAnyH_ready (rs := [1, 6, 7]) (by kernel_rfl) (by simp) (AllReadyH.cons rfl (fun K hK => ?_) (AllReadyH.cons rfl (fun K hK => ?_) (AllReadyH.cons rfl (fun K hK => ?_) AllReadyH.nil)))
  · go_simp
    refine (kCp.out _ h.pin).mono ?_
    rintro e w1 ⟨p1, c1, rfl, hk, hb⟩
    refine hK.out _ _ (h.hb.below hb h.hb.lt) (fun _ => ?_)
    clear hK K
    simp only [List.setIfInBounds_toArray, List.set_cons_zero, List.set_cons_succ]
    exact st1z p1 c1 ez hx kCp zz KQ w1 (h.call hx hk hb)
  · go_simp
    refine hK.out _ _ (h.hb.alloc _) (fun _ => ?_)
    clear hK K
    simp only [List.setIfInBounds_toArray, List.set_cons_zero, List.set_cons_succ]
    exact st0xz w.heap.size ez hx kCp zz KQ _ (h.allocX hx)
  · go_simp
    refine hK.out _ _ (h.hb.alloc _) (fun _ => ?_)
    clear hK K
    simp only [List.setIfInBounds_toArray, List.set_cons_zero, List.set_cons_succ]
    exact st0yz w.heap.size ez hx kCp zz KQ _ (h.allocY hx)
theorem st0 (hx : ∀ i, i < n → (XS i).size = 90) (kCp : Hid (∀ w, PIn w s n XS → Calls Try.prog 7 #[.agg C] w fun e w' => ∃ pb cap, e = .returned (.agg (D pb cap)) ∧ Kept3 w w' pb n XS ∧ Below w.heap.size w w')) (zz : ∀ w, (zeroValue 34).run Try.prog w = .ok (.agg Z) w)
    (KQ : Hid (∀ (w : World) (p1 c1 p2 c2 p3 c3 ex ey ez : Nat), St C Z s n q XS w0 w [p3, p2, p1] (some ex) (some ey) (some ez) → wpAnyH Try.prog .any ops39 Q (fun w' => VarAt w' q C 34) 3 #[true, true, true, true, true, true, true, true, true, false, false, false] ⟨#[t0, t1, .pointer (some ⟨q, 0, none⟩), t3, t4, .pointer (some ⟨ex, 0, none⟩), .pointer (some ⟨ey, 0, none⟩), .pointer (some ⟨ez, 0, none⟩), t8, t9, t10, t11, t12, t13, t14, t15, .agg C, .agg (D p1 c1), .agg C, .agg (D p2 c2), .agg C, .agg (D p3 c3), t22, t23, t24, t25, t26, t27, t28, t29, t30, t31, t32, t33, t34, t35, t36, t37, t38, t39, t40, t41, t42, t43, t44, t45, t46, t47, t48, t49, t50, t51, t52, t53, t54, t55, t56], []⟩ w))
    (w : World) (h : St C Z s n q XS w0 w [] none none none) : wpAnyH Try.prog .any ops39 Q (fun w' => VarAt w' q C 34) 9 #[true, false, true, false, true, false, false, false, false, false, false, false] ⟨#[t0, t1, .pointer (some ⟨q, 0, none⟩), t3, t4, undef, undef, undef, t8, t9, t10, t11, t12, t13, t14, t15, .agg C, undef, .agg C, undef, .agg C, undef, t22, t23, t24, t25, t26, t27, t28, t29, t30, t31, t32, t33, t34, t35, t36, t37, t38, t39, t40, t41, t42, t43, t44, t45, t46, t47, t48, t49, t50, t51, t52, t53, t54, t55, t56], []⟩ w := by
  refine wpAnyH_ready (rs := [1, 6, 7, 8]) (by kernel_rfl) (by simp) (AllReadyH.cons rfl (fun K hK => ?_) (AllReadyH.cons rfl (fun K hK => ?_) (AllReadyH.cons rfl (fun K hK => ?_) (AllReadyH.cons rfl (fun K hK => ?_) AllReadyH.nil))))
  · go_simp
    refine (kCp.out _ h.pin).mono ?_
    rintro e w1 ⟨p1, c1, rfl, hk, hb⟩
    refine hK.out _ _ (h.hb.below hb h.hb.lt) (fun _ => ?_)
    clear hK K
    simp only [List.setIfInBounds_toArray, List.set_cons_zero, List.set_cons_succ]
    exact st1 p1 c1 hx kCp zz KQ w1 (h.call hx hk hb)
  · go_simp
    refine hK.out _ _ (h.hb.alloc _) (fun _ => ?_)
    clear hK K
    simp only [List.setIfInBounds_toArray, List.set_cons_zero, List.set_cons_succ]
    exact st0x w.heap.size hx kCp zz KQ _ (h.allocX hx)
  · go_simp
    refine hK.out _ _ (h.hb.alloc _) (fun _ => ?_)
    clear hK K
    simp only [List.setIfInBounds_toArray, List.set_cons_zero, List.set_cons_succ]
    exact st0y w.heap.size hx kCp zz KQ _ (h.allocY hx)
  · go_simp
    refine hK.out _ _ (h.hb.alloc _) (fun _ => ?_)
    clear hK K
    simp only [List.setIfInBounds_toArray, List.set_cons_zero, List.set_cons_succ]
    exact st0z w.heap.size hx kCp zz KQ _ (h.allocZ hx)
end
end Go.Proofs.Ytegbkpbdgdmhgaa
