/- Contract of the reference's role. -/
import Derived.Test.YtidgdanhnpfpmaaRa
namespace Go.Proofs.Ytidgdanhnpfpmaa
open Go.RowKit Go.Sort

theorem store_cells {b : Nat} {ys Z : Array Value} {t : TypeId} (w : World) (h : VarAt w b Z t) (ht : Typed ys) (hz : Z.size = 90) : (storeCells ⟨b, 0, none⟩ ys.toList 0).run Try.prog w = .ok () (w.setCells b 0 ys.toList) := by
  have hs := h.there 0 90 (by omega)
  have := run_storeCells_cells (P := Try.prog) b 0 ys.toList 0 w (fun j hj => by simpa using (hs j (by simp [ht.1] at hj; exact hj)).1) (fun j hj => by simpa using (hs j (by simp [ht.1] at hj; exact hj)).2)
    (fun v hv => (Array.all_eq_true_iff_forall_mem.1 ht.one) v (by simpa using hv))
  simpa using this
theorem stored_whole {b : Nat} {ys Z : Array Value} {t : TypeId} {w : World} (h : VarAt w b Z t) (hz : Z.size = ys.size) : VarAt (w.setCells b 0 ys.toList) b ys t := by
  have := VarAt.putL ys.toList 0 h
  rwa [putL_all _ _ hz] at this
theorem ret48 (tmps : Array Value) (w : World) (b : Nat) (ys : Array Value) (hp : tmps.getD 6 undef = .pointer (some ⟨b, 0, none⟩)) (h : VarAt w b ys 50) (hz : ys.size = 90) : (results Try.f24 tmps).run Try.prog w = .ok (.agg ys) w :=
  results_cell_row (p := 6) (ty := 50) rfl tmps w b 50 ys (0, 0) _ hp h uP rfl (by rw [sP, hz])
theorem neqV (r c b p r' c' b' p' : Int) (w : World) : (binOp .neq 30 (vV r c b p) (vV r' c' b' p')).run Try.prog w = .ok (.bool (!eqV r c b p r' c' b' p')) w := by rw [run_neq_struct, v_equal]; rfl
theorem neqT (a m h d a' m' h' d' : Int) (w : World) : (binOp .neq 25 (tmV a m h d) (tmV a' m' h' d')).run Try.prog w = .ok (.bool (!eqT a m h d a' m' h' d')) w := by rw [run_neq_struct, t_equal]; rfl

theorem wpList_load_port {ops : Array Oper} {rest : List Oper} {op : Oper} {a : Act} {w : World} {Q : Exit → Act → World → Prop} (hgd : op.guard = none) (x : Operand) (ho : op.op = .load 50 x) {b o : Nat} (hx : a.eval x = .pointer (some ⟨b, o, none⟩)) {A xs : Array Value} {t : TypeId} (hv : VarAt w b A t) (hs : Sub A o xs) (hz : xs.size = 90) (h : wpList Try.prog ops Q rest (a.put op.dst (.agg xs)) w) : wpList Try.prog ops Q (op :: rest) a w :=
  wpList_plain hgd fun _ hK => wp_load_port x ho hx hv hs hz (hK _ _ h)
theorem wpList_store_port {ops : Array Oper} {rest : List Oper} {op : Oper} {a : Act} {w : World} {Q : Exit → Act → World → Prop} (hgd : op.guard = none) (x y : Operand) (ho : op.op = .store 50 x y) {b o : Nat} {xs : Array Value} (hx : a.eval x = .pointer (some ⟨b, o, none⟩)) (hy : a.eval y = .agg xs) {A : Array Value} {t : TypeId} (hv : VarAt w b A t) (ht : Typed xs) (hA : o + 90 ≤ A.size)
    (h : ∀ w', VarAt w' b (putL A o xs.toList) t → (∀ Bl w0, Bl ≤ b → Below Bl w0 w → Below Bl w0 w') → (∀ c ys u, c ≠ b → VarAt w c ys u → VarAt w' c ys u) → w.heap.size ≤ w'.heap.size → wpList Try.prog ops Q rest (a.put op.dst undef) w') : wpList Try.prog ops Q (op :: rest) a w :=
  wpList_plain hgd fun _ hK => wp_store_port x y ho hx hy hv ht hA fun w' h1 h2 h3 h4 => hK _ _ (h w' h1 h2 h3 h4)
theorem stopB {fn : Func} {R : Ending → World → Prop} {e : Exit} {a : Act} {w : World} (h : Hid (bodyPost Try.prog fn R e a w)) : bodyPost Try.prog fn R e a w := h
/-- A walk stands still at the load of a whole port. -/
theorem stop48 {ops : Array Oper} {rest : List Oper} {op : Oper} {a : Act} {w : World} {Q : Exit → Act → World → Prop} (x : Operand) (_ : op.op = .load 50 x) (h : Hid (wpList Try.prog ops Q (op :: rest) a w)) : wpList Try.prog ops Q (op :: rest) a w := h
theorem kI {xs : Array Value} (h : Typed xs) {k : Nat} {n : Int} (hq : kinds[k]? = some (some .i64)) : Typed (putL xs k [.int .i64 n]) := kput h k _ _ hq ⟨_, rfl⟩
theorem kB {xs : Array Value} (h : Typed xs) {k : Nat} {b : Bool} (hq : kinds[k]? = some none) : Typed (putL xs k [.bool b]) := kput h k _ _ hq ⟨_, rfl⟩
section
variable (B : Bd) (s : Value) (x : Pd) (q : Bool) (xs : Array Value) (w : World) (hx : x.In xs) (ht : Typed xs) (hid : B.id < 18446744073709551616)
include hx ht hid
set_option maxHeartbeats 1000000 in
theorem role0 (hi : x.info = 0) : Calls Try.prog 24 #[.agg (B.cells s), .agg xs, .bool q] w fun e w' => e = .returned (.agg (newP B x q xs)) ∧ Below w.heap.size w w' := by
  have z := zero48
  have zs := Lib.hid z48_size
  generalize z48 = Z at *
  have hv0 := Lib.hid (((var_new w (B.cells s) 34).alloc (.cells xs 50)).alloc (.cells Z 50))
  have hv1 := Lib.hid (show VarAt (((w.alloc (.cells (B.cells s) 34)).alloc (.cells xs 50)).alloc (.cells Z 50)) (w.heap.size + 1) xs 50 by
    have := (var_new (w.alloc (.cells (B.cells s) 34)) xs 50).alloc (.cells Z 50)
    rwa [alloc_size] at this)
  have hv2 := Lib.hid (show VarAt (((w.alloc (.cells (B.cells s) 34)).alloc (.cells xs 50)).alloc (.cells Z 50)) (w.heap.size + 1 + 1) Z 50 by
    have := var_new ((w.alloc (.cells (B.cells s) 34)).alloc (.cells xs 50)) Z 50
    rwa [alloc_size, alloc_size] at this)
  have hB := Lib.hid (show Below w.heap.size w (((w.alloc (.cells (B.cells s) 34)).alloc (.cells xs 50)).alloc (.cells Z 50)) from (((Below.refl w.heap.size w).alloc (Nat.le_refl _) (.cells (B.cells s) 34)).alloc (by simp) (.cells xs 50)).alloc (by simp; omega) (.cells Z 50))
  have HX := Lib.hid hx
  have HT := Lib.hid ht
  have mq := mac48 x.vb B.id
  have mg := g48
  have cx := fun w => refBytes_any x.vb hx.lvb w
  have cy := fun w => refBytes_any B.id hid w
  have c0 : (((w.alloc (.cells (B.cells s) 34)).alloc (.cells xs 50)).alloc (.cells Z 50)).cell? ⟨w.heap.size + 1, 0, none⟩ = some (.int .u16 x.id) := by rw [hv1.out.cell]; exact hx.id
  have b0 : (((w.alloc (.cells (B.cells s) 34)).alloc (.cells xs 50)).alloc (.cells Z 50)).cell? ⟨w.heap.size, 0, none⟩ = some (.int .u64 B.id) := hv0.out.cell 0
  have b3 : (((w.alloc (.cells (B.cells s) 34)).alloc (.cells xs 50)).alloc (.cells Z 50)).cell? ⟨w.heap.size, 3, none⟩ = some (.int .i64 B.h) := hv0.out.cell 3
  have b7 : (((w.alloc (.cells (B.cells s) 34)).alloc (.cells xs 50)).alloc (.cells Z 50)).cell? ⟨w.heap.size, 7, none⟩ = some (.int .u64 B.r) := hv0.out.cell 7
  have b8 : (((w.alloc (.cells (B.cells s) 34)).alloc (.cells xs 50)).alloc (.cells Z 50)).cell? ⟨w.heap.size, 8, none⟩ = some (.int .u32 B.c) := hv0.out.cell 8
  have b12 : (((w.alloc (.cells (B.cells s) 34)).alloc (.cells xs 50)).alloc (.cells Z 50)).cell? ⟨w.heap.size, 12, none⟩ = some (.int .i64 B.ra) := hv0.out.cell 12
  have b13 : (((w.alloc (.cells (B.cells s) 34)).alloc (.cells xs 50)).alloc (.cells Z 50)).cell? ⟨w.heap.size, 13, none⟩ = some (.int .i64 B.rm) := hv0.out.cell 13
  have b14 : (((w.alloc (.cells (B.cells s) 34)).alloc (.cells xs 50)).alloc (.cells Z 50)).cell? ⟨w.heap.size, 14, none⟩ = some (.int .i64 B.rh) := hv0.out.cell 14
  have b15 : (((w.alloc (.cells (B.cells s) 34)).alloc (.cells xs 50)).alloc (.cells Z 50)).cell? ⟨w.heap.size, 15, none⟩ = some (.int .i64 B.rd) := hv0.out.cell 15
  have xz := hx.size
  have f48 := hv1.out.some (k := 48) (by omega)
  have f49 := hv1.out.some (k := 49) (by omega)
  have f50 := hv1.out.some (k := 50) (by omega)
  have f51 := hv1.out.some (k := 51) (by omega)
  have f60 := hv1.out.some (k := 60) (by omega)
  have f61 := hv1.out.some (k := 61) (by omega)
  have f62 := hv1.out.some (k := 62) (by omega)
  have f63 := hv1.out.some (k := 63) (by omega)
  have fz := hv1.out.frozen
  clear hx ht hid
  go_enter Try.func24, Try.ntmps24
  go_wp2_with fail
  have V1 : VarAt (((w.alloc (.cells (B.cells s) 34)).alloc (.cells (((((((((xs.setIfInBounds 48 (.int .u64 B.r)).setIfInBounds 49 (.int .u32 B.c)).setIfInBounds 50 (.int .u64 B.id)).setIfInBounds 51 (.int .u16 x.id)).setIfInBounds 60 (.int .i64 B.ra)).setIfInBounds 61 (.int .i64 B.rm)).setIfInBounds 62 (.int .i64 B.rh)).setIfInBounds 63 (.int .i64 B.rd)).setIfInBounds 62 (.int .i64 B.h)) 50)).alloc (.cells Z 50)) (w.heap.size + 1) (desA B x.id xs 0) 50 := by
    have := (var_new (w.alloc (.cells (B.cells s) 34)) (desA B x.id xs 0) 50).alloc (.cells Z 50)
    rwa [alloc_size] at this
  have V0 : VarAt (((w.alloc (.cells (B.cells s) 34)).alloc (.cells (((((((((xs.setIfInBounds 48 (.int .u64 B.r)).setIfInBounds 49 (.int .u32 B.c)).setIfInBounds 50 (.int .u64 B.id)).setIfInBounds 51 (.int .u16 x.id)).setIfInBounds 60 (.int .i64 B.ra)).setIfInBounds 61 (.int .i64 B.rm)).setIfInBounds 62 (.int .i64 B.rh)).setIfInBounds 63 (.int .i64 B.rd)).setIfInBounds 62 (.int .i64 B.h)) 50)).alloc (.cells Z 50)) w.heap.size (B.cells s) 34 := ((var_new w (B.cells s) 34).alloc _).alloc _
  have V2 : VarAt (((w.alloc (.cells (B.cells s) 34)).alloc (.cells (((((((((xs.setIfInBounds 48 (.int .u64 B.r)).setIfInBounds 49 (.int .u32 B.c)).setIfInBounds 50 (.int .u64 B.id)).setIfInBounds 51 (.int .u16 x.id)).setIfInBounds 60 (.int .i64 B.ra)).setIfInBounds 61 (.int .i64 B.rm)).setIfInBounds 62 (.int .i64 B.rh)).setIfInBounds 63 (.int .i64 B.rd)).setIfInBounds 62 (.int .i64 B.h)) 50)).alloc (.cells Z 50)) (w.heap.size + 1 + 1) Z 50 := by
    have := var_new ((w.alloc (.cells (B.cells s) 34)).alloc (.cells (desA B x.id xs 0) 50)) Z 50
    rwa [alloc_size, alloc_size] at this
  have HB : Below w.heap.size w (((w.alloc (.cells (B.cells s) 34)).alloc (.cells (((((((((xs.setIfInBounds 48 (.int .u64 B.r)).setIfInBounds 49 (.int .u32 B.c)).setIfInBounds 50 (.int .u64 B.id)).setIfInBounds 51 (.int .u16 x.id)).setIfInBounds 60 (.int .i64 B.ra)).setIfInBounds 61 (.int .i64 B.rm)).setIfInBounds 62 (.int .i64 B.rh)).setIfInBounds 63 (.int .i64 B.rd)).setIfInBounds 62 (.int .i64 B.h)) 50)).alloc (.cells Z 50)) := (((Below.refl w.heap.size w).alloc (Nat.le_refl _) (.cells (B.cells s) 34)).alloc (by simp) _).alloc (by simp; omega) (.cells Z 50)
  clear c0 b0 b3 b7 b8 b12 b13 b14 b15 f48 f49 f50 f51 f60 f61 f62 f63 fz hv0 hv1 hv2 hB
  generalize ((w.alloc (.cells (B.cells s) 34)).alloc (.cells (((((((((xs.setIfInBounds 48 (.int .u64 B.r)).setIfInBounds 49 (.int .u32 B.c)).setIfInBounds 50 (.int .u64 B.id)).setIfInBounds 51 (.int .u16 x.id)).setIfInBounds 60 (.int .i64 B.ra)).setIfInBounds 61 (.int .i64 B.rm)).setIfInBounds 62 (.int .i64 B.rh)).setIfInBounds 63 (.int .i64 B.rd)).setIfInBounds 62 (.int .i64 B.h)) 50)).alloc (.cells Z 50) = W at *
  have HB1 := Lib.hid HB
  have S1 := Lib.hid (SP_of V0 V1 (fun k _ => by rw [Nat.zero_add]) HX.out)
  have a58 : W.cell? ⟨w.heap.size + 1, 58, none⟩ = some (.int .u64 x.vb) := by have := S1.out.2.2.2.2.2.2.2.1; simpa using this
  have a0 : W.cell? ⟨w.heap.size, 0, none⟩ = some (.int .u64 B.id) := V0.cell 0
  have d0 := fun d os => cell_below (below_regrown W d os) a0
  have d58 := fun d os => cell_below (below_regrown W d os) a58
  have ex : ∀ d os, Calls Try.prog 21 #[.int .u64 x.vb] (grow (redrawn W d) os) fun e w'' => e = .returned (macV (ofN x.vb)) ∧ ∃ p : Regrown, w'' = grow (redrawn W p.d) p.os := fun d os => Calls.regrown_of (cx _)
  have ey : ∀ d os, Calls Try.prog 21 #[.int .u64 B.id] (grow (redrawn W d) os) fun e w'' => e = .returned (macV (ofN B.id)) ∧ ∃ p : Regrown, w'' = grow (redrawn W p.d) p.os := fun d os => Calls.regrown_of (cy _)
  have U0 := Lib.hid V0
  have U1 := Lib.hid V1
  have U2 := Lib.hid V2
  clear V0 V1 V2 HB cx cy a58 a0 S1
  generalize hE : eqM x.vb B.id = E at *
  have HE := Lib.hid hE
  clear hE
  generalize ofN x.vb = m1 at *
  generalize ofN B.id = m2 at *
  refine wp_region_quiet_below (by kernel_rfl) (by kernel_rfl) ?_
  repeat (go_big_quiet_step (first | with_reducible exact ex _ _ | with_reducible exact ey _ _))
  refine wpQuiet_nil ?_
  intro _ hw'
  obtain ⟨⟨dq, osq⟩, hw''⟩ := hw'
  subst hw''
  have hbq := below_regrown W dq osq
  have V0 := U0.out.below hbq U0.out.lt
  have V1 := U1.out.below hbq U1.out.lt
  have V2 := U2.out.below hbq U2.out.lt
  have HB := HB1.out.trans (hbq.mono HB1.out.size)
  clear mq mg d0 d58 ex ey hbq U0 U1 U2 HB1
  generalize grow (redrawn W dq) osq = W1 at *
  have ysz := Lib.hid (show (desA B x.id xs 0).size = 90 by rw [desA_size]; exact HX.out.size)
  have yst := Lib.hid (desA_typed (B := B) (q := x.id) HT.out)
  have S1 := SP_of V0 V1 (fun k _ => by rw [Nat.zero_add]) HX.out
  have c44 : W1.cell? ⟨w.heap.size + 1, 44, none⟩ = some (.int .i64 x.info) := by rw [V1.cell, desA_at HX.out.size 44 (by omega)]; exact HX.out.info
  have hnew : newP B x q xs = rolA B x q (desA B x.id xs 0) 0 := rfl
  generalize desA B x.id xs 0 = ys at *
  have f43 := V1.some (k := 43) (by rw [ysz.out]; omega)
  have f47 := V1.some (k := 47) (by rw [ysz.out]; omega)
  have fz := V1.frozen
  have HN := Lib.hid hnew
  have P0 := Lib.hid V0
  have P1 := Lib.hid V1
  have P2 := Lib.hid V2
  have HBW := Lib.hid HB
  have HS := Lib.hid S1
  clear hnew V0 V1 V2 HB S1 xz z
  generalize B.cells s = CC at *
  rw [hi] at c44
  have HF := Lib.hid (show newP B x q xs = putL ys 47 [.int .i64 0] by rw [HN.out]; unfold rolA; rw [if_pos hi])
  clear hi
  go_wp2_with (with_reducible refine stop48 _ rfl ?_)
  have V1 := (VarAt.putL [.int .i64 0] 47 P1.out)
  have V2 := (VarAt.setL_other (c := w.heap.size + 1) (by omega) [.int .i64 0] 47 P2.out)
  have HB := (Below.setL (B := w.heap.size) (b := w.heap.size + 1) (by omega) [.int .i64 0] 47 HBW.out)
  have tF := Lib.hid (show Typed (putL ys 47 [.int .i64 0]) from (kI yst.out rfl))
  simp only [World.setCells] at V1 V2 HB
  clear HS P0 P1 P2 HBW f43 f47 fz c44
  generalize (W1).setCell ⟨w.heap.size + 1, 47, none⟩ (.int .i64 0) = W9 at *
  generalize putL ys 47 [.int .i64 0] = F at *
  have zF := tF.out.1
  have G1 := Lib.hid V1
  have G2 := Lib.hid V2
  have G3 := Lib.hid HB
  clear V1 V2 HB
  refine Lib.hid ?_
  refine wpList_load_port rfl _ rfl rfl G1.out (fun k _ => by rw [Nat.zero_add]) zF ?_
  refine wpList_store_port rfl _ _ rfl rfl rfl G2.out tF.out (by rw [zs.out]; omega) ?_
  intro W10 hv10 hb10 _ _
  rw [putL_all _ _ (by rw [zs.out, zF])] at hv10
  have G4 := Lib.hid hv10
  have G5 := Lib.hid (hb10 w.heap.size w (by omega) G3.out)
  clear hv10 hb10 G1 G2 G3
  go_wp2_with (with_reducible refine stopB ?_)
  refine Lib.hid ?_
  exact bodyPost_ret (ret48 _ _ (w.heap.size + 1 + 1) F rfl G4.out zF) rfl ⟨by rw [HF.out], G5.out⟩
set_option maxHeartbeats 1000000 in
theorem role1 (hi : x.info = 1) : Calls Try.prog 24 #[.agg (B.cells s), .agg xs, .bool q] w fun e w' => e = .returned (.agg (newP B x q xs)) ∧ Below w.heap.size w w' := by
  have z := zero48
  have zs := Lib.hid z48_size
  generalize z48 = Z at *
  have hv0 := Lib.hid (((var_new w (B.cells s) 34).alloc (.cells xs 50)).alloc (.cells Z 50))
  have hv1 := Lib.hid (show VarAt (((w.alloc (.cells (B.cells s) 34)).alloc (.cells xs 50)).alloc (.cells Z 50)) (w.heap.size + 1) xs 50 by
    have := (var_new (w.alloc (.cells (B.cells s) 34)) xs 50).alloc (.cells Z 50)
    rwa [alloc_size] at this)
  have hv2 := Lib.hid (show VarAt (((w.alloc (.cells (B.cells s) 34)).alloc (.cells xs 50)).alloc (.cells Z 50)) (w.heap.size + 1 + 1) Z 50 by
    have := var_new ((w.alloc (.cells (B.cells s) 34)).alloc (.cells xs 50)) Z 50
    rwa [alloc_size, alloc_size] at this)
  have hB := Lib.hid (show Below w.heap.size w (((w.alloc (.cells (B.cells s) 34)).alloc (.cells xs 50)).alloc (.cells Z 50)) from (((Below.refl w.heap.size w).alloc (Nat.le_refl _) (.cells (B.cells s) 34)).alloc (by simp) (.cells xs 50)).alloc (by simp; omega) (.cells Z 50))
  have HX := Lib.hid hx
  have HT := Lib.hid ht
  have mq := mac48 x.vb B.id
  have mg := g48
  have cx := fun w => refBytes_any x.vb hx.lvb w
  have cy := fun w => refBytes_any B.id hid w
  have c0 : (((w.alloc (.cells (B.cells s) 34)).alloc (.cells xs 50)).alloc (.cells Z 50)).cell? ⟨w.heap.size + 1, 0, none⟩ = some (.int .u16 x.id) := by rw [hv1.out.cell]; exact hx.id
  have b0 : (((w.alloc (.cells (B.cells s) 34)).alloc (.cells xs 50)).alloc (.cells Z 50)).cell? ⟨w.heap.size, 0, none⟩ = some (.int .u64 B.id) := hv0.out.cell 0
  have b3 : (((w.alloc (.cells (B.cells s) 34)).alloc (.cells xs 50)).alloc (.cells Z 50)).cell? ⟨w.heap.size, 3, none⟩ = some (.int .i64 B.h) := hv0.out.cell 3
  have b7 : (((w.alloc (.cells (B.cells s) 34)).alloc (.cells xs 50)).alloc (.cells Z 50)).cell? ⟨w.heap.size, 7, none⟩ = some (.int .u64 B.r) := hv0.out.cell 7
  have b8 : (((w.alloc (.cells (B.cells s) 34)).alloc (.cells xs 50)).alloc (.cells Z 50)).cell? ⟨w.heap.size, 8, none⟩ = some (.int .u32 B.c) := hv0.out.cell 8
  have b12 : (((w.alloc (.cells (B.cells s) 34)).alloc (.cells xs 50)).alloc (.cells Z 50)).cell? ⟨w.heap.size, 12, none⟩ = some (.int .i64 B.ra) := hv0.out.cell 12
  have b13 : (((w.alloc (.cells (B.cells s) 34)).alloc (.cells xs 50)).alloc (.cells Z 50)).cell? ⟨w.heap.size, 13, none⟩ = some (.int .i64 B.rm) := hv0.out.cell 13
  have b14 : (((w.alloc (.cells (B.cells s) 34)).alloc (.cells xs 50)).alloc (.cells Z 50)).cell? ⟨w.heap.size, 14, none⟩ = some (.int .i64 B.rh) := hv0.out.cell 14
  have b15 : (((w.alloc (.cells (B.cells s) 34)).alloc (.cells xs 50)).alloc (.cells Z 50)).cell? ⟨w.heap.size, 15, none⟩ = some (.int .i64 B.rd) := hv0.out.cell 15
  have xz := hx.size
  have f48 := hv1.out.some (k := 48) (by omega)
  have f49 := hv1.out.some (k := 49) (by omega)
  have f50 := hv1.out.some (k := 50) (by omega)
  have f51 := hv1.out.some (k := 51) (by omega)
  have f60 := hv1.out.some (k := 60) (by omega)
  have f61 := hv1.out.some (k := 61) (by omega)
  have f62 := hv1.out.some (k := 62) (by omega)
  have f63 := hv1.out.some (k := 63) (by omega)
  have fz := hv1.out.frozen
  clear hx ht hid
  go_enter Try.func24, Try.ntmps24
  go_wp2_with fail
  have V1 : VarAt (((w.alloc (.cells (B.cells s) 34)).alloc (.cells (((((((((xs.setIfInBounds 48 (.int .u64 B.r)).setIfInBounds 49 (.int .u32 B.c)).setIfInBounds 50 (.int .u64 B.id)).setIfInBounds 51 (.int .u16 x.id)).setIfInBounds 60 (.int .i64 B.ra)).setIfInBounds 61 (.int .i64 B.rm)).setIfInBounds 62 (.int .i64 B.rh)).setIfInBounds 63 (.int .i64 B.rd)).setIfInBounds 62 (.int .i64 B.h)) 50)).alloc (.cells Z 50)) (w.heap.size + 1) (desA B x.id xs 0) 50 := by
    have := (var_new (w.alloc (.cells (B.cells s) 34)) (desA B x.id xs 0) 50).alloc (.cells Z 50)
    rwa [alloc_size] at this
  have V0 : VarAt (((w.alloc (.cells (B.cells s) 34)).alloc (.cells (((((((((xs.setIfInBounds 48 (.int .u64 B.r)).setIfInBounds 49 (.int .u32 B.c)).setIfInBounds 50 (.int .u64 B.id)).setIfInBounds 51 (.int .u16 x.id)).setIfInBounds 60 (.int .i64 B.ra)).setIfInBounds 61 (.int .i64 B.rm)).setIfInBounds 62 (.int .i64 B.rh)).setIfInBounds 63 (.int .i64 B.rd)).setIfInBounds 62 (.int .i64 B.h)) 50)).alloc (.cells Z 50)) w.heap.size (B.cells s) 34 := ((var_new w (B.cells s) 34).alloc _).alloc _
  have V2 : VarAt (((w.alloc (.cells (B.cells s) 34)).alloc (.cells (((((((((xs.setIfInBounds 48 (.int .u64 B.r)).setIfInBounds 49 (.int .u32 B.c)).setIfInBounds 50 (.int .u64 B.id)).setIfInBounds 51 (.int .u16 x.id)).setIfInBounds 60 (.int .i64 B.ra)).setIfInBounds 61 (.int .i64 B.rm)).setIfInBounds 62 (.int .i64 B.rh)).setIfInBounds 63 (.int .i64 B.rd)).setIfInBounds 62 (.int .i64 B.h)) 50)).alloc (.cells Z 50)) (w.heap.size + 1 + 1) Z 50 := by
    have := var_new ((w.alloc (.cells (B.cells s) 34)).alloc (.cells (desA B x.id xs 0) 50)) Z 50
    rwa [alloc_size, alloc_size] at this
  have HB : Below w.heap.size w (((w.alloc (.cells (B.cells s) 34)).alloc (.cells (((((((((xs.setIfInBounds 48 (.int .u64 B.r)).setIfInBounds 49 (.int .u32 B.c)).setIfInBounds 50 (.int .u64 B.id)).setIfInBounds 51 (.int .u16 x.id)).setIfInBounds 60 (.int .i64 B.ra)).setIfInBounds 61 (.int .i64 B.rm)).setIfInBounds 62 (.int .i64 B.rh)).setIfInBounds 63 (.int .i64 B.rd)).setIfInBounds 62 (.int .i64 B.h)) 50)).alloc (.cells Z 50)) := (((Below.refl w.heap.size w).alloc (Nat.le_refl _) (.cells (B.cells s) 34)).alloc (by simp) _).alloc (by simp; omega) (.cells Z 50)
  clear c0 b0 b3 b7 b8 b12 b13 b14 b15 f48 f49 f50 f51 f60 f61 f62 f63 fz hv0 hv1 hv2 hB
  generalize ((w.alloc (.cells (B.cells s) 34)).alloc (.cells (((((((((xs.setIfInBounds 48 (.int .u64 B.r)).setIfInBounds 49 (.int .u32 B.c)).setIfInBounds 50 (.int .u64 B.id)).setIfInBounds 51 (.int .u16 x.id)).setIfInBounds 60 (.int .i64 B.ra)).setIfInBounds 61 (.int .i64 B.rm)).setIfInBounds 62 (.int .i64 B.rh)).setIfInBounds 63 (.int .i64 B.rd)).setIfInBounds 62 (.int .i64 B.h)) 50)).alloc (.cells Z 50) = W at *
  have HB1 := Lib.hid HB
  have S1 := Lib.hid (SP_of V0 V1 (fun k _ => by rw [Nat.zero_add]) HX.out)
  have a58 : W.cell? ⟨w.heap.size + 1, 58, none⟩ = some (.int .u64 x.vb) := by have := S1.out.2.2.2.2.2.2.2.1; simpa using this
  have a0 : W.cell? ⟨w.heap.size, 0, none⟩ = some (.int .u64 B.id) := V0.cell 0
  have d0 := fun d os => cell_below (below_regrown W d os) a0
  have d58 := fun d os => cell_below (below_regrown W d os) a58
  have ex : ∀ d os, Calls Try.prog 21 #[.int .u64 x.vb] (grow (redrawn W d) os) fun e w'' => e = .returned (macV (ofN x.vb)) ∧ ∃ p : Regrown, w'' = grow (redrawn W p.d) p.os := fun d os => Calls.regrown_of (cx _)
  have ey : ∀ d os, Calls Try.prog 21 #[.int .u64 B.id] (grow (redrawn W d) os) fun e w'' => e = .returned (macV (ofN B.id)) ∧ ∃ p : Regrown, w'' = grow (redrawn W p.d) p.os := fun d os => Calls.regrown_of (cy _)
  have U0 := Lib.hid V0
  have U1 := Lib.hid V1
  have U2 := Lib.hid V2
  clear V0 V1 V2 HB cx cy a58 a0 S1
  generalize hE : eqM x.vb B.id = E at *
  have HE := Lib.hid hE
  clear hE
  generalize ofN x.vb = m1 at *
  generalize ofN B.id = m2 at *
  refine wp_region_quiet_below (by kernel_rfl) (by kernel_rfl) ?_
  repeat (go_big_quiet_step (first | with_reducible exact ex _ _ | with_reducible exact ey _ _))
  refine wpQuiet_nil ?_
  intro _ hw'
  obtain ⟨⟨dq, osq⟩, hw''⟩ := hw'
  subst hw''
  have hbq := below_regrown W dq osq
  have V0 := U0.out.below hbq U0.out.lt
  have V1 := U1.out.below hbq U1.out.lt
  have V2 := U2.out.below hbq U2.out.lt
  have HB := HB1.out.trans (hbq.mono HB1.out.size)
  clear mq mg d0 d58 ex ey hbq U0 U1 U2 HB1
  generalize grow (redrawn W dq) osq = W1 at *
  have ysz := Lib.hid (show (desA B x.id xs 0).size = 90 by rw [desA_size]; exact HX.out.size)
  have yst := Lib.hid (desA_typed (B := B) (q := x.id) HT.out)
  have S1 := SP_of V0 V1 (fun k _ => by rw [Nat.zero_add]) HX.out
  have c44 : W1.cell? ⟨w.heap.size + 1, 44, none⟩ = some (.int .i64 x.info) := by rw [V1.cell, desA_at HX.out.size 44 (by omega)]; exact HX.out.info
  have hnew : newP B x q xs = rolA B x q (desA B x.id xs 0) 0 := rfl
  generalize desA B x.id xs 0 = ys at *
  have f43 := V1.some (k := 43) (by rw [ysz.out]; omega)
  have f47 := V1.some (k := 47) (by rw [ysz.out]; omega)
  have fz := V1.frozen
  have HN := Lib.hid hnew
  have P0 := Lib.hid V0
  have P1 := Lib.hid V1
  have P2 := Lib.hid V2
  have HBW := Lib.hid HB
  have HS := Lib.hid S1
  clear hnew V0 V1 V2 HB S1 xz z
  generalize B.cells s = CC at *
  rw [hi] at c44
  have HF := Lib.hid (show newP B x q xs = putL (putL ys 47 [.int .i64 2]) 43 [.bool true] by rw [HN.out]; unfold rolA; rw [if_neg (by omega), if_pos hi])
  clear hi
  go_wp2_with (with_reducible refine stop48 _ rfl ?_)
  have V1 := (VarAt.putL [.bool true] 43 (VarAt.putL [.int .i64 2] 47 P1.out))
  have V2 := (VarAt.setL_other (c := w.heap.size + 1) (by omega) [.bool true] 43 (VarAt.setL_other (c := w.heap.size + 1) (by omega) [.int .i64 2] 47 P2.out))
  have HB := (Below.setL (B := w.heap.size) (b := w.heap.size + 1) (by omega) [.bool true] 43 (Below.setL (B := w.heap.size) (b := w.heap.size + 1) (by omega) [.int .i64 2] 47 HBW.out))
  have tF := Lib.hid (show Typed (putL (putL ys 47 [.int .i64 2]) 43 [.bool true]) from (kB (kI yst.out rfl) rfl))
  simp only [World.setCells] at V1 V2 HB
  clear HS P0 P1 P2 HBW f43 f47 fz c44
  generalize ((W1).setCell ⟨w.heap.size + 1, 47, none⟩ (.int .i64 2)).setCell ⟨w.heap.size + 1, 43, none⟩ (.bool true) = W9 at *
  generalize putL (putL ys 47 [.int .i64 2]) 43 [.bool true] = F at *
  have zF := tF.out.1
  have G1 := Lib.hid V1
  have G2 := Lib.hid V2
  have G3 := Lib.hid HB
  clear V1 V2 HB
  refine Lib.hid ?_
  refine wpList_load_port rfl _ rfl rfl G1.out (fun k _ => by rw [Nat.zero_add]) zF ?_
  refine wpList_store_port rfl _ _ rfl rfl rfl G2.out tF.out (by rw [zs.out]; omega) ?_
  intro W10 hv10 hb10 _ _
  rw [putL_all _ _ (by rw [zs.out, zF])] at hv10
  have G4 := Lib.hid hv10
  have G5 := Lib.hid (hb10 w.heap.size w (by omega) G3.out)
  clear hv10 hb10 G1 G2 G3
  go_wp2_with (with_reducible refine stopB ?_)
  refine Lib.hid ?_
  exact bodyPost_ret (ret48 _ _ (w.heap.size + 1 + 1) F rfl G4.out zF) rfl ⟨by rw [HF.out], G5.out⟩
set_option maxHeartbeats 1000000 in
theorem role4 (h0 : ¬ x.info = 0) (h1 : ¬ x.info = 1) (h2 : ¬ x.info = 2) (h3 : ¬ x.info = 3) : Calls Try.prog 24 #[.agg (B.cells s), .agg xs, .bool q] w fun e w' => e = .returned (.agg (newP B x q xs)) ∧ Below w.heap.size w w' := by
  have z := zero48
  have zs := Lib.hid z48_size
  generalize z48 = Z at *
  have hv0 := Lib.hid (((var_new w (B.cells s) 34).alloc (.cells xs 50)).alloc (.cells Z 50))
  have hv1 := Lib.hid (show VarAt (((w.alloc (.cells (B.cells s) 34)).alloc (.cells xs 50)).alloc (.cells Z 50)) (w.heap.size + 1) xs 50 by
    have := (var_new (w.alloc (.cells (B.cells s) 34)) xs 50).alloc (.cells Z 50)
    rwa [alloc_size] at this)
  have hv2 := Lib.hid (show VarAt (((w.alloc (.cells (B.cells s) 34)).alloc (.cells xs 50)).alloc (.cells Z 50)) (w.heap.size + 1 + 1) Z 50 by
    have := var_new ((w.alloc (.cells (B.cells s) 34)).alloc (.cells xs 50)) Z 50
    rwa [alloc_size, alloc_size] at this)
  have hB := Lib.hid (show Below w.heap.size w (((w.alloc (.cells (B.cells s) 34)).alloc (.cells xs 50)).alloc (.cells Z 50)) from (((Below.refl w.heap.size w).alloc (Nat.le_refl _) (.cells (B.cells s) 34)).alloc (by simp) (.cells xs 50)).alloc (by simp; omega) (.cells Z 50))
  have HX := Lib.hid hx
  have HT := Lib.hid ht
  have mq := mac48 x.vb B.id
  have mg := g48
  have cx := fun w => refBytes_any x.vb hx.lvb w
  have cy := fun w => refBytes_any B.id hid w
  have c0 : (((w.alloc (.cells (B.cells s) 34)).alloc (.cells xs 50)).alloc (.cells Z 50)).cell? ⟨w.heap.size + 1, 0, none⟩ = some (.int .u16 x.id) := by rw [hv1.out.cell]; exact hx.id
  have b0 : (((w.alloc (.cells (B.cells s) 34)).alloc (.cells xs 50)).alloc (.cells Z 50)).cell? ⟨w.heap.size, 0, none⟩ = some (.int .u64 B.id) := hv0.out.cell 0
  have b3 : (((w.alloc (.cells (B.cells s) 34)).alloc (.cells xs 50)).alloc (.cells Z 50)).cell? ⟨w.heap.size, 3, none⟩ = some (.int .i64 B.h) := hv0.out.cell 3
  have b7 : (((w.alloc (.cells (B.cells s) 34)).alloc (.cells xs 50)).alloc (.cells Z 50)).cell? ⟨w.heap.size, 7, none⟩ = some (.int .u64 B.r) := hv0.out.cell 7
  have b8 : (((w.alloc (.cells (B.cells s) 34)).alloc (.cells xs 50)).alloc (.cells Z 50)).cell? ⟨w.heap.size, 8, none⟩ = some (.int .u32 B.c) := hv0.out.cell 8
  have b12 : (((w.alloc (.cells (B.cells s) 34)).alloc (.cells xs 50)).alloc (.cells Z 50)).cell? ⟨w.heap.size, 12, none⟩ = some (.int .i64 B.ra) := hv0.out.cell 12
  have b13 : (((w.alloc (.cells (B.cells s) 34)).alloc (.cells xs 50)).alloc (.cells Z 50)).cell? ⟨w.heap.size, 13, none⟩ = some (.int .i64 B.rm) := hv0.out.cell 13
  have b14 : (((w.alloc (.cells (B.cells s) 34)).alloc (.cells xs 50)).alloc (.cells Z 50)).cell? ⟨w.heap.size, 14, none⟩ = some (.int .i64 B.rh) := hv0.out.cell 14
  have b15 : (((w.alloc (.cells (B.cells s) 34)).alloc (.cells xs 50)).alloc (.cells Z 50)).cell? ⟨w.heap.size, 15, none⟩ = some (.int .i64 B.rd) := hv0.out.cell 15
  have xz := hx.size
  have f48 := hv1.out.some (k := 48) (by omega)
  have f49 := hv1.out.some (k := 49) (by omega)
  have f50 := hv1.out.some (k := 50) (by omega)
  have f51 := hv1.out.some (k := 51) (by omega)
  have f60 := hv1.out.some (k := 60) (by omega)
  have f61 := hv1.out.some (k := 61) (by omega)
  have f62 := hv1.out.some (k := 62) (by omega)
  have f63 := hv1.out.some (k := 63) (by omega)
  have fz := hv1.out.frozen
  clear hx ht hid
  go_enter Try.func24, Try.ntmps24
  go_wp2_with fail
  have V1 : VarAt (((w.alloc (.cells (B.cells s) 34)).alloc (.cells (((((((((xs.setIfInBounds 48 (.int .u64 B.r)).setIfInBounds 49 (.int .u32 B.c)).setIfInBounds 50 (.int .u64 B.id)).setIfInBounds 51 (.int .u16 x.id)).setIfInBounds 60 (.int .i64 B.ra)).setIfInBounds 61 (.int .i64 B.rm)).setIfInBounds 62 (.int .i64 B.rh)).setIfInBounds 63 (.int .i64 B.rd)).setIfInBounds 62 (.int .i64 B.h)) 50)).alloc (.cells Z 50)) (w.heap.size + 1) (desA B x.id xs 0) 50 := by
    have := (var_new (w.alloc (.cells (B.cells s) 34)) (desA B x.id xs 0) 50).alloc (.cells Z 50)
    rwa [alloc_size] at this
  have V0 : VarAt (((w.alloc (.cells (B.cells s) 34)).alloc (.cells (((((((((xs.setIfInBounds 48 (.int .u64 B.r)).setIfInBounds 49 (.int .u32 B.c)).setIfInBounds 50 (.int .u64 B.id)).setIfInBounds 51 (.int .u16 x.id)).setIfInBounds 60 (.int .i64 B.ra)).setIfInBounds 61 (.int .i64 B.rm)).setIfInBounds 62 (.int .i64 B.rh)).setIfInBounds 63 (.int .i64 B.rd)).setIfInBounds 62 (.int .i64 B.h)) 50)).alloc (.cells Z 50)) w.heap.size (B.cells s) 34 := ((var_new w (B.cells s) 34).alloc _).alloc _
  have V2 : VarAt (((w.alloc (.cells (B.cells s) 34)).alloc (.cells (((((((((xs.setIfInBounds 48 (.int .u64 B.r)).setIfInBounds 49 (.int .u32 B.c)).setIfInBounds 50 (.int .u64 B.id)).setIfInBounds 51 (.int .u16 x.id)).setIfInBounds 60 (.int .i64 B.ra)).setIfInBounds 61 (.int .i64 B.rm)).setIfInBounds 62 (.int .i64 B.rh)).setIfInBounds 63 (.int .i64 B.rd)).setIfInBounds 62 (.int .i64 B.h)) 50)).alloc (.cells Z 50)) (w.heap.size + 1 + 1) Z 50 := by
    have := var_new ((w.alloc (.cells (B.cells s) 34)).alloc (.cells (desA B x.id xs 0) 50)) Z 50
    rwa [alloc_size, alloc_size] at this
  have HB : Below w.heap.size w (((w.alloc (.cells (B.cells s) 34)).alloc (.cells (((((((((xs.setIfInBounds 48 (.int .u64 B.r)).setIfInBounds 49 (.int .u32 B.c)).setIfInBounds 50 (.int .u64 B.id)).setIfInBounds 51 (.int .u16 x.id)).setIfInBounds 60 (.int .i64 B.ra)).setIfInBounds 61 (.int .i64 B.rm)).setIfInBounds 62 (.int .i64 B.rh)).setIfInBounds 63 (.int .i64 B.rd)).setIfInBounds 62 (.int .i64 B.h)) 50)).alloc (.cells Z 50)) := (((Below.refl w.heap.size w).alloc (Nat.le_refl _) (.cells (B.cells s) 34)).alloc (by simp) _).alloc (by simp; omega) (.cells Z 50)
  clear c0 b0 b3 b7 b8 b12 b13 b14 b15 f48 f49 f50 f51 f60 f61 f62 f63 fz hv0 hv1 hv2 hB
  generalize ((w.alloc (.cells (B.cells s) 34)).alloc (.cells (((((((((xs.setIfInBounds 48 (.int .u64 B.r)).setIfInBounds 49 (.int .u32 B.c)).setIfInBounds 50 (.int .u64 B.id)).setIfInBounds 51 (.int .u16 x.id)).setIfInBounds 60 (.int .i64 B.ra)).setIfInBounds 61 (.int .i64 B.rm)).setIfInBounds 62 (.int .i64 B.rh)).setIfInBounds 63 (.int .i64 B.rd)).setIfInBounds 62 (.int .i64 B.h)) 50)).alloc (.cells Z 50) = W at *
  have HB1 := Lib.hid HB
  have S1 := Lib.hid (SP_of V0 V1 (fun k _ => by rw [Nat.zero_add]) HX.out)
  have a58 : W.cell? ⟨w.heap.size + 1, 58, none⟩ = some (.int .u64 x.vb) := by have := S1.out.2.2.2.2.2.2.2.1; simpa using this
  have a0 : W.cell? ⟨w.heap.size, 0, none⟩ = some (.int .u64 B.id) := V0.cell 0
  have d0 := fun d os => cell_below (below_regrown W d os) a0
  have d58 := fun d os => cell_below (below_regrown W d os) a58
  have ex : ∀ d os, Calls Try.prog 21 #[.int .u64 x.vb] (grow (redrawn W d) os) fun e w'' => e = .returned (macV (ofN x.vb)) ∧ ∃ p : Regrown, w'' = grow (redrawn W p.d) p.os := fun d os => Calls.regrown_of (cx _)
  have ey : ∀ d os, Calls Try.prog 21 #[.int .u64 B.id] (grow (redrawn W d) os) fun e w'' => e = .returned (macV (ofN B.id)) ∧ ∃ p : Regrown, w'' = grow (redrawn W p.d) p.os := fun d os => Calls.regrown_of (cy _)
  have U0 := Lib.hid V0
  have U1 := Lib.hid V1
  have U2 := Lib.hid V2
  clear V0 V1 V2 HB cx cy a58 a0 S1
  generalize hE : eqM x.vb B.id = E at *
  have HE := Lib.hid hE
  clear hE
  generalize ofN x.vb = m1 at *
  generalize ofN B.id = m2 at *
  refine wp_region_quiet_below (by kernel_rfl) (by kernel_rfl) ?_
  repeat (go_big_quiet_step (first | with_reducible exact ex _ _ | with_reducible exact ey _ _))
  refine wpQuiet_nil ?_
  intro _ hw'
  obtain ⟨⟨dq, osq⟩, hw''⟩ := hw'
  subst hw''
  have hbq := below_regrown W dq osq
  have V0 := U0.out.below hbq U0.out.lt
  have V1 := U1.out.below hbq U1.out.lt
  have V2 := U2.out.below hbq U2.out.lt
  have HB := HB1.out.trans (hbq.mono HB1.out.size)
  clear mq mg d0 d58 ex ey hbq U0 U1 U2 HB1
  generalize grow (redrawn W dq) osq = W1 at *
  have ysz := Lib.hid (show (desA B x.id xs 0).size = 90 by rw [desA_size]; exact HX.out.size)
  have yst := Lib.hid (desA_typed (B := B) (q := x.id) HT.out)
  have S1 := SP_of V0 V1 (fun k _ => by rw [Nat.zero_add]) HX.out
  have c44 : W1.cell? ⟨w.heap.size + 1, 44, none⟩ = some (.int .i64 x.info) := by rw [V1.cell, desA_at HX.out.size 44 (by omega)]; exact HX.out.info
  have hnew : newP B x q xs = rolA B x q (desA B x.id xs 0) 0 := rfl
  generalize desA B x.id xs 0 = ys at *
  have f43 := V1.some (k := 43) (by rw [ysz.out]; omega)
  have f47 := V1.some (k := 47) (by rw [ysz.out]; omega)
  have fz := V1.frozen
  have HN := Lib.hid hnew
  have P0 := Lib.hid V0
  have P1 := Lib.hid V1
  have P2 := Lib.hid V2
  have HBW := Lib.hid HB
  have HS := Lib.hid S1
  clear hnew V0 V1 V2 HB S1 xz z
  generalize B.cells s = CC at *
  have HF := Lib.hid (show newP B x q xs = ys by rw [HN.out]; unfold rolA; rw [if_neg h0, if_neg h1, if_neg h2, if_neg h3])
  generalize x.info = I at *
  go_wp2_with (with_reducible refine stop48 _ rfl ?_)
  have V1 := P1.out
  have V2 := P2.out
  have HB := HBW.out
  have tF := Lib.hid (show Typed (ys) from yst.out)
  clear HS P0 P1 P2 HBW f43 f47 fz c44
  generalize W1 = W9 at *
  generalize ys = F at *
  have zF := tF.out.1
  have G1 := Lib.hid V1
  have G2 := Lib.hid V2
  have G3 := Lib.hid HB
  clear V1 V2 HB
  refine Lib.hid ?_
  refine wpList_load_port rfl _ rfl rfl G1.out (fun k _ => by rw [Nat.zero_add]) zF ?_
  refine wpList_store_port rfl _ _ rfl rfl rfl G2.out tF.out (by rw [zs.out]; omega) ?_
  intro W10 hv10 hb10 _ _
  rw [putL_all _ _ (by rw [zs.out, zF])] at hv10
  have G4 := Lib.hid hv10
  have G5 := Lib.hid (hb10 w.heap.size w (by omega) G3.out)
  clear hv10 hb10 G1 G2 G3
  go_wp2_with (with_reducible refine stopB ?_)
  refine Lib.hid ?_
  exact bodyPost_ret (ret48 _ _ (w.heap.size + 1 + 1) F rfl G4.out zF) rfl ⟨by rw [HF.out], G5.out⟩
set_option maxHeartbeats 1000000 in
theorem role2a (hi : x.info = 2) (hd : eqV x.vr x.vc x.vb x.vp B.r B.c B.id x.id = false) : Calls Try.prog 24 #[.agg (B.cells s), .agg xs, .bool q] w fun e w' => e = .returned (.agg (newP B x q xs)) ∧ Below w.heap.size w w' := by
  have z := zero48
  have zs := Lib.hid z48_size
  generalize z48 = Z at *
  have hv0 := Lib.hid (((var_new w (B.cells s) 34).alloc (.cells xs 50)).alloc (.cells Z 50))
  have hv1 := Lib.hid (show VarAt (((w.alloc (.cells (B.cells s) 34)).alloc (.cells xs 50)).alloc (.cells Z 50)) (w.heap.size + 1) xs 50 by
    have := (var_new (w.alloc (.cells (B.cells s) 34)) xs 50).alloc (.cells Z 50)
    rwa [alloc_size] at this)
  have hv2 := Lib.hid (show VarAt (((w.alloc (.cells (B.cells s) 34)).alloc (.cells xs 50)).alloc (.cells Z 50)) (w.heap.size + 1 + 1) Z 50 by
    have := var_new ((w.alloc (.cells (B.cells s) 34)).alloc (.cells xs 50)) Z 50
    rwa [alloc_size, alloc_size] at this)
  have hB := Lib.hid (show Below w.heap.size w (((w.alloc (.cells (B.cells s) 34)).alloc (.cells xs 50)).alloc (.cells Z 50)) from (((Below.refl w.heap.size w).alloc (Nat.le_refl _) (.cells (B.cells s) 34)).alloc (by simp) (.cells xs 50)).alloc (by simp; omega) (.cells Z 50))
  have HX := Lib.hid hx
  have HT := Lib.hid ht
  have mq := mac48 x.vb B.id
  have mg := g48
  have cx := fun w => refBytes_any x.vb hx.lvb w
  have cy := fun w => refBytes_any B.id hid w
  have c0 : (((w.alloc (.cells (B.cells s) 34)).alloc (.cells xs 50)).alloc (.cells Z 50)).cell? ⟨w.heap.size + 1, 0, none⟩ = some (.int .u16 x.id) := by rw [hv1.out.cell]; exact hx.id
  have b0 : (((w.alloc (.cells (B.cells s) 34)).alloc (.cells xs 50)).alloc (.cells Z 50)).cell? ⟨w.heap.size, 0, none⟩ = some (.int .u64 B.id) := hv0.out.cell 0
  have b3 : (((w.alloc (.cells (B.cells s) 34)).alloc (.cells xs 50)).alloc (.cells Z 50)).cell? ⟨w.heap.size, 3, none⟩ = some (.int .i64 B.h) := hv0.out.cell 3
  have b7 : (((w.alloc (.cells (B.cells s) 34)).alloc (.cells xs 50)).alloc (.cells Z 50)).cell? ⟨w.heap.size, 7, none⟩ = some (.int .u64 B.r) := hv0.out.cell 7
  have b8 : (((w.alloc (.cells (B.cells s) 34)).alloc (.cells xs 50)).alloc (.cells Z 50)).cell? ⟨w.heap.size, 8, none⟩ = some (.int .u32 B.c) := hv0.out.cell 8
  have b12 : (((w.alloc (.cells (B.cells s) 34)).alloc (.cells xs 50)).alloc (.cells Z 50)).cell? ⟨w.heap.size, 12, none⟩ = some (.int .i64 B.ra) := hv0.out.cell 12
  have b13 : (((w.alloc (.cells (B.cells s) 34)).alloc (.cells xs 50)).alloc (.cells Z 50)).cell? ⟨w.heap.size, 13, none⟩ = some (.int .i64 B.rm) := hv0.out.cell 13
  have b14 : (((w.alloc (.cells (B.cells s) 34)).alloc (.cells xs 50)).alloc (.cells Z 50)).cell? ⟨w.heap.size, 14, none⟩ = some (.int .i64 B.rh) := hv0.out.cell 14
  have b15 : (((w.alloc (.cells (B.cells s) 34)).alloc (.cells xs 50)).alloc (.cells Z 50)).cell? ⟨w.heap.size, 15, none⟩ = some (.int .i64 B.rd) := hv0.out.cell 15
  have xz := hx.size
  have f48 := hv1.out.some (k := 48) (by omega)
  have f49 := hv1.out.some (k := 49) (by omega)
  have f50 := hv1.out.some (k := 50) (by omega)
  have f51 := hv1.out.some (k := 51) (by omega)
  have f60 := hv1.out.some (k := 60) (by omega)
  have f61 := hv1.out.some (k := 61) (by omega)
  have f62 := hv1.out.some (k := 62) (by omega)
  have f63 := hv1.out.some (k := 63) (by omega)
  have fz := hv1.out.frozen
  clear hx ht hid
  go_enter Try.func24, Try.ntmps24
  go_wp2_with fail
  have V1 : VarAt (((w.alloc (.cells (B.cells s) 34)).alloc (.cells (((((((((xs.setIfInBounds 48 (.int .u64 B.r)).setIfInBounds 49 (.int .u32 B.c)).setIfInBounds 50 (.int .u64 B.id)).setIfInBounds 51 (.int .u16 x.id)).setIfInBounds 60 (.int .i64 B.ra)).setIfInBounds 61 (.int .i64 B.rm)).setIfInBounds 62 (.int .i64 B.rh)).setIfInBounds 63 (.int .i64 B.rd)).setIfInBounds 62 (.int .i64 B.h)) 50)).alloc (.cells Z 50)) (w.heap.size + 1) (desA B x.id xs 0) 50 := by
    have := (var_new (w.alloc (.cells (B.cells s) 34)) (desA B x.id xs 0) 50).alloc (.cells Z 50)
    rwa [alloc_size] at this
  have V0 : VarAt (((w.alloc (.cells (B.cells s) 34)).alloc (.cells (((((((((xs.setIfInBounds 48 (.int .u64 B.r)).setIfInBounds 49 (.int .u32 B.c)).setIfInBounds 50 (.int .u64 B.id)).setIfInBounds 51 (.int .u16 x.id)).setIfInBounds 60 (.int .i64 B.ra)).setIfInBounds 61 (.int .i64 B.rm)).setIfInBounds 62 (.int .i64 B.rh)).setIfInBounds 63 (.int .i64 B.rd)).setIfInBounds 62 (.int .i64 B.h)) 50)).alloc (.cells Z 50)) w.heap.size (B.cells s) 34 := ((var_new w (B.cells s) 34).alloc _).alloc _
  have V2 : VarAt (((w.alloc (.cells (B.cells s) 34)).alloc (.cells (((((((((xs.setIfInBounds 48 (.int .u64 B.r)).setIfInBounds 49 (.int .u32 B.c)).setIfInBounds 50 (.int .u64 B.id)).setIfInBounds 51 (.int .u16 x.id)).setIfInBounds 60 (.int .i64 B.ra)).setIfInBounds 61 (.int .i64 B.rm)).setIfInBounds 62 (.int .i64 B.rh)).setIfInBounds 63 (.int .i64 B.rd)).setIfInBounds 62 (.int .i64 B.h)) 50)).alloc (.cells Z 50)) (w.heap.size + 1 + 1) Z 50 := by
    have := var_new ((w.alloc (.cells (B.cells s) 34)).alloc (.cells (desA B x.id xs 0) 50)) Z 50
    rwa [alloc_size, alloc_size] at this
  have HB : Below w.heap.size w (((w.alloc (.cells (B.cells s) 34)).alloc (.cells (((((((((xs.setIfInBounds 48 (.int .u64 B.r)).setIfInBounds 49 (.int .u32 B.c)).setIfInBounds 50 (.int .u64 B.id)).setIfInBounds 51 (.int .u16 x.id)).setIfInBounds 60 (.int .i64 B.ra)).setIfInBounds 61 (.int .i64 B.rm)).setIfInBounds 62 (.int .i64 B.rh)).setIfInBounds 63 (.int .i64 B.rd)).setIfInBounds 62 (.int .i64 B.h)) 50)).alloc (.cells Z 50)) := (((Below.refl w.heap.size w).alloc (Nat.le_refl _) (.cells (B.cells s) 34)).alloc (by simp) _).alloc (by simp; omega) (.cells Z 50)
  clear c0 b0 b3 b7 b8 b12 b13 b14 b15 f48 f49 f50 f51 f60 f61 f62 f63 fz hv0 hv1 hv2 hB
  generalize ((w.alloc (.cells (B.cells s) 34)).alloc (.cells (((((((((xs.setIfInBounds 48 (.int .u64 B.r)).setIfInBounds 49 (.int .u32 B.c)).setIfInBounds 50 (.int .u64 B.id)).setIfInBounds 51 (.int .u16 x.id)).setIfInBounds 60 (.int .i64 B.ra)).setIfInBounds 61 (.int .i64 B.rm)).setIfInBounds 62 (.int .i64 B.rh)).setIfInBounds 63 (.int .i64 B.rd)).setIfInBounds 62 (.int .i64 B.h)) 50)).alloc (.cells Z 50) = W at *
  have HB1 := Lib.hid HB
  have S1 := Lib.hid (SP_of V0 V1 (fun k _ => by rw [Nat.zero_add]) HX.out)
  have a58 : W.cell? ⟨w.heap.size + 1, 58, none⟩ = some (.int .u64 x.vb) := by have := S1.out.2.2.2.2.2.2.2.1; simpa using this
  have a0 : W.cell? ⟨w.heap.size, 0, none⟩ = some (.int .u64 B.id) := V0.cell 0
  have d0 := fun d os => cell_below (below_regrown W d os) a0
  have d58 := fun d os => cell_below (below_regrown W d os) a58
  have ex : ∀ d os, Calls Try.prog 21 #[.int .u64 x.vb] (grow (redrawn W d) os) fun e w'' => e = .returned (macV (ofN x.vb)) ∧ ∃ p : Regrown, w'' = grow (redrawn W p.d) p.os := fun d os => Calls.regrown_of (cx _)
  have ey : ∀ d os, Calls Try.prog 21 #[.int .u64 B.id] (grow (redrawn W d) os) fun e w'' => e = .returned (macV (ofN B.id)) ∧ ∃ p : Regrown, w'' = grow (redrawn W p.d) p.os := fun d os => Calls.regrown_of (cy _)
  have U0 := Lib.hid V0
  have U1 := Lib.hid V1
  have U2 := Lib.hid V2
  clear V0 V1 V2 HB cx cy a58 a0 S1
  generalize hE : eqM x.vb B.id = E at *
  have HE := Lib.hid hE
  clear hE
  generalize ofN x.vb = m1 at *
  generalize ofN B.id = m2 at *
  refine wp_region_quiet_below (by kernel_rfl) (by kernel_rfl) ?_
  repeat (go_big_quiet_step (first | with_reducible exact ex _ _ | with_reducible exact ey _ _))
  refine wpQuiet_nil ?_
  intro _ hw'
  obtain ⟨⟨dq, osq⟩, hw''⟩ := hw'
  subst hw''
  have hbq := below_regrown W dq osq
  have V0 := U0.out.below hbq U0.out.lt
  have V1 := U1.out.below hbq U1.out.lt
  have V2 := U2.out.below hbq U2.out.lt
  have HB := HB1.out.trans (hbq.mono HB1.out.size)
  clear mq mg d0 d58 ex ey hbq U0 U1 U2 HB1
  generalize grow (redrawn W dq) osq = W1 at *
  have ysz := Lib.hid (show (desA B x.id xs 0).size = 90 by rw [desA_size]; exact HX.out.size)
  have yst := Lib.hid (desA_typed (B := B) (q := x.id) HT.out)
  have S1 := SP_of V0 V1 (fun k _ => by rw [Nat.zero_add]) HX.out
  have c44 : W1.cell? ⟨w.heap.size + 1, 44, none⟩ = some (.int .i64 x.info) := by rw [V1.cell, desA_at HX.out.size 44 (by omega)]; exact HX.out.info
  have hnew : newP B x q xs = rolA B x q (desA B x.id xs 0) 0 := rfl
  generalize desA B x.id xs 0 = ys at *
  have f43 := V1.some (k := 43) (by rw [ysz.out]; omega)
  have f47 := V1.some (k := 47) (by rw [ysz.out]; omega)
  have fz := V1.frozen
  have HN := Lib.hid hnew
  have P0 := Lib.hid V0
  have P1 := Lib.hid V1
  have P2 := Lib.hid V2
  have HBW := Lib.hid HB
  have HS := Lib.hid S1
  clear hnew V0 V1 V2 HB S1 xz z
  generalize B.cells s = CC at *
  rw [hi] at c44
  have HF := Lib.hid (show newP B x q xs = putL (putL ys 47 [.int .i64 2]) 43 [.bool true] by rw [HN.out]; unfold rolA; rw [if_neg (by omega), if_neg (by omega), if_pos hi, if_pos (by unfold differs; rw [hd]; rfl)])
  have j1 := fun w => neqV x.vr x.vc x.vb x.vp B.r B.c B.id x.id w
  rw [hd] at j1
  clear hi hd
  obtain ⟨p0, p48, p49, p50, p51, p56, p57, p58, p59, p60, p61, p62, p63, p68, p69, p70, p71⟩ := HS.out
  simp only [Nat.zero_add] at p48 p49 p50 p51 p56 p57 p58 p59 p60 p61 p62 p63 p68 p69 p70 p71
  go_wp2_with (with_reducible refine stop48 _ rfl ?_)
  clear p0 p48 p49 p50 p51 p56 p57 p58 p59 p60 p61 p62 p63 p68 p69 p70 p71
  clear j1
  have V1 := (VarAt.putL [.bool true] 43 (VarAt.putL [.int .i64 2] 47 P1.out))
  have V2 := (VarAt.setL_other (c := w.heap.size + 1) (by omega) [.bool true] 43 (VarAt.setL_other (c := w.heap.size + 1) (by omega) [.int .i64 2] 47 P2.out))
  have HB := (Below.setL (B := w.heap.size) (b := w.heap.size + 1) (by omega) [.bool true] 43 (Below.setL (B := w.heap.size) (b := w.heap.size + 1) (by omega) [.int .i64 2] 47 HBW.out))
  have tF := Lib.hid (show Typed (putL (putL ys 47 [.int .i64 2]) 43 [.bool true]) from (kB (kI yst.out rfl) rfl))
  simp only [World.setCells] at V1 V2 HB
  clear HS P0 P1 P2 HBW f43 f47 fz c44
  generalize ((W1).setCell ⟨w.heap.size + 1, 47, none⟩ (.int .i64 2)).setCell ⟨w.heap.size + 1, 43, none⟩ (.bool true) = W9 at *
  generalize putL (putL ys 47 [.int .i64 2]) 43 [.bool true] = F at *
  have zF := tF.out.1
  have G1 := Lib.hid V1
  have G2 := Lib.hid V2
  have G3 := Lib.hid HB
  clear V1 V2 HB
  refine Lib.hid ?_
  refine wpList_load_port rfl _ rfl rfl G1.out (fun k _ => by rw [Nat.zero_add]) zF ?_
  refine wpList_store_port rfl _ _ rfl rfl rfl G2.out tF.out (by rw [zs.out]; omega) ?_
  intro W10 hv10 hb10 _ _
  rw [putL_all _ _ (by rw [zs.out, zF])] at hv10
  have G4 := Lib.hid hv10
  have G5 := Lib.hid (hb10 w.heap.size w (by omega) G3.out)
  clear hv10 hb10 G1 G2 G3
  go_wp2_with (with_reducible refine stopB ?_)
  refine Lib.hid ?_
  exact bodyPost_ret (ret48 _ _ (w.heap.size + 1 + 1) F rfl G4.out zF) rfl ⟨by rw [HF.out], G5.out⟩
set_option maxHeartbeats 1000000 in
theorem role2b (hi : x.info = 2) (hd : eqV x.vr x.vc x.vb x.vp B.r B.c B.id x.id = true) (ht' : eqT x.a x.m x.h x.d B.ra B.rm B.h B.rd = false) : Calls Try.prog 24 #[.agg (B.cells s), .agg xs, .bool q] w fun e w' => e = .returned (.agg (newP B x q xs)) ∧ Below w.heap.size w w' := by
  have z := zero48
  have zs := Lib.hid z48_size
  generalize z48 = Z at *
  have hv0 := Lib.hid (((var_new w (B.cells s) 34).alloc (.cells xs 50)).alloc (.cells Z 50))
  have hv1 := Lib.hid (show VarAt (((w.alloc (.cells (B.cells s) 34)).alloc (.cells xs 50)).alloc (.cells Z 50)) (w.heap.size + 1) xs 50 by
    have := (var_new (w.alloc (.cells (B.cells s) 34)) xs 50).alloc (.cells Z 50)
    rwa [alloc_size] at this)
  have hv2 := Lib.hid (show VarAt (((w.alloc (.cells (B.cells s) 34)).alloc (.cells xs 50)).alloc (.cells Z 50)) (w.heap.size + 1 + 1) Z 50 by
    have := var_new ((w.alloc (.cells (B.cells s) 34)).alloc (.cells xs 50)) Z 50
    rwa [alloc_size, alloc_size] at this)
  have hB := Lib.hid (show Below w.heap.size w (((w.alloc (.cells (B.cells s) 34)).alloc (.cells xs 50)).alloc (.cells Z 50)) from (((Below.refl w.heap.size w).alloc (Nat.le_refl _) (.cells (B.cells s) 34)).alloc (by simp) (.cells xs 50)).alloc (by simp; omega) (.cells Z 50))
  have HX := Lib.hid hx
  have HT := Lib.hid ht
  have mq := mac48 x.vb B.id
  have mg := g48
  have cx := fun w => refBytes_any x.vb hx.lvb w
  have cy := fun w => refBytes_any B.id hid w
  have c0 : (((w.alloc (.cells (B.cells s) 34)).alloc (.cells xs 50)).alloc (.cells Z 50)).cell? ⟨w.heap.size + 1, 0, none⟩ = some (.int .u16 x.id) := by rw [hv1.out.cell]; exact hx.id
  have b0 : (((w.alloc (.cells (B.cells s) 34)).alloc (.cells xs 50)).alloc (.cells Z 50)).cell? ⟨w.heap.size, 0, none⟩ = some (.int .u64 B.id) := hv0.out.cell 0
  have b3 : (((w.alloc (.cells (B.cells s) 34)).alloc (.cells xs 50)).alloc (.cells Z 50)).cell? ⟨w.heap.size, 3, none⟩ = some (.int .i64 B.h) := hv0.out.cell 3
  have b7 : (((w.alloc (.cells (B.cells s) 34)).alloc (.cells xs 50)).alloc (.cells Z 50)).cell? ⟨w.heap.size, 7, none⟩ = some (.int .u64 B.r) := hv0.out.cell 7
  have b8 : (((w.alloc (.cells (B.cells s) 34)).alloc (.cells xs 50)).alloc (.cells Z 50)).cell? ⟨w.heap.size, 8, none⟩ = some (.int .u32 B.c) := hv0.out.cell 8
  have b12 : (((w.alloc (.cells (B.cells s) 34)).alloc (.cells xs 50)).alloc (.cells Z 50)).cell? ⟨w.heap.size, 12, none⟩ = some (.int .i64 B.ra) := hv0.out.cell 12
  have b13 : (((w.alloc (.cells (B.cells s) 34)).alloc (.cells xs 50)).alloc (.cells Z 50)).cell? ⟨w.heap.size, 13, none⟩ = some (.int .i64 B.rm) := hv0.out.cell 13
  have b14 : (((w.alloc (.cells (B.cells s) 34)).alloc (.cells xs 50)).alloc (.cells Z 50)).cell? ⟨w.heap.size, 14, none⟩ = some (.int .i64 B.rh) := hv0.out.cell 14
  have b15 : (((w.alloc (.cells (B.cells s) 34)).alloc (.cells xs 50)).alloc (.cells Z 50)).cell? ⟨w.heap.size, 15, none⟩ = some (.int .i64 B.rd) := hv0.out.cell 15
  have xz := hx.size
  have f48 := hv1.out.some (k := 48) (by omega)
  have f49 := hv1.out.some (k := 49) (by omega)
  have f50 := hv1.out.some (k := 50) (by omega)
  have f51 := hv1.out.some (k := 51) (by omega)
  have f60 := hv1.out.some (k := 60) (by omega)
  have f61 := hv1.out.some (k := 61) (by omega)
  have f62 := hv1.out.some (k := 62) (by omega)
  have f63 := hv1.out.some (k := 63) (by omega)
  have fz := hv1.out.frozen
  clear hx ht hid
  go_enter Try.func24, Try.ntmps24
  go_wp2_with fail
  have V1 : VarAt (((w.alloc (.cells (B.cells s) 34)).alloc (.cells (((((((((xs.setIfInBounds 48 (.int .u64 B.r)).setIfInBounds 49 (.int .u32 B.c)).setIfInBounds 50 (.int .u64 B.id)).setIfInBounds 51 (.int .u16 x.id)).setIfInBounds 60 (.int .i64 B.ra)).setIfInBounds 61 (.int .i64 B.rm)).setIfInBounds 62 (.int .i64 B.rh)).setIfInBounds 63 (.int .i64 B.rd)).setIfInBounds 62 (.int .i64 B.h)) 50)).alloc (.cells Z 50)) (w.heap.size + 1) (desA B x.id xs 0) 50 := by
    have := (var_new (w.alloc (.cells (B.cells s) 34)) (desA B x.id xs 0) 50).alloc (.cells Z 50)
    rwa [alloc_size] at this
  have V0 : VarAt (((w.alloc (.cells (B.cells s) 34)).alloc (.cells (((((((((xs.setIfInBounds 48 (.int .u64 B.r)).setIfInBounds 49 (.int .u32 B.c)).setIfInBounds 50 (.int .u64 B.id)).setIfInBounds 51 (.int .u16 x.id)).setIfInBounds 60 (.int .i64 B.ra)).setIfInBounds 61 (.int .i64 B.rm)).setIfInBounds 62 (.int .i64 B.rh)).setIfInBounds 63 (.int .i64 B.rd)).setIfInBounds 62 (.int .i64 B.h)) 50)).alloc (.cells Z 50)) w.heap.size (B.cells s) 34 := ((var_new w (B.cells s) 34).alloc _).alloc _
  have V2 : VarAt (((w.alloc (.cells (B.cells s) 34)).alloc (.cells (((((((((xs.setIfInBounds 48 (.int .u64 B.r)).setIfInBounds 49 (.int .u32 B.c)).setIfInBounds 50 (.int .u64 B.id)).setIfInBounds 51 (.int .u16 x.id)).setIfInBounds 60 (.int .i64 B.ra)).setIfInBounds 61 (.int .i64 B.rm)).setIfInBounds 62 (.int .i64 B.rh)).setIfInBounds 63 (.int .i64 B.rd)).setIfInBounds 62 (.int .i64 B.h)) 50)).alloc (.cells Z 50)) (w.heap.size + 1 + 1) Z 50 := by
    have := var_new ((w.alloc (.cells (B.cells s) 34)).alloc (.cells (desA B x.id xs 0) 50)) Z 50
    rwa [alloc_size, alloc_size] at this
  have HB : Below w.heap.size w (((w.alloc (.cells (B.cells s) 34)).alloc (.cells (((((((((xs.setIfInBounds 48 (.int .u64 B.r)).setIfInBounds 49 (.int .u32 B.c)).setIfInBounds 50 (.int .u64 B.id)).setIfInBounds 51 (.int .u16 x.id)).setIfInBounds 60 (.int .i64 B.ra)).setIfInBounds 61 (.int .i64 B.rm)).setIfInBounds 62 (.int .i64 B.rh)).setIfInBounds 63 (.int .i64 B.rd)).setIfInBounds 62 (.int .i64 B.h)) 50)).alloc (.cells Z 50)) := (((Below.refl w.heap.size w).alloc (Nat.le_refl _) (.cells (B.cells s) 34)).alloc (by simp) _).alloc (by simp; omega) (.cells Z 50)
  clear c0 b0 b3 b7 b8 b12 b13 b14 b15 f48 f49 f50 f51 f60 f61 f62 f63 fz hv0 hv1 hv2 hB
  generalize ((w.alloc (.cells (B.cells s) 34)).alloc (.cells (((((((((xs.setIfInBounds 48 (.int .u64 B.r)).setIfInBounds 49 (.int .u32 B.c)).setIfInBounds 50 (.int .u64 B.id)).setIfInBounds 51 (.int .u16 x.id)).setIfInBounds 60 (.int .i64 B.ra)).setIfInBounds 61 (.int .i64 B.rm)).setIfInBounds 62 (.int .i64 B.rh)).setIfInBounds 63 (.int .i64 B.rd)).setIfInBounds 62 (.int .i64 B.h)) 50)).alloc (.cells Z 50) = W at *
  have HB1 := Lib.hid HB
  have S1 := Lib.hid (SP_of V0 V1 (fun k _ => by rw [Nat.zero_add]) HX.out)
  have a58 : W.cell? ⟨w.heap.size + 1, 58, none⟩ = some (.int .u64 x.vb) := by have := S1.out.2.2.2.2.2.2.2.1; simpa using this
  have a0 : W.cell? ⟨w.heap.size, 0, none⟩ = some (.int .u64 B.id) := V0.cell 0
  have d0 := fun d os => cell_below (below_regrown W d os) a0
  have d58 := fun d os => cell_below (below_regrown W d os) a58
  have ex : ∀ d os, Calls Try.prog 21 #[.int .u64 x.vb] (grow (redrawn W d) os) fun e w'' => e = .returned (macV (ofN x.vb)) ∧ ∃ p : Regrown, w'' = grow (redrawn W p.d) p.os := fun d os => Calls.regrown_of (cx _)
  have ey : ∀ d os, Calls Try.prog 21 #[.int .u64 B.id] (grow (redrawn W d) os) fun e w'' => e = .returned (macV (ofN B.id)) ∧ ∃ p : Regrown, w'' = grow (redrawn W p.d) p.os := fun d os => Calls.regrown_of (cy _)
  have U0 := Lib.hid V0
  have U1 := Lib.hid V1
  have U2 := Lib.hid V2
  clear V0 V1 V2 HB cx cy a58 a0 S1
  generalize hE : eqM x.vb B.id = E at *
  have HE := Lib.hid hE
  clear hE
  generalize ofN x.vb = m1 at *
  generalize ofN B.id = m2 at *
  refine wp_region_quiet_below (by kernel_rfl) (by kernel_rfl) ?_
  repeat (go_big_quiet_step (first | with_reducible exact ex _ _ | with_reducible exact ey _ _))
  refine wpQuiet_nil ?_
  intro _ hw'
  obtain ⟨⟨dq, osq⟩, hw''⟩ := hw'
  subst hw''
  have hbq := below_regrown W dq osq
  have V0 := U0.out.below hbq U0.out.lt
  have V1 := U1.out.below hbq U1.out.lt
  have V2 := U2.out.below hbq U2.out.lt
  have HB := HB1.out.trans (hbq.mono HB1.out.size)
  clear mq mg d0 d58 ex ey hbq U0 U1 U2 HB1
  generalize grow (redrawn W dq) osq = W1 at *
  have ysz := Lib.hid (show (desA B x.id xs 0).size = 90 by rw [desA_size]; exact HX.out.size)
  have yst := Lib.hid (desA_typed (B := B) (q := x.id) HT.out)
  have S1 := SP_of V0 V1 (fun k _ => by rw [Nat.zero_add]) HX.out
  have c44 : W1.cell? ⟨w.heap.size + 1, 44, none⟩ = some (.int .i64 x.info) := by rw [V1.cell, desA_at HX.out.size 44 (by omega)]; exact HX.out.info
  have hnew : newP B x q xs = rolA B x q (desA B x.id xs 0) 0 := rfl
  generalize desA B x.id xs 0 = ys at *
  have f43 := V1.some (k := 43) (by rw [ysz.out]; omega)
  have f47 := V1.some (k := 47) (by rw [ysz.out]; omega)
  have fz := V1.frozen
  have HN := Lib.hid hnew
  have P0 := Lib.hid V0
  have P1 := Lib.hid V1
  have P2 := Lib.hid V2
  have HBW := Lib.hid HB
  have HS := Lib.hid S1
  clear hnew V0 V1 V2 HB S1 xz z
  generalize B.cells s = CC at *
  rw [hi] at c44
  have HF := Lib.hid (show newP B x q xs = putL (putL ys 47 [.int .i64 2]) 43 [.bool true] by rw [HN.out]; unfold rolA; rw [if_neg (by omega), if_neg (by omega), if_pos hi, if_pos (by unfold differs; rw [hd, ht']; rfl)])
  have j1 := fun w => neqV x.vr x.vc x.vb x.vp B.r B.c B.id x.id w
  rw [hd] at j1
  have j2 := fun w => neqT x.a x.m x.h x.d B.ra B.rm B.h B.rd w
  rw [ht'] at j2
  clear hi hd ht'
  obtain ⟨p0, p48, p49, p50, p51, p56, p57, p58, p59, p60, p61, p62, p63, p68, p69, p70, p71⟩ := HS.out
  simp only [Nat.zero_add] at p48 p49 p50 p51 p56 p57 p58 p59 p60 p61 p62 p63 p68 p69 p70 p71
  go_wp2_with (with_reducible refine stop48 _ rfl ?_)
  clear p0 p48 p49 p50 p51 p56 p57 p58 p59 p60 p61 p62 p63 p68 p69 p70 p71
  clear j1 j2
  have V1 := (VarAt.putL [.bool true] 43 (VarAt.putL [.int .i64 2] 47 P1.out))
  have V2 := (VarAt.setL_other (c := w.heap.size + 1) (by omega) [.bool true] 43 (VarAt.setL_other (c := w.heap.size + 1) (by omega) [.int .i64 2] 47 P2.out))
  have HB := (Below.setL (B := w.heap.size) (b := w.heap.size + 1) (by omega) [.bool true] 43 (Below.setL (B := w.heap.size) (b := w.heap.size + 1) (by omega) [.int .i64 2] 47 HBW.out))
  have tF := Lib.hid (show Typed (putL (putL ys 47 [.int .i64 2]) 43 [.bool true]) from (kB (kI yst.out rfl) rfl))
  simp only [World.setCells] at V1 V2 HB
  clear HS P0 P1 P2 HBW f43 f47 fz c44
  generalize ((W1).setCell ⟨w.heap.size + 1, 47, none⟩ (.int .i64 2)).setCell ⟨w.heap.size + 1, 43, none⟩ (.bool true) = W9 at *
  generalize putL (putL ys 47 [.int .i64 2]) 43 [.bool true] = F at *
  have zF := tF.out.1
  have G1 := Lib.hid V1
  have G2 := Lib.hid V2
  have G3 := Lib.hid HB
  clear V1 V2 HB
  refine Lib.hid ?_
  refine wpList_load_port rfl _ rfl rfl G1.out (fun k _ => by rw [Nat.zero_add]) zF ?_
  refine wpList_store_port rfl _ _ rfl rfl rfl G2.out tF.out (by rw [zs.out]; omega) ?_
  intro W10 hv10 hb10 _ _
  rw [putL_all _ _ (by rw [zs.out, zF])] at hv10
  have G4 := Lib.hid hv10
  have G5 := Lib.hid (hb10 w.heap.size w (by omega) G3.out)
  clear hv10 hb10 G1 G2 G3
  go_wp2_with (with_reducible refine stopB ?_)
  refine Lib.hid ?_
  exact bodyPost_ret (ret48 _ _ (w.heap.size + 1 + 1) F rfl G4.out zF) rfl ⟨by rw [HF.out], G5.out⟩
set_option maxHeartbeats 1000000 in
theorem role2c (hi : x.info = 2) (hd : eqV x.vr x.vc x.vb x.vp B.r B.c B.id x.id = true) (ht' : eqT x.a x.m x.h x.d B.ra B.rm B.h B.rd = true) : Calls Try.prog 24 #[.agg (B.cells s), .agg xs, .bool q] w fun e w' => e = .returned (.agg (newP B x q xs)) ∧ Below w.heap.size w w' := by
  have z := zero48
  have zs := Lib.hid z48_size
  generalize z48 = Z at *
  have hv0 := Lib.hid (((var_new w (B.cells s) 34).alloc (.cells xs 50)).alloc (.cells Z 50))
  have hv1 := Lib.hid (show VarAt (((w.alloc (.cells (B.cells s) 34)).alloc (.cells xs 50)).alloc (.cells Z 50)) (w.heap.size + 1) xs 50 by
    have := (var_new (w.alloc (.cells (B.cells s) 34)) xs 50).alloc (.cells Z 50)
    rwa [alloc_size] at this)
  have hv2 := Lib.hid (show VarAt (((w.alloc (.cells (B.cells s) 34)).alloc (.cells xs 50)).alloc (.cells Z 50)) (w.heap.size + 1 + 1) Z 50 by
    have := var_new ((w.alloc (.cells (B.cells s) 34)).alloc (.cells xs 50)) Z 50
    rwa [alloc_size, alloc_size] at this)
  have hB := Lib.hid (show Below w.heap.size w (((w.alloc (.cells (B.cells s) 34)).alloc (.cells xs 50)).alloc (.cells Z 50)) from (((Below.refl w.heap.size w).alloc (Nat.le_refl _) (.cells (B.cells s) 34)).alloc (by simp) (.cells xs 50)).alloc (by simp; omega) (.cells Z 50))
  have HX := Lib.hid hx
  have HT := Lib.hid ht
  have mq := mac48 x.vb B.id
  have mg := g48
  have cx := fun w => refBytes_any x.vb hx.lvb w
  have cy := fun w => refBytes_any B.id hid w
  have c0 : (((w.alloc (.cells (B.cells s) 34)).alloc (.cells xs 50)).alloc (.cells Z 50)).cell? ⟨w.heap.size + 1, 0, none⟩ = some (.int .u16 x.id) := by rw [hv1.out.cell]; exact hx.id
  have b0 : (((w.alloc (.cells (B.cells s) 34)).alloc (.cells xs 50)).alloc (.cells Z 50)).cell? ⟨w.heap.size, 0, none⟩ = some (.int .u64 B.id) := hv0.out.cell 0
  have b3 : (((w.alloc (.cells (B.cells s) 34)).alloc (.cells xs 50)).alloc (.cells Z 50)).cell? ⟨w.heap.size, 3, none⟩ = some (.int .i64 B.h) := hv0.out.cell 3
  have b7 : (((w.alloc (.cells (B.cells s) 34)).alloc (.cells xs 50)).alloc (.cells Z 50)).cell? ⟨w.heap.size, 7, none⟩ = some (.int .u64 B.r) := hv0.out.cell 7
  have b8 : (((w.alloc (.cells (B.cells s) 34)).alloc (.cells xs 50)).alloc (.cells Z 50)).cell? ⟨w.heap.size, 8, none⟩ = some (.int .u32 B.c) := hv0.out.cell 8
  have b12 : (((w.alloc (.cells (B.cells s) 34)).alloc (.cells xs 50)).alloc (.cells Z 50)).cell? ⟨w.heap.size, 12, none⟩ = some (.int .i64 B.ra) := hv0.out.cell 12
  have b13 : (((w.alloc (.cells (B.cells s) 34)).alloc (.cells xs 50)).alloc (.cells Z 50)).cell? ⟨w.heap.size, 13, none⟩ = some (.int .i64 B.rm) := hv0.out.cell 13
  have b14 : (((w.alloc (.cells (B.cells s) 34)).alloc (.cells xs 50)).alloc (.cells Z 50)).cell? ⟨w.heap.size, 14, none⟩ = some (.int .i64 B.rh) := hv0.out.cell 14
  have b15 : (((w.alloc (.cells (B.cells s) 34)).alloc (.cells xs 50)).alloc (.cells Z 50)).cell? ⟨w.heap.size, 15, none⟩ = some (.int .i64 B.rd) := hv0.out.cell 15
  have xz := hx.size
  have f48 := hv1.out.some (k := 48) (by omega)
  have f49 := hv1.out.some (k := 49) (by omega)
  have f50 := hv1.out.some (k := 50) (by omega)
  have f51 := hv1.out.some (k := 51) (by omega)
  have f60 := hv1.out.some (k := 60) (by omega)
  have f61 := hv1.out.some (k := 61) (by omega)
  have f62 := hv1.out.some (k := 62) (by omega)
  have f63 := hv1.out.some (k := 63) (by omega)
  have fz := hv1.out.frozen
  clear hx ht hid
  go_enter Try.func24, Try.ntmps24
  go_wp2_with fail
  have V1 : VarAt (((w.alloc (.cells (B.cells s) 34)).alloc (.cells (((((((((xs.setIfInBounds 48 (.int .u64 B.r)).setIfInBounds 49 (.int .u32 B.c)).setIfInBounds 50 (.int .u64 B.id)).setIfInBounds 51 (.int .u16 x.id)).setIfInBounds 60 (.int .i64 B.ra)).setIfInBounds 61 (.int .i64 B.rm)).setIfInBounds 62 (.int .i64 B.rh)).setIfInBounds 63 (.int .i64 B.rd)).setIfInBounds 62 (.int .i64 B.h)) 50)).alloc (.cells Z 50)) (w.heap.size + 1) (desA B x.id xs 0) 50 := by
    have := (var_new (w.alloc (.cells (B.cells s) 34)) (desA B x.id xs 0) 50).alloc (.cells Z 50)
    rwa [alloc_size] at this
  have V0 : VarAt (((w.alloc (.cells (B.cells s) 34)).alloc (.cells (((((((((xs.setIfInBounds 48 (.int .u64 B.r)).setIfInBounds 49 (.int .u32 B.c)).setIfInBounds 50 (.int .u64 B.id)).setIfInBounds 51 (.int .u16 x.id)).setIfInBounds 60 (.int .i64 B.ra)).setIfInBounds 61 (.int .i64 B.rm)).setIfInBounds 62 (.int .i64 B.rh)).setIfInBounds 63 (.int .i64 B.rd)).setIfInBounds 62 (.int .i64 B.h)) 50)).alloc (.cells Z 50)) w.heap.size (B.cells s) 34 := ((var_new w (B.cells s) 34).alloc _).alloc _
  have V2 : VarAt (((w.alloc (.cells (B.cells s) 34)).alloc (.cells (((((((((xs.setIfInBounds 48 (.int .u64 B.r)).setIfInBounds 49 (.int .u32 B.c)).setIfInBounds 50 (.int .u64 B.id)).setIfInBounds 51 (.int .u16 x.id)).setIfInBounds 60 (.int .i64 B.ra)).setIfInBounds 61 (.int .i64 B.rm)).setIfInBounds 62 (.int .i64 B.rh)).setIfInBounds 63 (.int .i64 B.rd)).setIfInBounds 62 (.int .i64 B.h)) 50)).alloc (.cells Z 50)) (w.heap.size + 1 + 1) Z 50 := by
    have := var_new ((w.alloc (.cells (B.cells s) 34)).alloc (.cells (desA B x.id xs 0) 50)) Z 50
    rwa [alloc_size, alloc_size] at this
  have HB : Below w.heap.size w (((w.alloc (.cells (B.cells s) 34)).alloc (.cells (((((((((xs.setIfInBounds 48 (.int .u64 B.r)).setIfInBounds 49 (.int .u32 B.c)).setIfInBounds 50 (.int .u64 B.id)).setIfInBounds 51 (.int .u16 x.id)).setIfInBounds 60 (.int .i64 B.ra)).setIfInBounds 61 (.int .i64 B.rm)).setIfInBounds 62 (.int .i64 B.rh)).setIfInBounds 63 (.int .i64 B.rd)).setIfInBounds 62 (.int .i64 B.h)) 50)).alloc (.cells Z 50)) := (((Below.refl w.heap.size w).alloc (Nat.le_refl _) (.cells (B.cells s) 34)).alloc (by simp) _).alloc (by simp; omega) (.cells Z 50)
  clear c0 b0 b3 b7 b8 b12 b13 b14 b15 f48 f49 f50 f51 f60 f61 f62 f63 fz hv0 hv1 hv2 hB
  generalize ((w.alloc (.cells (B.cells s) 34)).alloc (.cells (((((((((xs.setIfInBounds 48 (.int .u64 B.r)).setIfInBounds 49 (.int .u32 B.c)).setIfInBounds 50 (.int .u64 B.id)).setIfInBounds 51 (.int .u16 x.id)).setIfInBounds 60 (.int .i64 B.ra)).setIfInBounds 61 (.int .i64 B.rm)).setIfInBounds 62 (.int .i64 B.rh)).setIfInBounds 63 (.int .i64 B.rd)).setIfInBounds 62 (.int .i64 B.h)) 50)).alloc (.cells Z 50) = W at *
  have HB1 := Lib.hid HB
  have S1 := Lib.hid (SP_of V0 V1 (fun k _ => by rw [Nat.zero_add]) HX.out)
  have a58 : W.cell? ⟨w.heap.size + 1, 58, none⟩ = some (.int .u64 x.vb) := by have := S1.out.2.2.2.2.2.2.2.1; simpa using this
  have a0 : W.cell? ⟨w.heap.size, 0, none⟩ = some (.int .u64 B.id) := V0.cell 0
  have d0 := fun d os => cell_below (below_regrown W d os) a0
  have d58 := fun d os => cell_below (below_regrown W d os) a58
  have ex : ∀ d os, Calls Try.prog 21 #[.int .u64 x.vb] (grow (redrawn W d) os) fun e w'' => e = .returned (macV (ofN x.vb)) ∧ ∃ p : Regrown, w'' = grow (redrawn W p.d) p.os := fun d os => Calls.regrown_of (cx _)
  have ey : ∀ d os, Calls Try.prog 21 #[.int .u64 B.id] (grow (redrawn W d) os) fun e w'' => e = .returned (macV (ofN B.id)) ∧ ∃ p : Regrown, w'' = grow (redrawn W p.d) p.os := fun d os => Calls.regrown_of (cy _)
  have U0 := Lib.hid V0
  have U1 := Lib.hid V1
  have U2 := Lib.hid V2
  clear V0 V1 V2 HB cx cy a58 a0 S1
  generalize hE : eqM x.vb B.id = E at *
  have HE := Lib.hid hE
  clear hE
  generalize ofN x.vb = m1 at *
  generalize ofN B.id = m2 at *
  refine wp_region_quiet_below (by kernel_rfl) (by kernel_rfl) ?_
  repeat (go_big_quiet_step (first | with_reducible exact ex _ _ | with_reducible exact ey _ _))
  refine wpQuiet_nil ?_
  intro _ hw'
  obtain ⟨⟨dq, osq⟩, hw''⟩ := hw'
  subst hw''
  have hbq := below_regrown W dq osq
  have V0 := U0.out.below hbq U0.out.lt
  have V1 := U1.out.below hbq U1.out.lt
  have V2 := U2.out.below hbq U2.out.lt
  have HB := HB1.out.trans (hbq.mono HB1.out.size)
  clear mq mg d0 d58 ex ey hbq U0 U1 U2 HB1
  generalize grow (redrawn W dq) osq = W1 at *
  have ysz := Lib.hid (show (desA B x.id xs 0).size = 90 by rw [desA_size]; exact HX.out.size)
  have yst := Lib.hid (desA_typed (B := B) (q := x.id) HT.out)
  have S1 := SP_of V0 V1 (fun k _ => by rw [Nat.zero_add]) HX.out
  have c44 : W1.cell? ⟨w.heap.size + 1, 44, none⟩ = some (.int .i64 x.info) := by rw [V1.cell, desA_at HX.out.size 44 (by omega)]; exact HX.out.info
  have hnew : newP B x q xs = rolA B x q (desA B x.id xs 0) 0 := rfl
  generalize desA B x.id xs 0 = ys at *
  have f43 := V1.some (k := 43) (by rw [ysz.out]; omega)
  have f47 := V1.some (k := 47) (by rw [ysz.out]; omega)
  have fz := V1.frozen
  have HN := Lib.hid hnew
  have P0 := Lib.hid V0
  have P1 := Lib.hid V1
  have P2 := Lib.hid V2
  have HBW := Lib.hid HB
  have HS := Lib.hid S1
  clear hnew V0 V1 V2 HB S1 xz z
  generalize B.cells s = CC at *
  rw [hi] at c44
  have HF := Lib.hid (show newP B x q xs = putL ys 47 [.int .i64 2] by rw [HN.out]; unfold rolA; rw [if_neg (by omega), if_neg (by omega), if_pos hi, if_neg (by unfold differs; rw [hd, ht']; simp)])
  have j1 := fun w => neqV x.vr x.vc x.vb x.vp B.r B.c B.id x.id w
  rw [hd] at j1
  have j2 := fun w => neqT x.a x.m x.h x.d B.ra B.rm B.h B.rd w
  rw [ht'] at j2
  clear hi hd ht'
  obtain ⟨p0, p48, p49, p50, p51, p56, p57, p58, p59, p60, p61, p62, p63, p68, p69, p70, p71⟩ := HS.out
  simp only [Nat.zero_add] at p48 p49 p50 p51 p56 p57 p58 p59 p60 p61 p62 p63 p68 p69 p70 p71
  go_wp2_with (with_reducible refine stop48 _ rfl ?_)
  clear p0 p48 p49 p50 p51 p56 p57 p58 p59 p60 p61 p62 p63 p68 p69 p70 p71
  clear j1 j2
  have V1 := (VarAt.putL [.int .i64 2] 47 P1.out)
  have V2 := (VarAt.setL_other (c := w.heap.size + 1) (by omega) [.int .i64 2] 47 P2.out)
  have HB := (Below.setL (B := w.heap.size) (b := w.heap.size + 1) (by omega) [.int .i64 2] 47 HBW.out)
  have tF := Lib.hid (show Typed (putL ys 47 [.int .i64 2]) from (kI yst.out rfl))
  simp only [World.setCells] at V1 V2 HB
  clear HS P0 P1 P2 HBW f43 f47 fz c44
  generalize (W1).setCell ⟨w.heap.size + 1, 47, none⟩ (.int .i64 2) = W9 at *
  generalize putL ys 47 [.int .i64 2] = F at *
  have zF := tF.out.1
  have G1 := Lib.hid V1
  have G2 := Lib.hid V2
  have G3 := Lib.hid HB
  clear V1 V2 HB
  refine Lib.hid ?_
  refine wpList_load_port rfl _ rfl rfl G1.out (fun k _ => by rw [Nat.zero_add]) zF ?_
  refine wpList_store_port rfl _ _ rfl rfl rfl G2.out tF.out (by rw [zs.out]; omega) ?_
  intro W10 hv10 hb10 _ _
  rw [putL_all _ _ (by rw [zs.out, zF])] at hv10
  have G4 := Lib.hid hv10
  have G5 := Lib.hid (hb10 w.heap.size w (by omega) G3.out)
  clear hv10 hb10 G1 G2 G3
  go_wp2_with (with_reducible refine stopB ?_)
  refine Lib.hid ?_
  exact bodyPost_ret (ret48 _ _ (w.heap.size + 1 + 1) F rfl G4.out zF) rfl ⟨by rw [HF.out], G5.out⟩
set_option maxHeartbeats 1000000 in
theorem role3r (hi : x.info = 3) (hq : q = true) : Calls Try.prog 24 #[.agg (B.cells s), .agg xs, .bool q] w fun e w' => e = .returned (.agg (newP B x q xs)) ∧ Below w.heap.size w w' := by
  have z := zero48
  have zs := Lib.hid z48_size
  generalize z48 = Z at *
  have hv0 := Lib.hid (((var_new w (B.cells s) 34).alloc (.cells xs 50)).alloc (.cells Z 50))
  have hv1 := Lib.hid (show VarAt (((w.alloc (.cells (B.cells s) 34)).alloc (.cells xs 50)).alloc (.cells Z 50)) (w.heap.size + 1) xs 50 by
    have := (var_new (w.alloc (.cells (B.cells s) 34)) xs 50).alloc (.cells Z 50)
    rwa [alloc_size] at this)
  have hv2 := Lib.hid (show VarAt (((w.alloc (.cells (B.cells s) 34)).alloc (.cells xs 50)).alloc (.cells Z 50)) (w.heap.size + 1 + 1) Z 50 by
    have := var_new ((w.alloc (.cells (B.cells s) 34)).alloc (.cells xs 50)) Z 50
    rwa [alloc_size, alloc_size] at this)
  have hB := Lib.hid (show Below w.heap.size w (((w.alloc (.cells (B.cells s) 34)).alloc (.cells xs 50)).alloc (.cells Z 50)) from (((Below.refl w.heap.size w).alloc (Nat.le_refl _) (.cells (B.cells s) 34)).alloc (by simp) (.cells xs 50)).alloc (by simp; omega) (.cells Z 50))
  have HX := Lib.hid hx
  have HT := Lib.hid ht
  have mq := mac48 x.vb B.id
  have mg := g48
  have cx := fun w => refBytes_any x.vb hx.lvb w
  have cy := fun w => refBytes_any B.id hid w
  have c0 : (((w.alloc (.cells (B.cells s) 34)).alloc (.cells xs 50)).alloc (.cells Z 50)).cell? ⟨w.heap.size + 1, 0, none⟩ = some (.int .u16 x.id) := by rw [hv1.out.cell]; exact hx.id
  have b0 : (((w.alloc (.cells (B.cells s) 34)).alloc (.cells xs 50)).alloc (.cells Z 50)).cell? ⟨w.heap.size, 0, none⟩ = some (.int .u64 B.id) := hv0.out.cell 0
  have b3 : (((w.alloc (.cells (B.cells s) 34)).alloc (.cells xs 50)).alloc (.cells Z 50)).cell? ⟨w.heap.size, 3, none⟩ = some (.int .i64 B.h) := hv0.out.cell 3
  have b7 : (((w.alloc (.cells (B.cells s) 34)).alloc (.cells xs 50)).alloc (.cells Z 50)).cell? ⟨w.heap.size, 7, none⟩ = some (.int .u64 B.r) := hv0.out.cell 7
  have b8 : (((w.alloc (.cells (B.cells s) 34)).alloc (.cells xs 50)).alloc (.cells Z 50)).cell? ⟨w.heap.size, 8, none⟩ = some (.int .u32 B.c) := hv0.out.cell 8
  have b12 : (((w.alloc (.cells (B.cells s) 34)).alloc (.cells xs 50)).alloc (.cells Z 50)).cell? ⟨w.heap.size, 12, none⟩ = some (.int .i64 B.ra) := hv0.out.cell 12
  have b13 : (((w.alloc (.cells (B.cells s) 34)).alloc (.cells xs 50)).alloc (.cells Z 50)).cell? ⟨w.heap.size, 13, none⟩ = some (.int .i64 B.rm) := hv0.out.cell 13
  have b14 : (((w.alloc (.cells (B.cells s) 34)).alloc (.cells xs 50)).alloc (.cells Z 50)).cell? ⟨w.heap.size, 14, none⟩ = some (.int .i64 B.rh) := hv0.out.cell 14
  have b15 : (((w.alloc (.cells (B.cells s) 34)).alloc (.cells xs 50)).alloc (.cells Z 50)).cell? ⟨w.heap.size, 15, none⟩ = some (.int .i64 B.rd) := hv0.out.cell 15
  have xz := hx.size
  have f48 := hv1.out.some (k := 48) (by omega)
  have f49 := hv1.out.some (k := 49) (by omega)
  have f50 := hv1.out.some (k := 50) (by omega)
  have f51 := hv1.out.some (k := 51) (by omega)
  have f60 := hv1.out.some (k := 60) (by omega)
  have f61 := hv1.out.some (k := 61) (by omega)
  have f62 := hv1.out.some (k := 62) (by omega)
  have f63 := hv1.out.some (k := 63) (by omega)
  have fz := hv1.out.frozen
  clear hx ht hid
  go_enter Try.func24, Try.ntmps24
  go_wp2_with fail
  have V1 : VarAt (((w.alloc (.cells (B.cells s) 34)).alloc (.cells (((((((((xs.setIfInBounds 48 (.int .u64 B.r)).setIfInBounds 49 (.int .u32 B.c)).setIfInBounds 50 (.int .u64 B.id)).setIfInBounds 51 (.int .u16 x.id)).setIfInBounds 60 (.int .i64 B.ra)).setIfInBounds 61 (.int .i64 B.rm)).setIfInBounds 62 (.int .i64 B.rh)).setIfInBounds 63 (.int .i64 B.rd)).setIfInBounds 62 (.int .i64 B.h)) 50)).alloc (.cells Z 50)) (w.heap.size + 1) (desA B x.id xs 0) 50 := by
    have := (var_new (w.alloc (.cells (B.cells s) 34)) (desA B x.id xs 0) 50).alloc (.cells Z 50)
    rwa [alloc_size] at this
  have V0 : VarAt (((w.alloc (.cells (B.cells s) 34)).alloc (.cells (((((((((xs.setIfInBounds 48 (.int .u64 B.r)).setIfInBounds 49 (.int .u32 B.c)).setIfInBounds 50 (.int .u64 B.id)).setIfInBounds 51 (.int .u16 x.id)).setIfInBounds 60 (.int .i64 B.ra)).setIfInBounds 61 (.int .i64 B.rm)).setIfInBounds 62 (.int .i64 B.rh)).setIfInBounds 63 (.int .i64 B.rd)).setIfInBounds 62 (.int .i64 B.h)) 50)).alloc (.cells Z 50)) w.heap.size (B.cells s) 34 := ((var_new w (B.cells s) 34).alloc _).alloc _
  have V2 : VarAt (((w.alloc (.cells (B.cells s) 34)).alloc (.cells (((((((((xs.setIfInBounds 48 (.int .u64 B.r)).setIfInBounds 49 (.int .u32 B.c)).setIfInBounds 50 (.int .u64 B.id)).setIfInBounds 51 (.int .u16 x.id)).setIfInBounds 60 (.int .i64 B.ra)).setIfInBounds 61 (.int .i64 B.rm)).setIfInBounds 62 (.int .i64 B.rh)).setIfInBounds 63 (.int .i64 B.rd)).setIfInBounds 62 (.int .i64 B.h)) 50)).alloc (.cells Z 50)) (w.heap.size + 1 + 1) Z 50 := by
    have := var_new ((w.alloc (.cells (B.cells s) 34)).alloc (.cells (desA B x.id xs 0) 50)) Z 50
    rwa [alloc_size, alloc_size] at this
  have HB : Below w.heap.size w (((w.alloc (.cells (B.cells s) 34)).alloc (.cells (((((((((xs.setIfInBounds 48 (.int .u64 B.r)).setIfInBounds 49 (.int .u32 B.c)).setIfInBounds 50 (.int .u64 B.id)).setIfInBounds 51 (.int .u16 x.id)).setIfInBounds 60 (.int .i64 B.ra)).setIfInBounds 61 (.int .i64 B.rm)).setIfInBounds 62 (.int .i64 B.rh)).setIfInBounds 63 (.int .i64 B.rd)).setIfInBounds 62 (.int .i64 B.h)) 50)).alloc (.cells Z 50)) := (((Below.refl w.heap.size w).alloc (Nat.le_refl _) (.cells (B.cells s) 34)).alloc (by simp) _).alloc (by simp; omega) (.cells Z 50)
  clear c0 b0 b3 b7 b8 b12 b13 b14 b15 f48 f49 f50 f51 f60 f61 f62 f63 fz hv0 hv1 hv2 hB
  generalize ((w.alloc (.cells (B.cells s) 34)).alloc (.cells (((((((((xs.setIfInBounds 48 (.int .u64 B.r)).setIfInBounds 49 (.int .u32 B.c)).setIfInBounds 50 (.int .u64 B.id)).setIfInBounds 51 (.int .u16 x.id)).setIfInBounds 60 (.int .i64 B.ra)).setIfInBounds 61 (.int .i64 B.rm)).setIfInBounds 62 (.int .i64 B.rh)).setIfInBounds 63 (.int .i64 B.rd)).setIfInBounds 62 (.int .i64 B.h)) 50)).alloc (.cells Z 50) = W at *
  have HB1 := Lib.hid HB
  have S1 := Lib.hid (SP_of V0 V1 (fun k _ => by rw [Nat.zero_add]) HX.out)
  have a58 : W.cell? ⟨w.heap.size + 1, 58, none⟩ = some (.int .u64 x.vb) := by have := S1.out.2.2.2.2.2.2.2.1; simpa using this
  have a0 : W.cell? ⟨w.heap.size, 0, none⟩ = some (.int .u64 B.id) := V0.cell 0
  have d0 := fun d os => cell_below (below_regrown W d os) a0
  have d58 := fun d os => cell_below (below_regrown W d os) a58
  have ex : ∀ d os, Calls Try.prog 21 #[.int .u64 x.vb] (grow (redrawn W d) os) fun e w'' => e = .returned (macV (ofN x.vb)) ∧ ∃ p : Regrown, w'' = grow (redrawn W p.d) p.os := fun d os => Calls.regrown_of (cx _)
  have ey : ∀ d os, Calls Try.prog 21 #[.int .u64 B.id] (grow (redrawn W d) os) fun e w'' => e = .returned (macV (ofN B.id)) ∧ ∃ p : Regrown, w'' = grow (redrawn W p.d) p.os := fun d os => Calls.regrown_of (cy _)
  have U0 := Lib.hid V0
  have U1 := Lib.hid V1
  have U2 := Lib.hid V2
  clear V0 V1 V2 HB cx cy a58 a0 S1
  generalize hE : eqM x.vb B.id = E at *
  have HE := Lib.hid hE
  clear hE
  generalize ofN x.vb = m1 at *
  generalize ofN B.id = m2 at *
  refine wp_region_quiet_below (by kernel_rfl) (by kernel_rfl) ?_
  repeat (go_big_quiet_step (first | with_reducible exact ex _ _ | with_reducible exact ey _ _))
  refine wpQuiet_nil ?_
  intro _ hw'
  obtain ⟨⟨dq, osq⟩, hw''⟩ := hw'
  subst hw''
  have hbq := below_regrown W dq osq
  have V0 := U0.out.below hbq U0.out.lt
  have V1 := U1.out.below hbq U1.out.lt
  have V2 := U2.out.below hbq U2.out.lt
  have HB := HB1.out.trans (hbq.mono HB1.out.size)
  clear mq mg d0 d58 ex ey hbq U0 U1 U2 HB1
  generalize grow (redrawn W dq) osq = W1 at *
  have ysz := Lib.hid (show (desA B x.id xs 0).size = 90 by rw [desA_size]; exact HX.out.size)
  have yst := Lib.hid (desA_typed (B := B) (q := x.id) HT.out)
  have S1 := SP_of V0 V1 (fun k _ => by rw [Nat.zero_add]) HX.out
  have c44 : W1.cell? ⟨w.heap.size + 1, 44, none⟩ = some (.int .i64 x.info) := by rw [V1.cell, desA_at HX.out.size 44 (by omega)]; exact HX.out.info
  have hnew : newP B x q xs = rolA B x q (desA B x.id xs 0) 0 := rfl
  generalize desA B x.id xs 0 = ys at *
  have f43 := V1.some (k := 43) (by rw [ysz.out]; omega)
  have f47 := V1.some (k := 47) (by rw [ysz.out]; omega)
  have fz := V1.frozen
  have HN := Lib.hid hnew
  have P0 := Lib.hid V0
  have P1 := Lib.hid V1
  have P2 := Lib.hid V2
  have HBW := Lib.hid HB
  have HS := Lib.hid S1
  clear hnew V0 V1 V2 HB S1 xz z
  generalize B.cells s = CC at *
  rw [hi] at c44
  have HF := Lib.hid (show newP B x q xs = putL (putL ys 43 [.bool false]) 47 [.int .i64 1] by rw [HN.out]; unfold rolA; rw [if_neg (by omega), if_neg (by omega), if_neg (by omega), if_pos hi, show roleOf B x q = 1 from by unfold roleOf; rw [hq]; rfl]; exact (put_two _ _ _).symm)
  clear hi
  subst hq
  go_wp2_with (with_reducible refine stop48 _ rfl ?_)
  have V1 := (VarAt.putL [.int .i64 1] 47 (VarAt.putL [.bool false] 43 P1.out))
  have V2 := (VarAt.setL_other (c := w.heap.size + 1) (by omega) [.int .i64 1] 47 (VarAt.setL_other (c := w.heap.size + 1) (by omega) [.bool false] 43 P2.out))
  have HB := (Below.setL (B := w.heap.size) (b := w.heap.size + 1) (by omega) [.int .i64 1] 47 (Below.setL (B := w.heap.size) (b := w.heap.size + 1) (by omega) [.bool false] 43 HBW.out))
  have tF := Lib.hid (show Typed (putL (putL ys 43 [.bool false]) 47 [.int .i64 1]) from (kI (kB yst.out rfl) rfl))
  simp only [World.setCells] at V1 V2 HB
  clear HS P0 P1 P2 HBW f43 f47 fz c44
  generalize ((W1).setCell ⟨w.heap.size + 1, 43, none⟩ (.bool false)).setCell ⟨w.heap.size + 1, 47, none⟩ (.int .i64 1) = W9 at *
  generalize putL (putL ys 43 [.bool false]) 47 [.int .i64 1] = F at *
  have zF := tF.out.1
  have G1 := Lib.hid V1
  have G2 := Lib.hid V2
  have G3 := Lib.hid HB
  clear V1 V2 HB
  refine Lib.hid ?_
  refine wpList_load_port rfl _ rfl rfl G1.out (fun k _ => by rw [Nat.zero_add]) zF ?_
  refine wpList_store_port rfl _ _ rfl rfl rfl G2.out tF.out (by rw [zs.out]; omega) ?_
  intro W10 hv10 hb10 _ _
  rw [putL_all _ _ (by rw [zs.out, zF])] at hv10
  have G4 := Lib.hid hv10
  have G5 := Lib.hid (hb10 w.heap.size w (by omega) G3.out)
  clear hv10 hb10 G1 G2 G3
  go_wp2_with (with_reducible refine stopB ?_)
  refine Lib.hid ?_
  exact bodyPost_ret (ret48 _ _ (w.heap.size + 1 + 1) F rfl G4.out zF) rfl ⟨by rw [HF.out], G5.out⟩
set_option maxHeartbeats 1000000 in
theorem role3l (hi : x.info = 3) (hq : q = false) (hl : ltV B.r B.c B.id x.id x.vr x.vc x.vb x.vp = true) : Calls Try.prog 24 #[.agg (B.cells s), .agg xs, .bool q] w fun e w' => e = .returned (.agg (newP B x q xs)) ∧ Below w.heap.size w w' := by
  have z := zero48
  have zs := Lib.hid z48_size
  generalize z48 = Z at *
  have hv0 := Lib.hid (((var_new w (B.cells s) 34).alloc (.cells xs 50)).alloc (.cells Z 50))
  have hv1 := Lib.hid (show VarAt (((w.alloc (.cells (B.cells s) 34)).alloc (.cells xs 50)).alloc (.cells Z 50)) (w.heap.size + 1) xs 50 by
    have := (var_new (w.alloc (.cells (B.cells s) 34)) xs 50).alloc (.cells Z 50)
    rwa [alloc_size] at this)
  have hv2 := Lib.hid (show VarAt (((w.alloc (.cells (B.cells s) 34)).alloc (.cells xs 50)).alloc (.cells Z 50)) (w.heap.size + 1 + 1) Z 50 by
    have := var_new ((w.alloc (.cells (B.cells s) 34)).alloc (.cells xs 50)) Z 50
    rwa [alloc_size, alloc_size] at this)
  have hB := Lib.hid (show Below w.heap.size w (((w.alloc (.cells (B.cells s) 34)).alloc (.cells xs 50)).alloc (.cells Z 50)) from (((Below.refl w.heap.size w).alloc (Nat.le_refl _) (.cells (B.cells s) 34)).alloc (by simp) (.cells xs 50)).alloc (by simp; omega) (.cells Z 50))
  have HX := Lib.hid hx
  have HT := Lib.hid ht
  have mq := mac48 x.vb B.id
  have mg := g48
  have cx := fun w => refBytes_any x.vb hx.lvb w
  have cy := fun w => refBytes_any B.id hid w
  have c0 : (((w.alloc (.cells (B.cells s) 34)).alloc (.cells xs 50)).alloc (.cells Z 50)).cell? ⟨w.heap.size + 1, 0, none⟩ = some (.int .u16 x.id) := by rw [hv1.out.cell]; exact hx.id
  have b0 : (((w.alloc (.cells (B.cells s) 34)).alloc (.cells xs 50)).alloc (.cells Z 50)).cell? ⟨w.heap.size, 0, none⟩ = some (.int .u64 B.id) := hv0.out.cell 0
  have b3 : (((w.alloc (.cells (B.cells s) 34)).alloc (.cells xs 50)).alloc (.cells Z 50)).cell? ⟨w.heap.size, 3, none⟩ = some (.int .i64 B.h) := hv0.out.cell 3
  have b7 : (((w.alloc (.cells (B.cells s) 34)).alloc (.cells xs 50)).alloc (.cells Z 50)).cell? ⟨w.heap.size, 7, none⟩ = some (.int .u64 B.r) := hv0.out.cell 7
  have b8 : (((w.alloc (.cells (B.cells s) 34)).alloc (.cells xs 50)).alloc (.cells Z 50)).cell? ⟨w.heap.size, 8, none⟩ = some (.int .u32 B.c) := hv0.out.cell 8
  have b12 : (((w.alloc (.cells (B.cells s) 34)).alloc (.cells xs 50)).alloc (.cells Z 50)).cell? ⟨w.heap.size, 12, none⟩ = some (.int .i64 B.ra) := hv0.out.cell 12
  have b13 : (((w.alloc (.cells (B.cells s) 34)).alloc (.cells xs 50)).alloc (.cells Z 50)).cell? ⟨w.heap.size, 13, none⟩ = some (.int .i64 B.rm) := hv0.out.cell 13
  have b14 : (((w.alloc (.cells (B.cells s) 34)).alloc (.cells xs 50)).alloc (.cells Z 50)).cell? ⟨w.heap.size, 14, none⟩ = some (.int .i64 B.rh) := hv0.out.cell 14
  have b15 : (((w.alloc (.cells (B.cells s) 34)).alloc (.cells xs 50)).alloc (.cells Z 50)).cell? ⟨w.heap.size, 15, none⟩ = some (.int .i64 B.rd) := hv0.out.cell 15
  have xz := hx.size
  have f48 := hv1.out.some (k := 48) (by omega)
  have f49 := hv1.out.some (k := 49) (by omega)
  have f50 := hv1.out.some (k := 50) (by omega)
  have f51 := hv1.out.some (k := 51) (by omega)
  have f60 := hv1.out.some (k := 60) (by omega)
  have f61 := hv1.out.some (k := 61) (by omega)
  have f62 := hv1.out.some (k := 62) (by omega)
  have f63 := hv1.out.some (k := 63) (by omega)
  have fz := hv1.out.frozen
  clear hx ht hid
  go_enter Try.func24, Try.ntmps24
  go_wp2_with fail
  have V1 : VarAt (((w.alloc (.cells (B.cells s) 34)).alloc (.cells (((((((((xs.setIfInBounds 48 (.int .u64 B.r)).setIfInBounds 49 (.int .u32 B.c)).setIfInBounds 50 (.int .u64 B.id)).setIfInBounds 51 (.int .u16 x.id)).setIfInBounds 60 (.int .i64 B.ra)).setIfInBounds 61 (.int .i64 B.rm)).setIfInBounds 62 (.int .i64 B.rh)).setIfInBounds 63 (.int .i64 B.rd)).setIfInBounds 62 (.int .i64 B.h)) 50)).alloc (.cells Z 50)) (w.heap.size + 1) (desA B x.id xs 0) 50 := by
    have := (var_new (w.alloc (.cells (B.cells s) 34)) (desA B x.id xs 0) 50).alloc (.cells Z 50)
    rwa [alloc_size] at this
  have V0 : VarAt (((w.alloc (.cells (B.cells s) 34)).alloc (.cells (((((((((xs.setIfInBounds 48 (.int .u64 B.r)).setIfInBounds 49 (.int .u32 B.c)).setIfInBounds 50 (.int .u64 B.id)).setIfInBounds 51 (.int .u16 x.id)).setIfInBounds 60 (.int .i64 B.ra)).setIfInBounds 61 (.int .i64 B.rm)).setIfInBounds 62 (.int .i64 B.rh)).setIfInBounds 63 (.int .i64 B.rd)).setIfInBounds 62 (.int .i64 B.h)) 50)).alloc (.cells Z 50)) w.heap.size (B.cells s) 34 := ((var_new w (B.cells s) 34).alloc _).alloc _
  have V2 : VarAt (((w.alloc (.cells (B.cells s) 34)).alloc (.cells (((((((((xs.setIfInBounds 48 (.int .u64 B.r)).setIfInBounds 49 (.int .u32 B.c)).setIfInBounds 50 (.int .u64 B.id)).setIfInBounds 51 (.int .u16 x.id)).setIfInBounds 60 (.int .i64 B.ra)).setIfInBounds 61 (.int .i64 B.rm)).setIfInBounds 62 (.int .i64 B.rh)).setIfInBounds 63 (.int .i64 B.rd)).setIfInBounds 62 (.int .i64 B.h)) 50)).alloc (.cells Z 50)) (w.heap.size + 1 + 1) Z 50 := by
    have := var_new ((w.alloc (.cells (B.cells s) 34)).alloc (.cells (desA B x.id xs 0) 50)) Z 50
    rwa [alloc_size, alloc_size] at this
  have HB : Below w.heap.size w (((w.alloc (.cells (B.cells s) 34)).alloc (.cells (((((((((xs.setIfInBounds 48 (.int .u64 B.r)).setIfInBounds 49 (.int .u32 B.c)).setIfInBounds 50 (.int .u64 B.id)).setIfInBounds 51 (.int .u16 x.id)).setIfInBounds 60 (.int .i64 B.ra)).setIfInBounds 61 (.int .i64 B.rm)).setIfInBounds 62 (.int .i64 B.rh)).setIfInBounds 63 (.int .i64 B.rd)).setIfInBounds 62 (.int .i64 B.h)) 50)).alloc (.cells Z 50)) := (((Below.refl w.heap.size w).alloc (Nat.le_refl _) (.cells (B.cells s) 34)).alloc (by simp) _).alloc (by simp; omega) (.cells Z 50)
  clear c0 b0 b3 b7 b8 b12 b13 b14 b15 f48 f49 f50 f51 f60 f61 f62 f63 fz hv0 hv1 hv2 hB
  generalize ((w.alloc (.cells (B.cells s) 34)).alloc (.cells (((((((((xs.setIfInBounds 48 (.int .u64 B.r)).setIfInBounds 49 (.int .u32 B.c)).setIfInBounds 50 (.int .u64 B.id)).setIfInBounds 51 (.int .u16 x.id)).setIfInBounds 60 (.int .i64 B.ra)).setIfInBounds 61 (.int .i64 B.rm)).setIfInBounds 62 (.int .i64 B.rh)).setIfInBounds 63 (.int .i64 B.rd)).setIfInBounds 62 (.int .i64 B.h)) 50)).alloc (.cells Z 50) = W at *
  have HB1 := Lib.hid HB
  have S1 := Lib.hid (SP_of V0 V1 (fun k _ => by rw [Nat.zero_add]) HX.out)
  have a58 : W.cell? ⟨w.heap.size + 1, 58, none⟩ = some (.int .u64 x.vb) := by have := S1.out.2.2.2.2.2.2.2.1; simpa using this
  have a0 : W.cell? ⟨w.heap.size, 0, none⟩ = some (.int .u64 B.id) := V0.cell 0
  have d0 := fun d os => cell_below (below_regrown W d os) a0
  have d58 := fun d os => cell_below (below_regrown W d os) a58
  have ex : ∀ d os, Calls Try.prog 21 #[.int .u64 x.vb] (grow (redrawn W d) os) fun e w'' => e = .returned (macV (ofN x.vb)) ∧ ∃ p : Regrown, w'' = grow (redrawn W p.d) p.os := fun d os => Calls.regrown_of (cx _)
  have ey : ∀ d os, Calls Try.prog 21 #[.int .u64 B.id] (grow (redrawn W d) os) fun e w'' => e = .returned (macV (ofN B.id)) ∧ ∃ p : Regrown, w'' = grow (redrawn W p.d) p.os := fun d os => Calls.regrown_of (cy _)
  have U0 := Lib.hid V0
  have U1 := Lib.hid V1
  have U2 := Lib.hid V2
  clear V0 V1 V2 HB cx cy a58 a0 S1
  generalize hE : eqM x.vb B.id = E at *
  have HE := Lib.hid hE
  clear hE
  generalize ofN x.vb = m1 at *
  generalize ofN B.id = m2 at *
  refine wp_region_quiet_below (by kernel_rfl) (by kernel_rfl) ?_
  repeat (go_big_quiet_step (first | with_reducible exact ex _ _ | with_reducible exact ey _ _))
  refine wpQuiet_nil ?_
  intro _ hw'
  obtain ⟨⟨dq, osq⟩, hw''⟩ := hw'
  subst hw''
  have hbq := below_regrown W dq osq
  have V0 := U0.out.below hbq U0.out.lt
  have V1 := U1.out.below hbq U1.out.lt
  have V2 := U2.out.below hbq U2.out.lt
  have HB := HB1.out.trans (hbq.mono HB1.out.size)
  clear mq mg d0 d58 ex ey hbq U0 U1 U2 HB1
  generalize grow (redrawn W dq) osq = W1 at *
  have ysz := Lib.hid (show (desA B x.id xs 0).size = 90 by rw [desA_size]; exact HX.out.size)
  have yst := Lib.hid (desA_typed (B := B) (q := x.id) HT.out)
  have S1 := SP_of V0 V1 (fun k _ => by rw [Nat.zero_add]) HX.out
  have c44 : W1.cell? ⟨w.heap.size + 1, 44, none⟩ = some (.int .i64 x.info) := by rw [V1.cell, desA_at HX.out.size 44 (by omega)]; exact HX.out.info
  have hnew : newP B x q xs = rolA B x q (desA B x.id xs 0) 0 := rfl
  generalize desA B x.id xs 0 = ys at *
  have f43 := V1.some (k := 43) (by rw [ysz.out]; omega)
  have f47 := V1.some (k := 47) (by rw [ysz.out]; omega)
  have fz := V1.frozen
  have HN := Lib.hid hnew
  have P0 := Lib.hid V0
  have P1 := Lib.hid V1
  have P2 := Lib.hid V2
  have HBW := Lib.hid HB
  have HS := Lib.hid S1
  clear hnew V0 V1 V2 HB S1 xz z
  generalize B.cells s = CC at *
  rw [hi] at c44
  have HF := Lib.hid (show newP B x q xs = putL (putL (putL ys 43 [.bool false]) 47 [.int .i64 2]) 43 [.bool true] by rw [HN.out]; unfold rolA; rw [if_neg (by omega), if_neg (by omega), if_neg (by omega), if_pos hi, show roleOf B x q = 2 from by unfold roleOf; rw [hq, hl]; rfl]; exact (put_three _ _ _ _).symm)
  have kL := fun w => less_any B.r B.c B.id x.id x.vr x.vc x.vb x.vp w
  rw [hl] at kL
  clear hi hl
  subst hq
  obtain ⟨p0, p48, p49, p50, p51, p56, p57, p58, p59, p60, p61, p62, p63, p68, p69, p70, p71⟩ := HS.out
  simp only [Nat.zero_add] at p48 p49 p50 p51 p56 p57 p58 p59 p60 p61 p62 p63 p68 p69 p70 p71
  go_wp2_with fail
  refine (kL _).mono ?_
  rintro e W2 ⟨rfl, hb⟩
  have Q1 := Lib.hid ((VarAt.putL [.bool false] 43 P1.out).below hb (VarAt.putL [.bool false] 43 P1.out).lt)
  have Q2 := Lib.hid ((VarAt.setL_other (c := w.heap.size + 1) (by omega) [.bool false] 43 P2.out).below hb (VarAt.setL_other (c := w.heap.size + 1) (by omega) [.bool false] 43 P2.out).lt)
  have QB := Lib.hid ((Below.setL (B := w.heap.size) (b := w.heap.size + 1) (by omega) [.bool false] 43 HBW.out).trans (hb.mono (Below.setL (B := w.heap.size) (b := w.heap.size + 1) (by omega) [.bool false] 43 HBW.out).size))
  clear HS P0 P1 P2 HBW f43 f47 fz c44 p0 p48 p49 p50 p51 p56 p57 p58 p59 p60 p61 p62 p63 p68 p69 p70 p71 kL hb
  have ys1t := Lib.hid (show Typed (putL ys 43 [.bool false]) from kB yst.out rfl)
  generalize putL ys 43 [.bool false] = ys1 at *
  have f43 := Q1.out.some (k := 43) (by rw [ys1t.out.1]; omega)
  have f47 := Q1.out.some (k := 47) (by rw [ys1t.out.1]; omega)
  have fz := Q1.out.frozen
  go_wp2_with (with_reducible refine stop48 _ rfl ?_)
  have V1 := (VarAt.putL [.bool true] 43 (VarAt.putL [.int .i64 2] 47 Q1.out))
  have V2 := (VarAt.setL_other (c := w.heap.size + 1) (by omega) [.bool true] 43 (VarAt.setL_other (c := w.heap.size + 1) (by omega) [.int .i64 2] 47 Q2.out))
  have HB := (Below.setL (B := w.heap.size) (b := w.heap.size + 1) (by omega) [.bool true] 43 (Below.setL (B := w.heap.size) (b := w.heap.size + 1) (by omega) [.int .i64 2] 47 QB.out))
  have tF := Lib.hid (show Typed (putL (putL ys1 47 [.int .i64 2]) 43 [.bool true]) from (kB (kI ys1t.out rfl) rfl))
  simp only [World.setCells] at V1 V2 HB
  clear Q1 Q2 QB f43 f47 fz
  generalize ((W2).setCell ⟨w.heap.size + 1, 47, none⟩ (.int .i64 2)).setCell ⟨w.heap.size + 1, 43, none⟩ (.bool true) = W9 at *
  generalize putL (putL ys1 47 [.int .i64 2]) 43 [.bool true] = F at *
  have zF := tF.out.1
  have G1 := Lib.hid V1
  have G2 := Lib.hid V2
  have G3 := Lib.hid HB
  clear V1 V2 HB
  refine Lib.hid ?_
  refine wpList_load_port rfl _ rfl rfl G1.out (fun k _ => by rw [Nat.zero_add]) zF ?_
  refine wpList_store_port rfl _ _ rfl rfl rfl G2.out tF.out (by rw [zs.out]; omega) ?_
  intro W10 hv10 hb10 _ _
  rw [putL_all _ _ (by rw [zs.out, zF])] at hv10
  have G4 := Lib.hid hv10
  have G5 := Lib.hid (hb10 w.heap.size w (by omega) G3.out)
  clear hv10 hb10 G1 G2 G3
  go_wp2_with (with_reducible refine stopB ?_)
  refine Lib.hid ?_
  exact bodyPost_ret (ret48 _ _ (w.heap.size + 1 + 1) F rfl G4.out zF) rfl ⟨by rw [HF.out], G5.out⟩
set_option maxHeartbeats 1000000 in
theorem role3m (hi : x.info = 3) (hq : q = false) (hl : ltV B.r B.c B.id x.id x.vr x.vc x.vb x.vp = false) (he : eqM x.vb B.id = true) : Calls Try.prog 24 #[.agg (B.cells s), .agg xs, .bool q] w fun e w' => e = .returned (.agg (newP B x q xs)) ∧ Below w.heap.size w w' := by
  have z := zero48
  have zs := Lib.hid z48_size
  generalize z48 = Z at *
  have hv0 := Lib.hid (((var_new w (B.cells s) 34).alloc (.cells xs 50)).alloc (.cells Z 50))
  have hv1 := Lib.hid (show VarAt (((w.alloc (.cells (B.cells s) 34)).alloc (.cells xs 50)).alloc (.cells Z 50)) (w.heap.size + 1) xs 50 by
    have := (var_new (w.alloc (.cells (B.cells s) 34)) xs 50).alloc (.cells Z 50)
    rwa [alloc_size] at this)
  have hv2 := Lib.hid (show VarAt (((w.alloc (.cells (B.cells s) 34)).alloc (.cells xs 50)).alloc (.cells Z 50)) (w.heap.size + 1 + 1) Z 50 by
    have := var_new ((w.alloc (.cells (B.cells s) 34)).alloc (.cells xs 50)) Z 50
    rwa [alloc_size, alloc_size] at this)
  have hB := Lib.hid (show Below w.heap.size w (((w.alloc (.cells (B.cells s) 34)).alloc (.cells xs 50)).alloc (.cells Z 50)) from (((Below.refl w.heap.size w).alloc (Nat.le_refl _) (.cells (B.cells s) 34)).alloc (by simp) (.cells xs 50)).alloc (by simp; omega) (.cells Z 50))
  have HX := Lib.hid hx
  have HT := Lib.hid ht
  have mq := mac48 x.vb B.id
  have mg := g48
  have cx := fun w => refBytes_any x.vb hx.lvb w
  have cy := fun w => refBytes_any B.id hid w
  have c0 : (((w.alloc (.cells (B.cells s) 34)).alloc (.cells xs 50)).alloc (.cells Z 50)).cell? ⟨w.heap.size + 1, 0, none⟩ = some (.int .u16 x.id) := by rw [hv1.out.cell]; exact hx.id
  have b0 : (((w.alloc (.cells (B.cells s) 34)).alloc (.cells xs 50)).alloc (.cells Z 50)).cell? ⟨w.heap.size, 0, none⟩ = some (.int .u64 B.id) := hv0.out.cell 0
  have b3 : (((w.alloc (.cells (B.cells s) 34)).alloc (.cells xs 50)).alloc (.cells Z 50)).cell? ⟨w.heap.size, 3, none⟩ = some (.int .i64 B.h) := hv0.out.cell 3
  have b7 : (((w.alloc (.cells (B.cells s) 34)).alloc (.cells xs 50)).alloc (.cells Z 50)).cell? ⟨w.heap.size, 7, none⟩ = some (.int .u64 B.r) := hv0.out.cell 7
  have b8 : (((w.alloc (.cells (B.cells s) 34)).alloc (.cells xs 50)).alloc (.cells Z 50)).cell? ⟨w.heap.size, 8, none⟩ = some (.int .u32 B.c) := hv0.out.cell 8
  have b12 : (((w.alloc (.cells (B.cells s) 34)).alloc (.cells xs 50)).alloc (.cells Z 50)).cell? ⟨w.heap.size, 12, none⟩ = some (.int .i64 B.ra) := hv0.out.cell 12
  have b13 : (((w.alloc (.cells (B.cells s) 34)).alloc (.cells xs 50)).alloc (.cells Z 50)).cell? ⟨w.heap.size, 13, none⟩ = some (.int .i64 B.rm) := hv0.out.cell 13
  have b14 : (((w.alloc (.cells (B.cells s) 34)).alloc (.cells xs 50)).alloc (.cells Z 50)).cell? ⟨w.heap.size, 14, none⟩ = some (.int .i64 B.rh) := hv0.out.cell 14
  have b15 : (((w.alloc (.cells (B.cells s) 34)).alloc (.cells xs 50)).alloc (.cells Z 50)).cell? ⟨w.heap.size, 15, none⟩ = some (.int .i64 B.rd) := hv0.out.cell 15
  have xz := hx.size
  have f48 := hv1.out.some (k := 48) (by omega)
  have f49 := hv1.out.some (k := 49) (by omega)
  have f50 := hv1.out.some (k := 50) (by omega)
  have f51 := hv1.out.some (k := 51) (by omega)
  have f60 := hv1.out.some (k := 60) (by omega)
  have f61 := hv1.out.some (k := 61) (by omega)
  have f62 := hv1.out.some (k := 62) (by omega)
  have f63 := hv1.out.some (k := 63) (by omega)
  have fz := hv1.out.frozen
  clear hx ht hid
  go_enter Try.func24, Try.ntmps24
  go_wp2_with fail
  have V1 : VarAt (((w.alloc (.cells (B.cells s) 34)).alloc (.cells (((((((((xs.setIfInBounds 48 (.int .u64 B.r)).setIfInBounds 49 (.int .u32 B.c)).setIfInBounds 50 (.int .u64 B.id)).setIfInBounds 51 (.int .u16 x.id)).setIfInBounds 60 (.int .i64 B.ra)).setIfInBounds 61 (.int .i64 B.rm)).setIfInBounds 62 (.int .i64 B.rh)).setIfInBounds 63 (.int .i64 B.rd)).setIfInBounds 62 (.int .i64 B.h)) 50)).alloc (.cells Z 50)) (w.heap.size + 1) (desA B x.id xs 0) 50 := by
    have := (var_new (w.alloc (.cells (B.cells s) 34)) (desA B x.id xs 0) 50).alloc (.cells Z 50)
    rwa [alloc_size] at this
  have V0 : VarAt (((w.alloc (.cells (B.cells s) 34)).alloc (.cells (((((((((xs.setIfInBounds 48 (.int .u64 B.r)).setIfInBounds 49 (.int .u32 B.c)).setIfInBounds 50 (.int .u64 B.id)).setIfInBounds 51 (.int .u16 x.id)).setIfInBounds 60 (.int .i64 B.ra)).setIfInBounds 61 (.int .i64 B.rm)).setIfInBounds 62 (.int .i64 B.rh)).setIfInBounds 63 (.int .i64 B.rd)).setIfInBounds 62 (.int .i64 B.h)) 50)).alloc (.cells Z 50)) w.heap.size (B.cells s) 34 := ((var_new w (B.cells s) 34).alloc _).alloc _
  have V2 : VarAt (((w.alloc (.cells (B.cells s) 34)).alloc (.cells (((((((((xs.setIfInBounds 48 (.int .u64 B.r)).setIfInBounds 49 (.int .u32 B.c)).setIfInBounds 50 (.int .u64 B.id)).setIfInBounds 51 (.int .u16 x.id)).setIfInBounds 60 (.int .i64 B.ra)).setIfInBounds 61 (.int .i64 B.rm)).setIfInBounds 62 (.int .i64 B.rh)).setIfInBounds 63 (.int .i64 B.rd)).setIfInBounds 62 (.int .i64 B.h)) 50)).alloc (.cells Z 50)) (w.heap.size + 1 + 1) Z 50 := by
    have := var_new ((w.alloc (.cells (B.cells s) 34)).alloc (.cells (desA B x.id xs 0) 50)) Z 50
    rwa [alloc_size, alloc_size] at this
  have HB : Below w.heap.size w (((w.alloc (.cells (B.cells s) 34)).alloc (.cells (((((((((xs.setIfInBounds 48 (.int .u64 B.r)).setIfInBounds 49 (.int .u32 B.c)).setIfInBounds 50 (.int .u64 B.id)).setIfInBounds 51 (.int .u16 x.id)).setIfInBounds 60 (.int .i64 B.ra)).setIfInBounds 61 (.int .i64 B.rm)).setIfInBounds 62 (.int .i64 B.rh)).setIfInBounds 63 (.int .i64 B.rd)).setIfInBounds 62 (.int .i64 B.h)) 50)).alloc (.cells Z 50)) := (((Below.refl w.heap.size w).alloc (Nat.le_refl _) (.cells (B.cells s) 34)).alloc (by simp) _).alloc (by simp; omega) (.cells Z 50)
  clear c0 b0 b3 b7 b8 b12 b13 b14 b15 f48 f49 f50 f51 f60 f61 f62 f63 fz hv0 hv1 hv2 hB
  generalize ((w.alloc (.cells (B.cells s) 34)).alloc (.cells (((((((((xs.setIfInBounds 48 (.int .u64 B.r)).setIfInBounds 49 (.int .u32 B.c)).setIfInBounds 50 (.int .u64 B.id)).setIfInBounds 51 (.int .u16 x.id)).setIfInBounds 60 (.int .i64 B.ra)).setIfInBounds 61 (.int .i64 B.rm)).setIfInBounds 62 (.int .i64 B.rh)).setIfInBounds 63 (.int .i64 B.rd)).setIfInBounds 62 (.int .i64 B.h)) 50)).alloc (.cells Z 50) = W at *
  have HB1 := Lib.hid HB
  have S1 := Lib.hid (SP_of V0 V1 (fun k _ => by rw [Nat.zero_add]) HX.out)
  have a58 : W.cell? ⟨w.heap.size + 1, 58, none⟩ = some (.int .u64 x.vb) := by have := S1.out.2.2.2.2.2.2.2.1; simpa using this
  have a0 : W.cell? ⟨w.heap.size, 0, none⟩ = some (.int .u64 B.id) := V0.cell 0
  have d0 := fun d os => cell_below (below_regrown W d os) a0
  have d58 := fun d os => cell_below (below_regrown W d os) a58
  have ex : ∀ d os, Calls Try.prog 21 #[.int .u64 x.vb] (grow (redrawn W d) os) fun e w'' => e = .returned (macV (ofN x.vb)) ∧ ∃ p : Regrown, w'' = grow (redrawn W p.d) p.os := fun d os => Calls.regrown_of (cx _)
  have ey : ∀ d os, Calls Try.prog 21 #[.int .u64 B.id] (grow (redrawn W d) os) fun e w'' => e = .returned (macV (ofN B.id)) ∧ ∃ p : Regrown, w'' = grow (redrawn W p.d) p.os := fun d os => Calls.regrown_of (cy _)
  have U0 := Lib.hid V0
  have U1 := Lib.hid V1
  have U2 := Lib.hid V2
  clear V0 V1 V2 HB cx cy a58 a0 S1
  generalize hE : eqM x.vb B.id = E at *
  have HE := Lib.hid hE
  clear hE
  generalize ofN x.vb = m1 at *
  generalize ofN B.id = m2 at *
  refine wp_region_quiet_below (by kernel_rfl) (by kernel_rfl) ?_
  repeat (go_big_quiet_step (first | with_reducible exact ex _ _ | with_reducible exact ey _ _))
  refine wpQuiet_nil ?_
  intro _ hw'
  obtain ⟨⟨dq, osq⟩, hw''⟩ := hw'
  subst hw''
  have hbq := below_regrown W dq osq
  have V0 := U0.out.below hbq U0.out.lt
  have V1 := U1.out.below hbq U1.out.lt
  have V2 := U2.out.below hbq U2.out.lt
  have HB := HB1.out.trans (hbq.mono HB1.out.size)
  clear mq mg d0 d58 ex ey hbq U0 U1 U2 HB1
  generalize grow (redrawn W dq) osq = W1 at *
  have ysz := Lib.hid (show (desA B x.id xs 0).size = 90 by rw [desA_size]; exact HX.out.size)
  have yst := Lib.hid (desA_typed (B := B) (q := x.id) HT.out)
  have S1 := SP_of V0 V1 (fun k _ => by rw [Nat.zero_add]) HX.out
  have c44 : W1.cell? ⟨w.heap.size + 1, 44, none⟩ = some (.int .i64 x.info) := by rw [V1.cell, desA_at HX.out.size 44 (by omega)]; exact HX.out.info
  have hnew : newP B x q xs = rolA B x q (desA B x.id xs 0) 0 := rfl
  generalize desA B x.id xs 0 = ys at *
  have f43 := V1.some (k := 43) (by rw [ysz.out]; omega)
  have f47 := V1.some (k := 47) (by rw [ysz.out]; omega)
  have fz := V1.frozen
  have HN := Lib.hid hnew
  have P0 := Lib.hid V0
  have P1 := Lib.hid V1
  have P2 := Lib.hid V2
  have HBW := Lib.hid HB
  have HS := Lib.hid S1
  clear hnew V0 V1 V2 HB S1 xz z
  generalize B.cells s = CC at *
  rw [hi] at c44
  have HF := Lib.hid (show newP B x q xs = putL (putL ys 43 [.bool false]) 47 [.int .i64 4] by rw [HN.out]; unfold rolA; rw [if_neg (by omega), if_neg (by omega), if_neg (by omega), if_pos hi, show roleOf B x q = 4 from by unfold roleOf; rw [hq, hl, HE.out, he]; rfl]; exact (put_two _ _ _).symm)
  have kL := fun w => less_any B.r B.c B.id x.id x.vr x.vc x.vb x.vp w
  rw [hl] at kL
  clear hi hl
  subst hq
  subst he
  obtain ⟨p0, p48, p49, p50, p51, p56, p57, p58, p59, p60, p61, p62, p63, p68, p69, p70, p71⟩ := HS.out
  simp only [Nat.zero_add] at p48 p49 p50 p51 p56 p57 p58 p59 p60 p61 p62 p63 p68 p69 p70 p71
  go_wp2_with fail
  refine (kL _).mono ?_
  rintro e W2 ⟨rfl, hb⟩
  have Q1 := Lib.hid ((VarAt.putL [.bool false] 43 P1.out).below hb (VarAt.putL [.bool false] 43 P1.out).lt)
  have Q2 := Lib.hid ((VarAt.setL_other (c := w.heap.size + 1) (by omega) [.bool false] 43 P2.out).below hb (VarAt.setL_other (c := w.heap.size + 1) (by omega) [.bool false] 43 P2.out).lt)
  have QB := Lib.hid ((Below.setL (B := w.heap.size) (b := w.heap.size + 1) (by omega) [.bool false] 43 HBW.out).trans (hb.mono (Below.setL (B := w.heap.size) (b := w.heap.size + 1) (by omega) [.bool false] 43 HBW.out).size))
  clear HS P0 P1 P2 HBW f43 f47 fz c44 p0 p48 p49 p50 p51 p56 p57 p58 p59 p60 p61 p62 p63 p68 p69 p70 p71 kL hb
  have ys1t := Lib.hid (show Typed (putL ys 43 [.bool false]) from kB yst.out rfl)
  generalize putL ys 43 [.bool false] = ys1 at *
  have f43 := Q1.out.some (k := 43) (by rw [ys1t.out.1]; omega)
  have f47 := Q1.out.some (k := 47) (by rw [ys1t.out.1]; omega)
  have fz := Q1.out.frozen
  go_wp2_with (with_reducible refine stop48 _ rfl ?_)
  have V1 := (VarAt.putL [.int .i64 4] 47 Q1.out)
  have V2 := (VarAt.setL_other (c := w.heap.size + 1) (by omega) [.int .i64 4] 47 Q2.out)
  have HB := (Below.setL (B := w.heap.size) (b := w.heap.size + 1) (by omega) [.int .i64 4] 47 QB.out)
  have tF := Lib.hid (show Typed (putL ys1 47 [.int .i64 4]) from (kI ys1t.out rfl))
  simp only [World.setCells] at V1 V2 HB
  clear Q1 Q2 QB f43 f47 fz
  generalize (W2).setCell ⟨w.heap.size + 1, 47, none⟩ (.int .i64 4) = W9 at *
  generalize putL ys1 47 [.int .i64 4] = F at *
  have zF := tF.out.1
  have G1 := Lib.hid V1
  have G2 := Lib.hid V2
  have G3 := Lib.hid HB
  clear V1 V2 HB
  refine Lib.hid ?_
  refine wpList_load_port rfl _ rfl rfl G1.out (fun k _ => by rw [Nat.zero_add]) zF ?_
  refine wpList_store_port rfl _ _ rfl rfl rfl G2.out tF.out (by rw [zs.out]; omega) ?_
  intro W10 hv10 hb10 _ _
  rw [putL_all _ _ (by rw [zs.out, zF])] at hv10
  have G4 := Lib.hid hv10
  have G5 := Lib.hid (hb10 w.heap.size w (by omega) G3.out)
  clear hv10 hb10 G1 G2 G3
  go_wp2_with (with_reducible refine stopB ?_)
  refine Lib.hid ?_
  exact bodyPost_ret (ret48 _ _ (w.heap.size + 1 + 1) F rfl G4.out zF) rfl ⟨by rw [HF.out], G5.out⟩
set_option maxHeartbeats 1000000 in
theorem role3a (hi : x.info = 3) (hq : q = false) (hl : ltV B.r B.c B.id x.id x.vr x.vc x.vb x.vp = false) (he : eqM x.vb B.id = false) : Calls Try.prog 24 #[.agg (B.cells s), .agg xs, .bool q] w fun e w' => e = .returned (.agg (newP B x q xs)) ∧ Below w.heap.size w w' := by
  have z := zero48
  have zs := Lib.hid z48_size
  generalize z48 = Z at *
  have hv0 := Lib.hid (((var_new w (B.cells s) 34).alloc (.cells xs 50)).alloc (.cells Z 50))
  have hv1 := Lib.hid (show VarAt (((w.alloc (.cells (B.cells s) 34)).alloc (.cells xs 50)).alloc (.cells Z 50)) (w.heap.size + 1) xs 50 by
    have := (var_new (w.alloc (.cells (B.cells s) 34)) xs 50).alloc (.cells Z 50)
    rwa [alloc_size] at this)
  have hv2 := Lib.hid (show VarAt (((w.alloc (.cells (B.cells s) 34)).alloc (.cells xs 50)).alloc (.cells Z 50)) (w.heap.size + 1 + 1) Z 50 by
    have := var_new ((w.alloc (.cells (B.cells s) 34)).alloc (.cells xs 50)) Z 50
    rwa [alloc_size, alloc_size] at this)
  have hB := Lib.hid (show Below w.heap.size w (((w.alloc (.cells (B.cells s) 34)).alloc (.cells xs 50)).alloc (.cells Z 50)) from (((Below.refl w.heap.size w).alloc (Nat.le_refl _) (.cells (B.cells s) 34)).alloc (by simp) (.cells xs 50)).alloc (by simp; omega) (.cells Z 50))
  have HX := Lib.hid hx
  have HT := Lib.hid ht
  have mq := mac48 x.vb B.id
  have mg := g48
  have cx := fun w => refBytes_any x.vb hx.lvb w
  have cy := fun w => refBytes_any B.id hid w
  have c0 : (((w.alloc (.cells (B.cells s) 34)).alloc (.cells xs 50)).alloc (.cells Z 50)).cell? ⟨w.heap.size + 1, 0, none⟩ = some (.int .u16 x.id) := by rw [hv1.out.cell]; exact hx.id
  have b0 : (((w.alloc (.cells (B.cells s) 34)).alloc (.cells xs 50)).alloc (.cells Z 50)).cell? ⟨w.heap.size, 0, none⟩ = some (.int .u64 B.id) := hv0.out.cell 0
  have b3 : (((w.alloc (.cells (B.cells s) 34)).alloc (.cells xs 50)).alloc (.cells Z 50)).cell? ⟨w.heap.size, 3, none⟩ = some (.int .i64 B.h) := hv0.out.cell 3
  have b7 : (((w.alloc (.cells (B.cells s) 34)).alloc (.cells xs 50)).alloc (.cells Z 50)).cell? ⟨w.heap.size, 7, none⟩ = some (.int .u64 B.r) := hv0.out.cell 7
  have b8 : (((w.alloc (.cells (B.cells s) 34)).alloc (.cells xs 50)).alloc (.cells Z 50)).cell? ⟨w.heap.size, 8, none⟩ = some (.int .u32 B.c) := hv0.out.cell 8
  have b12 : (((w.alloc (.cells (B.cells s) 34)).alloc (.cells xs 50)).alloc (.cells Z 50)).cell? ⟨w.heap.size, 12, none⟩ = some (.int .i64 B.ra) := hv0.out.cell 12
  have b13 : (((w.alloc (.cells (B.cells s) 34)).alloc (.cells xs 50)).alloc (.cells Z 50)).cell? ⟨w.heap.size, 13, none⟩ = some (.int .i64 B.rm) := hv0.out.cell 13
  have b14 : (((w.alloc (.cells (B.cells s) 34)).alloc (.cells xs 50)).alloc (.cells Z 50)).cell? ⟨w.heap.size, 14, none⟩ = some (.int .i64 B.rh) := hv0.out.cell 14
  have b15 : (((w.alloc (.cells (B.cells s) 34)).alloc (.cells xs 50)).alloc (.cells Z 50)).cell? ⟨w.heap.size, 15, none⟩ = some (.int .i64 B.rd) := hv0.out.cell 15
  have xz := hx.size
  have f48 := hv1.out.some (k := 48) (by omega)
  have f49 := hv1.out.some (k := 49) (by omega)
  have f50 := hv1.out.some (k := 50) (by omega)
  have f51 := hv1.out.some (k := 51) (by omega)
  have f60 := hv1.out.some (k := 60) (by omega)
  have f61 := hv1.out.some (k := 61) (by omega)
  have f62 := hv1.out.some (k := 62) (by omega)
  have f63 := hv1.out.some (k := 63) (by omega)
  have fz := hv1.out.frozen
  clear hx ht hid
  go_enter Try.func24, Try.ntmps24
  go_wp2_with fail
  have V1 : VarAt (((w.alloc (.cells (B.cells s) 34)).alloc (.cells (((((((((xs.setIfInBounds 48 (.int .u64 B.r)).setIfInBounds 49 (.int .u32 B.c)).setIfInBounds 50 (.int .u64 B.id)).setIfInBounds 51 (.int .u16 x.id)).setIfInBounds 60 (.int .i64 B.ra)).setIfInBounds 61 (.int .i64 B.rm)).setIfInBounds 62 (.int .i64 B.rh)).setIfInBounds 63 (.int .i64 B.rd)).setIfInBounds 62 (.int .i64 B.h)) 50)).alloc (.cells Z 50)) (w.heap.size + 1) (desA B x.id xs 0) 50 := by
    have := (var_new (w.alloc (.cells (B.cells s) 34)) (desA B x.id xs 0) 50).alloc (.cells Z 50)
    rwa [alloc_size] at this
  have V0 : VarAt (((w.alloc (.cells (B.cells s) 34)).alloc (.cells (((((((((xs.setIfInBounds 48 (.int .u64 B.r)).setIfInBounds 49 (.int .u32 B.c)).setIfInBounds 50 (.int .u64 B.id)).setIfInBounds 51 (.int .u16 x.id)).setIfInBounds 60 (.int .i64 B.ra)).setIfInBounds 61 (.int .i64 B.rm)).setIfInBounds 62 (.int .i64 B.rh)).setIfInBounds 63 (.int .i64 B.rd)).setIfInBounds 62 (.int .i64 B.h)) 50)).alloc (.cells Z 50)) w.heap.size (B.cells s) 34 := ((var_new w (B.cells s) 34).alloc _).alloc _
  have V2 : VarAt (((w.alloc (.cells (B.cells s) 34)).alloc (.cells (((((((((xs.setIfInBounds 48 (.int .u64 B.r)).setIfInBounds 49 (.int .u32 B.c)).setIfInBounds 50 (.int .u64 B.id)).setIfInBounds 51 (.int .u16 x.id)).setIfInBounds 60 (.int .i64 B.ra)).setIfInBounds 61 (.int .i64 B.rm)).setIfInBounds 62 (.int .i64 B.rh)).setIfInBounds 63 (.int .i64 B.rd)).setIfInBounds 62 (.int .i64 B.h)) 50)).alloc (.cells Z 50)) (w.heap.size + 1 + 1) Z 50 := by
    have := var_new ((w.alloc (.cells (B.cells s) 34)).alloc (.cells (desA B x.id xs 0) 50)) Z 50
    rwa [alloc_size, alloc_size] at this
  have HB : Below w.heap.size w (((w.alloc (.cells (B.cells s) 34)).alloc (.cells (((((((((xs.setIfInBounds 48 (.int .u64 B.r)).setIfInBounds 49 (.int .u32 B.c)).setIfInBounds 50 (.int .u64 B.id)).setIfInBounds 51 (.int .u16 x.id)).setIfInBounds 60 (.int .i64 B.ra)).setIfInBounds 61 (.int .i64 B.rm)).setIfInBounds 62 (.int .i64 B.rh)).setIfInBounds 63 (.int .i64 B.rd)).setIfInBounds 62 (.int .i64 B.h)) 50)).alloc (.cells Z 50)) := (((Below.refl w.heap.size w).alloc (Nat.le_refl _) (.cells (B.cells s) 34)).alloc (by simp) _).alloc (by simp; omega) (.cells Z 50)
  clear c0 b0 b3 b7 b8 b12 b13 b14 b15 f48 f49 f50 f51 f60 f61 f62 f63 fz hv0 hv1 hv2 hB
  generalize ((w.alloc (.cells (B.cells s) 34)).alloc (.cells (((((((((xs.setIfInBounds 48 (.int .u64 B.r)).setIfInBounds 49 (.int .u32 B.c)).setIfInBounds 50 (.int .u64 B.id)).setIfInBounds 51 (.int .u16 x.id)).setIfInBounds 60 (.int .i64 B.ra)).setIfInBounds 61 (.int .i64 B.rm)).setIfInBounds 62 (.int .i64 B.rh)).setIfInBounds 63 (.int .i64 B.rd)).setIfInBounds 62 (.int .i64 B.h)) 50)).alloc (.cells Z 50) = W at *
  have HB1 := Lib.hid HB
  have S1 := Lib.hid (SP_of V0 V1 (fun k _ => by rw [Nat.zero_add]) HX.out)
  have a58 : W.cell? ⟨w.heap.size + 1, 58, none⟩ = some (.int .u64 x.vb) := by have := S1.out.2.2.2.2.2.2.2.1; simpa using this
  have a0 : W.cell? ⟨w.heap.size, 0, none⟩ = some (.int .u64 B.id) := V0.cell 0
  have d0 := fun d os => cell_below (below_regrown W d os) a0
  have d58 := fun d os => cell_below (below_regrown W d os) a58
  have ex : ∀ d os, Calls Try.prog 21 #[.int .u64 x.vb] (grow (redrawn W d) os) fun e w'' => e = .returned (macV (ofN x.vb)) ∧ ∃ p : Regrown, w'' = grow (redrawn W p.d) p.os := fun d os => Calls.regrown_of (cx _)
  have ey : ∀ d os, Calls Try.prog 21 #[.int .u64 B.id] (grow (redrawn W d) os) fun e w'' => e = .returned (macV (ofN B.id)) ∧ ∃ p : Regrown, w'' = grow (redrawn W p.d) p.os := fun d os => Calls.regrown_of (cy _)
  have U0 := Lib.hid V0
  have U1 := Lib.hid V1
  have U2 := Lib.hid V2
  clear V0 V1 V2 HB cx cy a58 a0 S1
  generalize hE : eqM x.vb B.id = E at *
  have HE := Lib.hid hE
  clear hE
  generalize ofN x.vb = m1 at *
  generalize ofN B.id = m2 at *
  refine wp_region_quiet_below (by kernel_rfl) (by kernel_rfl) ?_
  repeat (go_big_quiet_step (first | with_reducible exact ex _ _ | with_reducible exact ey _ _))
  refine wpQuiet_nil ?_
  intro _ hw'
  obtain ⟨⟨dq, osq⟩, hw''⟩ := hw'
  subst hw''
  have hbq := below_regrown W dq osq
  have V0 := U0.out.below hbq U0.out.lt
  have V1 := U1.out.below hbq U1.out.lt
  have V2 := U2.out.below hbq U2.out.lt
  have HB := HB1.out.trans (hbq.mono HB1.out.size)
  clear mq mg d0 d58 ex ey hbq U0 U1 U2 HB1
  generalize grow (redrawn W dq) osq = W1 at *
  have ysz := Lib.hid (show (desA B x.id xs 0).size = 90 by rw [desA_size]; exact HX.out.size)
  have yst := Lib.hid (desA_typed (B := B) (q := x.id) HT.out)
  have S1 := SP_of V0 V1 (fun k _ => by rw [Nat.zero_add]) HX.out
  have c44 : W1.cell? ⟨w.heap.size + 1, 44, none⟩ = some (.int .i64 x.info) := by rw [V1.cell, desA_at HX.out.size 44 (by omega)]; exact HX.out.info
  have hnew : newP B x q xs = rolA B x q (desA B x.id xs 0) 0 := rfl
  generalize desA B x.id xs 0 = ys at *
  have f43 := V1.some (k := 43) (by rw [ysz.out]; omega)
  have f47 := V1.some (k := 47) (by rw [ysz.out]; omega)
  have fz := V1.frozen
  have HN := Lib.hid hnew
  have P0 := Lib.hid V0
  have P1 := Lib.hid V1
  have P2 := Lib.hid V2
  have HBW := Lib.hid HB
  have HS := Lib.hid S1
  clear hnew V0 V1 V2 HB S1 xz z
  generalize B.cells s = CC at *
  rw [hi] at c44
  have HF := Lib.hid (show newP B x q xs = putL (putL ys 43 [.bool false]) 47 [.int .i64 3] by rw [HN.out]; unfold rolA; rw [if_neg (by omega), if_neg (by omega), if_neg (by omega), if_pos hi, show roleOf B x q = 3 from by unfold roleOf; rw [hq, hl, HE.out, he]; rfl]; exact (put_two _ _ _).symm)
  have kL := fun w => less_any B.r B.c B.id x.id x.vr x.vc x.vb x.vp w
  rw [hl] at kL
  clear hi hl
  subst hq
  subst he
  obtain ⟨p0, p48, p49, p50, p51, p56, p57, p58, p59, p60, p61, p62, p63, p68, p69, p70, p71⟩ := HS.out
  simp only [Nat.zero_add] at p48 p49 p50 p51 p56 p57 p58 p59 p60 p61 p62 p63 p68 p69 p70 p71
  go_wp2_with fail
  refine (kL _).mono ?_
  rintro e W2 ⟨rfl, hb⟩
  have Q1 := Lib.hid ((VarAt.putL [.bool false] 43 P1.out).below hb (VarAt.putL [.bool false] 43 P1.out).lt)
  have Q2 := Lib.hid ((VarAt.setL_other (c := w.heap.size + 1) (by omega) [.bool false] 43 P2.out).below hb (VarAt.setL_other (c := w.heap.size + 1) (by omega) [.bool false] 43 P2.out).lt)
  have QB := Lib.hid ((Below.setL (B := w.heap.size) (b := w.heap.size + 1) (by omega) [.bool false] 43 HBW.out).trans (hb.mono (Below.setL (B := w.heap.size) (b := w.heap.size + 1) (by omega) [.bool false] 43 HBW.out).size))
  clear HS P0 P1 P2 HBW f43 f47 fz c44 p0 p48 p49 p50 p51 p56 p57 p58 p59 p60 p61 p62 p63 p68 p69 p70 p71 kL hb
  have ys1t := Lib.hid (show Typed (putL ys 43 [.bool false]) from kB yst.out rfl)
  generalize putL ys 43 [.bool false] = ys1 at *
  have f43 := Q1.out.some (k := 43) (by rw [ys1t.out.1]; omega)
  have f47 := Q1.out.some (k := 47) (by rw [ys1t.out.1]; omega)
  have fz := Q1.out.frozen
  go_wp2_with (with_reducible refine stop48 _ rfl ?_)
  have V1 := (VarAt.putL [.int .i64 3] 47 Q1.out)
  have V2 := (VarAt.setL_other (c := w.heap.size + 1) (by omega) [.int .i64 3] 47 Q2.out)
  have HB := (Below.setL (B := w.heap.size) (b := w.heap.size + 1) (by omega) [.int .i64 3] 47 QB.out)
  have tF := Lib.hid (show Typed (putL ys1 47 [.int .i64 3]) from (kI ys1t.out rfl))
  simp only [World.setCells] at V1 V2 HB
  clear Q1 Q2 QB f43 f47 fz
  generalize (W2).setCell ⟨w.heap.size + 1, 47, none⟩ (.int .i64 3) = W9 at *
  generalize putL ys1 47 [.int .i64 3] = F at *
  have zF := tF.out.1
  have G1 := Lib.hid V1
  have G2 := Lib.hid V2
  have G3 := Lib.hid HB
  clear V1 V2 HB
  refine Lib.hid ?_
  refine wpList_load_port rfl _ rfl rfl G1.out (fun k _ => by rw [Nat.zero_add]) zF ?_
  refine wpList_store_port rfl _ _ rfl rfl rfl G2.out tF.out (by rw [zs.out]; omega) ?_
  intro W10 hv10 hb10 _ _
  rw [putL_all _ _ (by rw [zs.out, zF])] at hv10
  have G4 := Lib.hid hv10
  have G5 := Lib.hid (hb10 w.heap.size w (by omega) G3.out)
  clear hv10 hb10 G1 G2 G3
  go_wp2_with (with_reducible refine stopB ?_)
  refine Lib.hid ?_
  exact bodyPost_ret (ret48 _ _ (w.heap.size + 1 + 1) F rfl G4.out zF) rfl ⟨by rw [HF.out], G5.out⟩
theorem role_any : Calls Try.prog 24 #[.agg (B.cells s), .agg xs, .bool q] w fun e w' => e = .returned (.agg (newP B x q xs)) ∧ Below w.heap.size w w' := by
  by_cases h0 : x.info = 0
  · exact role0 B s x q xs w hx ht hid h0
  by_cases h1 : x.info = 1
  · exact role1 B s x q xs w hx ht hid h1
  by_cases h2 : x.info = 2
  · cases hd : eqV x.vr x.vc x.vb x.vp B.r B.c B.id x.id
    · exact role2a B s x q xs w hx ht hid h2 hd
    · cases ht' : eqT x.a x.m x.h x.d B.ra B.rm B.h B.rd
      · exact role2b B s x q xs w hx ht hid h2 hd ht'
      · exact role2c B s x q xs w hx ht hid h2 hd ht'
  by_cases h3 : x.info = 3
  · cases hq : q
    · cases hl : ltV B.r B.c B.id x.id x.vr x.vc x.vb x.vp
      · cases he : eqM x.vb B.id
        · exact role3a B s x false xs w hx ht hid h3 rfl hl he
        · exact role3m B s x false xs w hx ht hid h3 rfl hl he
      · exact role3l B s x false xs w hx ht hid h3 rfl hl
    · exact role3r B s x true xs w hx ht hid h3 rfl
  · exact role4 B s x q xs w hx ht hid h0 h1 h2 h3
end
end Go.Proofs.Ytidgdanhnpfpmaa
