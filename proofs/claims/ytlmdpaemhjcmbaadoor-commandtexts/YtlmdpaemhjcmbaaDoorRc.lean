/- The reference's take: a word, for a part. -/
import Derived.Test.YtlmdpaemhjcmbaaDoorRb
namespace Go.Proofs.YtlmdpaemhjcmbaaDoor
open Go.RowKit Go.Sort Go.Lib

theorem s32 : (Tryd.prog.info? 32).map (·.size) = some 10 := by kernel_rfl
theorem u32 : Tryd.prog.underlying 32 = some (.struct (Tryd.prog.fieldsOf 32)) := by kernel_rfl
theorem s23 : (Tryd.prog.info? 23).map (·.size) = some 6 := by kernel_rfl
theorem yields32 {ops : Array Oper} {S : World → Prop} {op : Oper} {a : Act} {c : Cm} (hw : Region.wanted op (yielded ops a.tmps) = true) (x : Operand) (ho : op.op = .load 32 x) {b : Nat} (hx : a.eval x = .pointer (some ⟨b, 0, none⟩))
    (hS : ∀ w, S w → CA w b c.cells 32) : YieldsIf Tryd.prog ops S op (.agg c.cells) a := by
  have := yieldsIf_load_mid (P := Tryd.prog) (ops := ops) hw 32 x ho b 0 hx c.cells.toList _ (fun w h => range_whole (hS w h)) u32 rfl (by rw [s32]; rfl)
  simpa using this
theorem wp_store32 {op : Oper} {a : Act} {w : World} {K : Act → World → Prop} {Q : Exit → Act → World → Prop} (x y : Operand) (ho : op.op = .store 32 x y) {b : Nat} (c : Cm) (hx : a.eval x = .pointer (some ⟨b, 0, none⟩)) (hy : a.eval y = .agg c.cells)
    {d : Cm} (hv : CA w b d.cells 32) (h : ∀ w', CA w' b c.cells 32 → (∀ Bl w0, Bl ≤ b → Below Bl w0 w → Below Bl w0 w') → (∀ q ys u, q ≠ b → CA w q ys u → CA w' q ys u) → w.heap.size ≤ w'.heap.size → K (a.put op.dst undef) w') : op.wp Tryd.prog a w K Q :=
  wp_store_mid 32 x y ho b 0 c.cells hx hy (hv.there 0 10 (Nat.le_refl 10)) (by rw [s32]; rfl) (Cm.one c)
    (h _ (by have := CA.putL c.cells.toList 0 hv; rw [putL_all d.cells c.cells rfl] at this; exact this) (fun _ _ hB hb => Below.setL hB _ _ hb) (fun _ _ _ hne hc => CA.setL_other hne _ _ hc) (Below.setL (Nat.zero_le _) _ _ (Below.refl 0 w)).size)
theorem wpl_store32 {ops : Array Oper} {rest : List Oper} {op : Oper} {a : Act} {w : World} {Q : Exit → Act → World → Prop} (hgd : op.guard = none) (x y : Operand) (ho : op.op = .store 32 x y) {b : Nat} (c : Cm) (hx : a.eval x = .pointer (some ⟨b, 0, none⟩)) (hy : a.eval y = .agg c.cells)
    {d : Cm} (hv : CA w b d.cells 32)
    (h : ∀ w', CA w' b c.cells 32 → (∀ Bl w0, Bl ≤ b → Below Bl w0 w → Below Bl w0 w') → (∀ q ys u, q ≠ b → CA w q ys u → CA w' q ys u) → w.heap.size ≤ w'.heap.size → wpList Tryd.prog ops Q rest (a.put op.dst undef) w') : wpList Tryd.prog ops Q (op :: rest) a w :=
  wpList_store_whole s32 hgd x y ho hx hy hv (Cm.one c) rfl (show 0 + 10 ≤ d.cells.size from Nat.le_refl 10) fun w' h1 h2 h3 h4 => h w' (by rw [putL_all d.cells c.cells rfl] at h1; exact h1) h2 h3 h4
theorem wpl_load32 {ops : Array Oper} {rest : List Oper} {op : Oper} {a : Act} {w : World} {Q : Exit → Act → World → Prop} (hw : Region.wanted op (yielded ops a.tmps) = true) (x : Operand) (ho : op.op = .load 32 x) {b : Nat} {c : Cm} (hx : a.eval x = .pointer (some ⟨b, 0, none⟩)) (hv : CA w b c.cells 32)
    (h : wpList Tryd.prog ops Q rest (a.put op.dst (.agg c.cells)) w) : wpList Tryd.prog ops Q (op :: rest) a w :=
  BigFrame.wpList_want hw fun _ hK => wp_load_mid 32 x ho b 0 hx c.cells.toList _ (range_whole hv) u32 rfl (by rw [s32]; rfl) (hK _ _ (by simpa using h))
/-- What the reference's take leaves. -/
def RTook (c : Cm) (p s : List UInt8) (w : World) (e : Ending) (w' : World) : Prop :=
  (∃ c' : Cm, e = .returned (.tuple #[.agg c'.cells, .bool (tk p s).isSome]) ∧ (∀ i, c'.x i < 256) ∧ ∀ f, tk p s = some f → c' = f c) ∧ Below w.heap.size w w'
theorem numI_ge (s : List UInt8) : decide (0 ≤ numI s) = (num s).isSome := by
  unfold numI; cases num s <;> simp
set_option maxRecDepth 20000 in
set_option maxHeartbeats 2000000 in
theorem rtakeP (c : Cm) (s : List UInt8) (hx : ∀ i, c.x i < 256) (w : World) : Calls Tryd.prog 16 #[.agg c.cells, .int .u8 112, strV s] w (RTook c [80] s w) := by
  have c0 := fun w => number_any s w
  have HD := Lib.hid (numI_ge s)
  have HT : Hid (∀ f, tk [80] s = some f → f c = { c with po := numI s }) := Lib.hid (fun f hf => by
    rw [tkP] at hf
    obtain ⟨m, hm, rfl⟩ := Option.map_eq_some_iff.1 hf
    rw [numI_some hm])
  have HI : Hid ((tk [80] s).isSome = (num s).isSome) := Lib.hid (by rw [tkP]; simp)
  generalize numI s = N1 at *
  generalize hc1 : ({ c with po := N1 } : Cm) = c1 at *
  have HC1 := Lib.hid hc1
  have VB := Lib.hid ((var_new w c1.cells 32).alloc (.cells (zc 0).cells 32))
  have VR := Lib.hid (show CA ((w.alloc (.cells c1.cells 32)).alloc (.cells (zc 0).cells 32)) (w.heap.size + 1) (zc 0).cells 32 by have := var_new (w.alloc (.cells c1.cells 32)) (zc 0).cells 32; rwa [alloc_size] at this)
  have HBW := Lib.hid ((box_below w (.cells c1.cells 32)).alloc (by rw [alloc_size]; omega) (.cells (zc 0).cells 32))
  have e1 := Lib.hid (show c.cells.setIfInBounds 1 (.int .i64 N1) = c1.cells by rw [← HC1.out]; rfl)
  have HK : Hid (c1.cells[1]? = some (.int .i64 N1)) := Lib.hid (by rw [← HC1.out]; rfl)
  have hXX : ∀ i, c1.x i < 256 := by rw [← hc1]; exact hx
  have HXX := Lib.hid hXX
  clear hc1 hXX hx
  go_enter Tryd.func16, Tryd.ntmps16
  go_wp2_with fail
  refine (c0 _).mono ?_
  rintro e w1 ⟨rfl, rfl⟩
  go_wp2_with fail
  rw [e1.out]
  have HS0 := Lib.hid (show CA _ w.heap.size c1.cells 32 from VB.out.drew)
  refine wp_region_held_drew (S := fun w9 => CA w9 w.heap.size c1.cells 32) (by kernel_rfl) HS0.out (fun hS => ?_)
  refine wpAnyH_take (i := 0) (v := .agg c1.cells) rfl (by kernel_rfl) (by kernel_rfl) (by kernel_rfl) (fun _ _ _ h => h) (yields32 (by rfl) _ rfl rfl (fun w9 h9 => h9)) hS ?_
  try simp only [Act.put, List.getElem_toArray, List.getElem_cons_zero, List.getElem_cons_succ, List.setIfInBounds_toArray, List.set_cons_zero, List.set_cons_succ]
  refine wpAnyH_take (i := 1) (v := ?_) rfl (by kernel_rfl) (by kernel_rfl) (by kernel_rfl) (fun _ _ _ h => h) (Or.inl ⟨by rfl, ?_⟩) hS ?_
  rotate_left
  · (intro w9 hS9; go_simp; try with_reducible rfl)
  try simp only [Act.put, List.getElem_toArray, List.getElem_cons_zero, List.getElem_cons_succ, List.setIfInBounds_toArray, List.set_cons_zero, List.set_cons_succ]
  refine wpAnyH_take (i := 2) (v := .int .i64 N1) rfl (by kernel_rfl) (by kernel_rfl) (by kernel_rfl) (fun _ _ _ h => h) (Or.inl ⟨by rfl, ?_⟩) hS ?_
  · (intro w9 hS9; have q := (hS9.cell 1).trans HK.out; go_simp)
  try simp only [Act.put, List.getElem_toArray, List.getElem_cons_zero, List.getElem_cons_succ, List.setIfInBounds_toArray, List.set_cons_zero, List.set_cons_succ]
  refine wpAnyH_take (i := 3) (v := ?_) rfl (by kernel_rfl) (by kernel_rfl) (by kernel_rfl) (fun _ _ _ h => h) (Or.inl ⟨by rfl, ?_⟩) hS ?_
  rotate_left
  · (intro w9 hS9; go_simp; try with_reducible rfl)
  try simp only [Act.put, List.getElem_toArray, List.getElem_cons_zero, List.getElem_cons_succ, List.setIfInBounds_toArray, List.set_cons_zero, List.set_cons_succ]
  refine wpAnyH_ready (rs := [4]) (by kernel_rfl) (by simp) (AllReadyH.cons rfl (fun K hK => ?_) AllReadyH.nil)
  rw [if_pos (by rfl)]
  refine wp_store32 _ _ rfl c1 rfl rfl VR.out.drew ?_
  intro w5 hv5 hb5 ho5 _
  simp only [Act.put]
  refine hK.out _ _ (ho5 _ _ _ (by omega) hS) (fun hS => ?_)
  clear hK K
  refine wpAnyH_take (i := 5) (v := ?_) rfl (by kernel_rfl) (by kernel_rfl) (by kernel_rfl) (fun _ _ _ h => h) (Or.inl ⟨by rfl, ?_⟩) hS ?_
  rotate_left
  · (intro w9 hS9; go_simp; try with_reducible rfl)
  try simp only [Act.put, List.getElem_toArray, List.getElem_cons_zero, List.getElem_cons_succ, List.setIfInBounds_toArray, List.set_cons_zero, List.set_cons_succ]
  refine wpAnyH_done (by kernel_rfl) ?_ _
  have HB6 := Lib.hid (hb5 w.heap.size w (Nat.le_succ _) HBW.out.drew)
  have r0 : w5.cell? ⟨w.heap.size + 1, 0, none⟩ = some (.int .i64 c1.wh) := hv5.cell 0
  have r1 : w5.cell? ⟨w.heap.size + 1, 1, none⟩ = some (.int .i64 c1.po) := hv5.cell 1
  have r2 : w5.cell? ⟨w.heap.size + 1, 2, none⟩ = some (.int .i64 c1.nn) := hv5.cell 2
  have r3 : w5.cell? ⟨w.heap.size + 1, 3, none⟩ = some (.bool c1.on) := hv5.cell 3
  have r4 : w5.cell? ⟨w.heap.size + 1, 4, none⟩ = some (.int .u8 (c1.x 0)) := hv5.cell 4
  have r5 : w5.cell? ⟨w.heap.size + 1, 5, none⟩ = some (.int .u8 (c1.x 1)) := hv5.cell 5
  have r6 : w5.cell? ⟨w.heap.size + 1, 6, none⟩ = some (.int .u8 (c1.x 2)) := hv5.cell 6
  have r7 : w5.cell? ⟨w.heap.size + 1, 7, none⟩ = some (.int .u8 (c1.x 3)) := hv5.cell 7
  have r8 : w5.cell? ⟨w.heap.size + 1, 8, none⟩ = some (.int .u8 (c1.x 4)) := hv5.cell 8
  have r9 : w5.cell? ⟨w.heap.size + 1, 9, none⟩ = some (.int .u8 (c1.x 5)) := hv5.cell 9
  clear hv5 hb5 ho5 hS VB VR HBW HS0
  go_wp2_with fail
  exact bodyPost_ret (v := .tuple #[.agg c1.cells, .bool (decide (0 ≤ N1))]) (by simp [results, Tryd.results16, go_sem, r0, r1, r2, r3, r4, r5, r6, r7, r8, r9, Cm.cells]) rfl ⟨⟨c1, by rw [HI.out, HD.out], HXX.out, fun f hf => by rw [HT.out f hf]⟩, HB6.out⟩
set_option maxRecDepth 20000 in
set_option maxHeartbeats 2000000 in
theorem rtakeN (c : Cm) (s : List UInt8) (hx : ∀ i, c.x i < 256) (w : World) : Calls Tryd.prog 16 #[.agg c.cells, .int .u8 110, strV s] w (RTook c [78] s w) := by
  have c0 := fun w => number_any s w
  have HD := Lib.hid (numI_ge s)
  have HT : Hid (∀ f, tk [78] s = some f → f c = { c with nn := numI s }) := Lib.hid (fun f hf => by
    rw [tkN] at hf
    obtain ⟨m, hm, rfl⟩ := Option.map_eq_some_iff.1 hf
    rw [numI_some hm])
  have HI : Hid ((tk [78] s).isSome = (num s).isSome) := Lib.hid (by rw [tkN]; simp)
  generalize numI s = N1 at *
  generalize hc1 : ({ c with nn := N1 } : Cm) = c1 at *
  have HC1 := Lib.hid hc1
  have VB := Lib.hid ((var_new w c1.cells 32).alloc (.cells (zc 0).cells 32))
  have VR := Lib.hid (show CA ((w.alloc (.cells c1.cells 32)).alloc (.cells (zc 0).cells 32)) (w.heap.size + 1) (zc 0).cells 32 by have := var_new (w.alloc (.cells c1.cells 32)) (zc 0).cells 32; rwa [alloc_size] at this)
  have HBW := Lib.hid ((box_below w (.cells c1.cells 32)).alloc (by rw [alloc_size]; omega) (.cells (zc 0).cells 32))
  have e1 := Lib.hid (show c.cells.setIfInBounds 2 (.int .i64 N1) = c1.cells by rw [← HC1.out]; rfl)
  have HK : Hid (c1.cells[2]? = some (.int .i64 N1)) := Lib.hid (by rw [← HC1.out]; rfl)
  have hXX : ∀ i, c1.x i < 256 := by rw [← hc1]; exact hx
  have HXX := Lib.hid hXX
  clear hc1 hXX hx
  go_enter Tryd.func16, Tryd.ntmps16
  go_wp2_with fail
  refine (c0 _).mono ?_
  rintro e w1 ⟨rfl, rfl⟩
  go_wp2_with fail
  rw [e1.out]
  have HS0 := Lib.hid (show CA _ w.heap.size c1.cells 32 from VB.out.drew)
  refine wp_region_held_drew (S := fun w9 => CA w9 w.heap.size c1.cells 32) (by kernel_rfl) HS0.out (fun hS => ?_)
  refine wpAnyH_take (i := 0) (v := .agg c1.cells) rfl (by kernel_rfl) (by kernel_rfl) (by kernel_rfl) (fun _ _ _ h => h) (yields32 (by rfl) _ rfl rfl (fun w9 h9 => h9)) hS ?_
  try simp only [Act.put, List.getElem_toArray, List.getElem_cons_zero, List.getElem_cons_succ, List.setIfInBounds_toArray, List.set_cons_zero, List.set_cons_succ]
  refine wpAnyH_take (i := 1) (v := ?_) rfl (by kernel_rfl) (by kernel_rfl) (by kernel_rfl) (fun _ _ _ h => h) (Or.inl ⟨by rfl, ?_⟩) hS ?_
  rotate_left
  · (intro w9 hS9; go_simp; try with_reducible rfl)
  try simp only [Act.put, List.getElem_toArray, List.getElem_cons_zero, List.getElem_cons_succ, List.setIfInBounds_toArray, List.set_cons_zero, List.set_cons_succ]
  refine wpAnyH_take (i := 2) (v := .int .i64 N1) rfl (by kernel_rfl) (by kernel_rfl) (by kernel_rfl) (fun _ _ _ h => h) (Or.inl ⟨by rfl, ?_⟩) hS ?_
  · (intro w9 hS9; have q := (hS9.cell 2).trans HK.out; go_simp)
  try simp only [Act.put, List.getElem_toArray, List.getElem_cons_zero, List.getElem_cons_succ, List.setIfInBounds_toArray, List.set_cons_zero, List.set_cons_succ]
  refine wpAnyH_take (i := 3) (v := ?_) rfl (by kernel_rfl) (by kernel_rfl) (by kernel_rfl) (fun _ _ _ h => h) (Or.inl ⟨by rfl, ?_⟩) hS ?_
  rotate_left
  · (intro w9 hS9; go_simp; try with_reducible rfl)
  try simp only [Act.put, List.getElem_toArray, List.getElem_cons_zero, List.getElem_cons_succ, List.setIfInBounds_toArray, List.set_cons_zero, List.set_cons_succ]
  refine wpAnyH_ready (rs := [4]) (by kernel_rfl) (by simp) (AllReadyH.cons rfl (fun K hK => ?_) AllReadyH.nil)
  rw [if_pos (by rfl)]
  refine wp_store32 _ _ rfl c1 rfl rfl VR.out.drew ?_
  intro w5 hv5 hb5 ho5 _
  simp only [Act.put]
  refine hK.out _ _ (ho5 _ _ _ (by omega) hS) (fun hS => ?_)
  clear hK K
  refine wpAnyH_take (i := 5) (v := ?_) rfl (by kernel_rfl) (by kernel_rfl) (by kernel_rfl) (fun _ _ _ h => h) (Or.inl ⟨by rfl, ?_⟩) hS ?_
  rotate_left
  · (intro w9 hS9; go_simp; try with_reducible rfl)
  try simp only [Act.put, List.getElem_toArray, List.getElem_cons_zero, List.getElem_cons_succ, List.setIfInBounds_toArray, List.set_cons_zero, List.set_cons_succ]
  refine wpAnyH_done (by kernel_rfl) ?_ _
  have HB6 := Lib.hid (hb5 w.heap.size w (Nat.le_succ _) HBW.out.drew)
  have r0 : w5.cell? ⟨w.heap.size + 1, 0, none⟩ = some (.int .i64 c1.wh) := hv5.cell 0
  have r1 : w5.cell? ⟨w.heap.size + 1, 1, none⟩ = some (.int .i64 c1.po) := hv5.cell 1
  have r2 : w5.cell? ⟨w.heap.size + 1, 2, none⟩ = some (.int .i64 c1.nn) := hv5.cell 2
  have r3 : w5.cell? ⟨w.heap.size + 1, 3, none⟩ = some (.bool c1.on) := hv5.cell 3
  have r4 : w5.cell? ⟨w.heap.size + 1, 4, none⟩ = some (.int .u8 (c1.x 0)) := hv5.cell 4
  have r5 : w5.cell? ⟨w.heap.size + 1, 5, none⟩ = some (.int .u8 (c1.x 1)) := hv5.cell 5
  have r6 : w5.cell? ⟨w.heap.size + 1, 6, none⟩ = some (.int .u8 (c1.x 2)) := hv5.cell 6
  have r7 : w5.cell? ⟨w.heap.size + 1, 7, none⟩ = some (.int .u8 (c1.x 3)) := hv5.cell 7
  have r8 : w5.cell? ⟨w.heap.size + 1, 8, none⟩ = some (.int .u8 (c1.x 4)) := hv5.cell 8
  have r9 : w5.cell? ⟨w.heap.size + 1, 9, none⟩ = some (.int .u8 (c1.x 5)) := hv5.cell 9
  clear hv5 hb5 ho5 hS VB VR HBW HS0
  go_wp2_with fail
  exact bodyPost_ret (v := .tuple #[.agg c1.cells, .bool (decide (0 ≤ N1))]) (by simp [results, Tryd.results16, go_sem, r0, r1, r2, r3, r4, r5, r6, r7, r8, r9, Cm.cells]) rfl ⟨⟨c1, by rw [HI.out, HD.out], HXX.out, fun f hf => by rw [HT.out f hf]⟩, HB6.out⟩
set_option maxRecDepth 20000 in
set_option maxHeartbeats 2000000 in
theorem rtakeO (c : Cm) (s : List UInt8) (hx : ∀ i, c.x i < 256) (w : World) : Calls Tryd.prog 16 #[.agg c.cells, .int .u8 111, strV s] w (RTook c [79] s w) := by
  by_cases h1 : s = [111, 110]
  · subst h1
    have HT : Hid (tk [79] [111, 110] = some fun c => { c with on := true }) := Lib.hid (by rw [tkO]; simp)
    generalize hc1 : ({ c with on := true } : Cm) = c1 at *
    have HC1 := Lib.hid hc1
    have VB := Lib.hid ((var_new w c1.cells 32).alloc (.cells (zc 0).cells 32))
    have VR := Lib.hid (show CA ((w.alloc (.cells c1.cells 32)).alloc (.cells (zc 0).cells 32)) (w.heap.size + 1) (zc 0).cells 32 by have := var_new (w.alloc (.cells c1.cells 32)) (zc 0).cells 32; rwa [alloc_size] at this)
    have HBW := Lib.hid ((box_below w (.cells c1.cells 32)).alloc (by rw [alloc_size]; omega) (.cells (zc 0).cells 32))
    have hXX : ∀ i, c1.x i < 256 := by rw [← hc1]; exact hx
    have HXX := Lib.hid hXX
    have e1 := Lib.hid (show c.cells.setIfInBounds 3 (.bool true) = c1.cells by rw [← HC1.out]; rfl)
    clear hc1 hXX hx
    go_enter Tryd.func16, Tryd.ntmps16
    go_wp2_with (with_reducible refine stopL 32 (.tmp 3) rfl ?_)
    refine Lib.hid ?_
    rw [e1.out]
    refine wpl_load32 (by kernel_rfl) _ rfl rfl VB.out ?_
    go_wp2_with (with_reducible refine stopS 32 (.tmp 6) (.tmp 34) rfl ?_)
    refine Lib.hid ?_
    refine wpl_store32 rfl _ _ rfl c1 rfl rfl VR.out ?_
    intro w5 hv5 hb5 _ _
    have HB6 := Lib.hid (hb5 w.heap.size w (Nat.le_succ _) HBW.out)
    have r0 : w5.cell? ⟨w.heap.size + 1, 0, none⟩ = some (.int .i64 c1.wh) := hv5.cell 0
    have r1 : w5.cell? ⟨w.heap.size + 1, 1, none⟩ = some (.int .i64 c1.po) := hv5.cell 1
    have r2 : w5.cell? ⟨w.heap.size + 1, 2, none⟩ = some (.int .i64 c1.nn) := hv5.cell 2
    have r3 : w5.cell? ⟨w.heap.size + 1, 3, none⟩ = some (.bool c1.on) := hv5.cell 3
    have r4 : w5.cell? ⟨w.heap.size + 1, 4, none⟩ = some (.int .u8 (c1.x 0)) := hv5.cell 4
    have r5 : w5.cell? ⟨w.heap.size + 1, 5, none⟩ = some (.int .u8 (c1.x 1)) := hv5.cell 5
    have r6 : w5.cell? ⟨w.heap.size + 1, 6, none⟩ = some (.int .u8 (c1.x 2)) := hv5.cell 6
    have r7 : w5.cell? ⟨w.heap.size + 1, 7, none⟩ = some (.int .u8 (c1.x 3)) := hv5.cell 7
    have r8 : w5.cell? ⟨w.heap.size + 1, 8, none⟩ = some (.int .u8 (c1.x 4)) := hv5.cell 8
    have r9 : w5.cell? ⟨w.heap.size + 1, 9, none⟩ = some (.int .u8 (c1.x 5)) := hv5.cell 9
    clear hv5 hb5 VB VR HBW
    go_wp2_with fail
    exact bodyPost_ret (v := .tuple #[.agg c1.cells, .bool true]) (by simp [results, Tryd.results16, go_sem, r0, r1, r2, r3, r4, r5, r6, r7, r8, r9, Cm.cells]) rfl ⟨⟨c1, by rw [HT.out]; rfl, HXX.out, fun f hf => by rw [HT.out] at hf; rw [← Option.some.inj hf, ← HC1.out]⟩, HB6.out⟩
  by_cases h2 : s = [111, 102, 102]
  · subst h2
    have HT : Hid (tk [79] [111, 102, 102] = some fun c => { c with on := false }) := Lib.hid (by rw [tkO]; simp)
    generalize hc1 : ({ c with on := false } : Cm) = c1 at *
    have HC1 := Lib.hid hc1
    have VB := Lib.hid ((var_new w c1.cells 32).alloc (.cells (zc 0).cells 32))
    have VR := Lib.hid (show CA ((w.alloc (.cells c1.cells 32)).alloc (.cells (zc 0).cells 32)) (w.heap.size + 1) (zc 0).cells 32 by have := var_new (w.alloc (.cells c1.cells 32)) (zc 0).cells 32; rwa [alloc_size] at this)
    have HBW := Lib.hid ((box_below w (.cells c1.cells 32)).alloc (by rw [alloc_size]; omega) (.cells (zc 0).cells 32))
    have hXX : ∀ i, c1.x i < 256 := by rw [← hc1]; exact hx
    have HXX := Lib.hid hXX
    have e1 := Lib.hid (show c.cells.setIfInBounds 3 (.bool false) = c1.cells by rw [← HC1.out]; rfl)
    clear hc1 hXX hx
    go_enter Tryd.func16, Tryd.ntmps16
    go_wp2_with (with_reducible refine stopL 32 (.tmp 3) rfl ?_)
    refine Lib.hid ?_
    rw [e1.out]
    refine wpl_load32 (by kernel_rfl) _ rfl rfl VB.out ?_
    go_wp2_with (with_reducible refine stopS 32 (.tmp 6) (.tmp 34) rfl ?_)
    refine Lib.hid ?_
    refine wpl_store32 rfl _ _ rfl c1 rfl rfl VR.out ?_
    intro w5 hv5 hb5 _ _
    have HB6 := Lib.hid (hb5 w.heap.size w (Nat.le_succ _) HBW.out)
    have r0 : w5.cell? ⟨w.heap.size + 1, 0, none⟩ = some (.int .i64 c1.wh) := hv5.cell 0
    have r1 : w5.cell? ⟨w.heap.size + 1, 1, none⟩ = some (.int .i64 c1.po) := hv5.cell 1
    have r2 : w5.cell? ⟨w.heap.size + 1, 2, none⟩ = some (.int .i64 c1.nn) := hv5.cell 2
    have r3 : w5.cell? ⟨w.heap.size + 1, 3, none⟩ = some (.bool c1.on) := hv5.cell 3
    have r4 : w5.cell? ⟨w.heap.size + 1, 4, none⟩ = some (.int .u8 (c1.x 0)) := hv5.cell 4
    have r5 : w5.cell? ⟨w.heap.size + 1, 5, none⟩ = some (.int .u8 (c1.x 1)) := hv5.cell 5
    have r6 : w5.cell? ⟨w.heap.size + 1, 6, none⟩ = some (.int .u8 (c1.x 2)) := hv5.cell 6
    have r7 : w5.cell? ⟨w.heap.size + 1, 7, none⟩ = some (.int .u8 (c1.x 3)) := hv5.cell 7
    have r8 : w5.cell? ⟨w.heap.size + 1, 8, none⟩ = some (.int .u8 (c1.x 4)) := hv5.cell 8
    have r9 : w5.cell? ⟨w.heap.size + 1, 9, none⟩ = some (.int .u8 (c1.x 5)) := hv5.cell 9
    clear hv5 hb5 VB VR HBW
    go_wp2_with fail
    exact bodyPost_ret (v := .tuple #[.agg c1.cells, .bool true]) (by simp [results, Tryd.results16, go_sem, r0, r1, r2, r3, r4, r5, r6, r7, r8, r9, Cm.cells]) rfl ⟨⟨c1, by rw [HT.out]; rfl, HXX.out, fun f hf => by rw [HT.out] at hf; rw [← Option.some.inj hf, ← HC1.out]⟩, HB6.out⟩
  have k1 := lst_ne h1
  have k2 := lst_ne h2
  · have HT : Hid (tk [79] s = none) := Lib.hid (by rw [tkO]; rw [if_neg h1, if_neg h2])
    generalize hc1 : ({ c with on := false } : Cm) = c1 at *
    have HC1 := Lib.hid hc1
    have VB := Lib.hid ((var_new w c1.cells 32).alloc (.cells (zc 0).cells 32))
    have VR := Lib.hid (show CA ((w.alloc (.cells c1.cells 32)).alloc (.cells (zc 0).cells 32)) (w.heap.size + 1) (zc 0).cells 32 by have := var_new (w.alloc (.cells c1.cells 32)) (zc 0).cells 32; rwa [alloc_size] at this)
    have HBW := Lib.hid ((box_below w (.cells c1.cells 32)).alloc (by rw [alloc_size]; omega) (.cells (zc 0).cells 32))
    have hXX : ∀ i, c1.x i < 256 := by rw [← hc1]; exact hx
    have HXX := Lib.hid hXX
    have e1 := Lib.hid (show c.cells.setIfInBounds 3 (.bool false) = c1.cells by rw [← HC1.out]; rfl)
    clear hc1 hXX hx
    go_enter Tryd.func16, Tryd.ntmps16
    go_wp2_with (with_reducible refine stopL 32 (.tmp 3) rfl ?_)
    refine Lib.hid ?_
    rw [e1.out]
    refine wpl_load32 (by kernel_rfl) _ rfl rfl VB.out ?_
    go_wp2_with (with_reducible refine stopS 32 (.tmp 6) (.tmp 34) rfl ?_)
    refine Lib.hid ?_
    refine wpl_store32 rfl _ _ rfl c1 rfl rfl VR.out ?_
    intro w5 hv5 hb5 _ _
    have HB6 := Lib.hid (hb5 w.heap.size w (Nat.le_succ _) HBW.out)
    have r0 : w5.cell? ⟨w.heap.size + 1, 0, none⟩ = some (.int .i64 c1.wh) := hv5.cell 0
    have r1 : w5.cell? ⟨w.heap.size + 1, 1, none⟩ = some (.int .i64 c1.po) := hv5.cell 1
    have r2 : w5.cell? ⟨w.heap.size + 1, 2, none⟩ = some (.int .i64 c1.nn) := hv5.cell 2
    have r3 : w5.cell? ⟨w.heap.size + 1, 3, none⟩ = some (.bool c1.on) := hv5.cell 3
    have r4 : w5.cell? ⟨w.heap.size + 1, 4, none⟩ = some (.int .u8 (c1.x 0)) := hv5.cell 4
    have r5 : w5.cell? ⟨w.heap.size + 1, 5, none⟩ = some (.int .u8 (c1.x 1)) := hv5.cell 5
    have r6 : w5.cell? ⟨w.heap.size + 1, 6, none⟩ = some (.int .u8 (c1.x 2)) := hv5.cell 6
    have r7 : w5.cell? ⟨w.heap.size + 1, 7, none⟩ = some (.int .u8 (c1.x 3)) := hv5.cell 7
    have r8 : w5.cell? ⟨w.heap.size + 1, 8, none⟩ = some (.int .u8 (c1.x 4)) := hv5.cell 8
    have r9 : w5.cell? ⟨w.heap.size + 1, 9, none⟩ = some (.int .u8 (c1.x 5)) := hv5.cell 9
    clear hv5 hb5 VB VR HBW
    go_wp2_with fail
    exact bodyPost_ret (v := .tuple #[.agg c1.cells, .bool false]) (by simp [results, Tryd.results16, go_sem, r0, r1, r2, r3, r4, r5, r6, r7, r8, r9, Cm.cells]) rfl ⟨⟨c1, by rw [HT.out]; rfl, HXX.out, fun f hf => by rw [HT.out] at hf; cases hf⟩, HB6.out⟩
set_option maxRecDepth 20000 in
set_option maxHeartbeats 2000000 in
theorem rtakeL (c : Cm) (s : List UInt8) (hx : ∀ i, c.x i < 256) (w : World) : Calls Tryd.prog 16 #[.agg c.cells, .int .u8 108, strV s] w (RTook c [76] s w) := by
  by_cases h0 : s = [97, 117, 116, 111]
  · subst h0
    have HT : Hid (tk [76] [97, 117, 116, 111] = some fun c => { c with nn := ((0 : Nat) : Int) }) := Lib.hid (by rw [tkL]; rfl)
    obtain ⟨N1, hN1⟩ : ∃ N1 : Int, N1 = 0 := ⟨_, rfl⟩
    generalize hc1 : ({ c with nn := N1 } : Cm) = c1 at *
    have HC1 := Lib.hid hc1
    have VB := Lib.hid ((var_new w c1.cells 32).alloc (.cells (zc 0).cells 32))
    have VR := Lib.hid (show CA ((w.alloc (.cells c1.cells 32)).alloc (.cells (zc 0).cells 32)) (w.heap.size + 1) (zc 0).cells 32 by have := var_new (w.alloc (.cells c1.cells 32)) (zc 0).cells 32; rwa [alloc_size] at this)
    have HBW := Lib.hid ((box_below w (.cells c1.cells 32)).alloc (by rw [alloc_size]; omega) (.cells (zc 0).cells 32))
    have hXX : ∀ i, c1.x i < 256 := by rw [← hc1]; exact hx
    have HXX := Lib.hid hXX
    have HK : Hid (c1.cells[2]? = some (.int .i64 N1)) := Lib.hid (by rw [← HC1.out]; rfl)
    have e1 := Lib.hid (show c.cells.setIfInBounds 2 (.int .i64 0) = c1.cells by rw [← HC1.out, hN1]; rfl)
    have HN1 := Lib.hid hN1
    clear hc1 hXX hx hN1
    go_enter Tryd.func16, Tryd.ntmps16
    go_wp2_with fail
    rw [e1.out]
    have HS0 := Lib.hid (show CA _ w.heap.size c1.cells 32 from VB.out.drew)
    refine wp_region_held_drew (S := fun w9 => CA w9 w.heap.size c1.cells 32) (by kernel_rfl) HS0.out (fun hS => ?_)
    refine wpAnyH_take (i := 0) (v := .agg c1.cells) rfl (by kernel_rfl) (by kernel_rfl) (by kernel_rfl) (fun _ _ _ h => h) (yields32 (by rfl) _ rfl rfl (fun w9 h9 => h9)) hS ?_
    try simp only [Act.put, List.getElem_toArray, List.getElem_cons_zero, List.getElem_cons_succ, List.setIfInBounds_toArray, List.set_cons_zero, List.set_cons_succ]
    refine wpAnyH_take (i := 1) (v := ?_) rfl (by kernel_rfl) (by kernel_rfl) (by kernel_rfl) (fun _ _ _ h => h) (Or.inl ⟨by rfl, ?_⟩) hS ?_
    rotate_left
    · (intro w9 hS9; go_simp; try with_reducible rfl)
    try simp only [Act.put, List.getElem_toArray, List.getElem_cons_zero, List.getElem_cons_succ, List.setIfInBounds_toArray, List.set_cons_zero, List.set_cons_succ]
    refine wpAnyH_take (i := 2) (v := .int .i64 N1) rfl (by kernel_rfl) (by kernel_rfl) (by kernel_rfl) (fun _ _ _ h => h) (Or.inl ⟨by rfl, ?_⟩) hS ?_
    · (intro w9 hS9; have q := (hS9.cell 2).trans HK.out; go_simp)
    try simp only [Act.put, List.getElem_toArray, List.getElem_cons_zero, List.getElem_cons_succ, List.setIfInBounds_toArray, List.set_cons_zero, List.set_cons_succ]
    refine wpAnyH_take (i := 3) (v := ?_) rfl (by kernel_rfl) (by kernel_rfl) (by kernel_rfl) (fun _ _ _ h => h) (Or.inl ⟨by rfl, ?_⟩) hS ?_
    rotate_left
    · (intro w9 hS9; go_simp; try with_reducible rfl)
    try simp only [Act.put, List.getElem_toArray, List.getElem_cons_zero, List.getElem_cons_succ, List.setIfInBounds_toArray, List.set_cons_zero, List.set_cons_succ]
    refine wpAnyH_ready (rs := [4]) (by kernel_rfl) (by simp) (AllReadyH.cons rfl (fun K hK => ?_) AllReadyH.nil)
    rw [if_pos (by rfl)]
    refine wp_store32 _ _ rfl c1 rfl rfl VR.out.drew ?_
    intro w5 hv5 hb5 ho5 _
    simp only [Act.put]
    refine hK.out _ _ (ho5 _ _ _ (by omega) hS) (fun hS => ?_)
    clear hK K
    refine wpAnyH_take (i := 5) (v := ?_) rfl (by kernel_rfl) (by kernel_rfl) (by kernel_rfl) (fun _ _ _ h => h) (Or.inl ⟨by rfl, ?_⟩) hS ?_
    rotate_left
    · (intro w9 hS9; go_simp; try with_reducible rfl)
    try simp only [Act.put, List.getElem_toArray, List.getElem_cons_zero, List.getElem_cons_succ, List.setIfInBounds_toArray, List.set_cons_zero, List.set_cons_succ]
    refine wpAnyH_done (by kernel_rfl) ?_ _
    have HB6 := Lib.hid (hb5 w.heap.size w (Nat.le_succ _) HBW.out.drew)
    have r0 : w5.cell? ⟨w.heap.size + 1, 0, none⟩ = some (.int .i64 c1.wh) := hv5.cell 0
    have r1 : w5.cell? ⟨w.heap.size + 1, 1, none⟩ = some (.int .i64 c1.po) := hv5.cell 1
    have r2 : w5.cell? ⟨w.heap.size + 1, 2, none⟩ = some (.int .i64 c1.nn) := hv5.cell 2
    have r3 : w5.cell? ⟨w.heap.size + 1, 3, none⟩ = some (.bool c1.on) := hv5.cell 3
    have r4 : w5.cell? ⟨w.heap.size + 1, 4, none⟩ = some (.int .u8 (c1.x 0)) := hv5.cell 4
    have r5 : w5.cell? ⟨w.heap.size + 1, 5, none⟩ = some (.int .u8 (c1.x 1)) := hv5.cell 5
    have r6 : w5.cell? ⟨w.heap.size + 1, 6, none⟩ = some (.int .u8 (c1.x 2)) := hv5.cell 6
    have r7 : w5.cell? ⟨w.heap.size + 1, 7, none⟩ = some (.int .u8 (c1.x 3)) := hv5.cell 7
    have r8 : w5.cell? ⟨w.heap.size + 1, 8, none⟩ = some (.int .u8 (c1.x 4)) := hv5.cell 8
    have r9 : w5.cell? ⟨w.heap.size + 1, 9, none⟩ = some (.int .u8 (c1.x 5)) := hv5.cell 9
    clear hv5 hb5 ho5 hS VB VR HBW HS0
    go_wp2_with fail
    exact bodyPost_ret (v := .tuple #[.agg c1.cells, .bool (decide (0 ≤ N1))]) (by simp [results, Tryd.results16, go_sem, r0, r1, r2, r3, r4, r5, r6, r7, r8, r9, Cm.cells]) rfl ⟨⟨c1, by rw [HT.out, HN1.out]; rfl, HXX.out, fun f hf => by rw [HT.out] at hf; rw [← Option.some.inj hf, ← HC1.out, HN1.out]; rfl⟩, HB6.out⟩
  by_cases h1 : s = [116, 119, 111]
  · subst h1
    have HT : Hid (tk [76] [116, 119, 111] = some fun c => { c with nn := ((1 : Nat) : Int) }) := Lib.hid (by rw [tkL]; rfl)
    obtain ⟨N1, hN1⟩ : ∃ N1 : Int, N1 = 1 := ⟨_, rfl⟩
    generalize hc1 : ({ c with nn := N1 } : Cm) = c1 at *
    have HC1 := Lib.hid hc1
    have VB := Lib.hid ((var_new w c1.cells 32).alloc (.cells (zc 0).cells 32))
    have VR := Lib.hid (show CA ((w.alloc (.cells c1.cells 32)).alloc (.cells (zc 0).cells 32)) (w.heap.size + 1) (zc 0).cells 32 by have := var_new (w.alloc (.cells c1.cells 32)) (zc 0).cells 32; rwa [alloc_size] at this)
    have HBW := Lib.hid ((box_below w (.cells c1.cells 32)).alloc (by rw [alloc_size]; omega) (.cells (zc 0).cells 32))
    have hXX : ∀ i, c1.x i < 256 := by rw [← hc1]; exact hx
    have HXX := Lib.hid hXX
    have HK : Hid (c1.cells[2]? = some (.int .i64 N1)) := Lib.hid (by rw [← HC1.out]; rfl)
    have e1 := Lib.hid (show c.cells.setIfInBounds 2 (.int .i64 1) = c1.cells by rw [← HC1.out, hN1]; rfl)
    have HN1 := Lib.hid hN1
    clear hc1 hXX hx hN1
    go_enter Tryd.func16, Tryd.ntmps16
    go_wp2_with fail
    rw [e1.out]
    have HS0 := Lib.hid (show CA _ w.heap.size c1.cells 32 from VB.out.drew)
    refine wp_region_held_drew (S := fun w9 => CA w9 w.heap.size c1.cells 32) (by kernel_rfl) HS0.out (fun hS => ?_)
    refine wpAnyH_take (i := 0) (v := .agg c1.cells) rfl (by kernel_rfl) (by kernel_rfl) (by kernel_rfl) (fun _ _ _ h => h) (yields32 (by rfl) _ rfl rfl (fun w9 h9 => h9)) hS ?_
    try simp only [Act.put, List.getElem_toArray, List.getElem_cons_zero, List.getElem_cons_succ, List.setIfInBounds_toArray, List.set_cons_zero, List.set_cons_succ]
    refine wpAnyH_take (i := 1) (v := ?_) rfl (by kernel_rfl) (by kernel_rfl) (by kernel_rfl) (fun _ _ _ h => h) (Or.inl ⟨by rfl, ?_⟩) hS ?_
    rotate_left
    · (intro w9 hS9; go_simp; try with_reducible rfl)
    try simp only [Act.put, List.getElem_toArray, List.getElem_cons_zero, List.getElem_cons_succ, List.setIfInBounds_toArray, List.set_cons_zero, List.set_cons_succ]
    refine wpAnyH_take (i := 2) (v := .int .i64 N1) rfl (by kernel_rfl) (by kernel_rfl) (by kernel_rfl) (fun _ _ _ h => h) (Or.inl ⟨by rfl, ?_⟩) hS ?_
    · (intro w9 hS9; have q := (hS9.cell 2).trans HK.out; go_simp)
    try simp only [Act.put, List.getElem_toArray, List.getElem_cons_zero, List.getElem_cons_succ, List.setIfInBounds_toArray, List.set_cons_zero, List.set_cons_succ]
    refine wpAnyH_take (i := 3) (v := ?_) rfl (by kernel_rfl) (by kernel_rfl) (by kernel_rfl) (fun _ _ _ h => h) (Or.inl ⟨by rfl, ?_⟩) hS ?_
    rotate_left
    · (intro w9 hS9; go_simp; try with_reducible rfl)
    try simp only [Act.put, List.getElem_toArray, List.getElem_cons_zero, List.getElem_cons_succ, List.setIfInBounds_toArray, List.set_cons_zero, List.set_cons_succ]
    refine wpAnyH_ready (rs := [4]) (by kernel_rfl) (by simp) (AllReadyH.cons rfl (fun K hK => ?_) AllReadyH.nil)
    rw [if_pos (by rfl)]
    refine wp_store32 _ _ rfl c1 rfl rfl VR.out.drew ?_
    intro w5 hv5 hb5 ho5 _
    simp only [Act.put]
    refine hK.out _ _ (ho5 _ _ _ (by omega) hS) (fun hS => ?_)
    clear hK K
    refine wpAnyH_take (i := 5) (v := ?_) rfl (by kernel_rfl) (by kernel_rfl) (by kernel_rfl) (fun _ _ _ h => h) (Or.inl ⟨by rfl, ?_⟩) hS ?_
    rotate_left
    · (intro w9 hS9; go_simp; try with_reducible rfl)
    try simp only [Act.put, List.getElem_toArray, List.getElem_cons_zero, List.getElem_cons_succ, List.setIfInBounds_toArray, List.set_cons_zero, List.set_cons_succ]
    refine wpAnyH_done (by kernel_rfl) ?_ _
    have HB6 := Lib.hid (hb5 w.heap.size w (Nat.le_succ _) HBW.out.drew)
    have r0 : w5.cell? ⟨w.heap.size + 1, 0, none⟩ = some (.int .i64 c1.wh) := hv5.cell 0
    have r1 : w5.cell? ⟨w.heap.size + 1, 1, none⟩ = some (.int .i64 c1.po) := hv5.cell 1
    have r2 : w5.cell? ⟨w.heap.size + 1, 2, none⟩ = some (.int .i64 c1.nn) := hv5.cell 2
    have r3 : w5.cell? ⟨w.heap.size + 1, 3, none⟩ = some (.bool c1.on) := hv5.cell 3
    have r4 : w5.cell? ⟨w.heap.size + 1, 4, none⟩ = some (.int .u8 (c1.x 0)) := hv5.cell 4
    have r5 : w5.cell? ⟨w.heap.size + 1, 5, none⟩ = some (.int .u8 (c1.x 1)) := hv5.cell 5
    have r6 : w5.cell? ⟨w.heap.size + 1, 6, none⟩ = some (.int .u8 (c1.x 2)) := hv5.cell 6
    have r7 : w5.cell? ⟨w.heap.size + 1, 7, none⟩ = some (.int .u8 (c1.x 3)) := hv5.cell 7
    have r8 : w5.cell? ⟨w.heap.size + 1, 8, none⟩ = some (.int .u8 (c1.x 4)) := hv5.cell 8
    have r9 : w5.cell? ⟨w.heap.size + 1, 9, none⟩ = some (.int .u8 (c1.x 5)) := hv5.cell 9
    clear hv5 hb5 ho5 hS VB VR HBW HS0
    go_wp2_with fail
    exact bodyPost_ret (v := .tuple #[.agg c1.cells, .bool (decide (0 ≤ N1))]) (by simp [results, Tryd.results16, go_sem, r0, r1, r2, r3, r4, r5, r6, r7, r8, r9, Cm.cells]) rfl ⟨⟨c1, by rw [HT.out, HN1.out]; rfl, HXX.out, fun f hf => by rw [HT.out] at hf; rw [← Option.some.inj hf, ← HC1.out, HN1.out]; rfl⟩, HB6.out⟩
  by_cases h2 : s = [109, 97, 110, 121]
  · subst h2
    have HT : Hid (tk [76] [109, 97, 110, 121] = some fun c => { c with nn := ((2 : Nat) : Int) }) := Lib.hid (by rw [tkL]; rfl)
    obtain ⟨N1, hN1⟩ : ∃ N1 : Int, N1 = 2 := ⟨_, rfl⟩
    generalize hc1 : ({ c with nn := N1 } : Cm) = c1 at *
    have HC1 := Lib.hid hc1
    have VB := Lib.hid ((var_new w c1.cells 32).alloc (.cells (zc 0).cells 32))
    have VR := Lib.hid (show CA ((w.alloc (.cells c1.cells 32)).alloc (.cells (zc 0).cells 32)) (w.heap.size + 1) (zc 0).cells 32 by have := var_new (w.alloc (.cells c1.cells 32)) (zc 0).cells 32; rwa [alloc_size] at this)
    have HBW := Lib.hid ((box_below w (.cells c1.cells 32)).alloc (by rw [alloc_size]; omega) (.cells (zc 0).cells 32))
    have hXX : ∀ i, c1.x i < 256 := by rw [← hc1]; exact hx
    have HXX := Lib.hid hXX
    have HK : Hid (c1.cells[2]? = some (.int .i64 N1)) := Lib.hid (by rw [← HC1.out]; rfl)
    have e1 := Lib.hid (show c.cells.setIfInBounds 2 (.int .i64 2) = c1.cells by rw [← HC1.out, hN1]; rfl)
    have HN1 := Lib.hid hN1
    clear hc1 hXX hx hN1
    go_enter Tryd.func16, Tryd.ntmps16
    go_wp2_with fail
    rw [e1.out]
    have HS0 := Lib.hid (show CA _ w.heap.size c1.cells 32 from VB.out.drew)
    refine wp_region_held_drew (S := fun w9 => CA w9 w.heap.size c1.cells 32) (by kernel_rfl) HS0.out (fun hS => ?_)
    refine wpAnyH_take (i := 0) (v := .agg c1.cells) rfl (by kernel_rfl) (by kernel_rfl) (by kernel_rfl) (fun _ _ _ h => h) (yields32 (by rfl) _ rfl rfl (fun w9 h9 => h9)) hS ?_
    try simp only [Act.put, List.getElem_toArray, List.getElem_cons_zero, List.getElem_cons_succ, List.setIfInBounds_toArray, List.set_cons_zero, List.set_cons_succ]
    refine wpAnyH_take (i := 1) (v := ?_) rfl (by kernel_rfl) (by kernel_rfl) (by kernel_rfl) (fun _ _ _ h => h) (Or.inl ⟨by rfl, ?_⟩) hS ?_
    rotate_left
    · (intro w9 hS9; go_simp; try with_reducible rfl)
    try simp only [Act.put, List.getElem_toArray, List.getElem_cons_zero, List.getElem_cons_succ, List.setIfInBounds_toArray, List.set_cons_zero, List.set_cons_succ]
    refine wpAnyH_take (i := 2) (v := .int .i64 N1) rfl (by kernel_rfl) (by kernel_rfl) (by kernel_rfl) (fun _ _ _ h => h) (Or.inl ⟨by rfl, ?_⟩) hS ?_
    · (intro w9 hS9; have q := (hS9.cell 2).trans HK.out; go_simp)
    try simp only [Act.put, List.getElem_toArray, List.getElem_cons_zero, List.getElem_cons_succ, List.setIfInBounds_toArray, List.set_cons_zero, List.set_cons_succ]
    refine wpAnyH_take (i := 3) (v := ?_) rfl (by kernel_rfl) (by kernel_rfl) (by kernel_rfl) (fun _ _ _ h => h) (Or.inl ⟨by rfl, ?_⟩) hS ?_
    rotate_left
    · (intro w9 hS9; go_simp; try with_reducible rfl)
    try simp only [Act.put, List.getElem_toArray, List.getElem_cons_zero, List.getElem_cons_succ, List.setIfInBounds_toArray, List.set_cons_zero, List.set_cons_succ]
    refine wpAnyH_ready (rs := [4]) (by kernel_rfl) (by simp) (AllReadyH.cons rfl (fun K hK => ?_) AllReadyH.nil)
    rw [if_pos (by rfl)]
    refine wp_store32 _ _ rfl c1 rfl rfl VR.out.drew ?_
    intro w5 hv5 hb5 ho5 _
    simp only [Act.put]
    refine hK.out _ _ (ho5 _ _ _ (by omega) hS) (fun hS => ?_)
    clear hK K
    refine wpAnyH_take (i := 5) (v := ?_) rfl (by kernel_rfl) (by kernel_rfl) (by kernel_rfl) (fun _ _ _ h => h) (Or.inl ⟨by rfl, ?_⟩) hS ?_
    rotate_left
    · (intro w9 hS9; go_simp; try with_reducible rfl)
    try simp only [Act.put, List.getElem_toArray, List.getElem_cons_zero, List.getElem_cons_succ, List.setIfInBounds_toArray, List.set_cons_zero, List.set_cons_succ]
    refine wpAnyH_done (by kernel_rfl) ?_ _
    have HB6 := Lib.hid (hb5 w.heap.size w (Nat.le_succ _) HBW.out.drew)
    have r0 : w5.cell? ⟨w.heap.size + 1, 0, none⟩ = some (.int .i64 c1.wh) := hv5.cell 0
    have r1 : w5.cell? ⟨w.heap.size + 1, 1, none⟩ = some (.int .i64 c1.po) := hv5.cell 1
    have r2 : w5.cell? ⟨w.heap.size + 1, 2, none⟩ = some (.int .i64 c1.nn) := hv5.cell 2
    have r3 : w5.cell? ⟨w.heap.size + 1, 3, none⟩ = some (.bool c1.on) := hv5.cell 3
    have r4 : w5.cell? ⟨w.heap.size + 1, 4, none⟩ = some (.int .u8 (c1.x 0)) := hv5.cell 4
    have r5 : w5.cell? ⟨w.heap.size + 1, 5, none⟩ = some (.int .u8 (c1.x 1)) := hv5.cell 5
    have r6 : w5.cell? ⟨w.heap.size + 1, 6, none⟩ = some (.int .u8 (c1.x 2)) := hv5.cell 6
    have r7 : w5.cell? ⟨w.heap.size + 1, 7, none⟩ = some (.int .u8 (c1.x 3)) := hv5.cell 7
    have r8 : w5.cell? ⟨w.heap.size + 1, 8, none⟩ = some (.int .u8 (c1.x 4)) := hv5.cell 8
    have r9 : w5.cell? ⟨w.heap.size + 1, 9, none⟩ = some (.int .u8 (c1.x 5)) := hv5.cell 9
    clear hv5 hb5 ho5 hS VB VR HBW HS0
    go_wp2_with fail
    exact bodyPost_ret (v := .tuple #[.agg c1.cells, .bool (decide (0 ≤ N1))]) (by simp [results, Tryd.results16, go_sem, r0, r1, r2, r3, r4, r5, r6, r7, r8, r9, Cm.cells]) rfl ⟨⟨c1, by rw [HT.out, HN1.out]; rfl, HXX.out, fun f hf => by rw [HT.out] at hf; rw [← Option.some.inj hf, ← HC1.out, HN1.out]; rfl⟩, HB6.out⟩
  · have k0 := lst_ne h0
    have k1 := lst_ne h1
    have k2 := lst_ne h2
    have HT : Hid (tk [76] s = none) := Lib.hid (by rw [tkL]; simp [lnk, h0, h1, h2])
    obtain ⟨N1, hN1⟩ : ∃ N1 : Int, N1 = -1 := ⟨_, rfl⟩
    generalize hc1 : ({ c with nn := N1 } : Cm) = c1 at *
    have HC1 := Lib.hid hc1
    have VB := Lib.hid ((var_new w c1.cells 32).alloc (.cells (zc 0).cells 32))
    have VR := Lib.hid (show CA ((w.alloc (.cells c1.cells 32)).alloc (.cells (zc 0).cells 32)) (w.heap.size + 1) (zc 0).cells 32 by have := var_new (w.alloc (.cells c1.cells 32)) (zc 0).cells 32; rwa [alloc_size] at this)
    have HBW := Lib.hid ((box_below w (.cells c1.cells 32)).alloc (by rw [alloc_size]; omega) (.cells (zc 0).cells 32))
    have hXX : ∀ i, c1.x i < 256 := by rw [← hc1]; exact hx
    have HXX := Lib.hid hXX
    have HK : Hid (c1.cells[2]? = some (.int .i64 N1)) := Lib.hid (by rw [← HC1.out]; rfl)
    have e1 := Lib.hid (show c.cells.setIfInBounds 2 (.int .i64 (-1)) = c1.cells by rw [← HC1.out, hN1]; rfl)
    have HN1 := Lib.hid hN1
    clear hc1 hXX hx hN1
    go_enter Tryd.func16, Tryd.ntmps16
    go_wp2_with fail
    rw [e1.out]
    have HS0 := Lib.hid (show CA _ w.heap.size c1.cells 32 from VB.out.drew)
    refine wp_region_held_drew (S := fun w9 => CA w9 w.heap.size c1.cells 32) (by kernel_rfl) HS0.out (fun hS => ?_)
    refine wpAnyH_take (i := 0) (v := .agg c1.cells) rfl (by kernel_rfl) (by kernel_rfl) (by kernel_rfl) (fun _ _ _ h => h) (yields32 (by rfl) _ rfl rfl (fun w9 h9 => h9)) hS ?_
    try simp only [Act.put, List.getElem_toArray, List.getElem_cons_zero, List.getElem_cons_succ, List.setIfInBounds_toArray, List.set_cons_zero, List.set_cons_succ]
    refine wpAnyH_take (i := 1) (v := ?_) rfl (by kernel_rfl) (by kernel_rfl) (by kernel_rfl) (fun _ _ _ h => h) (Or.inl ⟨by rfl, ?_⟩) hS ?_
    rotate_left
    · (intro w9 hS9; go_simp; try with_reducible rfl)
    try simp only [Act.put, List.getElem_toArray, List.getElem_cons_zero, List.getElem_cons_succ, List.setIfInBounds_toArray, List.set_cons_zero, List.set_cons_succ]
    refine wpAnyH_take (i := 2) (v := .int .i64 N1) rfl (by kernel_rfl) (by kernel_rfl) (by kernel_rfl) (fun _ _ _ h => h) (Or.inl ⟨by rfl, ?_⟩) hS ?_
    · (intro w9 hS9; have q := (hS9.cell 2).trans HK.out; go_simp)
    try simp only [Act.put, List.getElem_toArray, List.getElem_cons_zero, List.getElem_cons_succ, List.setIfInBounds_toArray, List.set_cons_zero, List.set_cons_succ]
    refine wpAnyH_take (i := 3) (v := ?_) rfl (by kernel_rfl) (by kernel_rfl) (by kernel_rfl) (fun _ _ _ h => h) (Or.inl ⟨by rfl, ?_⟩) hS ?_
    rotate_left
    · (intro w9 hS9; go_simp; try with_reducible rfl)
    try simp only [Act.put, List.getElem_toArray, List.getElem_cons_zero, List.getElem_cons_succ, List.setIfInBounds_toArray, List.set_cons_zero, List.set_cons_succ]
    refine wpAnyH_ready (rs := [4]) (by kernel_rfl) (by simp) (AllReadyH.cons rfl (fun K hK => ?_) AllReadyH.nil)
    rw [if_pos (by rfl)]
    refine wp_store32 _ _ rfl c1 rfl rfl VR.out.drew ?_
    intro w5 hv5 hb5 ho5 _
    simp only [Act.put]
    refine hK.out _ _ (ho5 _ _ _ (by omega) hS) (fun hS => ?_)
    clear hK K
    refine wpAnyH_take (i := 5) (v := ?_) rfl (by kernel_rfl) (by kernel_rfl) (by kernel_rfl) (fun _ _ _ h => h) (Or.inl ⟨by rfl, ?_⟩) hS ?_
    rotate_left
    · (intro w9 hS9; go_simp; try with_reducible rfl)
    try simp only [Act.put, List.getElem_toArray, List.getElem_cons_zero, List.getElem_cons_succ, List.setIfInBounds_toArray, List.set_cons_zero, List.set_cons_succ]
    refine wpAnyH_done (by kernel_rfl) ?_ _
    have HB6 := Lib.hid (hb5 w.heap.size w (Nat.le_succ _) HBW.out.drew)
    have r0 : w5.cell? ⟨w.heap.size + 1, 0, none⟩ = some (.int .i64 c1.wh) := hv5.cell 0
    have r1 : w5.cell? ⟨w.heap.size + 1, 1, none⟩ = some (.int .i64 c1.po) := hv5.cell 1
    have r2 : w5.cell? ⟨w.heap.size + 1, 2, none⟩ = some (.int .i64 c1.nn) := hv5.cell 2
    have r3 : w5.cell? ⟨w.heap.size + 1, 3, none⟩ = some (.bool c1.on) := hv5.cell 3
    have r4 : w5.cell? ⟨w.heap.size + 1, 4, none⟩ = some (.int .u8 (c1.x 0)) := hv5.cell 4
    have r5 : w5.cell? ⟨w.heap.size + 1, 5, none⟩ = some (.int .u8 (c1.x 1)) := hv5.cell 5
    have r6 : w5.cell? ⟨w.heap.size + 1, 6, none⟩ = some (.int .u8 (c1.x 2)) := hv5.cell 6
    have r7 : w5.cell? ⟨w.heap.size + 1, 7, none⟩ = some (.int .u8 (c1.x 3)) := hv5.cell 7
    have r8 : w5.cell? ⟨w.heap.size + 1, 8, none⟩ = some (.int .u8 (c1.x 4)) := hv5.cell 8
    have r9 : w5.cell? ⟨w.heap.size + 1, 9, none⟩ = some (.int .u8 (c1.x 5)) := hv5.cell 9
    clear hv5 hb5 ho5 hS VB VR HBW HS0
    go_wp2_with fail
    exact bodyPost_ret (v := .tuple #[.agg c1.cells, .bool (decide (0 ≤ N1))]) (by simp [results, Tryd.results16, go_sem, r0, r1, r2, r3, r4, r5, r6, r7, r8, r9, Cm.cells]) rfl ⟨⟨c1, by rw [HT.out, HN1.out]; rfl, HXX.out, fun f hf => by rw [HT.out] at hf; cases hf⟩, HB6.out⟩
set_option maxRecDepth 20000 in
set_option maxHeartbeats 2000000 in
theorem rtakeM (c : Cm) (s : List UInt8) (hx : ∀ i, c.x i < 256) (w : World) : Calls Tryd.prog 16 #[.agg c.cells, .int .u8 109, strV s] w (RTook c [77] s w) := by
  have v0 := Lib.hid ((var_new w c.cells 32).alloc (.cells (zc 0).cells 32))
  have vr := Lib.hid (show CA ((w.alloc (.cells c.cells 32)).alloc (.cells (zc 0).cells 32)) (w.heap.size + 1) (zc 0).cells 32 by have := var_new (w.alloc (.cells c.cells 32)) (zc 0).cells 32; rwa [alloc_size] at this)
  have b0 := Lib.hid ((box_below w (.cells c.cells 32)).alloc (by rw [alloc_size]; omega) (.cells (zc 0).cells 32))
  obtain ⟨x, q, hr, hxx, hq⟩ : ∃ (x : Nat → Nat) (q : Bool), (∀ w, Calls Tryd.prog 24 #[strV s] w fun e w' => e = .returned (.tuple #[macV x, .bool q]) ∧ Below w.heap.size w w') ∧ (∀ i, x i < 256) ∧ (tk [77] s).isSome = q ∧ ∀ f, tk [77] s = some f → f c = { c with x := trim x } := by
    have cr := fun w => refParse_any ⟨⟨s⟩⟩ w
    by_cases hs : okTxt ⟨⟨s⟩⟩
    · rw [refEnd_good hs] at cr
      exact ⟨_, _, cr, macOf_lt _, by rw [tkM, if_pos hs]; rfl, fun f hf => by rw [tkM, if_pos hs] at hf; rw [← Option.some.inj hf]⟩
    · rw [refEnd_bad hs] at cr
      exact ⟨_, _, cr, fun _ => by unfold zeroX; omega, by rw [tkM, if_neg hs]; rfl, fun f hf => by rw [tkM, if_neg hs] at hf; cases hf⟩
  have HR := Lib.hid hr
  have HQ := Lib.hid hq
  have HXX := Lib.hid (trim_lt hxx)
  obtain ⟨c1, hc1⟩ : ∃ c1 : Cm, c1 = { c with x := trim x } := ⟨_, rfl⟩
  have HC1 := Lib.hid hc1
  clear hr hq hxx hc1 hx
  go_enter Tryd.func16, Tryd.ntmps16
  go_wp2_with fail
  refine (HR.out _).mono ?_
  rintro e w1 ⟨rfl, hb⟩
  have V1 := Lib.hid (v0.out.below hb v0.out.lt)
  have VR1 := Lib.hid (vr.out.below hb vr.out.lt)
  have HB1 := Lib.hid (below_next b0.out hb)
  have LT := Lib.hid (Nat.lt_of_lt_of_le vr.out.lt hb.size)
  clear hb v0 vr b0 HR
  go_wp2_with (with_reducible refine stopS 23 (.tmp 63) (.tmp 62) rfl ?_)
  refine Lib.hid ?_
  refine wpList_store_whole s23 rfl _ _ rfl rfl rfl (V1.out.alloc _) (xs := mc x) (mc_one _) rfl (show 4 + 6 ≤ c.cells.size from Nat.le_refl 10) ?_
  intro w4 hv4 hb4 ho4 _
  have VB : Hid (CA w4 w.heap.size c1.cells 32) := Lib.hid (by rw [HC1.out]; exact hv4)
  have VR := Lib.hid (ho4 _ _ _ (by omega) (VR1.out.alloc _))
  have HBW := Lib.hid (hb4 w.heap.size w (Nat.le_refl _) (below_next HB1.out (box_below w1 _)))
  clear hv4 hb4 ho4 V1 VR1 HB1
  go_wp2_with (with_reducible refine stopL 32 (.tmp 3) rfl ?_)
  refine Lib.hid ?_
  refine wpl_load32 (by kernel_rfl) _ rfl rfl VB.out ?_
  go_wp2_with (with_reducible refine stopS 32 (.tmp 6) (.tmp 64) rfl ?_)
  refine Lib.hid ?_
  refine wpl_store32 rfl _ _ rfl c1 rfl rfl VR.out ?_
  intro w5 hv5 hb5 _ _
  have HB6 := Lib.hid (hb5 w.heap.size w (Nat.le_succ _) HBW.out)
  have r0 : w5.cell? ⟨w.heap.size + 1, 0, none⟩ = some (.int .i64 c1.wh) := hv5.cell 0
  have r1 : w5.cell? ⟨w.heap.size + 1, 1, none⟩ = some (.int .i64 c1.po) := hv5.cell 1
  have r2 : w5.cell? ⟨w.heap.size + 1, 2, none⟩ = some (.int .i64 c1.nn) := hv5.cell 2
  have r3 : w5.cell? ⟨w.heap.size + 1, 3, none⟩ = some (.bool c1.on) := hv5.cell 3
  have r4 : w5.cell? ⟨w.heap.size + 1, 4, none⟩ = some (.int .u8 (c1.x 0)) := hv5.cell 4
  have r5 : w5.cell? ⟨w.heap.size + 1, 5, none⟩ = some (.int .u8 (c1.x 1)) := hv5.cell 5
  have r6 : w5.cell? ⟨w.heap.size + 1, 6, none⟩ = some (.int .u8 (c1.x 2)) := hv5.cell 6
  have r7 : w5.cell? ⟨w.heap.size + 1, 7, none⟩ = some (.int .u8 (c1.x 3)) := hv5.cell 7
  have r8 : w5.cell? ⟨w.heap.size + 1, 8, none⟩ = some (.int .u8 (c1.x 4)) := hv5.cell 8
  have r9 : w5.cell? ⟨w.heap.size + 1, 9, none⟩ = some (.int .u8 (c1.x 5)) := hv5.cell 9
  clear hv5 hb5 VB VR HBW
  go_wp2_with fail
  exact bodyPost_ret (v := .tuple #[.agg c1.cells, .bool q]) (by simp [results, Tryd.results16, go_sem, r0, r1, r2, r3, r4, r5, r6, r7, r8, r9, Cm.cells]) rfl ⟨⟨c1, by rw [HQ.out.1], by rw [HC1.out]; exact HXX.out, fun f hf => by rw [HQ.out.2 f hf, HC1.out]⟩, HB6.out⟩
theorem rtake_any (c : Cm) (b : UInt8) (hb : b = 110 ∨ b = 111 ∨ b = 112 ∨ b = 108 ∨ b = 109) (s : List UInt8) (hx : ∀ i, c.x i < 256) (w : World) : Calls Tryd.prog 16 #[.agg c.cells, .int .u8 (b.toNat : Nat), strV s] w (RTook c (up b) s w) := by
  obtain ⟨u1, u2, u3, u4, u5⟩ := ups
  rcases hb with rfl | rfl | rfl | rfl | rfl
  · rw [u1]; exact rtakeN c s hx w
  · rw [u2]; exact rtakeO c s hx w
  · rw [u3]; exact rtakeP c s hx w
  · rw [u4]; exact rtakeL c s hx w
  · rw [u5]; exact rtakeM c s hx w
end Go.Proofs.YtlmdpaemhjcmbaaDoor
