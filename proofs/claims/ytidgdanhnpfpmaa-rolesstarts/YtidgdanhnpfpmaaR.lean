/- Contract of setRoot. -/
import Derived.Test.YtidgdanhnpfpmaaP
import Derived.Test.YtidgdanhnpfpmaaGe
namespace Go.Proofs.Ytidgdanhnpfpmaa
open Go.RowKit Go.Sort

/-- A bridge's identifier and its own times, as cells of a world. -/
def S5 (B : Bd) (bb : Nat) (w : World) : Prop :=
  w.cell? ⟨bb, 0, none⟩ = some (.int .u64 B.id) ∧ w.cell? ⟨bb, 1, none⟩ = some (.int .i64 B.a) ∧ w.cell? ⟨bb, 2, none⟩ = some (.int .i64 B.m) ∧ w.cell? ⟨bb, 3, none⟩ = some (.int .i64 B.h) ∧ w.cell? ⟨bb, 4, none⟩ = some (.int .i64 B.d)
theorem S5.call {B : Bd} {bb : Nat} {w w1 : World} (hb : Below w.heap.size w w1) (h : S5 B bb w) : S5 B bb w1 := by
  obtain ⟨h1, h2, h3, h4, h5⟩ := h
  exact ⟨cell_below hb h1, cell_below hb h2, cell_below hb h3, cell_below hb h4, cell_below hb h5⟩
theorem S5.of {B : Bd} {s : Value} {bb : Nat} {w : World} (h : VarAt w bb (B.cells s) 34) : S5 B bb w := ⟨h.cell 0, h.cell 1, h.cell 2, h.cell 3, h.cell 4⟩
theorem Bd.size (B : Bd) (s : Value) : (B.cells s).size = 18 := by simp

/-- A vector, an identifier and times go into a bridge's variable. -/
abbrev Bd.put (B : Bd) (r c b p q : Nat) (a m h d : Int) : Bd := { B with r := r, c := c, b := b, p := p, rp := q, ra := a, rm := m, rh := h, rd := d }
abbrev Bd.own (B : Bd) : Bd := B.put B.id 0 B.id 0 0 B.a B.m B.h B.d
theorem own_nat (b : Nat) (w : World) : Calls Try.prog 35 #[.int .u64 b] w fun e w' => e = .returned (vV b (0 : Nat) b (0 : Nat)) ∧ Below w.heap.size w w' := own_any b w
theorem put_root {B : Bd} {s : Value} {bb : Nat} {w : World} (r c b p : Nat) (h : VarAt w bb (B.cells s) 34) :
    VarAt ((((w.setCell ⟨bb, 7, none⟩ (.int .u64 r)).setCell ⟨bb, 8, none⟩ (.int .u32 c)).setCell ⟨bb, 9, none⟩ (.int .u64 b)).setCell ⟨bb, 10, none⟩ (.int .u16 p)) bb (({ B with r := r, c := c, b := b, p := p } : Bd).cells s) 34 :=
  (((h.set 7 _).set 8 _).set 9 _).set 10 _
theorem put_port {B : Bd} {s : Value} {bb : Nat} {w : World} (q : Nat) (h : VarAt w bb (B.cells s) 34) : VarAt (w.setCell ⟨bb, 11, none⟩ (.int .u16 q)) bb (({ B with rp := q } : Bd).cells s) 34 := h.set 11 _
theorem put_times {B : Bd} {s : Value} {bb : Nat} {w : World} (x m y d : Int) (h : VarAt w bb (B.cells s) 34) :
    VarAt ((((w.setCell ⟨bb, 12, none⟩ (.int .i64 x)).setCell ⟨bb, 13, none⟩ (.int .i64 m)).setCell ⟨bb, 14, none⟩ (.int .i64 y)).setCell ⟨bb, 15, none⟩ (.int .i64 d)) bb (({ B with ra := x, rm := m, rh := y, rd := d } : Bd).cells s) 34 :=
  (((h.set 12 _).set 13 _).set 14 _).set 15 _
set_option maxHeartbeats 1000000 in
theorem setRoot_none (B : Bd) (s : Value) (bb : Nat) (w : World) (hbb : VarAt w bb (B.cells s) 34) :
    Calls Try.prog 28 #[.pointer (some ⟨bb, 0, none⟩), .int .i64 (-1)] w fun e w' => e = .returned (.tuple #[]) ∧ VarAt w' bb (B.own.cells s) 34 ∧ Only bb w w' := by
  have k1 := own_nat B.id
  have HS0 := Lib.hid (show S5 B bb w.drew from S5.of hbb)
  have V := Lib.hid hbb.drew
  have HB := Lib.hid ((Only.refl bb w).drew)
  clear hbb
  go_enter Try.func28, Try.ntmps28
  go_wp2_with fail
  refine wp_region_held_drew (S := S5 B bb) (by kernel_rfl) HS0.out (fun hS => ?_)
  refine wpAnyH_take (i := 0) (v := ?_) rfl (by kernel_rfl) (by kernel_rfl) (by kernel_rfl) (fun _ _ _ h => h) (Or.inl ⟨by rfl, ?_⟩) hS ?_
  rotate_left
  · (intro w9 hS9; go_simp; try with_reducible rfl)
  try simp only [Act.put, List.getElem_toArray, List.getElem_cons_zero, List.setIfInBounds_toArray, List.set_cons_zero, List.set_cons_succ]
  refine wpAnyH_take (i := 1) (v := ?_) rfl (by kernel_rfl) (by kernel_rfl) (by kernel_rfl) (fun _ _ _ h => h) (Or.inl ⟨by rfl, ?_⟩) hS ?_
  rotate_left
  · (intro w9 hS9; go_simp; try with_reducible rfl)
  try simp only [Act.put, List.getElem_toArray, List.getElem_cons_zero, List.getElem_cons_succ, List.setIfInBounds_toArray, List.set_cons_zero, List.set_cons_succ]
  refine wpAnyH_take (i := 2) (v := ?_) rfl (by kernel_rfl) (by kernel_rfl) (by kernel_rfl) (fun _ _ _ h => h) (Or.inl ⟨by rfl, ?_⟩) hS ?_
  rotate_left
  · (intro w9 hS9; go_simp; try with_reducible rfl)
  try simp only [Act.put, List.getElem_toArray, List.getElem_cons_zero, List.getElem_cons_succ, List.setIfInBounds_toArray, List.set_cons_zero, List.set_cons_succ]
  refine wpAnyH_take (i := 3) (v := ?_) rfl (by kernel_rfl) (by kernel_rfl) (by kernel_rfl) (fun _ _ _ h => h) (Or.inl ⟨by rfl, ?_⟩) hS ?_
  rotate_left
  · (intro w9 hS9; go_simp; try with_reducible rfl)
  try simp only [Act.put, List.getElem_toArray, List.getElem_cons_zero, List.getElem_cons_succ, List.setIfInBounds_toArray, List.set_cons_zero, List.set_cons_succ]
  refine wpAnyH_take (i := 4) (v := ?_) rfl (by kernel_rfl) (by kernel_rfl) (by kernel_rfl) (fun _ _ _ h => h) (Or.inl ⟨by rfl, ?_⟩) hS ?_
  rotate_left
  · (intro w9 hS9; go_simp; try with_reducible rfl)
  try simp only [Act.put, List.getElem_toArray, List.getElem_cons_zero, List.getElem_cons_succ, List.setIfInBounds_toArray, List.set_cons_zero, List.set_cons_succ]
  refine wpAnyH_take (i := 5) (v := ?_) rfl (by kernel_rfl) (by kernel_rfl) (by kernel_rfl) (fun _ _ _ h => h) (Or.inl ⟨by rfl, ?_⟩) hS ?_
  rotate_left
  · (intro w9 hS9; go_simp; try with_reducible rfl)
  try simp only [Act.put, List.getElem_toArray, List.getElem_cons_zero, List.getElem_cons_succ, List.setIfInBounds_toArray, List.set_cons_zero, List.set_cons_succ]
  refine wpAnyH_take (i := 6) (v := ?_) rfl (by kernel_rfl) (by kernel_rfl) (by kernel_rfl) (fun _ _ _ h => h) (Or.inl ⟨by rfl, ?_⟩) hS ?_
  rotate_left
  · (intro w9 hS9; have q := hS9.1; go_simp; try with_reducible rfl)
  try simp only [Act.put, List.getElem_toArray, List.getElem_cons_zero, List.getElem_cons_succ, List.setIfInBounds_toArray, List.set_cons_zero, List.set_cons_succ]
  refine wpAnyH_take (i := 8) (v := ?_) rfl (by kernel_rfl) (by kernel_rfl) (by kernel_rfl) (fun _ _ _ h => h) (Or.inl ⟨by rfl, ?_⟩) hS ?_
  rotate_left
  · (intro w9 hS9; go_simp; try with_reducible rfl)
  try simp only [Act.put, List.getElem_toArray, List.getElem_cons_zero, List.getElem_cons_succ, List.setIfInBounds_toArray, List.set_cons_zero, List.set_cons_succ]
  refine wpAnyH_take (i := 9) (v := ?_) rfl (by kernel_rfl) (by kernel_rfl) (by kernel_rfl) (fun _ _ _ h => h) (Or.inl ⟨by rfl, ?_⟩) hS ?_
  rotate_left
  · (intro w9 hS9; go_simp; try with_reducible rfl)
  try simp only [Act.put, List.getElem_toArray, List.getElem_cons_zero, List.getElem_cons_succ, List.setIfInBounds_toArray, List.set_cons_zero, List.set_cons_succ]
  refine wpAnyH_take (i := 10) (v := ?_) rfl (by kernel_rfl) (by kernel_rfl) (by kernel_rfl) (fun _ _ _ h => h) (Or.inl ⟨by rfl, ?_⟩) hS ?_
  rotate_left
  · (intro w9 hS9; go_simp; try with_reducible rfl)
  try simp only [Act.put, List.getElem_toArray, List.getElem_cons_zero, List.getElem_cons_succ, List.setIfInBounds_toArray, List.set_cons_zero, List.set_cons_succ]
  refine wpAnyH_take (i := 11) (v := ?_) rfl (by kernel_rfl) (by kernel_rfl) (by kernel_rfl) (fun _ _ _ h => h) (Or.inl ⟨by rfl, ?_⟩) hS ?_
  rotate_left
  · (intro w9 hS9; obtain ⟨q0, q1, q2, q3, q4⟩ := hS9; go_simp; try with_reducible rfl)
  try simp only [Act.put, List.getElem_toArray, List.getElem_cons_zero, List.getElem_cons_succ, List.setIfInBounds_toArray, List.set_cons_zero, List.set_cons_succ]
  refine wpAnyH_ready (rs := [7]) (by kernel_rfl) (by simp) (AllReadyH.cons rfl (fun K hK => ?_) AllReadyH.nil)
  go_simp
  refine (k1 _).mono ?_
  rintro e w1 ⟨rfl, hb⟩
  replace HB := Lib.hid (HB.out.trans (only_below hb bb))
  replace V := Lib.hid (V.out.below hb V.out.lt)
  refine hK.out _ _ (hS.call hb) (fun hS => ?_)
  clear hK K hb k1 HS0
  refine wpAnyH_take (i := 12) (v := ?_) rfl (by kernel_rfl) (by kernel_rfl) (by kernel_rfl) (fun _ _ _ h => h) (Or.inl ⟨by rfl, ?_⟩) hS ?_
  rotate_left
  · (intro w9 hS9; go_simp; try with_reducible rfl)
  try simp only [Act.put, List.getElem_toArray, List.getElem_cons_zero, List.getElem_cons_succ, List.setIfInBounds_toArray, List.set_cons_zero, List.set_cons_succ]
  refine wpAnyH_take (i := 13) (v := ?_) rfl (by kernel_rfl) (by kernel_rfl) (by kernel_rfl) (fun _ _ _ h => h) (Or.inl ⟨by rfl, ?_⟩) hS ?_
  rotate_left
  · (intro w9 hS9; go_simp; try with_reducible rfl)
  try simp only [Act.put, List.getElem_toArray, List.getElem_cons_zero, List.getElem_cons_succ, List.setIfInBounds_toArray, List.set_cons_zero, List.set_cons_succ]
  have f0 := V.out.some (k := 7) (by simp)
  have f1 := V.out.some (k := 8) (by simp)
  have f2 := V.out.some (k := 9) (by simp)
  have f3 := V.out.some (k := 10) (by simp)
  have fz := V.out.frozen
  refine wpAnyH_ready (rs := [14]) (by kernel_rfl) (by simp) (AllReadyH.cons rfl (fun K hK => ?_) AllReadyH.nil)
  go_simp
  replace V := Lib.hid (put_root (B.id) (0) (B.id) (0) V.out)
  replace HB := Lib.hid (only_set4 7 (.int .u64 ((B.id : Nat) : Int)) (.int .u32 ((0 : Nat) : Int)) (.int .u64 ((B.id : Nat) : Int)) (.int .u16 ((0 : Nat) : Int)) HB.out)
  simp only [Nat.reduceAdd] at HB
  (try simp only [Int.natCast_zero, Nat.cast_zero, Int.ofNat_zero] at V HB)
  generalize (((w1.setCell ⟨bb, 7, none⟩ (.int .u64 ((B.id : Nat) : Int))).setCell ⟨bb, 8, none⟩ (.int .u32 0)).setCell ⟨bb, 9, none⟩ (.int .u64 ((B.id : Nat) : Int))).setCell ⟨bb, 10, none⟩ (.int .u16 0) = w2 at *
  have hS' := S5.of V.out
  change S5 B bb _ at hS'
  clear f0 f1 f2 f3 fz
  refine hK.out _ _ hS' (fun hS => ?_)
  clear hK K hS'
  refine wpAnyH_take (i := 15) (v := ?_) rfl (by kernel_rfl) (by kernel_rfl) (by kernel_rfl) (fun _ _ _ h => h) (Or.inl ⟨by rfl, ?_⟩) hS ?_
  rotate_left
  · (intro w9 hS9; go_simp; try with_reducible rfl)
  try simp only [Act.put, List.getElem_toArray, List.getElem_cons_zero, List.getElem_cons_succ, List.setIfInBounds_toArray, List.set_cons_zero, List.set_cons_succ]
  refine wpAnyH_take (i := 16) (v := ?_) rfl (by kernel_rfl) (by kernel_rfl) (by kernel_rfl) (fun _ _ _ h => h) (Or.inl ⟨by rfl, ?_⟩) hS ?_
  rotate_left
  · (intro w9 hS9; go_simp; try with_reducible rfl)
  try simp only [Act.put, List.getElem_toArray, List.getElem_cons_zero, List.getElem_cons_succ, List.setIfInBounds_toArray, List.set_cons_zero, List.set_cons_succ]
  have f0 := V.out.some (k := 11) (by simp)
  have fz := V.out.frozen
  refine wpAnyH_ready (rs := [17]) (by kernel_rfl) (by simp) (AllReadyH.cons rfl (fun K hK => ?_) AllReadyH.nil)
  go_simp
  replace V := Lib.hid (put_port (0) V.out)
  replace HB := Lib.hid (HB.out.set 11 (.int .u16 ((0 : Nat) : Int)))
  (try simp only [Int.natCast_zero, Nat.cast_zero, Int.ofNat_zero] at V HB)
  generalize w2.setCell ⟨bb, 11, none⟩ (.int .u16 0) = w3 at *
  have hS' := S5.of V.out
  change S5 B bb _ at hS'
  clear f0 fz
  refine hK.out _ _ hS' (fun hS => ?_)
  clear hK K hS'
  refine wpAnyH_take (i := 18) (v := ?_) rfl (by kernel_rfl) (by kernel_rfl) (by kernel_rfl) (fun _ _ _ h => h) (Or.inl ⟨by rfl, ?_⟩) hS ?_
  rotate_left
  · (intro w9 hS9; go_simp; try with_reducible rfl)
  try simp only [Act.put, List.getElem_toArray, List.getElem_cons_zero, List.getElem_cons_succ, List.setIfInBounds_toArray, List.set_cons_zero, List.set_cons_succ]
  refine wpAnyH_take (i := 19) (v := ?_) rfl (by kernel_rfl) (by kernel_rfl) (by kernel_rfl) (fun _ _ _ h => h) (Or.inl ⟨by rfl, ?_⟩) hS ?_
  rotate_left
  · (intro w9 hS9; go_simp; try with_reducible rfl)
  try simp only [Act.put, List.getElem_toArray, List.getElem_cons_zero, List.getElem_cons_succ, List.setIfInBounds_toArray, List.set_cons_zero, List.set_cons_succ]
  have f0 := V.out.some (k := 12) (by simp)
  have f1 := V.out.some (k := 13) (by simp)
  have f2 := V.out.some (k := 14) (by simp)
  have f3 := V.out.some (k := 15) (by simp)
  have fz := V.out.frozen
  refine wpAnyH_ready (rs := [20]) (by kernel_rfl) (by simp) (AllReadyH.cons rfl (fun K hK => ?_) AllReadyH.nil)
  go_simp
  replace V := Lib.hid (put_times (B.a) (B.m) (B.h) (B.d) V.out)
  replace HB := Lib.hid (only_set4 12 (.int .i64 (B.a)) (.int .i64 (B.m)) (.int .i64 (B.h)) (.int .i64 (B.d)) HB.out)
  simp only [Nat.reduceAdd] at HB
  (try simp only [Int.natCast_zero, Nat.cast_zero, Int.ofNat_zero] at V HB)
  generalize (((w3.setCell ⟨bb, 12, none⟩ (.int .i64 (B.a))).setCell ⟨bb, 13, none⟩ (.int .i64 (B.m))).setCell ⟨bb, 14, none⟩ (.int .i64 (B.h))).setCell ⟨bb, 15, none⟩ (.int .i64 (B.d)) = w4 at *
  have hS' := S5.of V.out
  change S5 B bb _ at hS'
  clear f0 f1 f2 f3 fz
  refine hK.out _ _ hS' (fun hS => ?_)
  clear hK K hS'
  refine wpAnyH_done (by kernel_rfl) ?_ _
  go_wp2_with fail
  exact bodyPost_ret (v := .tuple #[]) (by simp [results, Try.results28, go_sem]) rfl ⟨rfl, V.out, HB.out⟩
end Go.Proofs.Ytidgdanhnpfpmaa
