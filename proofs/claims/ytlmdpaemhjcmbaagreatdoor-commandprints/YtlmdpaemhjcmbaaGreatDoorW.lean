/- Contract of Usual. -/
import Derived.Test.YtlmdpaemhjcmbaaGreatDoorV
import Derived.Deep.RegionHeld
namespace Go.Proofs.YtlmdpaemhjcmbaaGreatDoor
open Go.RowKit Go.Sort

theorem wp_store_whole {T n : Nat} (hn : (Tryz.prog.info? T).map (·.size) = some n) {op : Oper} {a : Act} {w : World} {K : Act → World → Prop} {Q : Exit → Act → World → Prop} (x y : Operand) (ho : op.op = .store T x y) {b o : Nat} {xs : Array Value} (hx : a.eval x = .pointer (some ⟨b, o, none⟩)) (hy : a.eval y = .agg xs)
    {A : Array Value} {t : TypeId} (hv : VarAt w b A t) (h1 : xs.all (·.oneCell') = true) (hz : xs.size = n) (hA : o + n ≤ A.size)
    (h : ∀ w', VarAt w' b (putL A o xs.toList) t → (∀ Bl w0, Bl ≤ b → Below Bl w0 w → Below Bl w0 w') → (∀ c ys u, c ≠ b → VarAt w c ys u → VarAt w' c ys u) → w.heap.size ≤ w'.heap.size → K (a.put op.dst undef) w') : op.wp Tryz.prog a w K Q :=
  wp_store_mid T x y ho b o xs hx hy (hv.there o xs.size (by rw [hz]; exact hA)) (by rw [hn, hz]) h1
    (h _ (VarAt.putL _ _ hv) (fun _ _ hB hb => Below.setL hB _ _ hb) (fun _ _ _ hne hc => VarAt.setL_other hne _ _ hc) (Below.setL (Nat.zero_le _) _ _ (Below.refl 0 w)).size)
/-- How many ports there are. -/
def clampN (k : Int) : Nat := (min (max k 0) 8).toNat
theorem clampN_le (k : Int) : clampN k ≤ 8 := by unfold clampN; omega
theorem run_max0 (k : Int) (ts : Array TypeId) (t : TypeId) (w : World) : (Builtin.max_ ts t #[.int .i64 k, .int .i64 0]).run Tryz.prog w = .ok (.int .i64 (max k 0)) w := by
  simp only [Builtin.max_, List.foldlM, Builtin.max2]
  by_cases h : (0 : Int) > k
  · simp [h, Int.max_def]; try omega
  · simp [h, Int.max_def]; try omega
theorem run_min8 (k : Int) (ts : Array TypeId) (t : TypeId) (w : World) : (Builtin.min_ ts t #[.int .i64 (max k 0), .int .i64 8]).run Tryz.prog w = .ok (.int .i64 (clampN k)) w := by
  have e : ((clampN k : Nat) : Int) = min (max k 0) 8 := by unfold clampN; omega
  rw [e]
  simp only [Builtin.min_, List.foldlM, Builtin.min2]
  by_cases h : (8 : Int) < max k 0
  · simp [h, Int.min_def]; try omega
  · simp [h, Int.min_def]; try omega
/-- The usual setting. -/
abbrev usualC (x : Nat → Nat) : Cf := ⟨x, 32768, 0, 20, 2, 15, 6, true, 300⟩
abbrev macC (x : Nat → Nat) : Array Value := #[.int .u8 (x 0), .int .u8 (x 1), .int .u8 (x 2), .int .u8 (x 3), .int .u8 (x 4), .int .u8 (x 5)]
set_option maxRecDepth 20000 in
set_option maxHeartbeats 2000000 in
theorem usualC_any (x : Nat → Nat) (k : Int) (w : World) :
    Calls Tryz.prog 16 #[macV x, .int .i64 k] w fun e w' => ∃ g, e = .returned (.agg ((usualC x).cells (.slice (some ⟨g, 0, none⟩) (clampN k) (clampN k)))) ∧ w.heap.size ≤ g ∧ Own5 w' g (clampN k) (fun _ => usualP) ∧ Below w.heap.size w w' := by
  have M0 := (var_new w (macC x) 23).alloc (.cells zC 28)
  have Z0 := Lib.hid (show VarAt ((w.alloc (.cells (macC x) 23)).alloc (.cells zC 28)) (w.heap.size + 1) zC 28 by
    have := var_new (w.alloc (.cells (macC x) 23)) zC 28
    rwa [alloc_size] at this)
  have HB := Lib.hid (show Below w.heap.size w ((w.alloc (.cells (macC x) 23)).alloc (.cells zC 28)) from ((Below.refl w.heap.size w).alloc (Nat.le_refl _) _).alloc (by rw [alloc_size]; omega) _)
  have ct := usual_any
  have cp := usualPorts_any (clampN k) (clampN_le k)
  have hmx := run_max0 k
  have hmn := run_min8 k
  have CL := Lib.hid (fun (s' : Value) => (Cf.size (usualC x) s'))
  have CO := Lib.hid (fun (s' : Value) (h : s'.oneCell' = true) => (Cf.one (usualC x) h))
  have HS0 := Lib.hid (show VarAt ((w.alloc (.cells (macC x) 23)).alloc (.cells zC 28)).drew w.heap.size (macC x) 23 from M0.drew)
  clear M0
  generalize clampN k = n at *
  generalize max k 0 = m at *
  go_enter Tryz.func16, Tryz.ntmps16
  go_wp2_with fail
  generalize (w.alloc (.cells (macC x) 23)).alloc (.cells zC 28) = W at *
  refine wp_region_held_drew (S := fun w' => VarAt w' w.heap.size (macC x) 23) (by kernel_rfl) HS0.out (fun hS => ?_)
  refine wpAnyH_take (i := 0) (v := ?_) rfl (by kernel_rfl) (by kernel_rfl) (by kernel_rfl) (fun _ _ _ h => h) (Or.inl ⟨by rfl, ?_⟩) hS ?_
  rotate_left
  · (intro w9 hS9; have q0 : w9.cell? ⟨w.heap.size, 0, none⟩ = some (.int .u8 (x 0)) := hS9.cell 0; have q1 : w9.cell? ⟨w.heap.size, 1, none⟩ = some (.int .u8 (x 1)) := hS9.cell 1; have q2 : w9.cell? ⟨w.heap.size, 2, none⟩ = some (.int .u8 (x 2)) := hS9.cell 2; have q3 : w9.cell? ⟨w.heap.size, 3, none⟩ = some (.int .u8 (x 3)) := hS9.cell 3; have q4 : w9.cell? ⟨w.heap.size, 4, none⟩ = some (.int .u8 (x 4)) := hS9.cell 4; have q5 : w9.cell? ⟨w.heap.size, 5, none⟩ = some (.int .u8 (x 5)) := hS9.cell 5; go_simp; try with_reducible rfl)
  try simp only [Act.put, List.getElem_toArray, List.getElem_cons_zero, List.setIfInBounds_toArray, List.set_cons_zero, List.set_cons_succ]
  refine wpAnyH_take (i := 2) (v := ?_) rfl (by kernel_rfl) (by kernel_rfl) (by kernel_rfl) (fun _ _ _ h => h) (Or.inl ⟨by rfl, ?_⟩) hS ?_
  rotate_left
  · (intro w9 hS9; go_simp; try with_reducible rfl)
  try simp only [Act.put, List.getElem_toArray, List.getElem_cons_zero, List.getElem_cons_succ, List.setIfInBounds_toArray, List.set_cons_zero, List.set_cons_succ]
  refine wpAnyH_take (i := 3) (v := ?_) rfl (by kernel_rfl) (by kernel_rfl) (by kernel_rfl) (fun _ _ _ h => h) (Or.inl ⟨by rfl, ?_⟩) hS ?_
  rotate_left
  · (intro w9 hS9; go_simp; try with_reducible rfl)
  try simp only [Act.put, List.getElem_toArray, List.getElem_cons_zero, List.getElem_cons_succ, List.setIfInBounds_toArray, List.set_cons_zero, List.set_cons_succ]
  refine wpAnyH_take (i := 4) (v := ?_) rfl (by kernel_rfl) (by kernel_rfl) (by kernel_rfl) (fun _ _ _ h => h) (Or.inl ⟨by rfl, ?_⟩) hS ?_
  rotate_left
  · (intro w9 hS9; go_simp; try with_reducible rfl)
  try simp only [Act.put, List.getElem_toArray, List.getElem_cons_zero, List.getElem_cons_succ, List.setIfInBounds_toArray, List.set_cons_zero, List.set_cons_succ]
  clear HS0 hmx hmn
  have ZD := Lib.hid Z0.out.drew
  have HBD := Lib.hid HB.out.drew
  clear Z0 HB
  refine wpAnyH_ready (rs := [1]) (by kernel_rfl) (by simp) (AllReadyH.cons rfl (fun K hK => ?_) AllReadyH.nil)
  go_simp
  refine (ct _).mono ?_
  rintro e w1 ⟨rfl, hb⟩
  have Z1 := Lib.hid (ZD.out.below hb ZD.out.lt)
  have HB1 := Lib.hid (HBD.out.trans (hb.mono HBD.out.size))
  refine hK.out _ _ (hS.below hb hS.lt) (fun hS => ?_)
  clear hb hK ct K ZD HBD
  refine wpAnyH_ready (rs := [5]) (by kernel_rfl) (by simp) (AllReadyH.cons rfl (fun K hK => ?_) AllReadyH.nil)
  go_simp
  refine (cp _).mono ?_
  rintro e w2 ⟨rfl, hO, hb⟩
  have Z2 := Lib.hid (Z1.out.below hb Z1.out.lt)
  have HB2 := Lib.hid (HB1.out.trans (hb.mono HB1.out.size))
  have HO := Lib.hid (And.intro (Nat.le_of_lt (Nat.lt_of_le_of_lt (Nat.le_add_right w.heap.size 1) Z1.out.lt)) (And.intro (show w.heap.size + 1 < w1.heap.size from Z1.out.lt) hO))
  refine hK.out _ _ (hS.below hb hS.lt) (fun hS => ?_)
  clear hb hK cp K Z1 HB1 hO
  generalize w1.heap.size = g at *
  refine wpAnyH_take (i := 6) (v := ?_) rfl (by kernel_rfl) (by kernel_rfl) (by kernel_rfl) (fun _ _ _ h => h) (Or.inl ⟨by rfl, ?_⟩) hS ?_
  rotate_left
  · (intro w9 hS9; go_simp; try with_reducible rfl)
  try simp only [Act.put, List.getElem_toArray, List.getElem_cons_zero, List.getElem_cons_succ, List.setIfInBounds_toArray, List.set_cons_zero, List.set_cons_succ]
  refine wpAnyH_ready (rs := [7]) (by kernel_rfl) (by simp) (AllReadyH.cons rfl (fun K hK => ?_) AllReadyH.nil)
  rw [if_pos (by rfl)]
  refine wp_store_whole sC _ _ rfl (xs := (usualC x).cells (.slice (some ⟨g, 0, none⟩) n n)) rfl rfl Z2.out (CO.out _ rfl) (CL.out _) (by simp) ?_
  intro w5 hv5 hb5 ho5 _
  rw [putL_all _ _ (by rw [CL.out]; rfl)] at hv5
  have V6 := Lib.hid hv5
  have B7 := Lib.hid (hb5 w.heap.size w (by omega) HB2.out)
  obtain ⟨hg1, hg2, A, hA, hA1, hA2⟩ := HO.out
  have A7 := Lib.hid (ho5 _ _ _ (show g ≠ w.heap.size + 1 by omega) hA)
  have HA2 := Lib.hid hA2
  refine hK.out _ _ (ho5 _ _ _ (by omega) hS) (fun hS => ?_)
  clear hv5 hb5 ho5 hK K Z2 HB2 HO hA hA2
  refine wpAnyH_done (by kernel_rfl) ?_ _
  go_wp2_with (with_reducible refine stopE ?_)
  refine Lib.hid ?_
  exact bodyPost_ret (v := .agg ((usualC x).cells (.slice (some ⟨g, 0, none⟩) n n))) (results_cell_row (p := 4) (ty := 28) rfl _ _ (w.heap.size + 1) 28 _ (0, 0) _ rfl V6.out uC rfl (by rw [sC]; simp [CL.out])) rfl ⟨g, rfl, hg1, ⟨A, A7.out, hA1, HA2.out⟩, B7.out⟩
end Go.Proofs.YtlmdpaemhjcmbaaGreatDoor
