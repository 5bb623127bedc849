/- Contract of lives, the chapter's example. -/
import Derived.Test.YtlddmdnlibfndaaZ
import Derived.Test.YtlddmdnlibfndaaCa
import Derived.Test.YtlddmdnlibfndaaRa
import Derived.Great.BuildSlice
namespace Go.Proofs.Ytlddmdnlibfndaa
open Go.RowKit Go.Sort

theorem z48_typed : Typed z48 := by
  refine ⟨z48_size, fun k q x hq hx => ?_⟩
  unfold z48 at hx
  simp only [List.getElem?_toArray, List.getElem?_map, hq, Option.map_some, Option.some.injEq] at hx
  subst hx
  cases q with
  | none => exact ⟨_, rfl⟩
  | some k => exact ⟨_, rfl⟩
/-- The example's port. -/
noncomputable def exP : Array Value := putL (putL z48 0 [.int .u16 1]) 44 [.int .i64 2]
def exD : Pd := ⟨1, 0, 2, 0, 0, 0, 0, 0, 0, 0, 0⟩
theorem exP_typed : Typed exP := kput (kput z48_typed 0 _ _ rfl ⟨_, rfl⟩) 44 _ _ rfl ⟨_, rfl⟩
theorem exP_in : exD.In exP := ⟨exP_typed.1, by kernel_rfl, by kernel_rfl, by kernel_rfl, by kernel_rfl, by kernel_rfl, by kernel_rfl, by kernel_rfl, by kernel_rfl, by kernel_rfl, by kernel_rfl, by kernel_rfl, by decide, by decide, by decide, by decide, by decide, by decide⟩
/-- The example's bridge. -/
def exB : Bd := ⟨5, 0, 0, 0, 0, 0, false, 0, 0, 0, 0, 0, 0, 0, 0, 0, 0⟩
theorem built48 : Try.prog.built 48 [(0, .int .u16 1), (44, .int .i64 2)] = some exP := by kernel_rfl
theorem built34 (b : Nat) : Try.prog.built 34 [(0, .int .u64 5), (8, .slice (some ⟨b, 0, none⟩) 1 1)] = some (exB.cells (.slice (some ⟨b, 0, none⟩) 1 1)) := by kernel_rfl
theorem wpList_buildE {ops : Array Oper} {rest : List Oper} {o : Oper} {a : Act} {w : World} {Q : Exit → Act → World → Prop} (hg : o.guard = none) (t : TypeId) (parts : Array (Nat × Operand)) (ho : o.op = .build t parts) (cells : Array Value)
    (hc : Try.prog.built t (parts.map fun (i, x) => (i, a.eval x)).toList = some cells) (h : wpList Try.prog ops Q rest (a.put o.dst (.agg cells)) w) : wpList Try.prog ops Q (o :: rest) a w :=
  wpList_build hg t parts ho (by rw [hc]; rfl) (by rw [hc]; exact h)
theorem stopG (T : Nat) {ops : Array Oper} {rest : List Oper} {op : Oper} {a : Act} {w : World} {Q : Exit → Act → World → Prop} (p : Array (Nat × Operand)) (_ : op.op = .build T p) (h : Hid (wpList Try.prog ops Q (op :: rest) a w)) : wpList Try.prog ops Q (op :: rest) a w := h
theorem fill48 : Instr.fill (fun i => some (i * 90, 90)) ((Array.range (1 * 90)).map (z48[· % z48.size]!)) [(0, .agg exP)] = some exP := by kernel_rfl
theorem exPorts : Ports exP 1 (fun _ => exP) (fun _ => exD) := fun i hi => by
  obtain rfl : i = 0 := by omega
  exact ⟨fun k _ => by rw [Nat.zero_mul, Nat.zero_add], exP_in, exP_typed⟩
theorem new_ex : (newP exB.own exD false exP)[47]? = some (.int .i64 2) ∧ (newP exB.own exD false exP)[43]? = some (.bool true) := by
  have hs : (desA exB.own exD.id exP 0).size = 90 := by rw [desA_size]; exact exP_typed.1
  have hd : differs exB.own exD = true := by decide +kernel
  unfold newP rolA
  rw [if_neg (by decide), if_neg (by decide), if_pos (by decide), if_pos hd]
  simp only [putL_at, putL_size, hs]
  simp
theorem root_ex : rootI (fun _ => exD) 5 1 = -1 := by decide +kernel
set_option maxRecDepth 20000 in
set_option maxHeartbeats 1000000 in
theorem lives_any (w : World) : Calls Try.prog 5 #[] w fun e w' => e = .returned (.bool true) ∧ Below w.heap.size w w' := by
  obtain ⟨ia, hi, hz, hs⟩ : ∃ i, Try.prog.info? 48 = some i ∧ i.zero = some (.agg z48) ∧ i.size = 90 := by
    have := info48
    cases h : Try.prog.info? 48 with
    | none => rw [h] at this; simp at this
    | some i => rw [h] at this; simp at this; exact ⟨i, rfl, this.1, this.2⟩
  have HI := Lib.hid (And.intro hi (And.intro hz hs))
  clear hi hz hs
  go_enter Try.func5, Try.ntmps5
  go_wp2_with (with_reducible refine stopG 48 _ rfl ?_)
  refine Lib.hid ?_
  refine wpList_buildE rfl 48 _ rfl exP (by simp only [List.map_toArray, List.map_cons, List.map_nil]; exact built48) ?_
  refine wpList_buildSlice rfl 32 48 1 _ rfl exP ia (.agg z48) und32 HI.out.1 HI.out.2.1 (by rw [HI.out.2.2]; omega) (by rw [HI.out.2.2]; omega) (by rw [HI.out.2.2]; simp only [List.map_toArray, List.map_cons, List.map_nil]; exact fill48) ?_
  simp only [Act.put, List.setIfInBounds_toArray, List.set_cons_zero, List.set_cons_succ]
  refine wpList_buildE rfl 34 _ rfl (exB.cells (.slice (some ⟨w.heap.size, 0, none⟩) 1 1)) (by simp only [List.map_toArray, List.map_cons, List.map_nil]; exact built34 _) ?_
  simp only [Act.put, List.setIfInBounds_toArray, List.set_cons_zero, List.set_cons_succ]
  have hvb : VarAt ((w.alloc (.cells exP 48)).alloc (.cells (exB.cells (.slice (some ⟨w.heap.size, 0, none⟩) 1 1)) 34)) (w.heap.size + 1) (exB.cells (.slice (some ⟨w.heap.size, 0, none⟩) 1 1)) 34 := by
    have := var_new (w.alloc (.cells exP 48)) (exB.cells (.slice (some ⟨w.heap.size, 0, none⟩) 1 1)) 34
    rwa [alloc_size] at this
  have hvp := (var_new w exP 48).alloc (.cells (exB.cells (.slice (some ⟨w.heap.size, 0, none⟩) 1 1)) 34)
  have hB := Lib.hid (((Below.refl w.heap.size w).alloc (Nat.le_refl _) (.cells exP 48)).alloc (by simp) (.cells (exB.cells (.slice (some ⟨w.heap.size, 0, none⟩) 1 1)) 34))
  have kU := Lib.hid (update_any exB (w.heap.size + 1) w.heap.size 1 1 w.heap.size exP (fun _ => exP) (fun _ => exD) _ hvb hvp exPorts (by rw [exP_typed.1]; omega) (by omega) (by decide) (by omega) (Nat.le_refl _))
  clear hvb hvp
  have NX := Lib.hid new_ex
  generalize exP = EP at *
  go_wp2_with fail
  refine kU.out.mono ?_
  rintro e w1 ⟨rfl, ⟨hb1, A1, ha1, _, hs1, _⟩, hb⟩
  rw [show exB.id = 5 from rfl, root_ex] at hb1 hs1
  rw [show rootB exB (fun _ => exD) (-1) = exB.own from if_pos rfl] at hb1 hs1
  have h0 := hs1 0 (by omega)
  simp only [show (((0 : Nat) : Int) == -1) = false from by decide] at h0
  have e47 : w1.cell? ⟨w.heap.size, 47, none⟩ = some (.int .i64 2) := by
    rw [ha1.cell]; have := h0 47 (by omega); rw [Nat.zero_mul, Nat.zero_add] at this; rw [this]; exact NX.out.1
  have e43 : w1.cell? ⟨w.heap.size, 43, none⟩ = some (.bool true) := by
    rw [ha1.cell]; have := h0 43 (by omega); rw [Nat.zero_mul, Nat.zero_add] at this; rw [this]; exact NX.out.2
  have e7 : w1.cell? ⟨w.heap.size + 1, 7, none⟩ = some (.int .u64 5) := hb1.cell 7
  have e8 : w1.cell? ⟨w.heap.size + 1, 8, none⟩ = some (.int .u32 0) := hb1.cell 8
  have e9 : w1.cell? ⟨w.heap.size + 1, 9, none⟩ = some (.int .u64 5) := hb1.cell 9
  have e10 : w1.cell? ⟨w.heap.size + 1, 10, none⟩ = some (.int .u16 0) := hb1.cell 10
  have e17 : w1.cell? ⟨w.heap.size + 1, 17, none⟩ = some (.slice (some ⟨w.heap.size, 0, none⟩) 1 1) := hb1.cell 17
  have j1 := v_eql 5 0 5 0 5 0 5 0
  have HB := Lib.hid (hB.out.trans (hb.mono (Nat.le_refl _)))
  clear hb1 ha1 hs1 h0 hb kU HI hB
  go_wp2_with fail
  go_ret
  exact ⟨rfl, HB.out⟩
end Go.Proofs.Ytlddmdnlibfndaa
