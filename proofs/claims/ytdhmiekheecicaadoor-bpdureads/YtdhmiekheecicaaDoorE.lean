/- The deferred closure of octet.Read: what it does where the function returned, where its own stop panicked, and where something else did. -/
import Derived.Test.YtdhmiekheecicaaDoorD
namespace Go.Proofs.YtdhmiekheecicaaDoor
open Go.RowKit Go.Sort

theorem assert_stop (p : Addr) (w : World) : (Instr.typeAssert (.iface 61 (.pointer (some p))) 20 61 true).run Tryd.prog w = .ok (.tuple #[.pointer (some p), .bool true]) w := by kernel_rfl
theorem stop_nil (p : Addr) (w : World) : (binOp .eql 20 (.iface 61 (.pointer (some p))) .nilIface).run Tryd.prog w = .ok (.bool false) w := by kernel_rfl
theorem nil_nil (w : World) : (binOp .eql 20 .nilIface .nilIface).run Tryd.prog w = .ok (.bool true) w := by kernel_rfl

theorem same_ptr (s : Nat) (w : World) : (binOp .neq 61 (.pointer (some ⟨s, 0, none⟩)) (ptr s)).run Tryd.prog w = .ok (.bool false) w := by
  have u : Tryd.prog.underlying 61 = some (.pointer 63) := by kernel_rfl
  have e : (Op.equalIn Op.maxDepth 61 (.pointer (some ⟨s, 0, none⟩)) (.pointer (some ⟨s, 0, none⟩))).run Tryd.prog w = .ok true w := by
    show (Op.equalIn (9999+1) 61 _ _).run Tryd.prog w = _
    unfold Op.equalIn
    simp [run_underlying u, sameAddr]
  unfold binOp
  simp only [Op.equal]
  simp [e]

set_option maxHeartbeats 1000000 in
theorem end_idle (o r : Nat) (w : World) :
    CallsD Tryd.prog 27 #[ptr o, ptr r] .returning w fun e u' w' => e = .returned (.tuple #[]) ∧ u' = .returning ∧ w' = w := by
  refine callsD_of_wpS Tryd.func27 rfl fun c₀ cs hu => ?_
  apply wpS_seq
  apply wpS_region
  simp [wpOpsS, go_sem, recoverD, hu, Tryd.ntmps27, Exit.thenS, Array.replicate]
  refine wpS_of_wp ?_
  have e := nil_nil
  go_wp2
  cases c₀
  simp_all [bodyPostS, results, Tryd.results27]

set_option maxHeartbeats 1000000 in
theorem end_stop (o r s : Nat) (e0 x : Int) (older : List PanicEntry) (w : World) (ho : OneAt w o (ptr s) 61) (hs : OneAt w s (.int .i64 x) 63) (hr : OneAt w r (.int .i64 e0) 34) :
    CallsD Tryd.prog 27 #[ptr o, ptr r] (.panicking ({ v := stopV s, recovered := false } :: older)) w fun e u' w' =>
      e = .returned (.tuple #[]) ∧ u' = .panicking ({ v := stopV s, recovered := true } :: older) ∧ w' = w.setCell ⟨r, 0, none⟩ (.int .i64 x) := by
  have o0 : w.cell? ⟨o, 0, none⟩ = some (ptr s) := ho.cell 0
  have s0 : w.cell? ⟨s, 0, none⟩ = some (.int .i64 x) := hs.cell 0
  have r0 : w.cell? ⟨r, 0, none⟩ = some (.int .i64 e0) := hr.cell 0
  have f0 := hr.frozen 0
  clear ho hs hr
  refine callsD_of_wpS Tryd.func27 rfl fun c₀ cs hu => ?_
  apply wpS_seq
  apply wpS_region
  simp [wpOpsS, go_sem, recoverD, hu, Tryd.ntmps27, Exit.thenS, Array.replicate]
  refine wpS_of_wp ?_
  have e := stop_nil ⟨s, 0, none⟩
  have e2 := assert_stop ⟨s, 0, none⟩
  have e3 := same_ptr s
  go_wp2
  cases c₀
  simp_all [bodyPostS, results, Tryd.results27]

end Go.Proofs.YtdhmiekheecicaaDoor
