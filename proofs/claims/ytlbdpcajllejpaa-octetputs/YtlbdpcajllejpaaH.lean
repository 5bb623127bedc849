/- A panic of the function itself goes on through Read, and is caught: OctetPanics returns true. -/
import Derived.Test.YtlbdpcajllejpaaG
namespace Go.Proofs.Ytlbdpcajllejpaa
open Go.RowKit Go.Sort

set_option maxHeartbeats 1000000 in
theorem caught2_any (r cn b : Nat) (n : Int) (l : List UInt8) (wr w1 : World) (v : Value) (hin : InRead r wr l b v w1) (hl : l.length ≤ 10000) (hn : OneAt wr cn (.int .i64 n) 3) (hnr : cn < r) :
    Calls Try.prog 19 #[ptr b, ptr cn] w1 fun e w2 => e = .panicked [{ v := oddV n, recovered := false }] ∧ Below r wr w2 := by
  have hlt := hin.lt
  have n1 := hn.below hin.below hnr
  have con := bytes_ok b (r + 1) v l 0 w1 hin.rd hin.bts (Nat.zero_le _) (by omega)
  have HB := Lib.hid hin.below
  have N1 := Lib.hid n1
  clear hin hn n1
  go_enter Try.func19, Try.ntmps19
  go_wp2_with fail
  refine con.mono ?_
  rintro e w2 ⟨v1, v2, rfl, hb2, -⟩
  have c0 : w2.cell? ⟨cn, 0, none⟩ = some (.int .i64 n) := (N1.out.below hb2 (by omega)).cell 0
  have B2 := Lib.hid (HB.out.trans (hb2.mono (by omega)))
  clear con hb2
  go_wp2_with fail
  exact ⟨rfl, rfl, B2.out⟩

theorem assert_own (n : Int) (w : World) : (Instr.typeAssert (oddV n) 20 44 true).run Try.prog w = .ok (.tuple #[.agg #[.int .i64 n], .bool true]) w := by kernel_rfl
set_option maxHeartbeats 1000000 in
theorem caught1_any (cn ok : Nat) (n : Int) (older : List PanicEntry) (w : World) (hn : OneAt w cn (.int .i64 n) 3) (hk : OneAt w ok (.bool false) 4) :
    CallsD Try.prog 18 #[ptr cn, ptr ok] (.panicking ({ v := oddV n, recovered := false } :: older)) w fun e u' w' =>
      e = .returned (.tuple #[]) ∧ u' = .panicking ({ v := oddV n, recovered := true } :: older) ∧ w' = (w.alloc (.cells #[.int .i64 n] 44)).setCell ⟨ok, 0, none⟩ (.bool true) := by
  have n0 : (w.alloc (.cells #[.int .i64 n] 44)).cell? ⟨cn, 0, none⟩ = some (.int .i64 n) := (hn.alloc _).cell 0
  have k0 : (w.alloc (.cells #[.int .i64 n] 44)).cell? ⟨ok, 0, none⟩ = some (.bool false) := (hk.alloc _).cell 0
  have f0 := (hk.alloc (.cells #[.int .i64 n] 44)).frozen 0
  clear hn hk
  refine callsD_of_wpS Try.func18 rfl fun c₀ cs hu => ?_
  apply wpS_seq
  apply wpS_region
  simp [wpOpsS, go_sem, recoverD, hu, Try.ntmps18, Exit.thenS, assert_own, Array.replicate]
  refine wpS_of_wp ?_
  go_wp2
  cases c₀
  simp_all [bodyPostS, results, Try.results18]

theorem call19 (args : Array Value) (w : World) : (callFunc 19 args).run Try.prog w = .ok (.enter 19 args) w := by kernel_rfl
theorem caught_start (n : Int) (w : World) : ∃ w0 : World, w0 = (w.alloc (.cells #[.int .i64 n] 3)).alloc (.cells #[.bool false] 4) ∧ OneAt w0 w.heap.size (.int .i64 n) 3 ∧ OneAt w0 (w.heap.size + 1) (.bool false) 4 ∧ Below w.heap.size w w0 ∧ w0.heap.size = w.heap.size + 2 := by
  refine ⟨_, rfl, (var_new w _ _).alloc _, ?_, (box_below _ _).alloc (by rw [alloc_size]; omega) _, by rw [alloc_size, alloc_size]⟩
  have := var_new (w.alloc (.cells #[.int .i64 n] 3)) #[.bool false] 4
  rwa [alloc_size] at this

set_option maxHeartbeats 1000000 in
theorem caught_any (n : Int) (v : Value) (l : List UInt8) (w : World) (hv : Bts w w.heap.size v l) (hl : l.length ≤ 10000) :
    Calls Try.prog 14 #[.int .i64 n, v] w fun e w' => e = .returned (.bool true) ∧ Below w.heap.size w w' := by
  have hmf : ∀ (fn : Fn) (first cap : Array Value) (w : World), (Instr.makeFunc fn first cap).run Try.prog w = .ok (.func fn first cap) w := fun _ _ _ _ => rfl
  have HV := Lib.hid hv
  clear hv
  go_enter_defers Try.func14, Try.ntmps14
  go_wp2_with fail
  obtain ⟨w0, e0, hn, hk, hb, hsz⟩ := caught_start n w
  rw [← e0]
  clear e0
  refine (read_odd 19 #[ptr w.heap.size] v l n w0 (fun w2 => Below w0.heap.size w0 w2) call19 ((HV.out.below hb (Nat.le_refl _)).mono (by omega)) hl
    (fun b vr w1 hin => caught2_any w0.heap.size w.heap.size b n l w0 w1 vr hin hl hn (by omega))).mono ?_
  rintro e w2 ⟨rfl, hb2⟩
  have n2 := hn.below hb2 (by omega)
  have k2 := hk.below hb2 (by omega)
  have b2 := below_next hb hb2
  show bodyPostD _ _ _ _ _ _
  refine leaves_cons (f := 18) (args := #[ptr w.heap.size, ptr (w.heap.size + 1)]) (by simp) (by simp [go_sem]) ?_
  refine (caught1_any w.heap.size (w.heap.size + 1) n _ w2 n2 k2).mono ?_
  rintro e u' w'' ⟨rfl, rfl, rfl⟩
  have k3 := ((k2.alloc (.cells #[.int .i64 n] 44)).set 0 (.bool true)).cell 0
  have b3 := (b2.alloc b2.size (.cells #[.int .i64 n] 44)).setCell (p := ⟨w.heap.size + 1, 0, none⟩) (by simp) (.bool true)
  revert k3 b3
  generalize (w2.alloc (.cells #[.int .i64 n] 44)).setCell ⟨w.heap.size + 1, 0, none⟩ (.bool true) = W'
  intro k3 b3
  replace k3 : W'.cell? ⟨w.heap.size + 1, 0, none⟩ = some (.bool true) := k3
  simp [Leaves, settle, results, Try.results14, go_sem, k3, b3]

set_option maxHeartbeats 1000000 in
theorem panics_long (n : Int) (p : Option Addr) (len cap : Nat) (w : World) (h : 100 < len) (_ : len ≤ 9223372036854775807) :
    Calls Try.prog 4 #[.int .i64 n, .slice p len cap] w fun e w' => e = .returned (.bool true) ∧ Below w.heap.size w w' := by
  go_enter Try.func4, Try.ntmps4
  go_wp2_with fail
  refine (lives_ok _).mono ?_
  rintro e w1 ⟨rfl, hb⟩
  have HB := Lib.hid hb
  clear hb
  go_wp2_with fail
  refine (lives_ok _).mono ?_
  rintro e w2 ⟨rfl, hb⟩
  have HB2 := Lib.hid hb
  clear hb
  go_wp2_with fail
  go_ret
  exact ⟨rfl, below_next HB.out HB2.out⟩

set_option maxHeartbeats 1000000 in
theorem panics_short (n : Int) (v : Value) (l : List UInt8) (w : World) (hv : Bts w w.heap.size v l) (h : ¬ 100 < l.length) :
    Calls Try.prog 4 #[.int .i64 n, v] w fun e w' => e = .returned (.bool true) ∧ Below w.heap.size w w' := by
  have HV := Lib.hid hv
  clear hv
  obtain ⟨-, p, cap, rfl, -⟩ := bts_parts HV.out
  go_enter Try.func4, Try.ntmps4
  go_wp2_with fail
  refine (lives_ok _).mono ?_
  rintro e w1 ⟨rfl, hb⟩
  have con := caught_any n _ l w1 ((HV.out.below hb (Nat.le_refl _)).mono hb.size) (by omega)
  have HB := Lib.hid hb
  clear hb
  go_wp2_with fail
  refine con.mono ?_
  rintro e w2 ⟨rfl, hb⟩
  have HB2 := Lib.hid hb
  clear hb con
  go_wp2_with fail
  go_ret
  exact ⟨rfl, below_next HB.out HB2.out⟩
end Go.Proofs.Ytlbdpcajllejpaa
