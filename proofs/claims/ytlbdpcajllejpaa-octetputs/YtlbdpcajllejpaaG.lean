/- The chapter's example: lives returns true. -/
import Derived.Test.YtlbdpcajllejpaaF
namespace Go.Proofs.Ytlbdpcajllejpaa
open Go.RowKit Go.Sort

set_option maxHeartbeats 1000000 in
theorem lives1_any (B r cn cc b : Nat) (w wr w1 : World) (v : Value) (hin : InRead r wr [1, 2, 3] b v w1) (hn : OneAt wr cn (.int .u64 0) 23) (hc : OneAt wr cc (.bool false) 4) (hne : cn ≠ cc) (hnr : cn < r) (hcr : cc < r)
    (hBn : B ≤ cn) (hBc : B ≤ cc) (hb : Below B w wr) :
    Calls Try.prog 15 #[ptr b, ptr cc, ptr cn] w1 fun e w2 => e = stopped (r + 1) ∧ OneAt w2 r (.int .i64 0) 26 ∧ OneAt w2 (r + 1) (.int .i64 2) 39 ∧ OneAt w2 (r + 2) (ptr (r + 1)) 37 ∧
      OneAt w2 cn (.int .u64 258) 23 ∧ OneAt w2 cc (.bool true) 4 ∧ Below B w w2 := by
  have hlt := hin.lt
  have n1 := hn.below hin.below hnr
  have c1 := hc.below hin.below hcr
  have b1 : Below B w w1 := hb.trans (hin.below.mono (by omega))
  have c0 : w1.cell? ⟨cc, 0, none⟩ = some (.bool false) := c1.cell 0
  have f0 := c1.frozen 0
  have N1 := n1.set_other (a := ⟨cc, 0, none⟩) hne (.bool true)
  have C1 := c1.set 0 (.bool true)
  have RD1 := hin.rd.set_other (a := ⟨cc, 0, none⟩) (by simp; omega) (.bool true)
  have RES1 := hin.res.set_other (a := ⟨cc, 0, none⟩) (by simp; omega) (.bool true)
  have ST1 := hin.stop.set_other (a := ⟨cc, 0, none⟩) (by simp; omega) (.bool true)
  have OW1 := hin.own.set_other (a := ⟨cc, 0, none⟩) (by simp; omega) (.bool true)
  have BT1 := hin.bts.set hin.far (c := ⟨cc, 0, none⟩) (by simp; omega) (.bool true)
  have B1 := b1.setCell (p := ⟨cc, 0, none⟩) hBc (.bool true)
  have FAR := hin.far
  have con := number_ok b (r + 1) v [1, 2, 3] 2 (w1.setCell ⟨cc, 0, none⟩ (.bool true)) RD1 BT1 (by decide) (by decide) (by decide)
  have H := Lib.hid (And.intro N1 (And.intro C1 (And.intro RES1 (And.intro ST1 (And.intro OW1 (And.intro B1 FAR))))))
  clear hin hn hc hb n1 c1 b1 N1 C1 RD1 RES1 ST1 OW1 BT1 B1 FAR
  go_enter Try.func15, Try.ntmps15
  go_wp2_with fail
  refine con.mono ?_
  rintro e w2 ⟨v2, rfl, hb2, rd2, bt2, far2⟩
  obtain ⟨N1, C1, RES1, ST1, OW1, B1, FAR⟩ := H.out
  have n2 := N1.below hb2 (by omega)
  have c2 := C1.below hb2 (by omega)
  have res2 := RES1.below hb2 (by omega)
  have st2 := ST1.below hb2 (by omega)
  have ow2 := OW1.below hb2 (by omega)
  have b2 := B1.trans (hb2.mono (by omega))
  have FAR2 := far2 _ FAR
  clear N1 C1 RES1 ST1 OW1 B1 FAR H con hb2 far2 c0 f0
  have e1 : numOf ([1, 2, 3].take 2) = 258 := by decide
  rw [e1]
  have c0 : w2.cell? ⟨cn, 0, none⟩ = some (.int .u64 0) := n2.cell 0
  have f0 := n2.frozen 0
  have N3 := n2.set 0 (.int .u64 258)
  have C3 := c2.set_other (a := ⟨cn, 0, none⟩) (by simp; omega) (.int .u64 258)
  have RD3 := rd2.set_other (a := ⟨cn, 0, none⟩) (by simp; omega) (.int .u64 258)
  have RES3 := res2.set_other (a := ⟨cn, 0, none⟩) (by simp; omega) (.int .u64 258)
  have ST3 := st2.set_other (a := ⟨cn, 0, none⟩) (by simp; omega) (.int .u64 258)
  have OW3 := ow2.set_other (a := ⟨cn, 0, none⟩) (by simp; omega) (.int .u64 258)
  have BT3 := bt2.set FAR2 (c := ⟨cn, 0, none⟩) (by simp; omega) (.int .u64 258)
  have B3 := b2.setCell (p := ⟨cn, 0, none⟩) hBn (.int .u64 258)
  have con := number_cut b (r + 1) v2 [3] 2 0 (w2.setCell ⟨cn, 0, none⟩ (.int .u64 258)) RD3 BT3 (by decide) (by decide) ST3 (by omega)
  have H := Lib.hid (And.intro N3 (And.intro C3 (And.intro RES3 (And.intro ST3 (And.intro OW3 B3)))))
  clear n2 c2 res2 st2 ow2 b2 FAR2 rd2 bt2 N3 C3 RD3 RES3 ST3 OW3 BT3 B3
  go_wp2_with fail
  refine con.mono ?_
  rintro e w4 ⟨rfl, rfl⟩
  obtain ⟨N3, C3, RES3, ST3, OW3, B3⟩ := H.out
  exact ⟨rfl, rfl, RES3.set_other (a := ⟨r + 1, 0, none⟩) (by simp) _, ST3.set 0 _, OW3.set_other (a := ⟨r + 1, 0, none⟩) (by simp) _, N3.set_other (a := ⟨r + 1, 0, none⟩) (by simp; omega) _, C3.set_other (a := ⟨r + 1, 0, none⟩) (by simp; omega) _, B3.setCell (p := ⟨r + 1, 0, none⟩) (by simp; omega) _⟩

theorem lives_start (w : World) : ∃ w0 : World, w0 = (((w.alloc (.cells #[.int .u64 0] 23)).alloc (.cells #[.bool false] 4)).alloc (.cells #[.int .u8 1, .int .u8 2, .int .u8 3] 5)) ∧
    OneAt w0 w.heap.size (.int .u64 0) 23 ∧ OneAt w0 (w.heap.size + 1) (.bool false) 4 ∧ Bts w0 w0.heap.size (.slice (some ⟨w.heap.size + 2, 0, none⟩) 3 3) [1, 2, 3] ∧ Below w.heap.size w w0 ∧ w0.heap.size = w.heap.size + 3 := by
  refine ⟨_, rfl, ((var_new w _ _).alloc _).alloc _, ?_, ?_, ((box_below _ _).alloc (by rw [alloc_size]; omega) _).alloc (by rw [alloc_size, alloc_size]; omega) _, by rw [alloc_size, alloc_size, alloc_size]⟩
  · have := var_new (w.alloc (.cells #[.int .u64 0] 23)) #[.bool false] 4
    rw [alloc_size] at this
    exact this.alloc _
  · have := var_new ((w.alloc (.cells #[.int .u64 0] 23)).alloc (.cells #[.bool false] 4)) #[.int .u8 1, .int .u8 2, .int .u8 3] 5
    rw [alloc_size, alloc_size] at this
    refine .inr ⟨_, _, rfl, by decide, by decide, fun _ => by rw [alloc_size, alloc_size, alloc_size]; simp, fun j hj => ?_⟩
    rw [Addr.add_lit, Nat.zero_add, this.cell j]
    match j, hj with
    | 0, _ => rfl
    | 1, _ => rfl
    | 2, _ => rfl

theorem call15 (args : Array Value) (w : World) : (callFunc 15 args).run Try.prog w = .ok (.enter 15 args) w := by kernel_rfl
theorem lives_ok (w : World) : Calls Try.prog 5 #[] w fun e w' => e = .returned (.bool true) ∧ Below w.heap.size w w' := by
  have hmf : ∀ (fn : Fn) (first cap : Array Value) (w : World), (Instr.makeFunc fn first cap).run Try.prog w = .ok (.func fn first cap) w := fun _ _ _ _ => rfl
  go_enter Try.func5, Try.ntmps5
  go_wp2_with fail
  obtain ⟨w0, e0, hn, hc, hv, hb, hsz⟩ := lives_start w
  rw [← e0]
  clear e0
  refine (read_stop 15 #[ptr (w.heap.size + 1), ptr w.heap.size] _ [1, 2, 3] 2 w0 (fun w2 => OneAt w2 w.heap.size (.int .u64 258) 23 ∧ OneAt w2 (w.heap.size + 1) (.bool true) 4 ∧ Below w.heap.size w w2) call15 hv (by decide)
    (fun b vr w1 hin => lives1_any w.heap.size w0.heap.size w.heap.size (w.heap.size + 1) b w w0 w1 vr hin hn hc (by omega) (by omega) (by omega) (by omega) (by omega) hb)).mono ?_
  rintro e w' ⟨rfl, w2, ⟨h1, h2, h3⟩, rfl⟩
  have g1 := h1.set_other (a := ⟨w0.heap.size, 0, none⟩) (by simp; omega) (.int .i64 2)
  have g2 := h2.set_other (a := ⟨w0.heap.size, 0, none⟩) (by simp; omega) (.int .i64 2)
  have g3 := h3.setCell (p := ⟨w0.heap.size, 0, none⟩) (by simp; omega) (.int .i64 2)
  clear h1 h2 h3 hn hc hv hb hsz
  generalize w2.setCell ⟨w0.heap.size, 0, none⟩ (.int .i64 2) = w3 at *
  have c1 : w3.cell? ⟨w.heap.size, 0, none⟩ = some (.int .u64 258) := g1.cell 0
  have c2 : w3.cell? ⟨w.heap.size + 1, 0, none⟩ = some (.bool true) := g2.cell 0
  clear g1 g2
  go_wp2_with fail
  go_ret
  exact ⟨rfl, g3⟩
end Go.Proofs.Ytlbdpcajllejpaa
