/- BpduReads' whole call where the bytes are too many, or no message. -/
import Derived.Test.YtdhmiekheecicaaDoorZa
namespace Go.Proofs.YtdhmiekheecicaaDoor
open Go.RowKit Go.Sort Go.Lib

theorem bpE_same (k f r c b p a m h d : Int) : bpE k f r c b p a m h d k f r c b p a m h d = true := by unfold bpE; simp
theorem bp_neq (k f r c b p a m h d : Int) (w : World) : (binOp .neq 31 (bpV k f r c b p a m h d) (bpV k f r c b p a m h d)).run Tryd.prog w = .ok (.bool false) w := by
  rw [run_neq_struct, bp_equal, bpE_same]; rfl
theorem bp_eq (k f r c b p a m h d : Int) (w : World) : (binOp .eql 31 (bpV k f r c b p a m h d) (bpV k f r c b p a m h d)).run Tryd.prog w = .ok (.bool true) w := by rw [bp_eql, bpE_same]
theorem bp_same (k f r c b p a m h d : Int) (w : World) : (Op.equalIn 10000 31 (bpV k f r c b p a m h d) (bpV k f r c b p a m h d)).run Tryd.prog w = .ok true w := by rw [bp_equal, bpE_same]
set_option maxHeartbeats 2000000 in
theorem breads_long (v : Value) (l : List UInt8) (w : World) (hv : Bts w w.heap.size v l) (hl : 300 < l.length) (he : Env w) :
    Calls Tryd.prog 4 #[v] w fun e w' => e = .returned (.bool true) ∧ Below w.heap.size w w' := by
  obtain ⟨p0, cap, rfl, hn⟩ := bts_len hv
  have c1 := lives_ok w he
  have HE := Lib.hid he
  clear hv he
  have hl2 : decide ((l.length : Int) > 300) = true := by simp; omega
  clear hl
  go_enter Tryd.func4, Tryd.ntmps4
  go_wp2_with fail
  refine c1.mono ?_
  rintro e w1 ⟨rfl, hb1⟩
  have c2 := lives_ok w1 (HE.out.below hb1)
  have HB1 := Lib.hid hb1
  clear c1 hb1
  go_wp2_with fail
  refine c2.mono ?_
  rintro e w2 ⟨rfl, hb2⟩
  have HB2 := Lib.hid (below_next HB1.out hb2)
  clear c2 hb2
  go_wp2_with fail
  go_ret
  exact ⟨rfl, HB2.out⟩

set_option maxRecDepth 20000 in
set_option maxHeartbeats 4000000 in
theorem breads_bad (v : Value) (l : List UInt8) (w : World) (hv : Bts w w.heap.size v l) (hl : ¬ 300 < l.length) (he : Env w) {k : Int} {f r c b p a m h d : Nat} (hM : Msg l k f r c b p a m h d) (hE : mE l ≠ 0) :
    Calls Tryd.prog 4 #[v] w fun e w' => e = .returned (.bool true) ∧ Below w.heap.size w w' := by
  have hl1 : l.length ≤ 10000 := by omega
  have CB := Lib.hid (fun W hv he => bread_bad v l W hv hl1 he hE hM)
  have CR := Lib.hid (fun W hv => (refRead_any v l W hv hl1 hM).mono fun e w' hx => hx.2 hE)
  clear hM
  obtain ⟨p0, cap, rfl, hn⟩ := bts_len hv
  have c1 := lives_ok w he
  have HE := Lib.hid he
  have HV := Lib.hid hv
  clear hv he
  have hl2 : decide ((l.length : Int) > 300) = false := by simp; omega
  have hX : (mE l != 0) = true := by simp [hE]
  have hX2 : (mE l == 0) = false := by simp [hE]
  clear hl hE
  go_enter Tryd.func4, Tryd.ntmps4
  go_wp2_with fail
  refine c1.mono ?_
  rintro e w1 ⟨rfl, hb1⟩
  have V1 := HV.out.below hb1 (Nat.le_refl _)
  have c2 := CB.out w1 (V1.mono hb1.size) (HE.out.below hb1)
  have HV1 := Lib.hid V1
  have HB1 := Lib.hid hb1
  clear c1 hb1 CB HE V1
  generalize mE l = X at *
  go_wp2_with fail
  refine c2.mono ?_
  rintro e w2 ⟨rfl, hb2⟩
  have hb3 := (below_next HB1.out hb2).alloc (below_next HB1.out hb2).size (.cells bpZ 31)
  have x3 := var_new w2 bpZ 31
  have HV3 := HV.out.below hb3 (Nat.le_refl _)
  have c3 := CR.out _ (HV3.mono hb3.size)
  have HB3 := Lib.hid hb3
  have X3 := Lib.hid x3
  clear c2 hb2 HB1 HV1 CR hb3 x3 HV3 HV
  go_wp2_with fail
  generalize w2.alloc (.cells bpZ 31) = W3 at *
  refine c3.mono ?_
  rintro e w4 ⟨rfl, hb4⟩
  have hb5 := hb4.alloc hb4.size (.cells bpZ 31)
  have x5 := X3.out.below hb5 X3.out.lt
  have y5 := var_new w4 bpZ 31
  have HB5 := Lib.hid (below_next HB3.out hb5)
  clear c3 hb4 hb5 HB3 X3
  obtain ⟨k0, k1, k2, k3, k4, k5, k6, k7, k8, k9⟩ := x5.bp
  obtain ⟨j0, j1, j2, j3, j4, j5, j6, j7, j8, j9⟩ := y5.bp
  have hne := bp_neq 0 0 0 0 0 0 0 0 0 0
  have heq := bp_eq 0 0 0 0 0 0 0 0 0 0
  have hsm := bp_same 0 0 0 0 0 0 0 0 0 0
  have g := g31
  clear x5 y5
  go_wp2_with fail
  go_ret
  exact ⟨rfl, HB5.out⟩
end Go.Proofs.YtdhmiekheecicaaDoor
