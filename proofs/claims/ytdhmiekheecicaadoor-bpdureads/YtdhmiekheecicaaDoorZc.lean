/- BpduReads' whole call where the bytes are a message. -/
import Derived.Test.YtdhmiekheecicaaDoorZb
namespace Go.Proofs.YtdhmiekheecicaaDoor
open Go.RowKit Go.Sort Go.Lib

set_option maxRecDepth 20000 in
set_option maxHeartbeats 8000000 in
theorem breads_ok (v : Value) (l : List UInt8) (w : World) (hv : Bts w w.heap.size v l) (hl : ¬ 300 < l.length) (he : Env w) {k : Int} {f r c b p a m h d : Nat} (hM : Msg l k f r c b p a m h d) (hE : mE l = 0) (hf : f < 256) (hr : r < 18446744073709551616) (hc : c < 4294967296) (hb : b < 18446744073709551616) (hp : p < 65536) (ha : a < 65536) (hm : m < 65536) (hh : h < 65536) (hd : d < 65536) :
    Calls Tryd.prog 4 #[v] w fun e w' => e = .returned (.bool true) ∧ Below w.heap.size w w' := by
  have hl1 : l.length ≤ 10000 := by omega
  have hR := msg_right hM hE
  have C1 := Lib.hid (fun W hv he => bread_ok v l W hv hl1 he hE hM)
  have C2 := Lib.hid (fun W hv => (refRead_any v l W hv hl1 hM).mono fun e w' hx => hx.1 hE)
  have C3 := Lib.hid (fun w he => bytes_ok7 k f r c b p a m h d hf hr hc hb hp ha hm hh hd hR w he)
  have hlen : (bpB k f r c b p a m h d).length ≤ 10000 := by
    rcases right_kind hR with rfl | rfl | rfl
    · exact Nat.le_trans (Nat.le_of_eq (hdB_len 0 128)) (by omega)
    · exact Nat.le_trans (Nat.le_of_eq ((bdB_len (hdB 0 0) f r c b p a m h d).trans (by rw [hdB_len]))) (by omega)
    · show (bdB (hdB 2 2) f r c b p a m h d ++ lw 0 1 1).length ≤ 10000
      rw [List.length_append, bdB_len, hdB_len, lw_len]; omega
  have OR := own_read k f r c b p a m h d hf hr hc hb hp ha hm hh hd hR []
  rw [List.append_nil] at OR
  have C4 := Lib.hid (fun v W hv he => bread_ok v (bpB k f r c b p a m h d) W hv hlen he OR.1 OR.2)
  clear OR hlen hf hr hc hb hp ha hm hh hd hR hM hE
  generalize bpB k f r c b p a m h d = L at *
  obtain ⟨p0, cap, rfl, hn⟩ := bts_len hv
  have c1 := lives_ok w he
  have HE := Lib.hid he
  have HV := Lib.hid hv
  clear hv he
  have hl2 : decide ((l.length : Int) > 300) = false := by simp; omega
  clear hl hl1
  go_enter Tryd.func4, Tryd.ntmps4
  go_wp2_with fail
  refine c1.mono ?_
  rintro e w1 ⟨rfl, hb1⟩
  have V1 := HV.out.below hb1 (Nat.le_refl _)
  have c2 := C1.out w1 (V1.mono hb1.size) (HE.out.below hb1)
  have HB1 := Lib.hid hb1
  clear c1 hb1 C1 V1
  go_wp2_with fail
  refine c2.mono ?_
  rintro e w2 ⟨rfl, hb2⟩
  have hb3 := (below_next HB1.out hb2).alloc (below_next HB1.out hb2).size (.cells (bpC k f r c b p a m h d) 31)
  have x3 := var_new w2 (bpC k f r c b p a m h d) 31
  have HV3 := HV.out.below hb3 (Nat.le_refl _)
  have c3 := C2.out _ (HV3.mono hb3.size)
  have HB3 := Lib.hid hb3
  have X3 := Lib.hid x3
  clear c2 hb2 HB1 C2 hb3 x3 HV3 HV
  go_wp2_with fail
  generalize w2.alloc (.cells (bpC k f r c b p a m h d) 31) = W3 at *
  refine c3.mono ?_
  rintro e w4 ⟨rfl, hb4⟩
  have hb5 := hb4.alloc hb4.size (.cells (bpC k f r c b p a m h d) 31)
  have x5 := X3.out.below hb5 X3.out.lt
  have y5 := var_new w4 (bpC k f r c b p a m h d) 31
  have HB5 := Lib.hid (below_next HB3.out hb5)
  have X5 := Lib.hid x5
  have c6 := C3.out _ (HE.out.below HB5.out)
  clear c3 hb4 hb5 HB3 X3 C3
  obtain ⟨k0, k1, k2, k3, k4, k5, k6, k7, k8, k9⟩ := x5.bp
  obtain ⟨j0, j1, j2, j3, j4, j5, j6, j7, j8, j9⟩ := y5.bp
  have hne := bp_neq k f r c b p a m h d
  have hsm := bp_same k f r c b p a m h d
  have g := g31
  clear x5 y5
  go_wp2_with fail
  generalize w4.alloc (.cells (bpC k f r c b p a m h d) 31) = W5 at *
  refine c6.mono ?_
  rintro e w6 ⟨v6, rfl, P6, hb6⟩
  have HB6 := Lib.hid (below_next HB5.out hb6)
  have X6 := Lib.hid (X5.out.below hb6 X5.out.lt)
  have c7 := C4.out v6 w6 P6.bts (HE.out.below HB6.out)
  clear c6 k0 k1 k2 k3 k4 k5 k6 k7 k8 k9 j0 j1 j2 j3 j4 j5 j6 j7 j8 j9 X5 HB5 hb6 P6 C4 HE
  go_wp2_with fail
  refine c7.mono ?_
  rintro e w7 ⟨rfl, hb7⟩
  have hb8 := hb7.alloc hb7.size (.cells (bpC k f r c b p a m h d) 31)
  have x8 := X6.out.below hb8 X6.out.lt
  have y8 := var_new w7 (bpC k f r c b p a m h d) 31
  have HB8 := Lib.hid (below_next HB6.out hb8)
  clear c7 hb7 hb8 HB6 X6
  obtain ⟨k0, k1, k2, k3, k4, k5, k6, k7, k8, k9⟩ := x8.bp
  obtain ⟨j0, j1, j2, j3, j4, j5, j6, j7, j8, j9⟩ := y8.bp
  have heq := bp_eq k f r c b p a m h d
  clear x8 y8
  go_wp2_with fail
  go_ret
  exact ⟨rfl, HB8.out⟩
theorem breads_any (v : Value) (l : List UInt8) (w : World) (hv : Bts w w.heap.size v l) (he : Env w) :
    Calls Tryd.prog 4 #[v] w fun e w' => e = .returned (.bool true) ∧ Below w.heap.size w w' := by
  by_cases hl : 300 < l.length
  · exact breads_long v l w hv hl he
  · obtain ⟨k, f, r, c, b, p, a, m, h, d, hM, hf, hr, hc, hb, hp, ha, hm, hh, hd⟩ := msg_ex l
    by_cases hE : mE l = 0
    · exact breads_ok v l w hv hl he hM hE hf hr hc hb hp ha hm hh hd
    · exact breads_bad v l w hv hl he hM hE
end Go.Proofs.YtdhmiekheecicaaDoor
