/- The contract of readMessage where a body follows. -/
import Derived.Test.YtdhmiekheecicaaDoorS
namespace Go.Proofs.YtdhmiekheecicaaDoor
open Go.RowKit Go.Sort Go.Lib

set_option maxRecDepth 20000 in
set_option maxHeartbeats 4000000 in
theorem readMessage_body1 {n s : Nat} {w0 w : World} {l : List UInt8} {v : Value} (hS : St n s w0 l v w) (he : Env w0) {k : Int} {f r c b p a m h d : Nat} {F R C B P A M H D : Nat} (hM : hdE l = 0) (hk : kd l = 1) (hF : Hid (fd l 4 1 = F)) (hR : Hid (fd l 5 8 = R)) (hC : Hid (fd l 13 4 = C)) (hB : Hid (fd l 17 8 = B)) (hP : Hid (fd l 25 2 = P)) (hA : Hid (fd l 27 2 = A)) (hMx : Hid (fd l 29 2 = M)) (hH : Hid (fd l 31 2 = H)) (hD : Hid (fd l 33 2 = D)) (hA2 : ∀ W, Env W → Calls Tryd.prog 32 #[bpV 1 F R C B P A M H D] W fun e w' => e = .returned (bpV k f r c b p a m h d) ∧ Below W.heap.size W w') :
    Calls Tryd.prog 22 #[ptr n] w (Tells n s w0 l k f r c b p a m h d) := by
  have S0 := (hS.alloc (.cells bpZ 31)).rebase
  have B0 := Lib.hid (hS.alloc (.cells bpZ 31)).below
  have z0 := var_new w bpZ 31
  have hgn : w.heap.size ≠ n := by have := hS.rd.lt; omega
  have hsz := hS.kept.size
  have hn0 : 0 < n := by have := hS.slt; omega
  have hnw : n ≤ w.heap.size := Nat.le_of_lt hS.rd.lt
  have c1 := readHead_any S0
  have HE := Lib.hid he
  have Z0 := Lib.hid z0
  clear S0 z0 he hS
  generalize hW0 : w.alloc (.cells bpZ 31) = W0 at *
  go_enter Tryd.func22, Tryd.ntmps22
  go_wp2_with fail
  refine c1.mono ?_
  intro e w1 hE
  rcases hE.symm with ⟨h0, -⟩ | ⟨-, v1, rfl, S1⟩
  · exact absurd hM h0
  rw [show kdOf (byt l 2) (byt l 3) = 1 from hk]
  have Z1 := Lib.hid (Z0.out.kept S1.kept hgn)
  have B1 := Lib.hid (B0.out.trans S1.below)
  have hsz1 : w.heap.size + 1 ≤ w1.heap.size := by have := S1.kept.size; rw [← hW0, alloc_size] at this; exact this
  have HM := Lib.hid (show mE l = if l.length < 35 then 2 else if fd l 27 2 < fd l 29 2 then 0 else 5 by unfold mE; rw [if_neg (by simp [hM]), hk, if_neg (by decide)]; simp)
  have HL := Lib.hid (hd_kd hM).2
  have c2 := readBody_any S1.rebase
  have HA := Lib.hid hA2
  clear S1 Z0 B0 hE c1 hM hk hW0 hA2
  go_wp2_with fail
  refine c2.mono ?_
  intro e w2 hE
  rcases hE.symm with ⟨hc, rfl, w3, hs⟩ | ⟨hc, v2, rfl, S2, -⟩
  · have e1 : mE l = 2 := by rw [HM.out, if_pos (by rw [List.length_drop] at hc; omega)]
    exact ⟨rfl, stops_tells e1 (by decide) ⟨B1.out.trans hs.1, hs.2⟩⟩
  have hl35 : ¬ l.length < 35 := by rw [List.length_drop] at hc; have := HL.out; omega
  simp only [fd_drop, Nat.reduceAdd]
  rw [hF.out, hR.out, hC.out, hB.out, hP.out, hA.out, hMx.out, hH.out, hD.out]
  have HM2 := Lib.hid (show mE l = if A < M then 0 else 5 by rw [HM.out, if_neg hl35, hA.out, hMx.out])
  have Z2 := Lib.hid (Z1.out.kept S2.kept hgn)
  have B2 := Lib.hid (B1.out.trans S2.below)
  have hsz2 : w.heap.size + 1 ≤ w2.heap.size := Nat.le_trans hsz1 S2.kept.size
  rw [List.drop_drop] at S2
  clear c2 hE hF hR hC hB hP hA hMx hH hD HM Z1 B1 hc
  have S3 := Lib.hid ((S2.rebase.alloc (.cells (bpC 1 F R C B P A M H D) 31)).alloc (.cells (bpC 1 F R C B P A M H D) 31))
  have c3 := young_any 1 F R C B P A M H D
  clear S2
  by_cases hy : A < M
  · have e1 := Lib.hid (show mE l = 0 by rw [HM2.out, if_pos hy])
    have hy2 : decide ((A : Int) < M) = true := by simp; omega
    simp only [hy2] at c3
    clear HM2 hy hy2
    go_wp2_with fail
    refine (c3 _).mono ?_
    rintro e w3 ⟨rfl, rfl⟩
    clear c3
    have Z3 := Lib.hid ((Z2.out.alloc (.cells (bpC 1 F R C B P A M H D) 31)).alloc (.cells (bpC 1 F R C B P A M H D) 31))
    have B3 := Lib.hid (B2.out.trans S3.out.below)
    have c4 := HA.out _ (HE.out.low B3.out hn0)
    clear Z2 S3 HA B2
    go_wp2_with fail
    refine c4.mono ?_
    rintro e w4 ⟨rfl, hb4⟩
    clear c4
    have z4 := Z3.out.below hb4 Z3.out.lt
    have b4 := B3.out.trans (hb4.mono (by rw [alloc_size, alloc_size]; omega))
    obtain ⟨j0, j1, j2, j3, j4, j5, j6, j7, j8, j9⟩ := z4.bp
    have f0 := z4.frozen
    have R1 := Lib.hid (bp10_at k f r c b p a m h d z4)
    have R2 := Lib.hid (bp10_below k f r c b p a m h d b4 hnw)
    clear z4 b4
    go_wp2_with fail
    change bodyPost Tryd.prog Tryd.f22 _ _ _ (bp10 w4 w.heap.size k f r c b p a m h d)
    generalize bp10 w4 w.heap.size k f r c b p a m h d = W9 at *
    clear j0 j1 j2 j3 j4 j5 j6 j7 j8 j9 f0
    obtain ⟨k0, k1, k2, k3, k4, k5, k6, k7, k8, k9⟩ := R1.out.bp
    exact bodyPost_ret (v := bpV k f r c b p a m h d) (by simp [results, Tryd.results22, go_sem, k0, k1, k2, k3, k4, k5, k6, k7, k8, k9]) rfl (.inl ⟨e1.out, rfl, R2.out⟩)
  · have e1 : mE l = 5 := by rw [HM2.out, if_neg hy]
    have hy2 : decide ((A : Int) < M) = false := by simp; omega
    simp only [hy2] at c3
    have E1 := Lib.hid e1
    clear HM2 hy hy2 e1
    have c5 := S3.out.halt 5
    go_wp2_with fail
    refine (c3 _).mono ?_
    rintro e w3 ⟨rfl, rfl⟩
    clear c3
    go_wp2_with fail
    refine c5.mono ?_
    rintro e w4 ⟨rfl, w5, hs⟩
    exact ⟨rfl, stops_tells E1.out (by decide) ⟨B2.out.trans hs.1, hs.2⟩⟩
end Go.Proofs.YtdhmiekheecicaaDoor
