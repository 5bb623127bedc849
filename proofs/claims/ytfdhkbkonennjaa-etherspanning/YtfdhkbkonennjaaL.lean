/- The contracts of readFrom, readNumber and bodySize. -/
import Derived.Test.YtfdhkbkonennjaaK
namespace Go.Proofs.Ytfdhkbkonennjaa
open Go.RowKit Go.Sort

set_option maxHeartbeats 1000000 in
theorem readFrom_ok (b s : Nat) (v : Value) (l : List UInt8) (w : World) (hr : RdAt w b v s) (hv : Bts w b v l) (h6 : 6 ≤ l.length) (hl : l.length ≤ 10000) (hg : byt l 0 % 2 = 0) :
    Calls Try.prog 25 #[ptr b] w fun x w' => x = .returned (macV (byt l)) ∧ Took b s w v l 6 w' := by
  have hlt := hr.lt
  have hb := Lib.hid (box_below w (.cells mac0 23))
  have hz := Lib.hid (var_new w mac0 23)
  have c := readMac_ok b s v l (w.alloc (.cells mac0 23)) (hr.alloc _) (hv.below (box_below _ _) (by omega)) h6 hl
  clear hr hv
  go_enter Try.func25, Try.ntmps25
  go_wp2_with fail
  refine c.mono ?_
  rintro e w1 ⟨rfl, k1, v2, rd1, bt1, far1⟩
  have hs1 := k1.size
  rw [alloc_size] at hs1
  have z1 := hz.out.kept k1 (by omega)
  have hf := Lib.hid (var_new w1 #[.int .u8 (byt l 0), .int .u8 (byt l 1), .int .u8 (byt l 2), .int .u8 (byt l 3), .int .u8 (byt l 4), .int .u8 (byt l 5)] 23)
  have hb1 := Lib.hid (box_below w1 (macO (byt l) 23))
  have c2 := grouped_any (byt l) (w1.alloc (macO (byt l) 23))
  have e2 : ((byt l 0 : Int) % 2 == 1) = false := by simp; omega
  rw [e2] at c2
  have K1 := Lib.hid ((kept_of_below hb.out (b := b)).trans k1)
  have Z1 := Lib.hid z1
  have RD1 := Lib.hid rd1
  have BT1 := Lib.hid bt1
  have FAR1 := Lib.hid far1
  clear k1 z1 rd1 bt1 far1 c hb hz e2
  go_wp2_with fail
  refine c2.mono ?_
  rintro e w2 ⟨rfl, hb2⟩
  have hb3 := below_next hb1.out hb2
  have F2 := hf.out.below hb2 hf.out.lt
  obtain ⟨p0, p1, p2, p3, p4, p5⟩ := mac_cells F2
  have Z2 := Z1.out.below hb3 Z1.out.lt
  have rd2 := RD1.out.below hb3 RD1.out.lt
  obtain ⟨q0, q1, q2, q3, q4, q5⟩ := mac_cells (x := fun _ => 0) Z2
  have f0 := Z2.frozen
  have K2 := Lib.hid (six0_kept (byt l) (K1.out.trans (kept_of_below hb3)) (Nat.le_refl _))
  have RD2 := Lib.hid (six0_other (byt l) rd2 (show b ≠ w.heap.size by omega))
  have BT2 := Lib.hid (BT1.out.below (six0_below (byt l) (hb3.mono (show b ≤ w1.heap.size by omega)) (show b ≤ w.heap.size by omega)) (Nat.le_refl _))
  have Z3 := Lib.hid (six0_mac (byt l) Z2)
  clear Z2 Z1 rd2 RD1 BT1 K1 c2 hb2 hb3 F2 hf hb1
  go_wp2
  change bodyPost Try.prog Try.f25 _ _ _ (six0 w2 w.heap.size (byt l))
  generalize six0 w2 w.heap.size (byt l) = W3 at *
  clear q0 q1 q2 q3 q4 q5 f0
  obtain ⟨q0, q1, q2, q3, q4, q5⟩ := mac_cells Z3.out
  exact bodyPost_ret (v := macV (byt l)) (by simp [results, Try.results25, go_sem, q0, q1, q2, q3, q4, q5]) rfl ⟨rfl, K2.out, v2, RD2.out, BT2.out, FAR1.out⟩

set_option maxHeartbeats 1000000 in
theorem readFrom_bad (b s : Nat) (v : Value) (l : List UInt8) (e0 : Int) (w : World) (hr : RdAt w b v s) (hv : Bts w b v l) (hs : OneAt w s (.int .i64 e0) 66) (hsb : s < b) (h6 : 6 ≤ l.length) (hl : l.length ≤ 10000) (hg : byt l 0 % 2 = 1) :
    Calls Try.prog 25 #[ptr b] w (Stops b s w 3) := by
  have hlt := hr.lt
  have hb := Lib.hid (box_below w (.cells mac0 23))
  have c := readMac_ok b s v l (w.alloc (.cells mac0 23)) (hr.alloc _) (hv.below (box_below _ _) (by omega)) h6 hl
  have HS := Lib.hid (hs.alloc (.cells mac0 23))
  clear hr hv hs
  go_enter Try.func25, Try.ntmps25
  go_wp2_with fail
  refine c.mono ?_
  rintro e w1 ⟨rfl, k1, v2, rd1, bt1, far1⟩
  have hs1 := k1.size
  rw [alloc_size] at hs1
  have hb1 := Lib.hid (box_below w1 (macO (byt l) 23))
  have c2 := grouped_any (byt l) (w1.alloc (macO (byt l) 23))
  have e2 : ((byt l 0 : Int) % 2 == 1) = true := by simp; omega
  rw [e2] at c2
  have K1 := Lib.hid ((kept_of_below hb.out (b := b)).trans k1)
  have RD1 := Lib.hid rd1
  have HS1 := Lib.hid (HS.out.kept k1 (by omega))
  clear k1 rd1 bt1 far1 c hb e2 HS
  go_wp2_with fail
  refine c2.mono ?_
  rintro e w2 ⟨rfl, hb2⟩
  have hb3 := below_next hb1.out hb2
  have c3 := stop_any b s v2 3 e0 w2 (RD1.out.below hb3 RD1.out.lt) (HS1.out.below hb3 HS1.out.lt) hsb
  have K2 := Lib.hid ((K1.out.trans (kept_of_below hb3)).below (by omega))
  clear c2 hb2 hb3 RD1 HS1 K1 hb1
  go_wp2_with fail
  refine c3.mono ?_
  rintro e w3 ⟨rfl, rfl⟩
  exact ⟨rfl, rfl, _, K2.out, rfl⟩

/-- The number before a Body. -/
def numAt (l : List UInt8) : Nat := 256 * byt l 0 + byt l 1
set_option maxRecDepth 20000 in
set_option maxHeartbeats 1000000 in
theorem readNumber_ok (b s : Nat) (v : Value) (l : List UInt8) (w : World) (hr : RdAt w b v s) (hv : Bts w b v l) (h2 : 2 ≤ l.length) (hl : l.length ≤ 10000) (hn : ¬ (1500 < numAt l ∧ numAt l < 1536)) :
    Calls Try.prog 26 #[ptr b] w fun x w' => x = .returned (.int .u64 (numAt l)) ∧ Took b s w v l 2 w' := by
  have c := number_ok b s v l 2 w hr hv h2 (by omega) (by omega)
  rw [num2 h2, ← numAt] at c
  clear hr hv
  generalize numAt l = n at *
  by_cases hlt : (1500 : Int) < n
  · have hn' : (1536 : Int) ≤ n := by omega
    clear hn
    go_enter Try.func26, Try.ntmps26
    go_wp2_with fail
    refine c.mono ?_
    rintro e w1 ⟨v2, rfl, hb1, rd1, bt1, far1, adv1⟩
    have R := Lib.hid (⟨kept_of_adv adv1, v2, rd1, bt1, far1⟩ : Took b s w v l 2 w1)
    clear hb1 rd1 bt1 far1 adv1 c
    go_wp2_with fail
    go_ret
    exact ⟨rfl, R.out⟩
  · clear hn
    go_enter Try.func26, Try.ntmps26
    go_wp2_with fail
    refine c.mono ?_
    rintro e w1 ⟨v2, rfl, hb1, rd1, bt1, far1, adv1⟩
    have R := Lib.hid (⟨kept_of_adv adv1, v2, rd1, bt1, far1⟩ : Took b s w v l 2 w1)
    clear hb1 rd1 bt1 far1 adv1 c
    go_wp2_with fail
    go_ret
    exact ⟨rfl, R.out⟩
set_option maxHeartbeats 1000000 in
theorem readNumber_bad (b s : Nat) (v : Value) (l : List UInt8) (e0 : Int) (w : World) (hr : RdAt w b v s) (hv : Bts w b v l) (hs : OneAt w s (.int .i64 e0) 66) (hsb : s < b) (h2 : 2 ≤ l.length) (hl : l.length ≤ 10000) (h3 : 1500 < numAt l) (h4 : numAt l < 1536) :
    Calls Try.prog 26 #[ptr b] w (Stops b s w 3) := by
  have hlt := hr.lt
  have c := number_ok b s v l 2 w hr hv h2 (by omega) (by omega)
  have HS := Lib.hid hs
  rw [num2 h2, ← numAt] at c
  clear hr hv hs
  generalize numAt l = n at *
  have h3' : (1500 : Int) < n := by omega
  have h4' : (n : Int) < 1536 := by omega
  clear h3 h4
  go_enter Try.func26, Try.ntmps26
  go_wp2_with fail
  refine c.mono ?_
  rintro e w1 ⟨v2, rfl, hb1, rd1, bt1, far1, adv1⟩
  have k1 := kept_of_adv adv1
  have c3 := stop_any b s v2 3 e0 w1 rd1 (HS.out.kept k1 (by omega)) hsb
  have K2 := Lib.hid (k1.below (by omega))
  clear hb1 rd1 bt1 far1 adv1 c k1
  go_wp2_with fail
  refine c3.mono ?_
  rintro e w3 ⟨rfl, rfl⟩
  exact ⟨rfl, rfl, _, K2.out, rfl⟩

/-- How many of the bytes that are left are Body. -/
def bodyN (n k : Nat) : Nat := if 1536 ≤ n then k else n
set_option maxRecDepth 20000 in
theorem bodySize_ok (b s : Nat) (v : Value) (l : List UInt8) (n : Nat) (w : World) (hr : RdAt w b v s) (hv : Bts w b v l) (hn : n < 65536) (hk : n < 1536 → n ≤ l.length) :
    Calls Try.prog 27 #[ptr b, .int .u64 n] w fun x w' => x = .returned (.int .i64 (bodyN n l.length)) ∧ w = w' := by
  have c := left_any b s v l b w hr hv
  clear hr hv
  have hn' : (n : Int) < 65536 := by omega
  clear hn
  by_cases h : 1536 ≤ (n : Int)
  · go_enter Try.func27, Try.ntmps27
    go_wp2_with fail
    refine c.mono ?_; rintro e w1 ⟨rfl, rfl⟩
    go_wp2_with fail
    go_ret
    exact ⟨by unfold bodyN; rw [if_pos (by omega)]; rfl, rfl⟩
  · have hk' := hk (by omega)
    have h' : (n : Int) < 1536 := by omega
    clear hk hn' h
    go_enter Try.func27, Try.ntmps27
    go_wp2_with fail
    refine c.mono ?_; rintro e w1 ⟨rfl, rfl⟩
    go_wp2_with fail
    go_ret
    exact ⟨by unfold bodyN; rw [if_neg (by omega)]; rfl, rfl⟩
set_option maxRecDepth 20000 in
theorem bodySize_bad (b s : Nat) (v : Value) (l : List UInt8) (n : Nat) (e0 : Int) (w : World) (hr : RdAt w b v s) (hv : Bts w b v l) (hs : OneAt w s (.int .i64 e0) 66) (hsb : s < b) (h : n < 1536) (hk : l.length < n) :
    Calls Try.prog 27 #[ptr b, .int .u64 n] w (Stops b s w 2) := by
  have c := left_any b s v l b w hr hv
  have c2 := stop_any b s v 2 e0 w hr hs hsb
  have h' : (n : Int) < 1536 := by omega
  clear hr hv hs h
  go_enter Try.func27, Try.ntmps27
  go_wp2_with fail
  refine c.mono ?_; rintro e w1 ⟨rfl, rfl⟩
  go_wp2_with fail
  refine c2.mono ?_; rintro e w1 ⟨rfl, rfl⟩
  exact ⟨rfl, rfl, _, Below.refl _ _, rfl⟩
end Go.Proofs.Ytfdhkbkonennjaa
