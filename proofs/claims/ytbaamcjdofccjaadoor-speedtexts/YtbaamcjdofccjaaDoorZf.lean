/- The document number of few figures (Small), its unit (By), and that the number is the one that the program reads. -/
import Derived.Test.YtbaamcjdofccjaaDoorZb
import Derived.Test.YtbaamcjdofccjaaDoorZc
namespace Go.Proofs.YtbaamcjdofccjaaDoor
open Go.RowKit

theorem by_some (c : UInt8) (u : Nat) (w : World) (h : unitB c = some u) :
    Calls Tryd.prog 20 #[.int .u8 c.toNat] w fun e w' => e = .returned (.float .f64 u) ∧ w = w' := by
  unfold unitB at h
  split at h
  · rename_i e; subst e; obtain rfl := Option.some.inj h
    go_enter Tryd.func20, Tryd.ntmps20
    go_wp2
    go_ret
    exact ⟨rfl, rfl⟩
  split at h
  · rename_i e; subst e; obtain rfl := Option.some.inj h
    go_enter Tryd.func20, Tryd.ntmps20
    go_wp2
    go_ret
    exact ⟨rfl, rfl⟩
  split at h
  · rename_i e; subst e; obtain rfl := Option.some.inj h
    go_enter Tryd.func20, Tryd.ntmps20
    go_wp2
    go_ret
    exact ⟨rfl, rfl⟩
  split at h
  · rename_i e; subst e; obtain rfl := Option.some.inj h
    go_enter Tryd.func20, Tryd.ntmps20
    go_wp2
    go_ret
    exact ⟨rfl, rfl⟩
  · cases h
theorem small_no (a b : ByteArray) (w : World) (ha : a.size ≤ 100) (hb : b.size ≤ 100) (h : 15 < a.size + b.size) :
    Calls Tryd.prog 19 #[.string a, .string b] w fun e w' => e = .returned (.tuple #[.float .f64 0, .bool false]) ∧ w = w' := by
  go_enter Tryd.func19, Tryd.ntmps19
  go_wp2
  go_ret2
  exact ⟨rfl, rfl⟩
theorem iw_ten : iw 10 = 4621819117588971520 := by decide +kernel
theorem iw_one : iw 1 = 4607182418800017408 := by decide +kernel
theorem ten_mul {m : Nat} (h : 10 * m < 2 * BB) : floatBits .mul .f64 4621819117588971520 (iw m) = some (iw (10 * m)) := by
  rw [← iw_ten]
  rcases Nat.eq_zero_or_pos m with rfl | h0
  · decide +kernel
  · exact iw_mul (by decide) h0 h
theorem mul_ten {m : Nat} (h0 : 0 < m) (h : m * 10 < 2 * BB) : floatBits .mul .f64 (iw m) 4621819117588971520 = some (iw (m * 10)) := by
  rw [← iw_ten]
  exact iw_mul h0 (by decide) h
theorem mant_dig (l : List UInt8) (c : UInt8) (h : dg c = true) : mant (l ++ [c]) = 10 * mant l + (c.toNat - 48) := by
  rw [mant_snoc]
  unfold mstep
  rw [if_neg]
  intro e
  rw [e, dg46] at h; cases h
theorem app_list (a b : ByteArray) : (a ++ b).data.toList = a.data.toList ++ b.data.toList := by simp
set_option maxHeartbeats 2000000 in
theorem small_yes (a b : ByteArray) (g : Nat) (w : World) (h : a.size + b.size ≤ 15) (hd : ∀ c ∈ (a ++ b).data.toList, dg c = true)
    (hq : floatBits .quo .f64 (iw (mant (a ++ b).data.toList)) (iw (10 ^ b.size)) = some g) :
    Calls Tryd.prog 19 #[.string a, .string b] w fun e w' => e = .returned (.tuple #[.float .f64 g, .bool true]) ∧ w = w' := by
  have hsz : (a ++ b).size = a.size + b.size := by simp
  go_enter Tryd.func19, Tryd.ntmps19
  go_wp2
  generalize a ++ b = t at *
  have HSZ := Lib.hid hsz
  have hts : t.size ≤ 15 := by omega
  have hta : a.size ≤ t.size := by omega
  have HD := Lib.hid hd
  have HQ := Lib.hid hq
  clear hsz hd hq
  go_loop [6, 7, 9] (fun n b' i => ∃ k : Nat, k ≤ t.size ∧ i = .int .i64 k ∧ n = .float .f64 (iw (mant (t.data.toList.take k))) ∧ b' = .float .f64 (iw (10 ^ (k - a.size)))) (fun _ _ i => t.size - (intOf i).toNat)
  case atStart => exact ⟨0, Nat.zero_le _, rfl, by rw [show mant (t.data.toList.take 0) = 0 from rfl, iw_zero], by rw [Nat.zero_sub, Nat.pow_zero, iw_one]⟩
  case round =>
    obtain ⟨k, hk, rfl, rfl, rfl⟩ := hrel
    by_cases hlt : k < t.size
    · have hmem : t[k] ∈ t.data.toList := List.mem_of_getElem? (get_list t k hlt)
      have hdg := HD.out _ hmem
      obtain ⟨d1, d2⟩ := dg_b hdg
      have hms : mant (t.data.toList.take (k + 1)) = 10 * mant (t.data.toList.take k) + (t[k].toNat - 48) := by rw [take_snoc t k hlt, mant_dig _ _ hdg]
      have hmb : mant (t.data.toList.take k) < 100000000000000 := by
        have := mant_bd (t.data.toList.take k) 0 (fun c hc => .inl (HD.out c (List.mem_of_mem_take hc)))
        have hl : (t.data.toList.take k).length ≤ 14 := by simp; omega
        have p : 10 ^ (t.data.toList.take k).length ≤ 10 ^ 14 := Nat.pow_le_pow_right (by decide) hl
        have e : (10 : Nat) ^ 14 = 100000000000000 := by decide
        unfold mant
        omega
      have hB2 : 2 * BB = 9007199254740992 := by decide
      have q1 := ten_mul (m := mant (t.data.toList.take k)) (by omega)
      have q2 : floatBits .add .f64 (iw (10 * mant (t.data.toList.take k))) (iw (t[k].toNat - 48)) = some (iw (mant (t.data.toList.take (k + 1)))) := by rw [hms]; exact iw_add (by omega)
      have hfi : floatOfInt .f64 ((t[k].toNat : Int) - 48) = iw (t[k].toNat - 48) := by unfold iw; congr 1; omega
      generalize iw (mant (t.data.toList.take k)) = x at q1
      generalize iw (10 * mant (t.data.toList.take k)) = y at q1 q2
      generalize hz : iw (mant (t.data.toList.take (k + 1))) = z at q2
      have HZ := Lib.hid hz
      generalize iw (t[k].toNat - 48) = dd at q2 hfi
      have o1 : ∀ ty w, (binOp .mul ty (.float .f64 4621819117588971520) (.float .f64 x)).run Tryd.prog w = .ok (.float .f64 y) w := fun ty w => run_float_arith w .mul ty .f64 _ _ _ q1
      have o2 : ∀ ty w, (binOp .add ty (.float .f64 y) (.float .f64 dd)).run Tryd.prog w = .ok (.float .f64 z) w := fun ty w => run_float_arith w .add ty .f64 _ _ _ q2
      clear hmem hdg hms hmb q1 q2 hz
      by_cases hka : a.size ≤ k
      · have hp : 10 ^ (k + 1 - a.size) = 10 ^ (k - a.size) * 10 := by rw [← Nat.pow_succ]; congr 1; omega
        have hpl : 10 ^ (k - a.size) ≤ 10 ^ 14 := Nat.pow_le_pow_right (by decide) (by omega)
        have hpp : 0 < 10 ^ (k - a.size) := Nat.pow_pos (by decide)
        have e14 : (10 : Nat) ^ 14 = 100000000000000 := by decide
        have q3 := mul_ten hpp (by omega)
        rw [← hp] at q3
        generalize iw (10 ^ (k - a.size)) = b1 at q3
        generalize hz2 : iw (10 ^ (k + 1 - a.size)) = b2 at q3
        have HZ2 := Lib.hid hz2
        have o3 : ∀ ty w, (binOp .mul ty (.float .f64 b1) (.float .f64 4621819117588971520)).run Tryd.prog w = .ok (.float .f64 b2) w := fun ty w => run_float_arith w .mul ty .f64 _ _ _ q3
        clear hp hpl hpp e14 q3 hz2 hB2
        go_wp2
        go_round
        case rel => exact ⟨k + 1, by omega, by go_num, by rw [HZ.out], by rw [HZ2.out]⟩
        case measure => simp [intOf]; omega
      · have HZ2 := Lib.hid (show iw (10 ^ (k + 1 - a.size)) = iw (10 ^ (k - a.size)) by congr 2; omega)
        clear hB2
        go_wp2
        go_round
        case rel => exact ⟨k + 1, by omega, by go_num, by rw [HZ.out], by rw [HZ2.out]⟩
        case measure => simp [intOf]; omega
    · obtain rfl : t.size = k := by omega
      have e1 : t.data.toList.take t.size = t.data.toList := List.take_of_length_le (by simp)
      have e2 : t.size - a.size = b.size := by have := HSZ.out; omega
      rw [e1, e2]
      have o4 : ∀ ty w, (binOp .quo ty (.float .f64 (iw (mant t.data.toList))) (.float .f64 (iw (10 ^ b.size)))).run Tryd.prog w = .ok (.float .f64 g) w := fun ty w => run_float_arith w .quo ty .f64 _ _ _ HQ.out
      clear e1 e2
      generalize iw (mant t.data.toList) = x at o4
      generalize iw (10 ^ b.size) = y at o4
      go_wp2
      go_ret2
      exact ⟨rfl, rfl⟩

theorem quo_one {m : Nat} (h0 : 0 < m) (h : m < 2 * BB) : floatBits .quo .f64 (iw m) (iw 1) = some (iw m) := by
  obtain ⟨M, c, a1, a2, a3, a4, a5⟩ := iw_read h0 h
  have b1 : Ieee.double.read (iw 1) = .number false BB (Ieee.double.leastPlace + ((1022 : Nat) : Int)) := by decide +kernel
  obtain ⟨g, g1, g2, g3⟩ := quo_gen a1 a2 a3 b1 BB_pos (by decide) (by omega)
  obtain ⟨c1, c2⟩ := V_iw h0 h
  have hBB : BB = 2 ^ 52 := by decide
  have e : M * 2 ^ (c + 1074 - 1022) = V BB (iw m) * BB := by
    rw [c2, ← a5, show c + 1074 - 1022 = c + 52 from by omega, Nat.pow_add, ← hBB, Nat.mul_assoc]
  rw [e] at g3
  have g4 : Rnd g (V BB (iw m)) 1 := by
    refine ⟨fun hg => ?_, fun hg => ?_⟩
    · have := g3.1 hg
      rw [← Nat.mul_assoc] at this
      rw [Nat.mul_one]
      exact Nat.le_of_mul_le_mul_right this BB_pos
    · have := g3.2 hg
      rw [← Nat.mul_assoc] at this
      rw [Nat.mul_one]
      exact Nat.le_of_mul_le_mul_right this BB_pos
  rw [g1, Rnd_uniq g2 c1 g4]
theorem quo_nought (j : Nat) (hj : j < 16) : floatBits .quo .f64 (iw 0) (iw (10 ^ j)) = some 0 := by
  have key : ∀ k : Fin 16, floatBits .quo .f64 (iw 0) (iw (10 ^ k.val)) = some 0 := by decide +kernel
  exact key ⟨j, hj⟩
theorem tens_iw (j : Nat) (hj : j < 16) : tens.getD j 0 = iw (10 ^ j) := by
  have key : ∀ k : Fin 16, tens.getD k.val 0 = iw (10 ^ k.val) := by decide +kernel
  exact key ⟨j, hj⟩
theorem val_ref {s : ByteArray} {r : Nat} (hv : Val s r) (hm : mant s.data.toList < 2 * BB) (hj : frac s.data.toList < 16) :
    floatBits .quo .f64 (iw (mant s.data.toList)) (iw (10 ^ frac s.data.toList)) = some r := by
  rcases hv with ⟨h0, rfl⟩ | ⟨h0, h1, rfl⟩ | ⟨h0, h1, h2, h3⟩
  · rw [h0]; exact quo_nought _ hj
  · rw [h1, Nat.pow_zero]; exact quo_one (by omega) hm
  · rw [← tens_iw _ hj]; exact h3
end Go.Proofs.YtbaamcjdofccjaaDoor
