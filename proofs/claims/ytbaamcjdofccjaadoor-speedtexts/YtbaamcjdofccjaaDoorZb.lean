/- What Parse returns for any text of a number: the product, if it may be a speed, or that it may not; old memory stays. -/
import Derived.Test.YtbaamcjdofccjaaDoorZa
import Derived.Test.YtbaamcjdofccjaaDoorX
namespace Go.Proofs.YtbaamcjdofccjaaDoor
open Go.RowKit

theorem mant_bd : ∀ (l : List UInt8) (m : Nat), (∀ c ∈ l, dg c = true ∨ c = 46) → l.foldl mstep m < (m + 1) * 10 ^ l.length
  | [], m, _ => by simp
  | c :: l, m, h => by
    rw [List.foldl_cons, List.length_cons, Nat.pow_succ]
    have hs : mstep m c + 1 ≤ (m + 1) * 10 := by
      unfold mstep
      split
      · omega
      · rcases h c (List.mem_cons_self ..) with a | a
        · have := dg_b a; omega
        · contradiction
    have ih := mant_bd l (mstep m c) (fun x hx => h x (List.mem_cons_of_mem _ hx))
    refine Nat.lt_of_lt_of_le ih ?_
    calc (mstep m c + 1) * 10 ^ l.length ≤ (m + 1) * 10 * 10 ^ l.length := Nat.mul_le_mul_right _ hs
      _ = (m + 1) * (10 ^ l.length * 10) := by rw [Nat.mul_assoc, Nat.mul_comm 10]
theorem mem_all {s : ByteArray} (H : NumS s) : ∀ c ∈ s.data.toList, dg c = true ∨ c = 46 := by
  intro c hc
  obtain ⟨k, hk, rfl⟩ := List.mem_iff_getElem.1 hc
  have hk' : k < s.size := by simpa using hk
  exact H.all k hk'
theorem mant_lt {s : ByteArray} (H : NumS s) : mant s.data.toList < 10000000000000000000 := by
  have h := mant_bd s.data.toList 0 (mem_all H)
  have hl : s.data.toList.length ≤ 19 := by have := H.le; simpa using this
  have p : 10 ^ s.data.toList.length ≤ 10 ^ 19 := Nat.pow_le_pow_right (by decide) hl
  have e : (10 : Nat) ^ 19 = 10000000000000000000 := by decide
  unfold mant
  omega
theorem dw_le (p : UInt8 → Bool) : ∀ l : List UInt8, (l.dropWhile p).length ≤ l.length
  | [] => Nat.le_refl _
  | c :: l => by
    have := dw_le p l
    rw [List.dropWhile_cons]
    split
    · rw [List.length_cons]; omega
    · exact Nat.le_refl _
theorem frac_le {s : ByteArray} (H : NumS s) : frac s.data.toList ≤ 18 := by
  have hl : s.data.toList.length ≤ 19 := by have := H.le; simpa using this
  have : (s.data.toList.dropWhile (· != 46)).length ≤ s.data.toList.length := dw_le _ _
  unfold frac
  omega
def FltOk (s : ByteArray) (w : World) (e : Ending) (w' : World) : Prop := ∃ r : Nat, e = .returned (.tuple #[.float .f64 r, .int .i64 s.size, .nilIface]) ∧ r ≤ infR ∧ Below w.heap.size w w'
def Flt2Ok (w : World) (e : Ending) (w' : World) : Prop := ∃ r : Nat, e = .returned (.tuple #[.float .f64 r, .nilIface]) ∧ r ≤ infR ∧ Below w.heap.size w w'
set_option maxRecDepth 100000 in
set_option maxHeartbeats 1000000 in
theorem atof64_big (s : ByteArray) (w : World) (hE : Env w) (hT : tabOk w) (hs : 10 < w.heap.size) (H : NumS s) (hm : 4503599627370496 ≤ mant s.data.toList) :
    Calls Tryd.prog 44 #[.string s] w (FltOk s w) := by
  have cs := special_num s w H
  have cr := readFloat_num s w H
  have hopt := hE.opt
  have hml := mant_lt H
  have hfl := frac_le H
  unfold rfEnd at cr
  have hne0 : mant s.data.toList ≠ 0 := by omega
  rw [if_neg hne0] at cr
  have ce := exact_big (mant s.data.toList) (-(frac s.data.toList : Int)) w hE (by omega) (by omega)
  have cp := pf64_any (mant s.data.toList) (-(frac s.data.toList : Int)) w hT hs (by omega) (by omega) (by omega) (by omega)
  have hne : ((mant s.data.toList : Int) == 0) = false := by simpa using hne0
  have q1 : -18 ≤ -(frac s.data.toList : Int) := by omega
  have q2 : -(frac s.data.toList : Int) ≤ 0 := by omega
  generalize (mant s.data.toList : Int) = m at cr ce hne cp
  generalize -(frac s.data.toList : Int) = j at cr ce cp q1 q2
  clear hm H hE hT hml hfl hne0
  go_enter Tryd.func44, Tryd.ntmps44
  go_wp2_with (first | (go_at_call 52; refine cs.mono ?_; rintro e w' ⟨rfl, rfl⟩) | (go_at_call 53; refine cr.mono ?_; rintro e w' ⟨rfl, rfl⟩) | (go_at_call 61; refine (bool2_false _).mono ?_; rintro e w' ⟨rfl, rfl⟩) | (go_at_call 63; refine ce.mono ?_; rintro e w' ⟨rfl, rfl⟩) | (go_at_call 64; refine cp.mono ?_; rintro e w' ⟨r, rfl, r1, hb⟩))
  go_ret3
  exact ⟨r, rfl, Nat.le_of_lt r1, hb⟩

/-- The powers of ten of the table, read. -/
theorem tens_read (j : Nat) (hj : j < 23) : ∃ N a, Ieee.double.read (tens.getD j 0) = .number false N (Ieee.double.leastPlace + (a : Nat)) ∧ BB ≤ N ∧ N < 2 * BB ∧ a ≤ 1104 ∧ U ≤ N * 2 ^ a := by
  have key : ∀ k : Fin 23, tens.getD k.val 0 < infR ∧ one ≤ tens.getD k.val 0 ∧ tens.getD k.val 0 / BB ≤ 1105 := by decide +kernel
  obtain ⟨h1, h2, h3⟩ := key ⟨j, hj⟩
  simp only at h1 h2 h3
  generalize tens.getD j 0 = t at h1 h2 h3
  obtain ⟨n1, n2⟩ := neg_small (Nat.le_of_lt h1)
  have e1 : Ieee.double.signWeight = half := by decide +kernel
  have e2 : Ieee.double.binade = BB := by decide +kernel
  have e3 : Ieee.double.infRung = infR := by decide +kernel
  have ob : BB < one := by decide
  have hV := V_le BB_pos h2
  rw [V_one] at hV
  unfold neg at n1
  unfold rung at n2
  unfold Ieee.Format.read
  simp only [e1, e2, e3, n1, n2]
  unfold V at hV
  rw [if_neg (by omega)] at hV ⊢
  rw [if_pos h1]
  have hm : t % BB < BB := Nat.mod_lt _ BB_pos
  exact ⟨_, _, rfl, by omega, by omega, by omega, hV⟩
theorem iw_read {m : Nat} (h0 : 0 < m) (h : m < 2 * BB) : ∃ M c, Ieee.double.read (iw m) = .number false M (Ieee.double.leastPlace + (c : Nat)) ∧ BB ≤ M ∧ M < 2 * BB ∧ 1022 ≤ c ∧ M * 2 ^ c = m * U := by
  obtain ⟨a1, a2⟩ := V_iw h0 h
  obtain ⟨M, c, h1, h2, h3, _, h4⟩ := read_fin a1
  rw [a2] at h2
  obtain ⟨E, hE⟩ : ∃ E : Nat, E = 1074 := ⟨_, rfl⟩
  have hU := U_def hE
  have hUm : U ≤ m * U := Nat.le_mul_of_pos_left _ h0
  have hB2 : 2 * BB = 2 ^ 53 := by decide
  have hc : 1022 ≤ c := by
    rcases Nat.lt_or_ge c 1022 with a | a
    · exfalso
      have : M * 2 ^ c < U := by
        rw [hU]
        calc M * 2 ^ c < 2 ^ 53 * 2 ^ c := Nat.mul_lt_mul_of_pos_right (by omega) (Nat.two_pow_pos _)
          _ = 2 ^ (53 + c) := by rw [Nat.pow_add]
          _ ≤ 2 ^ E := Nat.pow_le_pow_right (by decide) (by omega)
      omega
    · exact a
  refine ⟨M, c, h1, ?_, h3, hc, h2⟩
  rcases h4 with a | a
  · exact a
  · omega
theorem quo_ten {m j : Nat} (h0 : 0 < m) (h : m < 2 * BB) (hj : j < 23) : ∃ g, floatBits .quo .f64 (iw m) (tens.getD j 0) = some g ∧ g < infR ∧ V BB g < 2 ^ 60 * U := by
  obtain ⟨M, c, a1, a2, a3, a4, a5⟩ := iw_read h0 h
  obtain ⟨N, a, b1, b2, b3, b4, b5⟩ := tens_read j hj
  have hN : 0 < N := by have := BB_pos; omega
  obtain ⟨g, g1, g2, g3⟩ := quo_gen a1 a2 a3 b1 hN b3 (by omega)
  obtain ⟨E, hE⟩ : ∃ E : Nat, E = 1074 := ⟨_, rfl⟩
  have hV : V BB g ≤ 2 * (m * U) := by
    rcases Nat.eq_zero_or_pos g with e | e
    · subst e; rw [V_zero]; exact Nat.zero_le _
    · have lo := g3.1 e
      have l1 : V BB g * N ≤ 2 * (M * 2 ^ (c + 1074 - a)) := Nat.le_trans (Nat.mul_le_mul_right _ (by omega)) lo
      rw [← hE] at l1
      have l2 : V BB g * N * 2 ^ a ≤ 2 * (M * 2 ^ (c + E - a)) * 2 ^ a := Nat.mul_le_mul_right _ l1
      have e1 : 2 * (M * 2 ^ (c + E - a)) * 2 ^ a = 2 * (m * U) * U := by
        rw [Nat.mul_assoc, Nat.mul_assoc M, ← Nat.pow_add, Nat.sub_add_cancel (by omega), Nat.pow_add, ← Nat.mul_assoc M, a5, ← U_def hE, ← Nat.mul_assoc]
      rw [e1, Nat.mul_assoc] at l2
      have l3 : V BB g * U ≤ V BB g * (N * 2 ^ a) := Nat.mul_le_mul_left _ b5
      exact Nat.le_of_mul_le_mul_right (Nat.le_trans l3 l2) U_pos
  have hb : 2 * (m * U) < 2 ^ 60 * U := by
    rw [← Nat.mul_assoc]
    refine Nat.mul_lt_mul_of_pos_right ?_ U_pos
    have : 2 * BB = 2 ^ 53 := by decide
    have : (2 : Nat) ^ 60 = 128 * 2 ^ 53 := by decide
    omega
  refine ⟨g, g1, ?_, by omega⟩
  rcases Nat.lt_or_ge g infR with a | a
  · exact a
  · exfalso
    have : V BB infR ≤ V BB g := V_le BB_pos a
    have hi : 2 ^ 60 * U ≤ V BB infR := by decide +kernel
    omega

theorem val_ex {s : ByteArray} (H : NumS s) (hm : mant s.data.toList < 4503599627370496) : ∃ r, Val s r ∧ r < infR ∧ V BB r < 2 ^ 60 * U := by
  have hB : BB = 4503599627370496 := rfl
  have hU := U_pos
  have hf := frac_le H
  rcases Nat.eq_zero_or_pos (mant s.data.toList) with e | e
  · exact ⟨0, .inl ⟨e, rfl⟩, by decide, by rw [V_zero]; exact Nat.mul_pos (by decide) hU⟩
  · rcases Nat.eq_zero_or_pos (frac s.data.toList) with f | f
    · obtain ⟨a1, a2⟩ := V_iw e (by omega)
      refine ⟨iw (mant s.data.toList), .inr (.inl ⟨by omega, f, rfl⟩), a1, ?_⟩
      rw [a2]
      exact Nat.mul_lt_mul_of_pos_right (by have : (2 : Nat) ^ 60 = 256 * 4503599627370496 := by decide
                                            omega) hU
    · obtain ⟨g, g1, g2, g3⟩ := quo_ten (j := frac s.data.toList) e (by omega) (by omega)
      exact ⟨g, .inr (.inr ⟨by omega, f, by omega, g1⟩), g2, g3⟩
theorem below_refl (w : World) : Below w.heap.size w w := Below.refl _ _
theorem pf_all (s : ByteArray) (w : World) (hE : Env w) (hT : tabOk w) (hs : 10 < w.heap.size) (H : NumS s) : Calls Tryd.prog 27 #[.string s, .int .i64 64] w (Flt2Ok w) := by
  rcases Nat.lt_or_ge (mant s.data.toList) 4503599627370496 with hm | hm
  · obtain ⟨r, r1, r2, _⟩ := val_ex H hm
    exact (pf_few s r w hE H hm r1).mono fun e w' ⟨h1, h2⟩ => ⟨r, h1, Nat.le_of_lt r2, h2 ▸ below_refl w⟩
  · have c := atof64_big s w hE hT hs H hm
    have c1 : Calls Tryd.prog 37 #[.string s, .int .i64 64] w (FltOk s w) := by
      go_enter Tryd.func37, Tryd.ntmps37
      go_wp2_with (go_at_call 44; refine c.mono ?_; rintro e w' ⟨r, rfl, r1, hb⟩)
      go_ret3
      exact ⟨r, rfl, r1, hb⟩
    clear c hE hT H hm
    have c2 : Calls Tryd.prog 33 #[.string s, .int .i64 64] w (Flt2Ok w) := by
      go_enter Tryd.func33, Tryd.ntmps33
      go_wp2_with (go_at_call 37; refine c1.mono ?_; rintro e w' ⟨r, rfl, r1, hb⟩)
      go_ret2
      exact ⟨r, rfl, r1, hb⟩
    clear c1
    go_enter Tryd.func27, Tryd.ntmps27
    go_wp2_with (go_at_call 33; refine c2.mono ?_; rintro e w' ⟨r, rfl, r1, hb⟩)
    go_ret2
    exact ⟨r, rfl, r1, hb⟩
theorem unit_read {c : UInt8} {u : Nat} (h : unitB c = some u) : ∃ (M : Nat) (b : Int), Ieee.double.read u = .number false M b ∧ 0 < M ∧ M < 2 * BB ∧ b ≤ 0 := by
  unfold unitB at h
  split at h
  · obtain rfl := Option.some.inj h; exact ⟨4611686018427388, -62, by decide +kernel, by decide, by decide, by decide⟩
  split at h
  · obtain rfl := Option.some.inj h; exact ⟨4503599627370496, -52, by decide +kernel, by decide, by decide, by decide⟩
  split at h
  · obtain rfl := Option.some.inj h; exact ⟨8796093022208000, -43, by decide +kernel, by decide, by decide, by decide⟩
  split at h
  · obtain rfl := Option.some.inj h; exact ⟨8589934592000000, -33, by decide +kernel, by decide, by decide, by decide⟩
  · cases h
def ParOk (w : World) (e : Ending) (w' : World) : Prop := ∃ v : Nat, e = (if rt v = true then pEnd v 0 else pEnd 0 4) ∧ Below w.heap.size w w'
theorem bel_drews {w w' : World} {n : Nat} (h : Below w.heap.size (w.drewN n) w') : Below w.heap.size w w' := by
  have h0 : Below w.heap.size w (w.drewN n) := ⟨rfl, rfl, rfl, Nat.le_refl _, fun _ _ => rfl⟩
  exact h0.trans h
set_option maxHeartbeats 1000000 in
theorem parse_all (s : ByteArray) (u : Nat) (w : World) (hE : Env w) (hT : tabOk w) (hs : 10 < w.heap.size) (h1 : 2 ≤ s.size) (h2 : s.size ≤ 20) (hu : unitB (s[s.size - 1]'(by omega)) = some u) (hn : numB (front s) = true)
    (H : NumS (front s)) : Calls Tryd.prog 17 #[.string s] w (ParOk w) := by
  obtain ⟨M, b, m1, m2, m3, m4⟩ := unit_read hu
  have c := unitOf_some _ u w hu
  have c2 := isNumber_any (front s) w (by rw [front_size]; unfold maxLen; omega)
  rw [hn] at c2
  have c3 := fun n => pf_all (front s) (w.drewN n) (hE.drewN n) hT hs H
  have C3 := Lib.hid c3
  have hmul := fun r (hr : r ≤ infR) => mul_unit hr m1 m2 m3 m4
  have HM := Lib.hid hmul
  unfold front at c2 C3
  clear hu hn c3 hE H hmul hT hs
  go_enter Tryd.func17, Tryd.ntmps17
  go_wp2_with fail
  refine c.mono ?_
  rintro e w' ⟨rfl, rfl⟩
  go_wp2_with fail
  refine c2.mono ?_
  rintro e w' ⟨rfl, n, rfl⟩
  go_wp2_with fail
  refine (C3.out n).mono ?_
  rintro e w1 ⟨r, rfl, r1, hb⟩
  obtain ⟨v, hv, _, _⟩ := HM.out r r1
  have hop : ∀ t w, (binOp .mul t (.float .f64 r) (.float .f64 u)).run Tryd.prog w = .ok (.float .f64 v) w := fun t w => run_float_arith w .mul t .f64 _ _ v hv
  have c4 := right_any v w1
  clear hv r1
  have HB := Lib.hid hb
  clear hb
  cases hr : rt v
  all_goals
    rw [hr] at c4
    have HR := Lib.hid hr
    clear hr
    go_wp2_with (go_at_call 10; refine c4.mono ?_; rintro e w' ⟨rfl, rfl⟩)
    go_ret2
    exact ⟨v, by rw [HR.out]; rfl, bel_drews HB.out⟩
end Go.Proofs.YtbaamcjdofccjaaDoor
