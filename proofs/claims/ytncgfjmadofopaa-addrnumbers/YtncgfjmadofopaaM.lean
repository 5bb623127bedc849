/- AddrNumbers returns true for every two addresses and every number, and turns nothing that was there. -/
import Derived.Test.YtncgfjmadofopaaL
namespace Go.Proofs.Ytncgfjmadofopaa
open Go.RowKit Go.Sort

set_option maxHeartbeats 8000000 in
theorem numbers_lt (x y : Nat → Nat) (n : Nat) (hx : ∀ i, x i < 256) (hy : ∀ i, y i < 256) (hn : n < 18446744073709551616) (w : World) (hlt : pref x 6 < pref y 6) :
    Calls Try.prog 3 #[macV x, macV y, .int .u64 n] w fun e w' => e = .returned (.bool true) ∧ Below w.heap.size w w' := by
  have hlt1 : (pref x 6 : Int) < (pref y 6 : Int) := by omega
  have hlt2 : ¬ (pref y 6 : Int) < (pref x 6 : Int) := by omega
  have HX := Lib.hid hx
  have HY := Lib.hid hy
  have hsg : sgn (pref x 6) (pref y 6) = -1 := by unfold sgn; rw [if_pos hlt1]
  have px := pref6_lt hx
  have HS := Lib.hid hsg
  clear hx hy hsg hlt
  go_enter Try.func3, Try.ntmps3
  go_wp2_with fail
  refine (lives_ok _).mono ?_
  rintro e w1 ⟨rfl, hb⟩
  obtain ⟨ha0, hb0, hB0⟩ := box2_at w x y 23 23
  have hsz : ((w.alloc (macO x 23)).alloc (macO y 23)).heap.size = w.heap.size + 2 := by rw [alloc_size, alloc_size]
  have ha : At w1 w.heap.size x := ha0.below hb (Nat.lt_of_lt_of_eq (by omega : w.heap.size < w.heap.size + 2) hsz.symm)
  have hc : At w1 (w.heap.size + 1) y := hb0.below hb (Nat.lt_of_lt_of_eq (by omega : w.heap.size + 1 < w.heap.size + 2) hsz.symm)
  have HB := Lib.hid (below_next hB0 hb)
  have HA := Lib.hid ha
  have HC := Lib.hid hc
  clear ha0 hb0 hB0 hsz ha hc hb
  go_wp2_with fail
  have a0 := fun d os => HA.out.grown d os 0 (by omega)
  have a1 := fun d os => HA.out.grown d os 1 (by omega)
  have a2 := fun d os => HA.out.grown d os 2 (by omega)
  have a3 := fun d os => HA.out.grown d os 3 (by omega)
  have a4 := fun d os => HA.out.grown d os 4 (by omega)
  have a5 := fun d os => HA.out.grown d os 5 (by omega)
  have b0 := fun d os => HC.out.grown d os 0 (by omega)
  have b1 := fun d os => HC.out.grown d os 1 (by omega)
  have b2 := fun d os => HC.out.grown d os 2 (by omega)
  have b3 := fun d os => HC.out.grown d os 3 (by omega)
  have b4 := fun d os => HC.out.grown d os 4 (by omega)
  have b5 := fun d os => HC.out.grown d os 5 (by omega)
  have cx : ∀ d os, Calls Try.prog 6 #[macV x] (grow (redrawn w1 d) os) fun e w'' => e = .returned (.int .u64 (pref x 6)) ∧ ∃ p : Regrown, w'' = grow (redrawn w1 p.d) p.os := fun d os => Calls.regrown_of (refNumber_any x HX.out _)
  have cy : ∀ d os, Calls Try.prog 6 #[macV y] (grow (redrawn w1 d) os) fun e w'' => e = .returned (.int .u64 (pref y 6)) ∧ ∃ p : Regrown, w'' = grow (redrawn w1 p.d) p.os := fun d os => Calls.regrown_of (refNumber_any y HY.out _)
  refine wp_region_quiet_below (by kernel_rfl) (by kernel_rfl) ?_
  repeat (go_big_quiet_step (first | with_reducible exact cx _ _ | with_reducible exact cy _ _))
  refine wpQuiet_nil ?_
  intro _ hw'
  obtain ⟨⟨dq, osq⟩, hw''⟩ := hw'
  have hb1 : Below w1.heap.size w1 _ := below_regrown w1 dq osq
  have HB2 := Lib.hid (below_next HB.out hb1)
  have HA2 := Lib.hid (HA.out.below hb1 HA.out.lt)
  have HC2 := Lib.hid (HC.out.below hb1 HC.out.lt)
  clear hb1 HB HA HC a0 a1 a2 a3 a4 a5 b0 b1 b2 b3 b4 b5 cx cy
  rw [hw'']
  clear hw''
  generalize grow (redrawn w1 dq) osq = w2 at *
  have a0 := HA2.out 0 (by omega)
  have a1 := HA2.out 1 (by omega)
  have a2 := HA2.out 2 (by omega)
  have a3 := HA2.out 3 (by omega)
  have a4 := HA2.out 4 (by omega)
  have a5 := HA2.out 5 (by omega)
  go_wp2_with fail
  refine (text_any x HX.out _).mono ?_
  rintro e w3 ⟨rfl, hb⟩
  have HB3 := Lib.hid (below_next HB2.out hb)
  have HA3 := Lib.hid (HA2.out.below hb HA2.out.lt)
  have HC3 := Lib.hid (HC2.out.below hb HC2.out.lt)
  clear hb HB2 HA2 HC2 a0 a1 a2 a3 a4 a5
  go_wp2_with fail
  refine (parse_txt x HX.out _).mono ?_
  rintro e w4 ⟨rfl, hb⟩
  have HB4 := Lib.hid (below_next HB3.out hb)
  have HA4 := Lib.hid (HA3.out.below hb HA3.out.lt)
  have HC4 := Lib.hid (HC3.out.below hb HC3.out.lt)
  clear hb HB3 HA3 HC3
  go_wp2_with fail
  have hm0 := box_at w4 x 23
  have hA5 : At (w4.alloc (macO x 23)) w.heap.size x := HA4.out.below (box_below w4 (macO x 23)) HA4.out.lt
  have hC5 : At (w4.alloc (macO x 23)) (w.heap.size + 1) y := HC4.out.below (box_below w4 (macO x 23)) HC4.out.lt
  have HB5 := Lib.hid (below_next HB4.out (box_below w4 (macO x 23)))
  generalize w4.alloc (macO x 23) = W at *
  clear HB4 HA4 HC4
  have a0 := fun d os => hA5.grown d os 0 (by omega)
  have a1 := fun d os => hA5.grown d os 1 (by omega)
  have a2 := fun d os => hA5.grown d os 2 (by omega)
  have a3 := fun d os => hA5.grown d os 3 (by omega)
  have a4 := fun d os => hA5.grown d os 4 (by omega)
  have a5 := fun d os => hA5.grown d os 5 (by omega)
  have b0 := fun d os => hC5.grown d os 0 (by omega)
  have b1 := fun d os => hC5.grown d os 1 (by omega)
  have b2 := fun d os => hC5.grown d os 2 (by omega)
  have b3 := fun d os => hC5.grown d os 3 (by omega)
  have b4 := fun d os => hC5.grown d os 4 (by omega)
  have b5 := fun d os => hC5.grown d os 5 (by omega)
  have m0 := fun d os => hm0.grown d os 0 (by omega)
  have m1 := fun d os => hm0.grown d os 1 (by omega)
  have m2 := fun d os => hm0.grown d os 2 (by omega)
  have m3 := fun d os => hm0.grown d os 3 (by omega)
  have m4 := fun d os => hm0.grown d os 4 (by omega)
  have m5 := fun d os => hm0.grown d os 5 (by omega)
  clear hm0 hA5 hC5
  have q := mac_same x
  have g := g23
  have c9 : ∀ d os, Calls Try.prog 9 #[macV x] (grow (redrawn W d) os) fun e w'' => e = .returned (.int .u64 (pref x 6)) ∧ ∃ p : Regrown, w'' = grow (redrawn W p.d) p.os := fun d os => Calls.regrown_of (number_any x HX.out _)
  have c10 : ∀ d os, Calls Try.prog 10 #[.int .u64 (pref x 6)] (grow (redrawn W d) os) fun e w'' => e = .returned (macV x) ∧ ∃ p : Regrown, w'' = grow (redrawn W p.d) p.os := fun d os => Calls.regrown_of (by have := of_any (pref x 6) (by omega) (grow (redrawn W d) os); rwa [ofN_pref HX.out] at this)
  have c10n : ∀ d os, Calls Try.prog 10 #[.int .u64 n] (grow (redrawn W d) os) fun e w'' => e = .returned (macV (ofN n)) ∧ ∃ p : Regrown, w'' = grow (redrawn W p.d) p.os := fun d os => Calls.regrown_of (of_any n hn _)
  have c9n : ∀ d os, Calls Try.prog 9 #[macV (ofN n)] (grow (redrawn W d) os) fun e w'' => e = .returned (.int .u64 ((n : Int) % 281474976710656)) ∧ ∃ p : Regrown, w'' = grow (redrawn W p.d) p.os := fun d os => Calls.regrown_of (by have := number_any (ofN n) (ofN_lt n) (grow (redrawn W d) os); rwa [pref_ofN] at this)
  have c11 : ∀ d os, Calls Try.prog 11 #[macV x, macV y] (grow (redrawn W d) os) fun e w'' => e = .returned (.int .i64 (-1)) ∧ ∃ p : Regrown, w'' = grow (redrawn W p.d) p.os := fun d os => Calls.regrown_of (by have := compare_any x y HX.out HY.out (grow (redrawn W d) os); rwa [HS.out] at this)
  have c12 : ∀ d os, Calls Try.prog 12 #[macV x] (grow (redrawn W d) os) fun e w'' => e = .returned (.bool ((pref x 6 : Int) / 1099511627776 % 2 == 1)) ∧ ∃ p : Regrown, w'' = grow (redrawn W p.d) p.os := fun d os => Calls.regrown_of (by have := grouped_any x (grow (redrawn W d) os); rwa [grouped_bit HX.out] at this)
  have c8 : ∀ d os, Calls Try.prog 8 #[macV x] (grow (redrawn W d) os) fun e w'' => e = .returned (strV (txt x 6)) ∧ ∃ p : Regrown, w'' = grow (redrawn W p.d) p.os := fun d os => Calls.regrown_of (text_any x HX.out _)
  have c14 : ∀ d os, Calls Try.prog 14 #[macV x] (grow (redrawn W d) os) fun e w'' => e = .returned (strV (txt x 6)) ∧ ∃ p : Regrown, w'' = grow (redrawn W p.d) p.os := fun d os => Calls.regrown_of (refText_any x HX.out _)
  obtain ⟨tb, htb⟩ : ∃ tb, strV (txt x 6) = .string tb := ⟨_, rfl⟩
  rw [htb] at c8 c14
  clear htb
  have c13' : ∀ d os, Calls Try.prog 13 #[macV x] (grow (redrawn W d) os) fun e w'' => e = .returned (.bool (decide (1652522221568 ≤ pref x 6 ∧ pref x 6 < 1652522221584))) ∧ ∃ p : Regrown, w'' = grow (redrawn W p.d) p.os := fun d os => Calls.regrown_of (by have := reserved_any x HX.out (grow (redrawn W d) os); rwa [reserved_range HX.out] at this)
  simp only [List.append]
  by_cases r1 : 1652522221568 ≤ pref x 6
  · have r1i : (1652522221568 : Int) ≤ (pref x 6 : Int) := by omega
    by_cases r2 : pref x 6 < 1652522221584
    · have r2i : (pref x 6 : Int) < 1652522221584 := by omega
      have c13 : ∀ d os, Calls Try.prog 13 #[macV x] (grow (redrawn W d) os) fun e w'' => e = .returned (.bool true) ∧ ∃ p : Regrown, w'' = grow (redrawn W p.d) p.os := fun d os => by have := c13' d os; rwa [decide_eq_true ⟨r1, r2⟩] at this
      clear c13' r1 r2
      refine wp_region_quiet_below (by kernel_rfl) (by kernel_rfl) ?_
      repeat (go_big_quiet_step (first | with_reducible exact c9 _ _ | with_reducible exact c10 _ _ | with_reducible exact c10n _ _ | with_reducible exact c9n _ _ | with_reducible exact c11 _ _ | with_reducible exact c12 _ _ | with_reducible exact c13 _ _ | with_reducible exact c8 _ _ | with_reducible exact c14 _ _))
      refine wpQuiet_nil ?_
      intro _ hw'
      obtain ⟨⟨dq2, osq2⟩, hw''⟩ := hw'
      subst hw''
      go_wp2
      go_ret
      exact ⟨rfl, below_next HB5.out (below_regrown W dq2 osq2)⟩
    · have r2i : ¬ (pref x 6 : Int) < 1652522221584 := by omega
      have c13 : ∀ d os, Calls Try.prog 13 #[macV x] (grow (redrawn W d) os) fun e w'' => e = .returned (.bool false) ∧ ∃ p : Regrown, w'' = grow (redrawn W p.d) p.os := fun d os => by have := c13' d os; rwa [decide_eq_false (fun h => r2 h.2)] at this
      clear c13' r1 r2
      refine wp_region_quiet_below (by kernel_rfl) (by kernel_rfl) ?_
      repeat (go_big_quiet_step (first | with_reducible exact c9 _ _ | with_reducible exact c10 _ _ | with_reducible exact c10n _ _ | with_reducible exact c9n _ _ | with_reducible exact c11 _ _ | with_reducible exact c12 _ _ | with_reducible exact c13 _ _ | with_reducible exact c8 _ _ | with_reducible exact c14 _ _))
      refine wpQuiet_nil ?_
      intro _ hw'
      obtain ⟨⟨dq2, osq2⟩, hw''⟩ := hw'
      subst hw''
      go_wp2
      go_ret
      exact ⟨rfl, below_next HB5.out (below_regrown W dq2 osq2)⟩
  · have r1i : ¬ (1652522221568 : Int) ≤ (pref x 6 : Int) := by omega
    have c13 : ∀ d os, Calls Try.prog 13 #[macV x] (grow (redrawn W d) os) fun e w'' => e = .returned (.bool false) ∧ ∃ p : Regrown, w'' = grow (redrawn W p.d) p.os := fun d os => by have := c13' d os; rwa [decide_eq_false (fun h => r1 h.1)] at this
    clear c13' r1
    refine wp_region_quiet_below (by kernel_rfl) (by kernel_rfl) ?_
    repeat (go_big_quiet_step (first | with_reducible exact c9 _ _ | with_reducible exact c10 _ _ | with_reducible exact c10n _ _ | with_reducible exact c9n _ _ | with_reducible exact c11 _ _ | with_reducible exact c12 _ _ | with_reducible exact c13 _ _ | with_reducible exact c8 _ _ | with_reducible exact c14 _ _))
    refine wpQuiet_nil ?_
    intro _ hw'
    obtain ⟨⟨dq2, osq2⟩, hw''⟩ := hw'
    subst hw''
    go_wp2
    go_ret
    exact ⟨rfl, below_next HB5.out (below_regrown W dq2 osq2)⟩
set_option maxHeartbeats 8000000 in
theorem numbers_gt (x y : Nat → Nat) (n : Nat) (hx : ∀ i, x i < 256) (hy : ∀ i, y i < 256) (hn : n < 18446744073709551616) (w : World) (hlt : pref y 6 < pref x 6) :
    Calls Try.prog 3 #[macV x, macV y, .int .u64 n] w fun e w' => e = .returned (.bool true) ∧ Below w.heap.size w w' := by
  have hlt1 : ¬ (pref x 6 : Int) < (pref y 6 : Int) := by omega
  have hlt2 : (pref y 6 : Int) < (pref x 6 : Int) := by omega
  have HX := Lib.hid hx
  have HY := Lib.hid hy
  have hsg : sgn (pref x 6) (pref y 6) = 1 := by unfold sgn; rw [if_neg hlt1, if_pos hlt2]
  have px := pref6_lt hx
  have HS := Lib.hid hsg
  clear hx hy hsg hlt
  go_enter Try.func3, Try.ntmps3
  go_wp2_with fail
  refine (lives_ok _).mono ?_
  rintro e w1 ⟨rfl, hb⟩
  obtain ⟨ha0, hb0, hB0⟩ := box2_at w x y 23 23
  have hsz : ((w.alloc (macO x 23)).alloc (macO y 23)).heap.size = w.heap.size + 2 := by rw [alloc_size, alloc_size]
  have ha : At w1 w.heap.size x := ha0.below hb (Nat.lt_of_lt_of_eq (by omega : w.heap.size < w.heap.size + 2) hsz.symm)
  have hc : At w1 (w.heap.size + 1) y := hb0.below hb (Nat.lt_of_lt_of_eq (by omega : w.heap.size + 1 < w.heap.size + 2) hsz.symm)
  have HB := Lib.hid (below_next hB0 hb)
  have HA := Lib.hid ha
  have HC := Lib.hid hc
  clear ha0 hb0 hB0 hsz ha hc hb
  go_wp2_with fail
  have a0 := fun d os => HA.out.grown d os 0 (by omega)
  have a1 := fun d os => HA.out.grown d os 1 (by omega)
  have a2 := fun d os => HA.out.grown d os 2 (by omega)
  have a3 := fun d os => HA.out.grown d os 3 (by omega)
  have a4 := fun d os => HA.out.grown d os 4 (by omega)
  have a5 := fun d os => HA.out.grown d os 5 (by omega)
  have b0 := fun d os => HC.out.grown d os 0 (by omega)
  have b1 := fun d os => HC.out.grown d os 1 (by omega)
  have b2 := fun d os => HC.out.grown d os 2 (by omega)
  have b3 := fun d os => HC.out.grown d os 3 (by omega)
  have b4 := fun d os => HC.out.grown d os 4 (by omega)
  have b5 := fun d os => HC.out.grown d os 5 (by omega)
  have cx : ∀ d os, Calls Try.prog 6 #[macV x] (grow (redrawn w1 d) os) fun e w'' => e = .returned (.int .u64 (pref x 6)) ∧ ∃ p : Regrown, w'' = grow (redrawn w1 p.d) p.os := fun d os => Calls.regrown_of (refNumber_any x HX.out _)
  have cy : ∀ d os, Calls Try.prog 6 #[macV y] (grow (redrawn w1 d) os) fun e w'' => e = .returned (.int .u64 (pref y 6)) ∧ ∃ p : Regrown, w'' = grow (redrawn w1 p.d) p.os := fun d os => Calls.regrown_of (refNumber_any y HY.out _)
  refine wp_region_quiet_below (by kernel_rfl) (by kernel_rfl) ?_
  repeat (go_big_quiet_step (first | with_reducible exact cx _ _ | with_reducible exact cy _ _))
  refine wpQuiet_nil ?_
  intro _ hw'
  obtain ⟨⟨dq, osq⟩, hw''⟩ := hw'
  have hb1 : Below w1.heap.size w1 _ := below_regrown w1 dq osq
  have HB2 := Lib.hid (below_next HB.out hb1)
  have HA2 := Lib.hid (HA.out.below hb1 HA.out.lt)
  have HC2 := Lib.hid (HC.out.below hb1 HC.out.lt)
  clear hb1 HB HA HC a0 a1 a2 a3 a4 a5 b0 b1 b2 b3 b4 b5 cx cy
  rw [hw'']
  clear hw''
  generalize grow (redrawn w1 dq) osq = w2 at *
  have a0 := HA2.out 0 (by omega)
  have a1 := HA2.out 1 (by omega)
  have a2 := HA2.out 2 (by omega)
  have a3 := HA2.out 3 (by omega)
  have a4 := HA2.out 4 (by omega)
  have a5 := HA2.out 5 (by omega)
  go_wp2_with fail
  refine (text_any x HX.out _).mono ?_
  rintro e w3 ⟨rfl, hb⟩
  have HB3 := Lib.hid (below_next HB2.out hb)
  have HA3 := Lib.hid (HA2.out.below hb HA2.out.lt)
  have HC3 := Lib.hid (HC2.out.below hb HC2.out.lt)
  clear hb HB2 HA2 HC2 a0 a1 a2 a3 a4 a5
  go_wp2_with fail
  refine (parse_txt x HX.out _).mono ?_
  rintro e w4 ⟨rfl, hb⟩
  have HB4 := Lib.hid (below_next HB3.out hb)
  have HA4 := Lib.hid (HA3.out.below hb HA3.out.lt)
  have HC4 := Lib.hid (HC3.out.below hb HC3.out.lt)
  clear hb HB3 HA3 HC3
  go_wp2_with fail
  have hm0 := box_at w4 x 23
  have hA5 : At (w4.alloc (macO x 23)) w.heap.size x := HA4.out.below (box_below w4 (macO x 23)) HA4.out.lt
  have hC5 : At (w4.alloc (macO x 23)) (w.heap.size + 1) y := HC4.out.below (box_below w4 (macO x 23)) HC4.out.lt
  have HB5 := Lib.hid (below_next HB4.out (box_below w4 (macO x 23)))
  generalize w4.alloc (macO x 23) = W at *
  clear HB4 HA4 HC4
  have a0 := fun d os => hA5.grown d os 0 (by omega)
  have a1 := fun d os => hA5.grown d os 1 (by omega)
  have a2 := fun d os => hA5.grown d os 2 (by omega)
  have a3 := fun d os => hA5.grown d os 3 (by omega)
  have a4 := fun d os => hA5.grown d os 4 (by omega)
  have a5 := fun d os => hA5.grown d os 5 (by omega)
  have b0 := fun d os => hC5.grown d os 0 (by omega)
  have b1 := fun d os => hC5.grown d os 1 (by omega)
  have b2 := fun d os => hC5.grown d os 2 (by omega)
  have b3 := fun d os => hC5.grown d os 3 (by omega)
  have b4 := fun d os => hC5.grown d os 4 (by omega)
  have b5 := fun d os => hC5.grown d os 5 (by omega)
  have m0 := fun d os => hm0.grown d os 0 (by omega)
  have m1 := fun d os => hm0.grown d os 1 (by omega)
  have m2 := fun d os => hm0.grown d os 2 (by omega)
  have m3 := fun d os => hm0.grown d os 3 (by omega)
  have m4 := fun d os => hm0.grown d os 4 (by omega)
  have m5 := fun d os => hm0.grown d os 5 (by omega)
  clear hm0 hA5 hC5
  have q := mac_same x
  have g := g23
  have c9 : ∀ d os, Calls Try.prog 9 #[macV x] (grow (redrawn W d) os) fun e w'' => e = .returned (.int .u64 (pref x 6)) ∧ ∃ p : Regrown, w'' = grow (redrawn W p.d) p.os := fun d os => Calls.regrown_of (number_any x HX.out _)
  have c10 : ∀ d os, Calls Try.prog 10 #[.int .u64 (pref x 6)] (grow (redrawn W d) os) fun e w'' => e = .returned (macV x) ∧ ∃ p : Regrown, w'' = grow (redrawn W p.d) p.os := fun d os => Calls.regrown_of (by have := of_any (pref x 6) (by omega) (grow (redrawn W d) os); rwa [ofN_pref HX.out] at this)
  have c10n : ∀ d os, Calls Try.prog 10 #[.int .u64 n] (grow (redrawn W d) os) fun e w'' => e = .returned (macV (ofN n)) ∧ ∃ p : Regrown, w'' = grow (redrawn W p.d) p.os := fun d os => Calls.regrown_of (of_any n hn _)
  have c9n : ∀ d os, Calls Try.prog 9 #[macV (ofN n)] (grow (redrawn W d) os) fun e w'' => e = .returned (.int .u64 ((n : Int) % 281474976710656)) ∧ ∃ p : Regrown, w'' = grow (redrawn W p.d) p.os := fun d os => Calls.regrown_of (by have := number_any (ofN n) (ofN_lt n) (grow (redrawn W d) os); rwa [pref_ofN] at this)
  have c11 : ∀ d os, Calls Try.prog 11 #[macV x, macV y] (grow (redrawn W d) os) fun e w'' => e = .returned (.int .i64 (1)) ∧ ∃ p : Regrown, w'' = grow (redrawn W p.d) p.os := fun d os => Calls.regrown_of (by have := compare_any x y HX.out HY.out (grow (redrawn W d) os); rwa [HS.out] at this)
  have c12 : ∀ d os, Calls Try.prog 12 #[macV x] (grow (redrawn W d) os) fun e w'' => e = .returned (.bool ((pref x 6 : Int) / 1099511627776 % 2 == 1)) ∧ ∃ p : Regrown, w'' = grow (redrawn W p.d) p.os := fun d os => Calls.regrown_of (by have := grouped_any x (grow (redrawn W d) os); rwa [grouped_bit HX.out] at this)
  have c8 : ∀ d os, Calls Try.prog 8 #[macV x] (grow (redrawn W d) os) fun e w'' => e = .returned (strV (txt x 6)) ∧ ∃ p : Regrown, w'' = grow (redrawn W p.d) p.os := fun d os => Calls.regrown_of (text_any x HX.out _)
  have c14 : ∀ d os, Calls Try.prog 14 #[macV x] (grow (redrawn W d) os) fun e w'' => e = .returned (strV (txt x 6)) ∧ ∃ p : Regrown, w'' = grow (redrawn W p.d) p.os := fun d os => Calls.regrown_of (refText_any x HX.out _)
  obtain ⟨tb, htb⟩ : ∃ tb, strV (txt x 6) = .string tb := ⟨_, rfl⟩
  rw [htb] at c8 c14
  clear htb
  have c13' : ∀ d os, Calls Try.prog 13 #[macV x] (grow (redrawn W d) os) fun e w'' => e = .returned (.bool (decide (1652522221568 ≤ pref x 6 ∧ pref x 6 < 1652522221584))) ∧ ∃ p : Regrown, w'' = grow (redrawn W p.d) p.os := fun d os => Calls.regrown_of (by have := reserved_any x HX.out (grow (redrawn W d) os); rwa [reserved_range HX.out] at this)
  simp only [List.append]
  by_cases r1 : 1652522221568 ≤ pref x 6
  · have r1i : (1652522221568 : Int) ≤ (pref x 6 : Int) := by omega
    by_cases r2 : pref x 6 < 1652522221584
    · have r2i : (pref x 6 : Int) < 1652522221584 := by omega
      have c13 : ∀ d os, Calls Try.prog 13 #[macV x] (grow (redrawn W d) os) fun e w'' => e = .returned (.bool true) ∧ ∃ p : Regrown, w'' = grow (redrawn W p.d) p.os := fun d os => by have := c13' d os; rwa [decide_eq_true ⟨r1, r2⟩] at this
      clear c13' r1 r2
      refine wp_region_quiet_below (by kernel_rfl) (by kernel_rfl) ?_
      repeat (go_big_quiet_step (first | with_reducible exact c9 _ _ | with_reducible exact c10 _ _ | with_reducible exact c10n _ _ | with_reducible exact c9n _ _ | with_reducible exact c11 _ _ | with_reducible exact c12 _ _ | with_reducible exact c13 _ _ | with_reducible exact c8 _ _ | with_reducible exact c14 _ _))
      refine wpQuiet_nil ?_
      intro _ hw'
      obtain ⟨⟨dq2, osq2⟩, hw''⟩ := hw'
      subst hw''
      go_wp2
      go_ret
      exact ⟨rfl, below_next HB5.out (below_regrown W dq2 osq2)⟩
    · have r2i : ¬ (pref x 6 : Int) < 1652522221584 := by omega
      have c13 : ∀ d os, Calls Try.prog 13 #[macV x] (grow (redrawn W d) os) fun e w'' => e = .returned (.bool false) ∧ ∃ p : Regrown, w'' = grow (redrawn W p.d) p.os := fun d os => by have := c13' d os; rwa [decide_eq_false (fun h => r2 h.2)] at this
      clear c13' r1 r2
      refine wp_region_quiet_below (by kernel_rfl) (by kernel_rfl) ?_
      repeat (go_big_quiet_step (first | with_reducible exact c9 _ _ | with_reducible exact c10 _ _ | with_reducible exact c10n _ _ | with_reducible exact c9n _ _ | with_reducible exact c11 _ _ | with_reducible exact c12 _ _ | with_reducible exact c13 _ _ | with_reducible exact c8 _ _ | with_reducible exact c14 _ _))
      refine wpQuiet_nil ?_
      intro _ hw'
      obtain ⟨⟨dq2, osq2⟩, hw''⟩ := hw'
      subst hw''
      go_wp2
      go_ret
      exact ⟨rfl, below_next HB5.out (below_regrown W dq2 osq2)⟩
  · have r1i : ¬ (1652522221568 : Int) ≤ (pref x 6 : Int) := by omega
    have c13 : ∀ d os, Calls Try.prog 13 #[macV x] (grow (redrawn W d) os) fun e w'' => e = .returned (.bool false) ∧ ∃ p : Regrown, w'' = grow (redrawn W p.d) p.os := fun d os => by have := c13' d os; rwa [decide_eq_false (fun h => r1 h.1)] at this
    clear c13' r1
    refine wp_region_quiet_below (by kernel_rfl) (by kernel_rfl) ?_
    repeat (go_big_quiet_step (first | with_reducible exact c9 _ _ | with_reducible exact c10 _ _ | with_reducible exact c10n _ _ | with_reducible exact c9n _ _ | with_reducible exact c11 _ _ | with_reducible exact c12 _ _ | with_reducible exact c13 _ _ | with_reducible exact c8 _ _ | with_reducible exact c14 _ _))
    refine wpQuiet_nil ?_
    intro _ hw'
    obtain ⟨⟨dq2, osq2⟩, hw''⟩ := hw'
    subst hw''
    go_wp2
    go_ret
    exact ⟨rfl, below_next HB5.out (below_regrown W dq2 osq2)⟩
set_option maxHeartbeats 8000000 in
theorem numbers_eq (x y : Nat → Nat) (n : Nat) (hx : ∀ i, x i < 256) (hy : ∀ i, y i < 256) (hn : n < 18446744073709551616) (w : World) (hlt : ¬ pref x 6 < pref y 6 ∧ ¬ pref y 6 < pref x 6) :
    Calls Try.prog 3 #[macV x, macV y, .int .u64 n] w fun e w' => e = .returned (.bool true) ∧ Below w.heap.size w w' := by
  have hlt1 : ¬ (pref x 6 : Int) < (pref y 6 : Int) := by omega
  have hlt2 : ¬ (pref y 6 : Int) < (pref x 6 : Int) := by omega
  have HX := Lib.hid hx
  have HY := Lib.hid hy
  have hsg : sgn (pref x 6) (pref y 6) = 0 := by unfold sgn; rw [if_neg hlt1, if_neg hlt2]
  have px := pref6_lt hx
  have HS := Lib.hid hsg
  clear hx hy hsg hlt
  go_enter Try.func3, Try.ntmps3
  go_wp2_with fail
  refine (lives_ok _).mono ?_
  rintro e w1 ⟨rfl, hb⟩
  obtain ⟨ha0, hb0, hB0⟩ := box2_at w x y 23 23
  have hsz : ((w.alloc (macO x 23)).alloc (macO y 23)).heap.size = w.heap.size + 2 := by rw [alloc_size, alloc_size]
  have ha : At w1 w.heap.size x := ha0.below hb (Nat.lt_of_lt_of_eq (by omega : w.heap.size < w.heap.size + 2) hsz.symm)
  have hc : At w1 (w.heap.size + 1) y := hb0.below hb (Nat.lt_of_lt_of_eq (by omega : w.heap.size + 1 < w.heap.size + 2) hsz.symm)
  have HB := Lib.hid (below_next hB0 hb)
  have HA := Lib.hid ha
  have HC := Lib.hid hc
  clear ha0 hb0 hB0 hsz ha hc hb
  go_wp2_with fail
  have a0 := fun d os => HA.out.grown d os 0 (by omega)
  have a1 := fun d os => HA.out.grown d os 1 (by omega)
  have a2 := fun d os => HA.out.grown d os 2 (by omega)
  have a3 := fun d os => HA.out.grown d os 3 (by omega)
  have a4 := fun d os => HA.out.grown d os 4 (by omega)
  have a5 := fun d os => HA.out.grown d os 5 (by omega)
  have b0 := fun d os => HC.out.grown d os 0 (by omega)
  have b1 := fun d os => HC.out.grown d os 1 (by omega)
  have b2 := fun d os => HC.out.grown d os 2 (by omega)
  have b3 := fun d os => HC.out.grown d os 3 (by omega)
  have b4 := fun d os => HC.out.grown d os 4 (by omega)
  have b5 := fun d os => HC.out.grown d os 5 (by omega)
  have cx : ∀ d os, Calls Try.prog 6 #[macV x] (grow (redrawn w1 d) os) fun e w'' => e = .returned (.int .u64 (pref x 6)) ∧ ∃ p : Regrown, w'' = grow (redrawn w1 p.d) p.os := fun d os => Calls.regrown_of (refNumber_any x HX.out _)
  have cy : ∀ d os, Calls Try.prog 6 #[macV y] (grow (redrawn w1 d) os) fun e w'' => e = .returned (.int .u64 (pref y 6)) ∧ ∃ p : Regrown, w'' = grow (redrawn w1 p.d) p.os := fun d os => Calls.regrown_of (refNumber_any y HY.out _)
  refine wp_region_quiet_below (by kernel_rfl) (by kernel_rfl) ?_
  repeat (go_big_quiet_step (first | with_reducible exact cx _ _ | with_reducible exact cy _ _))
  refine wpQuiet_nil ?_
  intro _ hw'
  obtain ⟨⟨dq, osq⟩, hw''⟩ := hw'
  have hb1 : Below w1.heap.size w1 _ := below_regrown w1 dq osq
  have HB2 := Lib.hid (below_next HB.out hb1)
  have HA2 := Lib.hid (HA.out.below hb1 HA.out.lt)
  have HC2 := Lib.hid (HC.out.below hb1 HC.out.lt)
  clear hb1 HB HA HC a0 a1 a2 a3 a4 a5 b0 b1 b2 b3 b4 b5 cx cy
  rw [hw'']
  clear hw''
  generalize grow (redrawn w1 dq) osq = w2 at *
  have a0 := HA2.out 0 (by omega)
  have a1 := HA2.out 1 (by omega)
  have a2 := HA2.out 2 (by omega)
  have a3 := HA2.out 3 (by omega)
  have a4 := HA2.out 4 (by omega)
  have a5 := HA2.out 5 (by omega)
  go_wp2_with fail
  refine (text_any x HX.out _).mono ?_
  rintro e w3 ⟨rfl, hb⟩
  have HB3 := Lib.hid (below_next HB2.out hb)
  have HA3 := Lib.hid (HA2.out.below hb HA2.out.lt)
  have HC3 := Lib.hid (HC2.out.below hb HC2.out.lt)
  clear hb HB2 HA2 HC2 a0 a1 a2 a3 a4 a5
  go_wp2_with fail
  refine (parse_txt x HX.out _).mono ?_
  rintro e w4 ⟨rfl, hb⟩
  have HB4 := Lib.hid (below_next HB3.out hb)
  have HA4 := Lib.hid (HA3.out.below hb HA3.out.lt)
  have HC4 := Lib.hid (HC3.out.below hb HC3.out.lt)
  clear hb HB3 HA3 HC3
  go_wp2_with fail
  have hm0 := box_at w4 x 23
  have hA5 : At (w4.alloc (macO x 23)) w.heap.size x := HA4.out.below (box_below w4 (macO x 23)) HA4.out.lt
  have hC5 : At (w4.alloc (macO x 23)) (w.heap.size + 1) y := HC4.out.below (box_below w4 (macO x 23)) HC4.out.lt
  have HB5 := Lib.hid (below_next HB4.out (box_below w4 (macO x 23)))
  generalize w4.alloc (macO x 23) = W at *
  clear HB4 HA4 HC4
  have a0 := fun d os => hA5.grown d os 0 (by omega)
  have a1 := fun d os => hA5.grown d os 1 (by omega)
  have a2 := fun d os => hA5.grown d os 2 (by omega)
  have a3 := fun d os => hA5.grown d os 3 (by omega)
  have a4 := fun d os => hA5.grown d os 4 (by omega)
  have a5 := fun d os => hA5.grown d os 5 (by omega)
  have b0 := fun d os => hC5.grown d os 0 (by omega)
  have b1 := fun d os => hC5.grown d os 1 (by omega)
  have b2 := fun d os => hC5.grown d os 2 (by omega)
  have b3 := fun d os => hC5.grown d os 3 (by omega)
  have b4 := fun d os => hC5.grown d os 4 (by omega)
  have b5 := fun d os => hC5.grown d os 5 (by omega)
  have m0 := fun d os => hm0.grown d os 0 (by omega)
  have m1 := fun d os => hm0.grown d os 1 (by omega)
  have m2 := fun d os => hm0.grown d os 2 (by omega)
  have m3 := fun d os => hm0.grown d os 3 (by omega)
  have m4 := fun d os => hm0.grown d os 4 (by omega)
  have m5 := fun d os => hm0.grown d os 5 (by omega)
  clear hm0 hA5 hC5
  have q := mac_same x
  have g := g23
  have c9 : ∀ d os, Calls Try.prog 9 #[macV x] (grow (redrawn W d) os) fun e w'' => e = .returned (.int .u64 (pref x 6)) ∧ ∃ p : Regrown, w'' = grow (redrawn W p.d) p.os := fun d os => Calls.regrown_of (number_any x HX.out _)
  have c10 : ∀ d os, Calls Try.prog 10 #[.int .u64 (pref x 6)] (grow (redrawn W d) os) fun e w'' => e = .returned (macV x) ∧ ∃ p : Regrown, w'' = grow (redrawn W p.d) p.os := fun d os => Calls.regrown_of (by have := of_any (pref x 6) (by omega) (grow (redrawn W d) os); rwa [ofN_pref HX.out] at this)
  have c10n : ∀ d os, Calls Try.prog 10 #[.int .u64 n] (grow (redrawn W d) os) fun e w'' => e = .returned (macV (ofN n)) ∧ ∃ p : Regrown, w'' = grow (redrawn W p.d) p.os := fun d os => Calls.regrown_of (of_any n hn _)
  have c9n : ∀ d os, Calls Try.prog 9 #[macV (ofN n)] (grow (redrawn W d) os) fun e w'' => e = .returned (.int .u64 ((n : Int) % 281474976710656)) ∧ ∃ p : Regrown, w'' = grow (redrawn W p.d) p.os := fun d os => Calls.regrown_of (by have := number_any (ofN n) (ofN_lt n) (grow (redrawn W d) os); rwa [pref_ofN] at this)
  have c11 : ∀ d os, Calls Try.prog 11 #[macV x, macV y] (grow (redrawn W d) os) fun e w'' => e = .returned (.int .i64 (0)) ∧ ∃ p : Regrown, w'' = grow (redrawn W p.d) p.os := fun d os => Calls.regrown_of (by have := compare_any x y HX.out HY.out (grow (redrawn W d) os); rwa [HS.out] at this)
  have c12 : ∀ d os, Calls Try.prog 12 #[macV x] (grow (redrawn W d) os) fun e w'' => e = .returned (.bool ((pref x 6 : Int) / 1099511627776 % 2 == 1)) ∧ ∃ p : Regrown, w'' = grow (redrawn W p.d) p.os := fun d os => Calls.regrown_of (by have := grouped_any x (grow (redrawn W d) os); rwa [grouped_bit HX.out] at this)
  have c8 : ∀ d os, Calls Try.prog 8 #[macV x] (grow (redrawn W d) os) fun e w'' => e = .returned (strV (txt x 6)) ∧ ∃ p : Regrown, w'' = grow (redrawn W p.d) p.os := fun d os => Calls.regrown_of (text_any x HX.out _)
  have c14 : ∀ d os, Calls Try.prog 14 #[macV x] (grow (redrawn W d) os) fun e w'' => e = .returned (strV (txt x 6)) ∧ ∃ p : Regrown, w'' = grow (redrawn W p.d) p.os := fun d os => Calls.regrown_of (refText_any x HX.out _)
  obtain ⟨tb, htb⟩ : ∃ tb, strV (txt x 6) = .string tb := ⟨_, rfl⟩
  rw [htb] at c8 c14
  clear htb
  have c13' : ∀ d os, Calls Try.prog 13 #[macV x] (grow (redrawn W d) os) fun e w'' => e = .returned (.bool (decide (1652522221568 ≤ pref x 6 ∧ pref x 6 < 1652522221584))) ∧ ∃ p : Regrown, w'' = grow (redrawn W p.d) p.os := fun d os => Calls.regrown_of (by have := reserved_any x HX.out (grow (redrawn W d) os); rwa [reserved_range HX.out] at this)
  simp only [List.append]
  by_cases r1 : 1652522221568 ≤ pref x 6
  · have r1i : (1652522221568 : Int) ≤ (pref x 6 : Int) := by omega
    by_cases r2 : pref x 6 < 1652522221584
    · have r2i : (pref x 6 : Int) < 1652522221584 := by omega
      have c13 : ∀ d os, Calls Try.prog 13 #[macV x] (grow (redrawn W d) os) fun e w'' => e = .returned (.bool true) ∧ ∃ p : Regrown, w'' = grow (redrawn W p.d) p.os := fun d os => by have := c13' d os; rwa [decide_eq_true ⟨r1, r2⟩] at this
      clear c13' r1 r2
      refine wp_region_quiet_below (by kernel_rfl) (by kernel_rfl) ?_
      repeat (go_big_quiet_step (first | with_reducible exact c9 _ _ | with_reducible exact c10 _ _ | with_reducible exact c10n _ _ | with_reducible exact c9n _ _ | with_reducible exact c11 _ _ | with_reducible exact c12 _ _ | with_reducible exact c13 _ _ | with_reducible exact c8 _ _ | with_reducible exact c14 _ _))
      refine wpQuiet_nil ?_
      intro _ hw'
      obtain ⟨⟨dq2, osq2⟩, hw''⟩ := hw'
      subst hw''
      go_wp2
      go_ret
      exact ⟨rfl, below_next HB5.out (below_regrown W dq2 osq2)⟩
    · have r2i : ¬ (pref x 6 : Int) < 1652522221584 := by omega
      have c13 : ∀ d os, Calls Try.prog 13 #[macV x] (grow (redrawn W d) os) fun e w'' => e = .returned (.bool false) ∧ ∃ p : Regrown, w'' = grow (redrawn W p.d) p.os := fun d os => by have := c13' d os; rwa [decide_eq_false (fun h => r2 h.2)] at this
      clear c13' r1 r2
      refine wp_region_quiet_below (by kernel_rfl) (by kernel_rfl) ?_
      repeat (go_big_quiet_step (first | with_reducible exact c9 _ _ | with_reducible exact c10 _ _ | with_reducible exact c10n _ _ | with_reducible exact c9n _ _ | with_reducible exact c11 _ _ | with_reducible exact c12 _ _ | with_reducible exact c13 _ _ | with_reducible exact c8 _ _ | with_reducible exact c14 _ _))
      refine wpQuiet_nil ?_
      intro _ hw'
      obtain ⟨⟨dq2, osq2⟩, hw''⟩ := hw'
      subst hw''
      go_wp2
      go_ret
      exact ⟨rfl, below_next HB5.out (below_regrown W dq2 osq2)⟩
  · have r1i : ¬ (1652522221568 : Int) ≤ (pref x 6 : Int) := by omega
    have c13 : ∀ d os, Calls Try.prog 13 #[macV x] (grow (redrawn W d) os) fun e w'' => e = .returned (.bool false) ∧ ∃ p : Regrown, w'' = grow (redrawn W p.d) p.os := fun d os => by have := c13' d os; rwa [decide_eq_false (fun h => r1 h.1)] at this
    clear c13' r1
    refine wp_region_quiet_below (by kernel_rfl) (by kernel_rfl) ?_
    repeat (go_big_quiet_step (first | with_reducible exact c9 _ _ | with_reducible exact c10 _ _ | with_reducible exact c10n _ _ | with_reducible exact c9n _ _ | with_reducible exact c11 _ _ | with_reducible exact c12 _ _ | with_reducible exact c13 _ _ | with_reducible exact c8 _ _ | with_reducible exact c14 _ _))
    refine wpQuiet_nil ?_
    intro _ hw'
    obtain ⟨⟨dq2, osq2⟩, hw''⟩ := hw'
    subst hw''
    go_wp2
    go_ret
    exact ⟨rfl, below_next HB5.out (below_regrown W dq2 osq2)⟩
theorem numbers_any (x y : Nat → Nat) (n : Nat) (hx : ∀ i, x i < 256) (hy : ∀ i, y i < 256) (hn : n < 18446744073709551616) (w : World) :
    Calls Try.prog 3 #[macV x, macV y, .int .u64 n] w fun e w' => e = .returned (.bool true) ∧ Below w.heap.size w w' := by
  by_cases h1 : pref x 6 < pref y 6
  · exact numbers_lt x y n hx hy hn w h1
  · by_cases h2 : pref y 6 < pref x 6
    · exact numbers_gt x y n hx hy hn w h2
    · exact numbers_eq x y n hx hy hn w ⟨h1, h2⟩
end Go.Proofs.Ytncgfjmadofopaa
