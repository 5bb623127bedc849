/- IdentBridges' whole call. Conditions: the library's table of bits' places, its two error variables. -/
import Derived.Test.YtgeommhambkmgaaDoorW
namespace Go.Proofs.YtgeommhambkmgaaDoor
open Go.RowKit Go.Sort

/-- An identifier's text is read as it. -/
theorem idOk_idT (n : Nat) (hn : n < 18446744073709551616) : idOk (idT n) (hexl (n / 281474976710656)) (txt (ofN n) 6) :=
  ⟨rfl, canon_hexl _, hexl_len 3 _ (by omega), okTxt_txt (ofN_lt n)⟩
theorem idN_idT (n : Nat) : idN (hval (hexl (n / 281474976710656)) 0) (macOf ⟨⟨txt (ofN n) 6⟩⟩) = n := by
  rw [hval_hexl]
  unfold idN
  have e : pref (macOf ⟨⟨txt (ofN n) 6⟩⟩) 6 = pref (ofN n) 6 := by
    rw [pref6, pref6, macOf_txt (ofN_lt n) 0 (by omega), macOf_txt (ofN_lt n) 1 (by omega), macOf_txt (ofN_lt n) 2 (by omega), macOf_txt (ofN_lt n) 3 (by omega), macOf_txt (ofN_lt n) 4 (by omega), macOf_txt (ofN_lt n) 5 (by omega)]
  rw [e, pref_ofN]; omega
theorem idT_len (n : Nat) (hn : n < 18446744073709551616) : (idT n).length ≤ 1000 := by
  have h1 := hexl_len 3 (n / 281474976710656) (by omega)
  have h2 := txt_le (ofN n) 6 (by omega)
  unfold idT; simp; omega
theorem parse5_idT (n : Nat) (hn : n < 18446744073709551616) (w : World) (he : Env w) :
    Calls Tryd.prog 12 #[strV (idT n)] w fun e w' => e = .returned (.tuple #[.int .u64 n, .int .i64 0]) ∧ Below w.heap.size w w' := by
  have := parse5_good _ _ _ (idT_len n hn) (idOk_idT n hn) w he
  rwa [idN_idT] at this
theorem prio_id {p : Nat} {x : Nat → Nat} (hp : stB p 4096 61440 = true) (hx : ∀ i, x i < 256) : idN p x / 1152921504606846976 * 4096 = p := by
  have := pref6_lt hx
  unfold stB at hp; simp at hp
  unfold idN; omega
theorem macV_id {h : Nat} {x : Nat → Nat} (hx : ∀ i, x i < 256) : macV (ofN (idN h x)) = macV x := by
  have e := ofN_id (h := h) hx
  unfold macV
  rw [e 0 (by omega), e 1 (by omega), e 2 (by omega), e 3 (by omega), e 4 (by omega), e 5 (by omega)]
/-- The law's last statement, of the text's own identifier. -/
theorem tail_facts {n : Nat} (hn : n < 18446744073709551616) : ((n / 1152921504606846976 * 4096 : Nat) : Int) = (n : Int) / 1152921504606846976 * 4096 ∧ wrap64 ((n : Int) / 1152921504606846976) = (n : Int) / 1152921504606846976 ∧ wrap64 ((n : Int) / 1152921504606846976 * 4096) = (n : Int) / 1152921504606846976 * 4096 := by
  refine ⟨by omega, by unfold wrap64; omega, by unfold wrap64; omega⟩
theorem bad_facts {p : Int} (hp : stB p 4096 61440 = false) : (decide (p < 0) = true) ∨ (decide (p < 0) = false ∧ decide (61440 < p) = true) ∨ (decide (p < 0) = false ∧ decide (61440 < p) = false ∧ (p.tmod 4096 != 0) = true) := by
  by_cases h1 : p < 0
  · exact .inl (by simp [h1])
  · have e : p.tmod 4096 = p % 4096 := Int.tmod_eq_emod_of_nonneg (by omega)
    rw [e]
    unfold stB at hp
    by_cases h2 : 61440 < p
    · exact .inr (.inl ⟨by simp; omega, by simp [h2]⟩)
    · refine .inr (.inr ⟨by simp; omega, by simp; omega, ?_⟩)
      simp at hp
      simp
      exact hp (by omega) (by omega)
set_option maxRecDepth 10000 in
set_option maxHeartbeats 1000000 in
theorem bridges_not (p : Int) (x : Nat → Nat) (n : Nat) (hn : n < 18446744073709551616) (hp : stB p 4096 61440 = false) (w : World) (he : Env w) :
    Calls Tryd.prog 3 #[.int .i64 p, macV x, .int .u64 n] w fun e w' => e = .returned (.bool true) ∧ Below w.heap.size w w' := by
  have c0 := lives_ok
  have c1 := bridge_not p hp x
  have c2 := text5_ok n hn
  have c3 := parse5_idT n hn
  have c4 := refText5_any n hn
  have c5 := mac_any n hn
  have c6 := refBytes_any n hn
  have c7 := priority_any n hn
  have q := mac_same (ofN n)
  have g23' := g23
  obtain ⟨d1, b4, b5⟩ := tail_facts hn
  rw [d1] at c7
  have hF := bad_facts hp
  have HN := Lib.hid hn
  clear hp hn d1
  generalize idT n = T at *
  generalize ofN n = y at *
  rcases hF with g1 | ⟨g1, g2⟩ | ⟨g1, g2, g3⟩
  all_goals
    go_enter Tryd.func3, Tryd.ntmps3
    go_wp2_with fail
    have hb0 := box_below w (macO x 23)
    have ha0 := box_at w x 23
    generalize w.alloc (macO x 23) = w0 at *
    refine (c0 w0 (he.below hb0)).mono ?_
    rintro e w1 ⟨rfl, hb⟩
    have h1 := (he.below hb0).below hb
    have HB := Lib.hid (below_next hb0 hb)
    have ha := ha0.below hb ha0.lt
    have m0 := ha 0 (by omega)
    have m1 := ha 1 (by omega)
    have m2 := ha 2 (by omega)
    have m3 := ha 3 (by omega)
    have m4 := ha 4 (by omega)
    have m5 := ha 5 (by omega)
    clear hb c0 he ha ha0 hb0
    go_wp2_with fail
    refine (c1 _).mono ?_
    rintro e w2 ⟨rfl, hb⟩
    have h2 := h1.below hb
    have HB2 := Lib.hid (below_next HB.out hb)
    clear hb c1 h1 HB m0 m1 m2 m3 m4 m5
    go_wp2_with fail
    refine (c2 _ h2).mono ?_
    rintro e w3 ⟨rfl, hb⟩
    have h3 := h2.below hb
    have HB3 := Lib.hid (below_next HB2.out hb)
    clear hb c2 h2 HB2
    go_wp2_with fail
    refine (c3 _ h3).mono ?_
    rintro e w4 ⟨rfl, hb⟩
    have HB4 := Lib.hid (below_next HB3.out hb)
    clear hb c3 h3 HB3
    go_wp2_with fail
    refine (c4 _).mono ?_
    rintro e w5 ⟨rfl, hb⟩
    have HB5 := Lib.hid (below_next HB4.out hb)
    clear hb c4 HB4
    go_wp2_with fail
    refine (c5 _).mono ?_
    rintro e w6 ⟨rfl, hb⟩
    have HB6 := Lib.hid (below_next HB5.out hb)
    clear hb c5 HB5
    go_wp2_with fail
    refine (c6 _).mono ?_
    rintro e w7 ⟨rfl, hb⟩
    have HB7 := Lib.hid (below_next HB6.out hb)
    clear hb c6 HB6
    go_wp2_with fail
    refine (c7 _).mono ?_
    rintro e w8 ⟨rfl, rfl⟩
    clear c7
    have hn := HN.out
    go_wp2_with fail
    go_ret
    exact ⟨ret_bool (by simp), HB7.out⟩

theorem good_facts {p : Nat} {x : Nat → Nat} (hp : stB p 4096 61440 = true) (hx : ∀ i, x i < 256) : ∃ N PR R : Nat, idN p x = N ∧ pref x 6 = PR ∧ decide ((p : Int) < 0) = false ∧ decide ((61440 : Int) < p) = false ∧ ((p : Int) % 4096 != 0) = false ∧
    IntKind.u64.wrap (p : Int) = p ∧ IntKind.u64.wrap ((p : Int) * 281474976710656) = R ∧ IntKind.u64.wrap ((R : Int) + PR) = N := by
  have h1 := pref6_lt hx
  have h2 : p ≤ 61440 ∧ p % 4096 = 0 := by unfold stB at hp; simp at hp; omega
  refine ⟨_, _, p * 281474976710656, rfl, rfl, by simp, by simp; omega, by simp; omega, ?_, ?_, ?_⟩
  · rw [IntKind.wrap_u64]; omega
  · rw [IntKind.wrap_u64]; omega
  · unfold idN; rw [IntKind.wrap_u64]; omega
set_option maxRecDepth 10000 in
set_option maxHeartbeats 2000000 in
theorem bridges_ok (p : Nat) (x : Nat → Nat) (hx : ∀ i, x i < 256) (n : Nat) (hn : n < 18446744073709551616) (hp : stB p 4096 61440 = true) (w : World) (he : Env w) :
    Calls Tryd.prog 3 #[.int .i64 p, macV x, .int .u64 n] w fun e w' => e = .returned (.bool true) ∧ Below w.heap.size w w' := by
  have c0 := lives_ok
  have c1 := bridge_ok p hp x hx
  have r1 := refNumber_any x hx
  have hp2 : p < 65536 := by unfold stB at hp; simp at hp; omega
  have r2 := priority_any (idN p x) (idN_lt hp2 hx)
  rw [prio_id hp hx] at r2
  have r3 := mac_any (idN p x) (idN_lt hp2 hx)
  rw [macV_id hx] at r3
  have c2 := text5_ok n hn
  have c3 := parse5_idT n hn
  have c4 := refText5_any n hn
  have c5 := mac_any n hn
  have c6 := refBytes_any n hn
  have c7 := priority_any n hn
  have q := mac_same (ofN n)
  have qx := mac_same x
  have g23' := g23
  obtain ⟨d1, b4, b5⟩ := tail_facts hn
  rw [d1] at c7
  obtain ⟨N, PR, R, hN, hPR, g1, g2, g3, v1, v2, v3⟩ := good_facts hp hx
  rw [hN] at c1 r2 r3
  rw [hPR] at r1
  have HN := Lib.hid hn
  clear hp hn d1 hN hPR hx hp2
  generalize idT n = T at *
  generalize ofN n = y at *
  go_enter Tryd.func3, Tryd.ntmps3
  go_wp2_with fail
  have hb0 := box_below w (macO x 23)
  have ha0 := box_at w x 23
  generalize w.alloc (macO x 23) = w0 at *
  refine (c0 w0 (he.below hb0)).mono ?_
  rintro e w1 ⟨rfl, hb⟩
  have h1 := (he.below hb0).below hb
  have HB := Lib.hid (below_next hb0 hb)
  have ha := ha0.below hb ha0.lt
  have m0 := ha 0 (by omega)
  have m1 := ha 1 (by omega)
  have m2 := ha 2 (by omega)
  have m3 := ha 3 (by omega)
  have m4 := ha 4 (by omega)
  have m5 := ha 5 (by omega)
  have HA := Lib.hid ha
  clear hb c0 he ha ha0 hb0
  go_wp2_with fail
  refine (c1 _).mono ?_
  rintro e w2 ⟨rfl, hb⟩
  have h2 := h1.below hb
  have HB2 := Lib.hid (below_next HB.out hb)
  have ha := HA.out.below hb HA.out.lt
  clear hb c1 h1 HB m0 m1 m2 m3 m4 m5 HA
  go_wp2_with fail
  have a0 := fun d os => ha.grown d os 0 (by omega)
  have a1 := fun d os => ha.grown d os 1 (by omega)
  have a2 := fun d os => ha.grown d os 2 (by omega)
  have a3 := fun d os => ha.grown d os 3 (by omega)
  have a4 := fun d os => ha.grown d os 4 (by omega)
  have a5 := fun d os => ha.grown d os 5 (by omega)
  have k1 : ∀ d os, Calls Tryd.prog 8 #[macV x] (grow (redrawn w2 d) os) fun e w'' => e = .returned (.int .u64 PR) ∧ ∃ p : Regrown, w'' = grow (redrawn w2 p.d) p.os := fun d os => Calls.regrown_of (r1 _)
  have k2 : ∀ d os, Calls Tryd.prog 9 #[.int .u64 N] (grow (redrawn w2 d) os) fun e w'' => e = .returned (.int .i64 p) ∧ ∃ p : Regrown, w'' = grow (redrawn w2 p.d) p.os := fun d os => Calls.same_regrown (r2 _)
  have k3 : ∀ d os, Calls Tryd.prog 10 #[.int .u64 N] (grow (redrawn w2 d) os) fun e w'' => e = .returned (macV x) ∧ ∃ p : Regrown, w'' = grow (redrawn w2 p.d) p.os := fun d os => Calls.regrown_of (r3 _)
  clear ha r1 r2 r3
  refine wp_region_quiet_below (by kernel_rfl) (by kernel_rfl) ?_
  repeat (go_big_quiet_step (first | with_reducible exact k1 _ _ | with_reducible exact k2 _ _ | with_reducible exact k3 _ _))
  refine wpQuiet_nil ?_
  intro _ hw'
  obtain ⟨⟨dq, osq⟩, hw''⟩ := hw'
  subst hw''
  have hq := below_regrown w2 dq osq
  have h2 := h2.below hq
  have HB2 := Lib.hid (below_next HB2.out hq)
  clear a0 a1 a2 a3 a4 a5 k1 k2 k3 hq
  generalize grow (redrawn w2 dq) osq = W2 at *
  go_wp2_with fail
  refine (c2 _ h2).mono ?_
  rintro e w3 ⟨rfl, hb⟩
  have h3 := h2.below hb
  have HB3 := Lib.hid (below_next HB2.out hb)
  clear hb c2 h2 HB2
  go_wp2_with fail
  refine (c3 _ h3).mono ?_
  rintro e w4 ⟨rfl, hb⟩
  have HB4 := Lib.hid (below_next HB3.out hb)
  clear hb c3 h3 HB3
  go_wp2_with fail
  refine (c4 _).mono ?_
  rintro e w5 ⟨rfl, hb⟩
  have HB5 := Lib.hid (below_next HB4.out hb)
  clear hb c4 HB4
  go_wp2_with fail
  refine (c5 _).mono ?_
  rintro e w6 ⟨rfl, hb⟩
  have HB6 := Lib.hid (below_next HB5.out hb)
  clear hb c5 HB5
  go_wp2_with fail
  refine (c6 _).mono ?_
  rintro e w7 ⟨rfl, hb⟩
  have HB7 := Lib.hid (below_next HB6.out hb)
  clear hb c6 HB6
  go_wp2_with fail
  refine (c7 _).mono ?_
  rintro e w8 ⟨rfl, rfl⟩
  clear c7
  have hn := HN.out
  go_wp2_with fail
  go_ret
  exact ⟨ret_bool (by simp), HB7.out⟩
end Go.Proofs.YtgeommhambkmgaaDoor
