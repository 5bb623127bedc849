/- IdentPorts' whole call. Condition: the library's table of bits' places. -/
import Derived.Test.YtgeommhambkmgaaDoorN
namespace Go.Proofs.YtgeommhambkmgaaDoor
open Go.RowKit Go.Sort

set_option maxRecDepth 10000 in
set_option maxHeartbeats 1000000 in
theorem ports_ok (p k n : Nat) (hn : n < 65536) (hp : ptB p k = true) (w : World) (h : Env w) :
    Calls Tryd.prog 4 #[.int .i64 p, .int .i64 k, .int .u16 n] w fun e w' => e = .returned (.bool true) ∧ Below w.heap.size w w' := by
  have c0 := lives_ok w h
  have c1 := port_ok p k hp
  have c4 := portPriority_any n hn
  have c5 := portNumber_any n hn
  obtain ⟨N, Q, R, hN, f1, f2, f3, g1, g2, g3, g4, g5, b0, b1, b2, b3⟩ := ports_facts hp
  obtain ⟨d1, d2, b4, b5, b6⟩ := back_facts hn
  have c2 := portPriority_any N f1
  have c3 := portNumber_any N f1
  rw [f2] at c2
  rw [f3] at c3
  rw [hN] at c1
  rw [d1] at c4
  rw [d2] at c5
  clear hN hp h f1 f2 f3 d1 d2
  have HN := Lib.hid hn
  clear hn
  go_enter Tryd.func4, Tryd.ntmps4
  go_wp2_with fail
  refine c0.mono ?_
  rintro e w1 ⟨rfl, hb⟩
  have HB := Lib.hid hb
  clear hb c0
  go_wp2_with fail
  refine (c1 _).mono ?_
  rintro e w1 ⟨rfl, rfl⟩
  clear c1
  go_wp2_with fail
  refine (c2 _).mono ?_
  rintro e w1 ⟨rfl, rfl⟩
  clear c2
  go_wp2_with fail
  refine (c3 _).mono ?_
  rintro e w1 ⟨rfl, rfl⟩
  clear c3
  go_wp2_with fail
  refine (c4 _).mono ?_
  rintro e w1 ⟨rfl, rfl⟩
  clear c4 g1 g2 g3 g4 g5 b0 b1 b2 b3
  have hn := HN.out
  go_wp2_with fail
  refine (c5 _).mono ?_
  rintro e w1 ⟨rfl, rfl⟩
  clear c5
  go_wp2_with fail
  go_ret
  exact ⟨ret_bool (by simp), HB.out⟩

theorem not_facts {p k : Int} (hp : ptB p k = false) : (decide (p < 0) = true) ∨ (decide (p < 0) = false ∧ decide (240 < p) = true) ∨ (decide (p < 0) = false ∧ decide (240 < p) = false ∧ (p.tmod 16 != 0) = true) ∨
    (decide (p < 0) = false ∧ decide (240 < p) = false ∧ (p.tmod 16 != 0) = false ∧ decide (k < 1) = true) ∨ (decide (p < 0) = false ∧ decide (240 < p) = false ∧ (p.tmod 16 != 0) = false ∧ decide (k < 1) = false ∧ decide (4095 < k) = true) := by
  by_cases h1 : p < 0
  · exact .inl (by simp [h1])
  · have e : p.tmod 16 = p % 16 := Int.tmod_eq_emod_of_nonneg (by omega)
    rw [e]
    unfold ptB stB at hp
    by_cases h2 : 240 < p
    · exact .inr (.inl ⟨by simp; omega, by simp [h2]⟩)
    · by_cases h3 : p % 16 = 0
      · by_cases h4 : k < 1
        · exact .inr (.inr (.inr (.inl ⟨by simp; omega, by simp; omega, by simp [h3], by simp [h4]⟩)))
        · refine .inr (.inr (.inr (.inr ⟨by simp; omega, by simp; omega, by simp [h3], by simp; omega, ?_⟩)))
          simp [h3] at hp
          simp
          exact hp (by omega) (by omega) (by omega)
      · exact .inr (.inr (.inl ⟨by simp; omega, by simp; omega, by simp [h3]⟩))
set_option maxRecDepth 10000 in
set_option maxHeartbeats 1000000 in
theorem ports_not (p k : Int) (n : Nat) (hn : n < 65536) (hp : ptB p k = false) (w : World) (h : Env w) :
    Calls Tryd.prog 4 #[.int .i64 p, .int .i64 k, .int .u16 n] w fun e w' => e = .returned (.bool true) ∧ Below w.heap.size w w' := by
  have c0 := lives_ok w h
  have c1 := port_not p k hp
  have c4 := portPriority_any n hn
  have c5 := portNumber_any n hn
  obtain ⟨d1, d2, b4, b5, b6⟩ := back_facts hn
  rw [d1] at c4
  rw [d2] at c5
  have HN := Lib.hid hn
  have hF := not_facts hp
  clear hp h d1 d2 hn
  rcases hF with g1 | ⟨g1, g2⟩ | ⟨g1, g2, g3⟩ | ⟨g1, g2, g3, g4⟩ | ⟨g1, g2, g3, g4, g5⟩
  all_goals
    go_enter Tryd.func4, Tryd.ntmps4
    go_wp2_with fail
    refine c0.mono ?_
    rintro e w1 ⟨rfl, hb⟩
    have HB := Lib.hid hb
    clear hb c0
    go_wp2_with fail
    refine (c1 _).mono ?_
    rintro e w1 ⟨rfl, rfl⟩
    clear c1
    go_wp2_with fail
    refine (c4 _).mono ?_
    rintro e w1 ⟨rfl, rfl⟩
    clear c4
    have hn := HN.out
    go_wp2_with fail
    refine (c5 _).mono ?_
    rintro e w1 ⟨rfl, rfl⟩
    clear c5
    go_wp2_with fail
    go_ret
    exact ⟨ret_bool (by simp), HB.out⟩
end Go.Proofs.YtgeommhambkmgaaDoor
