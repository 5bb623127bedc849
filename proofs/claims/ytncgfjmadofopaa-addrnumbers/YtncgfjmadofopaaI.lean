/- The chapter's example lives: the contract of the laws' own lives. -/
import Derived.Test.YtncgfjmadofopaaH
namespace Go.Proofs.Ytncgfjmadofopaa
open Go.RowKit Go.Sort

abbrev s0 : ByteArray := ⟨#[48, 49, 58, 56, 48, 58, 99, 50, 58, 48, 48, 58, 48, 48, 58, 48, 48]⟩
instance (s : ByteArray) (i : Nat) : Decidable (okAt s i) := by unfold okAt; infer_instance
theorem s0_ok : okTxt s0 := by
  refine ⟨by decide, ?_⟩
  have : ∀ i : Fin 6, okAt s0 i.val := by decide +kernel
  exact fun i hi => this ⟨i, hi⟩
theorem s0_group (w : World) : (Op.equalIn 10000 23 (macV (macOf s0)) (.agg #[.int .u8 1, .int .u8 128, .int .u8 194, .int .u8 0, .int .u8 0, .int .u8 0])).run Try.prog w = .ok true w := by
  rw [mac_equal]
  have : (((macOf s0 0 : Nat) : Int) == 1 && (((macOf s0 1 : Nat) : Int) == 128 && (((macOf s0 2 : Nat) : Int) == 194 && (((macOf s0 3 : Nat) : Int) == 0 && (((macOf s0 4 : Nat) : Int) == 0 && (((macOf s0 5 : Nat) : Int) == 0 && true)))))) = true := by decide +kernel
  rw [this]
theorem s0_txt : strV (txt (macOf s0) 6) = .string s0 := by
  have : txt (macOf s0) 6 = s0.data.toList := by decide +kernel
  show Value.string ⟨⟨txt (macOf s0) 6⟩⟩ = _
  rw [this]
theorem all_all (w : World) : (Op.equalIn 10000 23 (.agg #[.int .u8 255, .int .u8 255, .int .u8 255, .int .u8 255, .int .u8 255, .int .u8 255]) (.agg #[.int .u8 255, .int .u8 255, .int .u8 255, .int .u8 255, .int .u8 255, .int .u8 255])).run Try.prog w = .ok true w := by
  rw [mac_equal]; rfl
theorem macOf_lt (s : ByteArray) (i : Nat) : macOf s i < 256 := by
  unfold macOf
  have h1 : (dval (bt s (3 * i))).getD 0 < 16 := by
    cases h : dval (bt s (3 * i)) with
    | none => simp
    | some v => simpa using dval_lt h
  have h2 : (dval (bt s (3 * i + 1))).getD 0 < 16 := by
    cases h : dval (bt s (3 * i + 1)) with
    | none => simp
    | some v => simpa using dval_lt h
  omega

set_option maxHeartbeats 1000000 in
theorem lives_ok (w : World) :
    Calls Try.prog 5 #[] w fun e w' => e = .returned (.bool true) ∧ Below w.heap.size w w' := by
  have hp := parse_good s0 s0_ok
  have ht := text_any (macOf s0) (macOf_lt s0)
  rw [s0_txt] at ht
  have q1 := s0_group
  have q2 := all_all
  generalize hg : macOf s0 = g at *
  clear hg
  have g23' := g23
  go_enter Try.func5, Try.ntmps5
  go_wp2_with fail
  refine (hp _).mono ?_
  rintro e w1 ⟨rfl, hb⟩
  clear hp
  have HB := Lib.hid hb
  clear hb
  go_wp2_with fail
  have ha := box_at w1 g 23
  have hb := below_next HB.out (box_below w1 (macO g 23))
  generalize w1.alloc (macO g 23) = W at *
  have a0 := fun d os => ha.grown d os 0 (by omega)
  have a1 := fun d os => ha.grown d os 1 (by omega)
  have a2 := fun d os => ha.grown d os 2 (by omega)
  have a3 := fun d os => ha.grown d os 3 (by omega)
  have a4 := fun d os => ha.grown d os 4 (by omega)
  have a5 := fun d os => ha.grown d os 5 (by omega)
  have cg : ∀ d os, Calls Try.prog 16 #[] (grow (redrawn W d) os) fun e w'' => e = .returned (.agg #[.int .u8 1, .int .u8 128, .int .u8 194, .int .u8 0, .int .u8 0, .int .u8 0]) ∧ ∃ p : Regrown, w'' = grow (redrawn W p.d) p.os := fun d os => Calls.regrown_of (group_any _)
  have ca : ∀ d os, Calls Try.prog 17 #[] (grow (redrawn W d) os) fun e w'' => e = .returned (.agg #[.int .u8 255, .int .u8 255, .int .u8 255, .int .u8 255, .int .u8 255, .int .u8 255]) ∧ ∃ p : Regrown, w'' = grow (redrawn W p.d) p.os := fun d os => Calls.regrown_of (all_any _)
  have ct : ∀ d os, Calls Try.prog 8 #[macV g] (grow (redrawn W d) os) fun e w'' => e = .returned (.string s0) ∧ ∃ p : Regrown, w'' = grow (redrawn W p.d) p.os := fun d os => Calls.regrown_of (ht _)
  have HB2 := Lib.hid hb
  clear hb ha ht
  refine wp_region_quiet_below (by kernel_rfl) (by kernel_rfl) ?_
  repeat (go_big_quiet_step (first | with_reducible exact cg _ _ | with_reducible exact ca _ _ | with_reducible exact ct _ _))
  refine wpQuiet_nil ?_
  intro _ hw'
  obtain ⟨⟨dq, osq⟩, hw''⟩ := hw'
  subst hw''
  go_wp2
  go_ret
  exact ⟨rfl, below_next HB2.out (below_regrown W dq osq)⟩
end Go.Proofs.Ytncgfjmadofopaa
