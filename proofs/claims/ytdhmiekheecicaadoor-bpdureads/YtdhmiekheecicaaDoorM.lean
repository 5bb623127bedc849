/- The chapter's example; BpduRoles' whole call. -/
import Derived.Test.YtdhmiekheecicaaDoorL
namespace Go.Proofs.YtdhmiekheecicaaDoor
open Go.RowKit Go.Sort

theorem bts_string {w : World} {B : Nat} {v : Value} {l : List UInt8} (h : Bts w B v l) : (convert 32 9 v).run Tryd.prog w = .ok (strV l) w := by
  rcases h with ⟨rfl, rfl⟩ | ⟨a, cap, rfl, h1, h2, h3, h4⟩
  · rw [run_convert_bytes_string w 32 9 5 none 0 0 und22 und5 und9]; rfl
  · exact run_convert_bytes_back w 32 9 5 a cap l und22 und5 und9 h4
set_option maxHeartbeats 1000000 in
theorem lives_ok (w : World) (he : Env w) : Calls Tryd.prog 6 #[] w fun e w' => e = .returned (.bool true) ∧ Below w.heap.size w w' := by
  have c : Calls Tryd.prog 7 #[bpV 2 0 0 0 0 0 0 0 0 0] w fun e w' => ∃ v', e = .returned (.tuple #[v', .int .i64 0]) ∧ Puts w (hdB 0 128) v' w' ∧ Below w.heap.size w w' :=
    bytes_ok7 2 0 0 0 0 0 0 0 0 0 (by omega) (by omega) (by omega) (by omega) (by omega) (by omega) (by omega) (by omega) (by omega) (by decide) w he
  go_enter Tryd.func6, Tryd.ntmps6
  go_wp2_with fail
  refine c.mono ?_
  rintro e w1 ⟨v, rfl, P, hb⟩
  have q := bts_string P.bts
  have HB := Lib.hid hb
  have c2 : Calls Tryd.prog 14 #[.int .u8 12] w1 fun e w' => e = .returned (.int .i64 2) ∧ w1 = w' := role_any 12 (by omega) w1 (he.below hb)
  rw [show hdB 0 128 = [0, 0, 0, 128] from rfl] at q
  clear P c hb
  go_wp2_with fail
  refine c2.mono ?_
  rintro e w2 ⟨rfl, rfl⟩
  clear c2
  go_wp2_with fail
  go_ret
  exact ⟨rfl, HB.out⟩

/-- The role that is read where a role was put. -/
def wantR (r : Int) : Int := if r = 1 then 1 else if r = 2 then 2 else if r = 3 then 3 else if r = 4 then 3 else 0
theorem role_wr (f : Nat) (r : Int) : roleOf (wr f (nb r)) = wantR r := by
  have h := nb_lt r
  have : wr f (nb r) / 4 % 4 = nb r := by unfold wr; omega
  unfold roleOf
  rw [this]
  unfold nb wantR
  (repeat' split) <;> first | rfl | omega
theorem and243 : ∀ f : Nat, f < 256 → ∀ n : Nat, n < 4 → bits BinOp.and IntKind.u8 ((wr f n : Nat) : Int) 243 = bits BinOp.and IntKind.u8 (f : Int) 243 := by decide +kernel
theorem wr_lt (f n : Nat) (hf : f < 256) (hn : n < 4) : wr f n < 256 := by unfold wr; omega
set_option maxHeartbeats 1000000 in
theorem roles_any (f : Nat) (r : Int) (hf : f < 256) (hr : -128 ≤ r ∧ r ≤ 127) (w : World) (he : Env w) (he2 : Env2 w) : Calls Tryd.prog 5 #[.int .u8 f, .int .i8 r] w fun e w' => e = .returned (.bool true) ∧ Below w.heap.size w w' := by
  have c := lives_ok w he
  have hlt := wr_lt f (nb r) hf (nb_lt r)
  have e4 := and243 f hf (nb r) (nb_lt r)
  have e5 := role_wr f r
  go_enter Tryd.func5, Tryd.ntmps5
  go_wp2_with fail
  refine c.mono ?_
  rintro e w1 ⟨rfl, hb1⟩
  have c2 := withRole_any f r hf w1 (he2.below hb1)
  have c3 := role_any f hf w1 (he.below hb1)
  have c4 := refRole_any f hf w1
  have c5 := role_any (wr f (nb r)) hlt w1 (he.below hb1)
  rw [e5] at c5
  have HB := Lib.hid hb1
  generalize hX : wr f (nb r) = X at *
  clear c hb1 hX e5
  generalize hY : bits BinOp.and IntKind.u8 (f : Int) 243 = Y at *
  go_wp2_with fail
  refine c2.mono ?_
  rintro e w2 ⟨rfl, rfl⟩
  clear c2
  generalize roleOf f = Z at *
  unfold wantR at c5
  by_cases h1 : r = 1
  · subst h1
    rw [if_pos rfl] at c5
    go_wp2_with fail
    refine c3.mono ?_
    rintro e w2 ⟨rfl, rfl⟩
    go_wp2_with fail
    refine c4.mono ?_
    rintro e w2 ⟨rfl, rfl⟩
    go_wp2_with fail
    refine c5.mono ?_
    rintro e w2 ⟨rfl, rfl⟩
    go_wp2_with fail
    go_ret
    exact ⟨rfl, HB.out⟩
  · rw [if_neg h1] at c5
    by_cases h2 : r = 2
    · subst h2
      rw [if_pos rfl] at c5
      go_wp2_with fail
      refine c3.mono ?_
      rintro e w2 ⟨rfl, rfl⟩
      go_wp2_with fail
      refine c4.mono ?_
      rintro e w2 ⟨rfl, rfl⟩
      go_wp2_with fail
      refine c5.mono ?_
      rintro e w2 ⟨rfl, rfl⟩
      go_wp2_with fail
      go_ret
      exact ⟨rfl, HB.out⟩
    · rw [if_neg h2] at c5
      by_cases h3 : r = 3
      · subst h3
        rw [if_pos rfl] at c5
        go_wp2_with fail
        refine c3.mono ?_
        rintro e w2 ⟨rfl, rfl⟩
        go_wp2_with fail
        refine c4.mono ?_
        rintro e w2 ⟨rfl, rfl⟩
        go_wp2_with fail
        refine c5.mono ?_
        rintro e w2 ⟨rfl, rfl⟩
        go_wp2_with fail
        go_ret
        exact ⟨rfl, HB.out⟩
      · rw [if_neg h3] at c5
        by_cases h4 : r = 4
        · subst h4
          rw [if_pos rfl] at c5
          go_wp2_with fail
          refine c3.mono ?_
          rintro e w2 ⟨rfl, rfl⟩
          go_wp2_with fail
          refine c4.mono ?_
          rintro e w2 ⟨rfl, rfl⟩
          go_wp2_with fail
          refine c5.mono ?_
          rintro e w2 ⟨rfl, rfl⟩
          go_wp2_with fail
          go_ret
          exact ⟨rfl, HB.out⟩
        · rw [if_neg h4] at c5
          go_wp2_with fail
          refine c3.mono ?_
          rintro e w2 ⟨rfl, rfl⟩
          go_wp2_with fail
          refine c4.mono ?_
          rintro e w2 ⟨rfl, rfl⟩
          go_wp2_with fail
          refine c5.mono ?_
          rintro e w2 ⟨rfl, rfl⟩
          go_wp2_with fail
          go_ret
          exact ⟨rfl, HB.out⟩
end Go.Proofs.YtdhmiekheecicaaDoor
