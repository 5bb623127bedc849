/- What Least and Sum of the program return, for any speeds: the first least of those that may be, and the sum of these, capped. -/
import Derived.Test.YtbaamcjdofccjaaDoorF
import Derived.Test.YtbaamcjdofccjaaDoorQ
namespace Go.Proofs.YtbaamcjdofccjaaDoor
open Go.RowKit

def ltB (x y : Nat) : Bool := FloatKind.f64.format.order x y == some .lt
def lstep (st : Nat × Bool) (x : Nat) : Nat × Bool := if rt x && (!st.2 || ltB x st.1) then (x, true) else st
def leastV (l : List Nat) : Nat × Bool := l.foldl lstep (0, false)
def top : Nat := 9218868437227405311
def capV (t : Nat) : Nat := if rt t then t else top
def sstep (s x : Nat) : Nat := if rt x then capV ((floatBits .add .f64 s x).getD 0) else s
def sumV (l : List Nat) : Nat := l.foldl sstep 0
theorem take_snocN (l : List Nat) (k : Nat) (h : k < l.length) : l.take (k + 1) = l.take k ++ [l.getD k 0] := by
  rw [List.take_succ_eq_append_getElem h]; simp [List.getD, List.getElem?_eq_getElem h]
theorem leastV_snoc (l : List Nat) (k : Nat) (h : k < l.length) : leastV (l.take (k + 1)) = lstep (leastV (l.take k)) (l.getD k 0) := by
  rw [take_snocN l k h]; unfold leastV; rw [List.foldl_append]; rfl
theorem sumV_snoc (l : List Nat) (k : Nat) (h : k < l.length) : sumV (l.take (k + 1)) = sstep (sumV (l.take k)) (l.getD k 0) := by
  rw [take_snocN l k h]; unfold sumV; rw [List.foldl_append]; rfl

set_option maxHeartbeats 1000000 in
theorem least_nil (w : World) : Calls Tryd.prog 15 #[.slice none 0 0] w fun e w' => e = .returned (.tuple #[.float .f64 0, .bool false]) ∧ w = w' := by
  go_enter Tryd.func15, Tryd.ntmps15
  go_wp2
  refine wp_loop_rounds 1 ?_
  rw [rounds_succ]
  go_wp2
  go_ret2
  exact ⟨rfl, rfl⟩
set_option maxHeartbeats 1000000 in
theorem least_any (l : List Nat) (b o c : Nat) (w : World) (hl : l.length ≤ 200) (hc : ∀ k, k < l.length → w.cell? ⟨b, o + k, none⟩ = some (.float .f64 (l.getD k 0))) :
    Calls Tryd.prog 15 #[.slice (some ⟨b, o, none⟩) l.length c] w fun e w' => e = .returned (.tuple #[.float .f64 (leastV l).1, .bool (leastV l).2]) ∧ w = w' := by
  have HC := Lib.hid hc
  clear hc
  go_enter Tryd.func15, Tryd.ntmps15
  go_wp2
  go_loop [4, 5, 10] (fun a f i => ∃ k : Nat, k ≤ l.length ∧ i = .int .i64 k ∧ a = .float .f64 (leastV (l.take k)).1 ∧ f = .bool (leastV (l.take k)).2) (fun _ _ i => l.length - (intOf i).toNat)
  case atStart => exact ⟨0, Nat.zero_le _, rfl, rfl, rfl⟩
  case round =>
    obtain ⟨k, hk, rfl, rfl, rfl⟩ := hrel
    by_cases hlt : k < l.length
    · have hcx := HC.out k hlt
      have HS := Lib.hid (leastV_snoc l k hlt)
      have cr := right_any (l.getD k 0) w
      generalize hx : l.getD k 0 = x at hcx cr
      generalize hst : leastV (l.take k) = st at *
      obtain ⟨a, f⟩ := st
      have HX := Lib.hid hx
      have HST := Lib.hid hst
      clear hx hst
      have e1 : leastV (l.take (k + 1)) = lstep (a, f) x := by rw [HS.out, HX.out]
      cases hr : rt x <;> rw [hr] at cr
      all_goals cases f
      all_goals cases hb : ltB x a
      all_goals
        unfold lstep at e1
        simp only [hr, hb, Bool.false_and, Bool.true_and, Bool.not_false, Bool.not_true, Bool.or_true, Bool.or_false, Bool.false_eq_true, if_true, if_false] at e1
        have E := Lib.hid e1
        clear e1
        unfold ltB at hb
        clear hr
        go_wp2_with (go_at_call 10; refine cr.mono ?_; rintro e w' ⟨rfl, rfl⟩)
        go_round
        case rel => exact ⟨k + 1, by omega, by go_num, by rw [E.out], by rw [E.out]⟩
        case measure => simp [intOf]; omega
    · go_wp2
      go_ret2
      exact ⟨by rw [List.take_of_length_le (by omega)]; rfl, rfl⟩

theorem okS_cap (t : Nat) : okS (capV t) := by
  unfold capV
  split
  · exact .inr ‹_›
  · exact .inr (by decide +kernel)
theorem fmin_cap {t : Nat} (h0 : 0 < t) (h : t ≤ infR) : fmin t 9218868437227405311 = some (capV t) := by
  have hr := rt_small h0 h
  have ⟨n1, n2⟩ := neg_small h
  have hn : nanB t = false := by unfold nanB; rw [n2]; exact decide_eq_false (by omega)
  have k1 : key 9218868437227405311 = 9218868437227405311 := by decide
  have nn : nanB 9218868437227405311 = false := by decide
  have hi : infR = 9218868437227405312 := rfl
  have hk : key t = t := by unfold key sg; rw [n1, n2]; rfl
  unfold fmin capV
  by_cases h1 : (t : Int) < 9218868437227405311
  · have o : FloatKind.f64.format.order t 9218868437227405311 = some .lt := eq_of_beq (by rw [cmp_lt, hn, nn, k1, hk, decide_eq_true h1]; rfl)
    rw [o, if_pos (hr.2 (by omega))]
  · by_cases h2 : (t : Int) = 9218868437227405311
    · have : t = 9218868437227405311 := by omega
      subst this
      decide +kernel
    · have o : FloatKind.f64.format.order t 9218868437227405311 = some .gt := eq_of_beq (by rw [cmp_gt, hn, nn, k1, hk, decide_eq_true (by omega)]; rfl)
      have e : (if rt t = true then t else top) = top := if_neg (by rw [hr]; omega)
      rw [o, e]
      rfl
theorem sum_ok (l : List Nat) : okS (sumV l) := by
  unfold sumV
  have : ∀ (l : List Nat) (s : Nat), okS s → okS (l.foldl sstep s) := by
    intro l
    induction l with
    | nil => exact fun s h => h
    | cons x l ih =>
      intro s h
      refine ih _ ?_
      unfold sstep
      split
      · obtain ⟨t, h1, _, _⟩ := add_pos h ‹_›
        rw [h1]; exact okS_cap _
      · exact h
  exact this l 0 (.inl rfl)
set_option maxHeartbeats 1000000 in
theorem sum_nil (w : World) : Calls Tryd.prog 16 #[.slice none 0 0] w fun e w' => e = .returned (.float .f64 0) ∧ w = w' := by
  go_enter Tryd.func16, Tryd.ntmps16
  go_wp2
  refine wp_loop_rounds 1 ?_
  rw [rounds_succ]
  go_wp2
  go_ret
  exact ⟨rfl, rfl⟩
theorem ret_f64 {a b : Nat} (h : a = b) : Ending.returned (.float .f64 a) = .returned (.float .f64 b) := by rw [h]
set_option maxHeartbeats 1000000 in
theorem sum_any (l : List Nat) (b o c : Nat) (w : World) (hl : l.length ≤ 200) (hc : ∀ k, k < l.length → w.cell? ⟨b, o + k, none⟩ = some (.float .f64 (l.getD k 0))) :
    Calls Tryd.prog 16 #[.slice (some ⟨b, o, none⟩) l.length c] w fun e w' => e = .returned (.float .f64 (sumV l)) ∧ w = w' := by
  have HC := Lib.hid hc
  clear hc
  go_enter Tryd.func16, Tryd.ntmps16
  go_wp2
  go_loop [3, 8] (fun a i => ∃ k : Nat, k ≤ l.length ∧ i = .int .i64 k ∧ a = .float .f64 (sumV (l.take k))) (fun _ i => l.length - (intOf i).toNat)
  case atStart => exact ⟨0, Nat.zero_le _, rfl, rfl⟩
  case round =>
    obtain ⟨k, hk, rfl, rfl⟩ := hrel
    by_cases hlt : k < l.length
    · have hcx := HC.out k hlt
      have e1 := sumV_snoc l k hlt
      have cr := right_any (l.getD k 0) w
      have hok := sum_ok (l.take k)
      generalize l.getD k 0 = x at hcx cr e1
      generalize sumV (l.take k) = s at *
      unfold sstep at e1
      cases hr : rt x <;> rw [hr] at cr e1
      · have E := Lib.hid e1
        clear e1 hok hr
        go_wp2_with (go_at_call 10; refine cr.mono ?_; rintro e w' ⟨rfl, rfl⟩)
        go_round
        case rel => exact ⟨k + 1, by omega, by go_num, by rw [E.out]; rfl⟩
        case measure => simp [intOf]; omega
      · obtain ⟨t, h1, h2, h3⟩ := add_pos hok hr
        rw [h1] at e1
        have E := Lib.hid e1
        have hop : ∀ ty w, (binOp .add ty (.float .f64 s) (.float .f64 x)).run Tryd.prog w = .ok (.float .f64 t) w := fun ty w => run_float_arith w .add ty .f64 _ _ t h1
        have k2 := fun ts ty => run_fmin ts ty t _ _ (fmin_cap h2 h3)
        clear e1 hok hr h1 h2 h3
        go_wp2_with (go_at_call 10; refine cr.mono ?_; rintro e w' ⟨rfl, rfl⟩)
        go_round
        case rel => exact ⟨k + 1, by omega, by go_num, by rw [E.out]; rfl⟩
        case measure => simp [intOf]; omega
    · go_wp2
      go_ret
      exact ⟨ret_f64 (by rw [List.take_of_length_le (by omega)]), rfl⟩
end Go.Proofs.YtbaamcjdofccjaaDoor
