/- The law SpeedMany: for any words in a slice the call returns true and old memory stays, under the condition that the library tables hold what their initialisers lay. -/
import Derived.Test.YtbaamcjdofccjaaDoorM
namespace Go.Proofs.YtbaamcjdofccjaaDoor
open Go.RowKit

theorem run_from8' (n : Int) (w : World) : (callFunc 8 #[.int .u64 n]).run Tryd.prog w = .ok (.value (.float .f64 n.toNat)) w := by
  rw [run_callFunc_extern (e := Extern.MathFloatBits.float64frombits) Tryd.func8 (by kernel_rfl) (by kernel_rfl) (by kernel_rfl) (by kernel_rfl)]
  rfl
theorem right_ref (b : Nat) (w : World) :
    Calls Tryd.prog 11 #[.float .f64 b] w fun e w' => e = .returned (.bool (rt b)) ∧ w = w' := by
  cases h : (FloatKind.f64.format.order b 0 == some Ordering.gt)
  · go_enter Tryd.func11, Tryd.ntmps11
    go_wp2
    go_ret
    exact ⟨ret_bool (by unfold rt; rw [h, Bool.false_and]), rfl⟩
  · go_enter Tryd.func11, Tryd.ntmps11
    go_wp2
    go_ret
    exact ⟨ret_bool (by unfold rt; rw [h, Bool.true_and]), rfl⟩
theorem self_eq {s : Nat} (h : okS s) : (FloatKind.f64.format.order s s == some .eq) = true := by
  rw [cmp_eq]
  have hn : nanB s = false := by
    rcases h with rfl | h
    · decide
    · rw [rt_iff] at h; unfold nanB; exact decide_eq_false (by omega)
  rw [hn]; simp
theorem least_ok (l : List Nat) : okS (leastV l).1 := by
  unfold leastV
  have : ∀ (l : List Nat) (st : Nat × Bool), okS st.1 → okS (l.foldl lstep st).1 := by
    intro l
    induction l with
    | nil => exact fun s h => h
    | cons x l ih =>
      intro st h
      refine ih _ ?_
      unfold lstep
      split
      · rename_i hc
        simp only [Bool.and_eq_true] at hc
        exact .inr hc.1
      · exact h
  exact this l (0, false) (.inl rfl)
theorem least_own (B : Nat) (l : List Nat) (v : Value) (w : World) (hl : l.length ≤ 200) (h : w.ownsRow B 29 1 v l.length (l.map (Value.float .f64))) :
    Calls Tryd.prog 15 #[v] w fun e w' => e = .returned (.tuple #[.float .f64 (leastV l).1, .bool (leastV l).2]) ∧ w = w' := by
  have h0 := h
  rcases h.2 with ⟨rfl, hn⟩ | ⟨g, cap, cur, rfl, _⟩
  · obtain rfl := List.length_eq_zero_iff.1 hn
    exact least_nil w
  · refine least_any l g 0 cap w hl fun k hk => ?_
    rw [Nat.zero_add, h0.cellAt k (by omega)]
    simp [List.getD, List.getElem?_eq_getElem hk]
theorem sum_own (B : Nat) (l : List Nat) (v : Value) (w : World) (hl : l.length ≤ 200) (h : w.ownsRow B 29 1 v l.length (l.map (Value.float .f64))) :
    Calls Tryd.prog 16 #[v] w fun e w' => e = .returned (.float .f64 (sumV l)) ∧ w = w' := by
  have h0 := h
  rcases h.2 with ⟨rfl, hn⟩ | ⟨g, cap, cur, rfl, _⟩
  · obtain rfl := List.length_eq_zero_iff.1 hn
    exact sum_nil w
  · refine sum_any l g 0 cap w hl fun k hk => ?_
    rw [Nat.zero_add, h0.cellAt k (by omega)]
    simp [List.getD, List.getElem?_eq_getElem hk]
theorem info29 : (Tryd.prog.info? 29).map (fun i => (i.zero, i.size, i.bytes)) = some (some (.float .f64 0), 1, 8) := by kernel_rfl
theorem rel_app {B k : Nat} {X : List Nat} {w wr w1 : World} {v v' : Value} {o : Obj} {x : Nat} (hk : k < X.length) (hx : x = X.getD k 0) (hB : B ≤ wr.heap.size)
    (hown : wr.ownsRow B 29 1 v k ((X.map (Value.float .f64)).take k)) (hnx : Below B w wr)
    (hown' : w1.ownsRow B 29 1 v' (k + 1) ((X.map (Value.float .f64)).take k ++ [.float .f64 x])) (hgrow : (wr.alloc o).grownBy w1 v.ownBlock) :
    w1.ownsRow B 29 1 v' (k + 1) ((X.map (Value.float .f64)).take (k + 1)) ∧ Below B w w1 := by
  refine ⟨by rw [← List.map_take, take_snocN X k hk, List.map_append, ← hx, List.map_take]; exact hown', (hnx.alloc (by omega) o).grown hgrow (by simp; omega) (fun j hj => (hown.lt j hj).1)⟩
def manyEnd (B : Nat) (w : World) (e : Ending) (w' : World) : Prop := e = .returned (.bool true) ∧ Below B w w'
set_option maxRecDepth 100000 in
set_option maxHeartbeats 2000000 in
theorem many_core (b off len cap : Nat) (zs : List Int) (w : World) (hE : Env w) (hlen : len ≤ 200) (hz : len ≤ zs.length) (hb : b < w.heap.size)
    (hc : ∀ j, j < zs.length → w.cell? ⟨b, off + j, none⟩ = some (.int .u64 (zs.getD j 0))) :
    Calls Tryd.prog 5 #[.slice (some ⟨b, off, none⟩) len cap] w (manyEnd w.heap.size w) := by
  have c0 := lives_ok w hE
  obtain ⟨i0, hi, hz0, hz1, hz2⟩ := info_parts info29
  obtain ⟨X, hX⟩ : ∃ X : List Nat, X = (zs.take len).map Int.toNat := ⟨_, rfl⟩
  have hXl : X.length = len := by rw [hX]; simp; omega
  have hXk : ∀ k, k < len → X.getD k 0 = (zs.getD k 0).toNat := by
    intro k hk
    rw [hX]
    simp [List.getD, hk]
    cases zs[k]? <;> rfl
  have HX := Lib.hid hX
  have HXl := Lib.hid hXl
  have HXk := Lib.hid hXk
  have HC := Lib.hid hc
  clear hX hXl hXk hc hE
  go_enter Tryd.func5, Tryd.ntmps5
  go_wp2_with fail
  refine c0.mono ?_
  rintro e w' ⟨rfl, n, rfl⟩
  clear c0
  go_wp2
  go_loopw [3, 4, 5, 6, 22] (fun v a f s i wr => ∃ k : Nat, k ≤ len ∧ i = .int .i64 k ∧ wr.ownsRow w.heap.size 29 1 v k ((X.map (Value.float .f64)).take k) ∧ a = .float .f64 (leastV (X.take k)).1 ∧ f = .bool (leastV (X.take k)).2 ∧ s = .float .f64 (sumV (X.take k)) ∧ Below w.heap.size w wr) (fun _ _ _ _ i _ => len - (intOf i).toNat)
  case atStart => exact ⟨0, Nat.zero_le _, rfl, World.ownsRow_nil _ _ _ _, rfl, rfl, rfl, ⟨rfl, rfl, rfl, Nat.le_refl _, fun _ _ => rfl⟩⟩
  case round =>
    obtain ⟨k, hk, rfl, hown, rfl, rfl, rfl, hnx⟩ := hrel
    by_cases hlt : k < len
    · have hcx : wr.cell? ⟨b, off + k, none⟩ = some (.int .u64 (zs.getD k 0)) := (hnx.cell (by exact hb)).trans (HC.out k (by omega))
      have hx := HXk.out k hlt
      have h8 : ∀ w, (callFunc 8 #[.int .u64 (zs.getD k 0)]).run Tryd.prog w = .ok (.value (.float .f64 (X.getD k 0))) w := fun w => by rw [run_from8', hx]
      have kX : k < X.length := by rw [HXl.out]; exact hlt
      have E1 := leastV_snoc X k kX
      have E2 := sumV_snoc X k kX
      have hok := sum_ok (X.take k)
      generalize hxx : X.getD k 0 = x at h8 E1 E2
      generalize zs.getD k 0 = z at hcx h8
      clear hx
      have HXX := Lib.hid hxx
      clear hxx
      have hsz := hnx.size
      generalize hst : leastV (X.take k) = st at *
      generalize hsu : sumV (X.take k) = s at *
      obtain ⟨a, f⟩ := st
      clear hst hsu
      have E1' := Lib.hid E1
      have E2' := Lib.hid E2
      have HOK := Lib.hid hok
      have KX := Lib.hid kX
      clear E1 E2 hok kX
      go_wp2_with (at_builtin; refine wpList_append_own _ rfl _ _ 38 rfl w.heap.size 29 i0 (.float .f64 0) 1 8 Tryd.underlying38 hi hz0 hz1 hz2 rfl (by decide) _ _ _ rfl (hown.alloc _) ⟨wr.heap.size, 0, none⟩ 1 1 [.float .f64 x] rfl rfl ?c1 ?c2 ?c3 ?c4 ?c5 ?_)
      case c1 => exact cell_one_new _ _ _
      case c2 => intro u hu; simp at hu; subst hu; rfl
      case c3 => unfold maxLen; omega
      case c4 => omega
      case c5 => simp; omega
      intro v' w1 hown' hgrow _
      have R := rel_app KX.out HXX.out.symm (by omega) hown hnx hown' hgrow
      clear hown' hgrow hown hcx hnx
      obtain ⟨R1, R2⟩ := R
      have cr := right_ref x w1
      unfold sstep at E2'
      cases hr : rt x
      · rw [hr] at cr
        have e1 : leastV (X.take (k + 1)) = (a, f) := by rw [E1'.out]; unfold lstep; rw [hr]; rfl
        have e2 : sumV (X.take (k + 1)) = s := by rw [E2'.out, hr]; rfl
        have F1 := Lib.hid e1
        have F2 := Lib.hid e2
        clear e1 e2 hr
        go_wp2_with (go_at_call 11; refine cr.mono ?_; rintro e w' ⟨rfl, rfl⟩)
        go_roundw
        case rel => exact ⟨k + 1, by omega, by go_num, R1, by rw [F1.out], by rw [F1.out], by rw [F2.out], R2⟩
        case measure => simp [intOf]; omega
      · rw [hr] at cr
        obtain ⟨t, g1, g2, g3⟩ := add_pos HOK.out hr
        have hop : ∀ ty w, (binOp .add ty (.float .f64 s) (.float .f64 x)).run Tryd.prog w = .ok (.float .f64 t) w := fun ty w => run_float_arith w .add ty .f64 _ _ t g1
        have ct := right_ref t w1
        have e2 : sumV (X.take (k + 1)) = capV t := by rw [E2'.out, hr, g1]; rfl
        unfold capV at e2
        have e1 : leastV (X.take (k + 1)) = if !f || ltB x a then (x, true) else (a, f) := by rw [E1'.out]; unfold lstep; rw [hr, Bool.true_and]
        unfold ltB at e1
        cases hb : (FloatKind.f64.format.order x a == some .lt)
        all_goals cases f
        all_goals cases hrt : rt t
        all_goals
          rw [hrt] at ct e2
          rw [hb] at e1
          simp only [Bool.not_false, Bool.not_true, Bool.or_true, Bool.or_false, Bool.false_eq_true, if_true, if_false] at e1 e2
          have F1 := Lib.hid e1
          have F2 := Lib.hid e2
          clear e1 e2 hr hrt g1 g2 g3
          go_wp2_with fail
          refine cr.mono ?_
          rintro e w' ⟨rfl, rfl⟩
          go_wp2_with fail
          refine ct.mono ?_
          rintro e w' ⟨rfl, rfl⟩
          go_wp2
          go_roundw
          case rel => exact ⟨k + 1, by omega, by go_num, R1, by rw [F1.out], by rw [F1.out], by rw [F2.out] <;> rfl, R2⟩
          case measure => simp [intOf]; omega
    · obtain rfl : len = k := by omega
      have hT : X.take len = X := List.take_of_length_le (by rw [HXl.out]; omega)
      have hT' : (X.map (Value.float .f64)).take len = X.map (Value.float .f64) := List.take_of_length_le (by simp [HXl.out])
      rw [hT', ← HXl.out] at hown
      have c1 := least_own _ X _ wr (by rw [HXl.out]; exact hlen) hown
      have c2 := sum_own _ X _ wr (by rw [HXl.out]; exact hlen) hown
      have o1 := self_eq (least_ok X)
      have o2 := self_eq (sum_ok X)
      rw [hT]
      have o3 : ((leastV X).2 == (leastV X).2) = true := by simp
      generalize leastV X = st at *
      generalize sumV X = s at *
      obtain ⟨a, f⟩ := st
      clear hT hT' hown
      go_wp2_with fail
      refine c1.mono ?_
      rintro e w' ⟨rfl, rfl⟩
      go_wp2_with (go_at_call 16; refine c2.mono ?_; rintro e w' ⟨rfl, rfl⟩)
      go_ret
      exact ⟨rfl, hnx⟩

theorem bel (B : Nat) (w : World) (n : Nat) : Below B w (w.drewN n) := ⟨rfl, rfl, rfl, Nat.le_refl _, fun _ _ => rfl⟩
set_option maxRecDepth 100000 in
set_option maxHeartbeats 1000000 in
theorem many_nil (a : Option Addr) (cap : Nat) (w : World) (hE : Env w) : Calls Tryd.prog 5 #[.slice a 0 cap] w (manyEnd w.heap.size w) := by
  have c0 := lives_ok w hE
  have c1 := fun n => least_nil (w.drewN n)
  have c2 := fun n => sum_nil (w.drewN n)
  have C1 := Lib.hid c1
  have C2 := Lib.hid c2
  have o0 : (FloatKind.f64.format.order 0 0 == some .eq) = true := by decide +kernel
  clear hE c1 c2
  go_enter Tryd.func5, Tryd.ntmps5
  go_wp2_with fail
  refine c0.mono ?_
  rintro e w' ⟨rfl, n, rfl⟩
  go_wp2
  refine wp_loop_rounds 1 ?_
  rw [rounds_succ]
  go_wp2_with fail
  refine (C1.out n).mono ?_
  rintro e w' ⟨rfl, rfl⟩
  go_wp2_with (go_at_call 16; refine (C2.out n).mono ?_; rintro e w' ⟨rfl, rfl⟩)
  go_ret
  exact ⟨rfl, bel _ _ _⟩
set_option maxRecDepth 100000 in
set_option maxHeartbeats 1000000 in
theorem many_long (a : Option Addr) (len cap : Nat) (w : World) (hE : Env w) (h : 200 < len) (hmax : len ≤ 9223372036854775807) : Calls Tryd.prog 5 #[.slice a len cap] w (manyEnd w.heap.size w) := by
  have c0 := lives_ok w hE
  have c1 := fun n => lives_ok (w.drewN n) (hE.drewN n)
  have C1 := Lib.hid c1
  clear hE c1
  go_enter Tryd.func5, Tryd.ntmps5
  go_wp2_with fail
  refine c0.mono ?_
  rintro e w' ⟨rfl, n, rfl⟩
  go_wp2_with fail
  refine (C1.out n).mono ?_
  rintro e w' ⟨rfl, m, rfl⟩
  go_wp2
  go_ret
  exact ⟨rfl, bel _ _ _⟩
end Go.Proofs.YtbaamcjdofccjaaDoor
