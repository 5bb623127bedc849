/- Contracts of seconds, times, FitsPort. -/
import Derived.Test.YtidgdanhnpfpmaaCa
namespace Go.Proofs.Ytidgdanhnpfpmaa
open Go.RowKit Go.Sort

/-- A Bool came back. -/
def IsB (e : Ending) : Prop := ∃ q, e = .returned (.bool q)
theorem seconds_any (b n c : Nat) (x : Nat → Int) (w : World) (hc : ∀ i, i < n → w.cell? ⟨b, i, none⟩ = some (.int .i64 (x i))) (hn : n ≤ 10) :
    Calls Try.prog 16 #[.slice (some ⟨b, 0, none⟩) n c] w fun e w' => IsB e ∧ w = w' := by
  have HC := Lib.hid hc
  clear hc
  go_enter Try.func16, Try.ntmps16
  go_wp2
  go_loop [3] (fun i => ∃ k : Nat, k ≤ n ∧ i = .int .i64 k) (fun i => n - (intOf i).toNat)
  case atStart => exact ⟨0, Nat.zero_le _, rfl⟩
  case round =>
    obtain ⟨k, hk, rfl⟩ := hrel
    by_cases hlt : k < n
    · have hi := HC.out k hlt
      have i0 : ∀ w, (Instr.indexAt 57 (.slice (some ⟨b, 0, none⟩) n c) (.int .i64 k)).run Try.prog w = .ok (.pointer (some ⟨b, k, none⟩)) w := by
        intro w; go_simp
      generalize x k = X at *
      cases hd1 : decide (X < -2147483648)
      · cases hd2 : decide ((2147483648 : Int) < X)
        · go_wp2
          exact ⟨⟨k + 1, by omega, by go_num⟩, by simp [intOf]; omega⟩
        · go_wp2
          go_ret
          exact ⟨⟨_, rfl⟩, rfl⟩
      · go_wp2
        go_ret
        exact ⟨⟨_, rfl⟩, rfl⟩
    · go_wp2
      go_ret
      exact ⟨⟨_, rfl⟩, rfl⟩
theorem seconds4 (W : World) (a m h d : Int) : Calls Try.prog 16 #[.slice (some ⟨W.heap.size, 0, none⟩) 4 4] (W.alloc (.cells #[.int .i64 a, .int .i64 m, .int .i64 h, .int .i64 d] 3)) fun e w' => IsB e ∧ W.alloc (.cells #[.int .i64 a, .int .i64 m, .int .i64 h, .int .i64 d] 3) = w' :=
  seconds_any _ 4 4 (fun i => [a, m, h, d].getD i 0) _ (fun i hi => by
    rw [(var_new W _ 3).cell]
    match i, hi with
    | 0, _ => rfl
    | 1, _ => rfl
    | 2, _ => rfl
    | 3, _ => rfl
    | i + 4, hi => omega) (by omega)
theorem seconds9 (W : World) (a b c d e f g h i : Int) : Calls Try.prog 16 #[.slice (some ⟨W.heap.size, 0, none⟩) 9 9] (W.alloc (.cells #[.int .i64 a, .int .i64 b, .int .i64 c, .int .i64 d, .int .i64 e, .int .i64 f, .int .i64 g, .int .i64 h, .int .i64 i] 3)) fun x w' => IsB x ∧ W.alloc (.cells #[.int .i64 a, .int .i64 b, .int .i64 c, .int .i64 d, .int .i64 e, .int .i64 f, .int .i64 g, .int .i64 h, .int .i64 i] 3) = w' :=
  seconds_any _ 9 9 (fun j => [a, b, c, d, e, f, g, h, i].getD j 0) _ (fun j hj => by
    rw [(var_new W _ 3).cell]
    match j, hj with
    | 0, _ => rfl
    | 1, _ => rfl
    | 2, _ => rfl
    | 3, _ => rfl
    | 4, _ => rfl
    | 5, _ => rfl
    | 6, _ => rfl
    | 7, _ => rfl
    | 8, _ => rfl
    | j + 9, hj => omega) (by omega)
theorem seconds1 (W : World) (a : Int) : Calls Try.prog 16 #[.slice (some ⟨W.heap.size, 0, none⟩) 1 1] (W.alloc (.cells #[.int .i64 a] 3)) fun x w' => IsB x ∧ W.alloc (.cells #[.int .i64 a] 3) = w' :=
  seconds_any _ 1 1 (fun _ => a) _ (fun j hj => by
    rw [(var_new W _ 3).cell]
    match j, hj with
    | 0, _ => rfl
    | j + 1, hj => omega) (by omega)
theorem times_any (a m h d : Int) (w : World) : Calls Try.prog 15 #[tmV a m h d] w fun e w' => IsB e ∧ Below w.heap.size w w' := by
  have k := seconds4 (w.alloc (.cells (tmC a m h d) 25)) a m h d
  rw [alloc_size] at k
  have K := Lib.hid k
  clear k
  go_enter Try.func15, Try.ntmps15
  go_wp2_with fail
  refine K.out.mono ?_
  rintro e w' ⟨⟨q, rfl⟩, rfl⟩
  go_wp2
  go_ret
  exact ⟨⟨_, rfl⟩, (box_below w _).alloc (by simp) _⟩
theorem Typed.int {xs : Array Value} (h : Typed xs) (k : Nat) {q : IntKind} (hk : kinds[k]? = some (some q)) : ∃ n, xs[k]? = some (.int q n) := by
  have hlt : k < xs.size := by rw [h.1, ← kinds_len]; exact (List.getElem?_eq_some_iff.1 hk).1
  obtain ⟨n, hn⟩ := h.2 k _ xs[k] hk (Array.getElem?_eq_getElem hlt)
  exact ⟨n, by rw [Array.getElem?_eq_getElem hlt, hn]⟩
set_option maxHeartbeats 1000000 in
theorem fitsPort_any (xs : Array Value) (ht : Typed xs) (w : World) : Calls Try.prog 17 #[.agg xs] w fun e w' => IsB e ∧ Below w.heap.size w w' := by
  obtain ⟨n6, e6⟩ := ht.int 6 (q := .i64) rfl
  obtain ⟨n7, e7⟩ := ht.int 7 (q := .i64) rfl
  obtain ⟨n8, e8⟩ := ht.int 8 (q := .i64) rfl
  obtain ⟨n9, e9⟩ := ht.int 9 (q := .i64) rfl
  obtain ⟨n10, e10⟩ := ht.int 10 (q := .i64) rfl
  obtain ⟨n11, e11⟩ := ht.int 11 (q := .i64) rfl
  obtain ⟨n12, e12⟩ := ht.int 12 (q := .i64) rfl
  obtain ⟨n13, e13⟩ := ht.int 13 (q := .i64) rfl
  obtain ⟨n14, e14⟩ := ht.int 14 (q := .i64) rfl
  obtain ⟨n60, e60⟩ := ht.int 60 (q := .i64) rfl
  obtain ⟨n61, e61⟩ := ht.int 61 (q := .i64) rfl
  obtain ⟨n62, e62⟩ := ht.int 62 (q := .i64) rfl
  obtain ⟨n63, e63⟩ := ht.int 63 (q := .i64) rfl
  obtain ⟨n64, e64⟩ := ht.int 64 (q := .i64) rfl
  obtain ⟨n65, e65⟩ := ht.int 65 (q := .i64) rfl
  obtain ⟨n66, e66⟩ := ht.int 66 (q := .i64) rfl
  obtain ⟨n67, e67⟩ := ht.int 67 (q := .i64) rfl
  obtain ⟨n68, e68⟩ := ht.int 68 (q := .i64) rfl
  obtain ⟨n69, e69⟩ := ht.int 69 (q := .i64) rfl
  obtain ⟨n70, e70⟩ := ht.int 70 (q := .i64) rfl
  obtain ⟨n71, e71⟩ := ht.int 71 (q := .i64) rfl
  have hv := var_new w xs 50
  have hB := Lib.hid (box_below w (.cells xs 50))
  have c6 := hv.cell 6
  rw [e6] at c6
  have c7 := hv.cell 7
  rw [e7] at c7
  have c8 := hv.cell 8
  rw [e8] at c8
  have c9 := hv.cell 9
  rw [e9] at c9
  have c10 := hv.cell 10
  rw [e10] at c10
  have c11 := hv.cell 11
  rw [e11] at c11
  have c12 := hv.cell 12
  rw [e12] at c12
  have c13 := hv.cell 13
  rw [e13] at c13
  have c14 := hv.cell 14
  rw [e14] at c14
  have c60 := hv.cell 60
  rw [e60] at c60
  have c61 := hv.cell 61
  rw [e61] at c61
  have c62 := hv.cell 62
  rw [e62] at c62
  have c63 := hv.cell 63
  rw [e63] at c63
  have c64 := hv.cell 64
  rw [e64] at c64
  have c65 := hv.cell 65
  rw [e65] at c65
  have c66 := hv.cell 66
  rw [e66] at c66
  have c67 := hv.cell 67
  rw [e67] at c67
  have c68 := hv.cell 68
  rw [e68] at c68
  have c69 := hv.cell 69
  rw [e69] at c69
  have c70 := hv.cell 70
  rw [e70] at c70
  have c71 := hv.cell 71
  rw [e71] at c71
  have HV := Lib.hid hv
  clear ht hv e6 e7 e8 e9 e10 e11 e12 e13 e14 e60 e61 e62 e63 e64 e65 e66 e67 e68 e69 e70 e71
  have k9 := seconds9 (w.alloc (.cells xs 50)) n6 n7 n8 n9 n10 n11 n12 n13 n14
  rw [alloc_size] at k9
  have K9 := Lib.hid k9
  clear k9
  go_enter Try.func17, Try.ntmps17
  go_wp2_with fail
  refine K9.out.mono ?_
  rintro e w1 ⟨⟨q1, rfl⟩, rfl⟩
  generalize w.alloc (.cells xs 50) = W at *
  clear K9
  have hb := box_below W (.cells #[.int .i64 n6, .int .i64 n7, .int .i64 n8, .int .i64 n9, .int .i64 n10, .int .i64 n11, .int .i64 n12, .int .i64 n13, .int .i64 n14] 3)
  replace c60 := cell_below hb c60
  replace c61 := cell_below hb c61
  replace c62 := cell_below hb c62
  replace c63 := cell_below hb c63
  replace c64 := cell_below hb c64
  replace c65 := cell_below hb c65
  replace c66 := cell_below hb c66
  replace c67 := cell_below hb c67
  replace c68 := cell_below hb c68
  replace c69 := cell_below hb c69
  replace c70 := cell_below hb c70
  replace c71 := cell_below hb c71
  have hB1 := Lib.hid (hB.out.trans (hb.mono hB.out.size))
  clear hb hB HV c6 c7 c8 c9 c10 c11 c12 c13 c14
  generalize W.alloc (.cells #[.int .i64 n6, .int .i64 n7, .int .i64 n8, .int .i64 n9, .int .i64 n10, .int .i64 n11, .int .i64 n12, .int .i64 n13, .int .i64 n14] 3) = W1 at *
  go_wp2_with fail
  refine (times_any _ _ _ _ _).mono ?_
  rintro e w2 ⟨⟨q2, rfl⟩, hb⟩
  replace c60 := cell_below hb c60
  replace c61 := cell_below hb c61
  replace c62 := cell_below hb c62
  replace c63 := cell_below hb c63
  replace c64 := cell_below hb c64
  replace c65 := cell_below hb c65
  replace c66 := cell_below hb c66
  replace c67 := cell_below hb c67
  replace c68 := cell_below hb c68
  replace c69 := cell_below hb c69
  replace c70 := cell_below hb c70
  replace c71 := cell_below hb c71
  have hB2 := Lib.hid (hB1.out.trans (hb.mono hB1.out.size))
  clear hb hB1
  go_wp2_with fail
  refine (times_any _ _ _ _ _).mono ?_
  rintro e w3 ⟨⟨q3, rfl⟩, hb⟩
  replace c60 := cell_below hb c60
  replace c61 := cell_below hb c61
  replace c62 := cell_below hb c62
  replace c63 := cell_below hb c63
  replace c64 := cell_below hb c64
  replace c65 := cell_below hb c65
  replace c66 := cell_below hb c66
  replace c67 := cell_below hb c67
  replace c68 := cell_below hb c68
  replace c69 := cell_below hb c69
  replace c70 := cell_below hb c70
  replace c71 := cell_below hb c71
  have hB3 := Lib.hid (hB2.out.trans (hb.mono hB2.out.size))
  clear hb hB2
  go_wp2_with fail
  refine (times_any _ _ _ _ _).mono ?_
  rintro e w4 ⟨⟨q4, rfl⟩, hb⟩
  have hB4 := Lib.hid (hB3.out.trans (hb.mono hB3.out.size))
  clear hb hB3 c60 c61 c62 c63 c64 c65 c66 c67 c68 c69 c70 c71
  cases q1 <;> cases q2 <;> cases q3 <;> cases q4 <;> (go_wp2_with fail; go_ret; exact ⟨⟨_, rfl⟩, hB4.out⟩)
end Go.Proofs.Ytidgdanhnpfpmaa
