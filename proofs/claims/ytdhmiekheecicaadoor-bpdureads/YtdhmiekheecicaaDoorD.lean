/- The contracts of octet.Put and of the reference's Put. -/
import Derived.Test.YtdhmiekheecicaaDoorC
namespace Go.Proofs.YtdhmiekheecicaaDoor
open Go.RowKit Go.Sort

/-- The first j of the k lowest bytes of a number. -/
def lw (n k : Nat) : Nat → List UInt8 | 0 => [] | j + 1 => lw n k j ++ [UInt8.ofNat (n / 256 ^ (k - 1 - j) % 256)]
theorem lw_len (n k : Nat) : ∀ j, (lw n k j).length = j
  | 0 => rfl
  | j + 1 => by simp [lw, lw_len n k j]
theorem numOf_lw (n k : Nat) : ∀ j, j ≤ k → numOf (lw n k j) = n / 256 ^ (k - j) % 256 ^ j
  | 0, _ => by simp [lw, numOf, Nat.mod_one]
  | j + 1, h => by
    have e1 : k - 1 - j = k - (j + 1) := by omega
    have e2 : (256 : Nat) ^ (k - j) = 256 ^ (k - (j + 1)) * 256 := by rw [← Nat.pow_succ]; congr 1; omega
    rw [lw, numOf_snoc, numOf_lw n k j (by omega), e1, e2, ← Nat.div_div_eq_div_mul]
    generalize n / 256 ^ (k - (j + 1)) = m
    have e3 : (UInt8.ofNat (m % 256)).toNat = m % 256 := by simp
    rw [e3, Nat.pow_succ, Nat.mul_comm (256 ^ j) 256, Nat.mod_mul]
    omega
theorem cell_one_new (w : World) (u : Value) (t : TypeId) : ∀ j y, [u][j]? = some y → (w.alloc (.cells #[u] t)).cell? ((⟨w.heap.size, 0, none⟩ : Addr).add j) = some y :=
  World.news_of_block (MapKept.heap_alloc w (.cells #[u] t)).1

set_option maxHeartbeats 1000000 in
theorem put_any (v : Value) (l : List UInt8) (B k n : Nat) (w : World) (h : Bts w B v l) (hB : B ≤ w.heap.size) (hl : l.length ≤ 10000) (hk : k ≤ 8) (_ : n < 18446744073709551616) :
    Calls Tryd.prog 18 #[v, .int .i64 k, .int .u64 n] w fun e w' => ∃ v', e = .returned v' ∧ w'.ownsRow w.heap.size 5 1 v' (l ++ lw n k k).length ((l ++ lw n k k).map bV) ∧ Below w.heap.size w w' := by
  obtain ⟨i0, hinf, hz0, hz1, hz2⟩ := info_parts info5
  have c := clone_any v l B w h hB (by omega)
  clear h
  go_enter Tryd.func18, Tryd.ntmps18
  go_wp2_with fail
  refine c.mono ?_
  rintro x w1 ⟨v1, rfl, hown, hb⟩
  have HO := Lib.hid hown
  have HB := Lib.hid hb
  clear hown hb c
  go_wp2
  go_loopw [7, 8] (fun o i wr => ∃ m : Nat, m ≤ k ∧ i = .int .i64 ((m : Int) - 1) ∧ wr.ownsRow w.heap.size 5 1 o (l ++ lw n k (k - m)).length ((l ++ lw n k (k - m)).map bV) ∧ Below w.heap.size w wr) (fun _ i _ => (intOf i + 1).toNat)
  case atStart => exact ⟨k, Nat.le_refl _, rfl, by simpa [lw] using HO.out, HB.out⟩
  case round =>
    obtain ⟨m, hm, rfl, hown, hb⟩ := hrel
    have HO := Lib.hid hown
    have HB := Lib.hid hb
    have hsz := hb.size
    have hlen : (l ++ lw n k (k - m)).length ≤ 10008 := by rw [List.length_append, lw_len]; omega
    clear hown hb
    cases m with
    | succ i =>
      have e : ((i + 1 : Nat) : Int) - 1 = i := by omega
      rw [e]
      go_wp2_with (at_builtin; refine wpList_append_own _ rfl _ _ 32 rfl w.heap.size 5 i0 (.int .u8 0) 1 1 und22 hinf hz0 hz1 hz2 rfl (by decide) _ _ _ rfl (HO.out.alloc _) ⟨wr.heap.size, 0, none⟩ 1 1 [_] rfl rfl (cell_one_new _ _ _) ?d2 ?d3 ?d4 ?d5 ?_)
      case d2 => intro u hu; simp at hu; subst hu; rfl
      case d3 => unfold maxLen; omega
      case d4 => omega
      case d5 => simp; omega
      intro v1 w2 hown2 hgrow2 _
      have hb2 : Below w.heap.size w w2 := (HB.out.alloc (by omega) _).grown hgrow2 (by simp; omega) (fun j hj => (HO.out.lt j hj).1)
      have hx : ((n : Int) / 2 ^ (8 * i) % 256) = ((UInt8.ofNat (n / 256 ^ (k - 1 - (k - (i + 1))) % 256)).toNat : Int) := by
        have e1 : k - 1 - (k - (i + 1)) = i := by omega
        have e2 : (256 : Nat) ^ i = 2 ^ (8 * i) := by rw [Nat.pow_mul]
        rw [e1, e2]
        simp
      have e3 : k - i = (k - (i + 1)) + 1 := by omega
      have R : w2.ownsRow w.heap.size 5 1 v1 (l ++ lw n k (k - i)).length ((l ++ lw n k (k - i)).map bV) := by
        rw [e3, lw]
        refine own_cast hown2 (by simp; omega) ?_
        rw [hx]
        simp
      clear hown2 hgrow2 hx e3 HO HB
      go_wp2
      go_roundw
      case rel => exact ⟨i, by omega, by go_num, R, hb2⟩
      case measure => simp [intOf]
    | zero =>
      go_wp2
      go_ret
      exact ⟨_, rfl, HO.out, HB.out⟩

/-- 'append' of a slice of bytes, nil or not. -/
theorem wpList_append_bts (w : World) {ops : Array Oper} {rest : List Oper} {o : Oper} {a : Act} {Q : Exit → Act → World → Prop} (hgd : o.guard = none) (s x : Operand)
    (ho : o.op = .call { callee := .builtin .append, args := #[s, x], argTypes := #[32, 32] }) (base : Nat) (v : Value) (n : Nat) (xs : List Value) (hs : a.eval s = v) (hown : w.ownsRow base 5 1 v n xs)
    (B : Nat) (v2 : Value) (l : List UInt8) (hx : a.eval x = v2) (hl : Bts w B v2 l) (hn : n + l.length ≤ 1000000) (hbase : base ≤ w.heap.size)
    (h : ∀ v' w', w'.ownsRow base 5 1 v' (n + l.length) (xs ++ l.map bV) → w.grownBy w' v.ownBlock → wpList Tryd.prog ops Q rest (a.put o.dst v') w') : wpList Tryd.prog ops Q (o :: rest) a w := by
  obtain ⟨i0, hinf, hz0, hz1, hz2⟩ := info_parts info5
  rcases hl with ⟨rfl, rfl⟩ | ⟨ad, cap, rfl, h1, h2, h3, h4⟩
  · refine wpList_append_own_none hgd s x 32 ho base 5 i0 1 und22 hinf v n xs hs hown hx ?_
    exact h v w (by simpa using hown) (World.grownBy.refl _ _)
  · exact wpList_append_own w hgd s x 32 ho base 5 i0 (.int .u8 0) 1 1 und22 hinf hz0 hz1 hz2 rfl (by decide) v n xs hs hown ad l.length cap (l.map bV) hx (by simp) h4.news (bytes_oneCell l) (by unfold maxLen; omega) (by omega) hbase
      fun v' w' h1 h2 _ => h v' w' h1 h2

set_option maxHeartbeats 2000000 in
theorem refPut_any (v : Value) (l : List UInt8) (B k n : Nat) (w : World) (h : Bts w B v l) (hB : B ≤ w.heap.size) (hl : l.length ≤ 10000) (hk : k ≤ 8) (hn : n < 18446744073709551616) :
    Calls Tryd.prog 33 #[v, .int .i64 k, .int .u64 n] w fun e w' => ∃ v', e = .returned v' ∧ w'.ownsRow w.heap.size 5 1 v' (l ++ lw n k k).length ((l ++ lw n k k).map bV) ∧ Below w.heap.size w w' := by
  obtain ⟨i0, hinf, hz0, hz1, hz2⟩ := info_parts info5
  have ho := World.ownsRow_made (base := w.heap.size) (e := 5) (size := 1) w #[] 0 (Nat.le_refl _) (by decide) rfl
  have HO := Lib.hid ho
  have h' := Lib.hid (h.below (box_below w (.cells #[] 5)) hB)
  clear ho h
  go_enter Tryd.func33, Tryd.ntmps33
  go_wp2_with (at_builtin; refine wpList_append_bts _ rfl _ _ rfl w.heap.size _ _ _ rfl HO.out B _ l rfl h'.out (by omega) ?d5 ?_)
  case d5 => simp
  intro v1 w1 hown hgrow
  have hb : Below w.heap.size w w1 := (box_below w (.cells #[] 5)).grown hgrow (by simp) (fun j hj => (HO.out.lt j hj).1)
  have HO1 := Lib.hid (own_cast (m := l.length) (ys := l.map bV) hown (by simp) (by simp))
  have HB1 := Lib.hid hb
  clear hown hb hgrow HO h'
  go_wp2
  go_loopw [7, 8, 9, 10] (fun o i _ _ wr => ∃ m : Nat, m ≤ k ∧ i = .int .i64 m ∧ wr.ownsRow w.heap.size 5 1 o (l ++ lw n k (k - m)).length ((l ++ lw n k (k - m)).map bV) ∧ Below w.heap.size w wr) (fun _ i _ _ _ => (intOf i).toNat)
  case atStart => exact ⟨k, Nat.le_refl _, rfl, by simpa [lw] using HO1.out, HB1.out⟩
  case round =>
    obtain ⟨m, hm, rfl, hown, hb⟩ := hrel
    have HO := Lib.hid hown
    have HB := Lib.hid hb
    have hsz := hb.size
    have hlen : (l ++ lw n k (k - m)).length ≤ 10008 := by rw [List.length_append, lw_len]; omega
    clear hown hb HO1 HB1
    by_cases hm0 : 0 < m
    · go_wp2
      go_loop [9, 10] (fun y i => ∃ q : Nat, q < m ∧ i = .int .i64 ((q : Int) + 1) ∧ y = .int .u64 ((n / 256 ^ q : Nat) : Int)) (fun _ i => m - (intOf i).toNat)
      case atStart => exact ⟨0, hm0, rfl, by simp⟩
      case round =>
        obtain ⟨q, hq, rfl, rfl⟩ := hrel
        have hdiv : n / 256 ^ q ≤ n := Nat.div_le_self _ _
        by_cases hlt : q + 1 < m
        · have hd : n / 256 ^ (q + 1) = n / 256 ^ q / 256 := by rw [Nat.pow_succ, Nat.div_div_eq_div_mul]
          have HD := Lib.hid hd
          clear hd
          generalize n / 256 ^ q = y at *
          go_wp2
          exact ⟨⟨q + 1, by omega, by go_num, by rw [HD.out]; rfl⟩, by simp [intOf]; omega⟩
        · have hy := Lib.hid (show (UInt8.ofNat (n / 256 ^ (k - 1 - (k - m)) % 256)) = UInt8.ofNat (n / 256 ^ q % 256) by rw [show k - 1 - (k - m) = q by omega])
          generalize n / 256 ^ q = y at *
          go_wp2_with (at_builtin; refine wpList_append_own _ rfl _ _ 32 rfl w.heap.size 5 i0 (.int .u8 0) 1 1 und22 hinf hz0 hz1 hz2 rfl (by decide) _ _ _ rfl (HO.out.alloc _) ⟨wr.heap.size, 0, none⟩ 1 1 [_] rfl rfl (cell_one_new _ _ _) ?d2 ?d3 ?d4 ?d6 ?_)
          case d2 => rfl
          case d3 => rw [List.length_append] at hlen; unfold maxLen; omega
          case d4 => rw [List.length_append] at hlen; omega
          case d6 => omega
          intro v1 w2 hown2 hgrow2 _
          have hb2 : Below w.heap.size w w2 := (HB.out.alloc (by omega) _).grown hgrow2 (by simp; omega) (fun j hj => (HO.out.lt j hj).1)
          have e3 : k - q = (k - m) + 1 := by omega
          have R : w2.ownsRow w.heap.size 5 1 v1 (l ++ lw n k (k - q)).length ((l ++ lw n k (k - q)).map bV) := by
            rw [e3, lw, hy.out]
            refine own_cast hown2 (by simp; omega) ?_
            simp
          clear hown2 hgrow2 e3 HO HB
          go_wp2
          go_roundw
          case rel => exact ⟨q, by omega, by rw [show (m : Int) - 1 = q by omega], R, hb2⟩
          case measure => simp [intOf]; omega
    · obtain rfl : m = 0 := by omega
      go_wp2
      go_ret
      exact ⟨_, rfl, HO.out, HB.out⟩
end Go.Proofs.YtdhmiekheecicaaDoor
