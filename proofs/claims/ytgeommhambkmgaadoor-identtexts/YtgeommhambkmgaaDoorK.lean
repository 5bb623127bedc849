/- A number in hexadecimal figures as the library prints it: the contracts of strconv.FormatUint at base 16 and of what it calls. Condition: the library's table of bits' places holds what its initialiser lays. -/
import Derived.Test.YtgeommhambkmgaaDoorL
namespace Go.Proofs.YtgeommhambkmgaaDoor
open Go.RowKit Go.Sort

/-- What is asked of the table: the entry of the place of bit 4. -/
def Env (w : World) : Prop := w.cell? ⟨5, 15, none⟩ = some (.int .u8 4)
theorem Env.lt {w : World} (h : Env w) : 5 < w.heap.size := block_lt_of_cell h
theorem Env.below {w w' : World} (h : Env w) (hb : Below w.heap.size w w') : Env w' := by
  unfold Env; rw [hb.cell h.lt]; exact h
theorem Env.heap {w w' : World} (h : Env w) (hb : w'.heap = w.heap) : Env w' := by
  unfold Env World.cell? at *; rw [hb]; exact h

theorem tz64_ok (w : World) (h : Env w) : Calls Tryd.prog 64 #[.int .u64 16] w fun e w' => e = .returned (.int .i64 4) ∧ w = w' := by
  unfold Env at h
  have e1 : bits BinOp.and IntKind.u64 16 (IntKind.u64.wrap (-16)) = 16 := by kernel_rfl
  have e2 : IntKind.u64.wrap (16 * 285870213051353865) = 4573923408821661840 := by kernel_rfl
  have e3 : (4573923408821661840 : Int) / 288230376151711744 = 15 := by decide
  go_enter Tryd.func64, Tryd.ntmps64
  go_wp2
  go_ret
  exact ⟨rfl, rfl⟩
theorem tz_ok (w : World) (h : Env w) : Calls Tryd.prog 55 #[.int .u64 16] w fun e w' => e = .returned (.int .i64 4) ∧ w = w' := by
  have c := tz64_ok w h
  go_enter Tryd.func55, Tryd.ntmps55
  go_wp2_with (first | (go_at_call 64; refine c.mono ?_; rintro e w' ⟨rfl, rfl⟩))
  go_ret
  exact ⟨rfl, rfl⟩
theorem isPow_ok (w : World) : Calls Tryd.prog 54 #[.int .i64 16] w fun e w' => e = .returned (.bool true) ∧ w = w' := by
  go_enter Tryd.func54, Tryd.ntmps54
  go_wp2
  go_ret
  exact ⟨rfl, rfl⟩

/-- The figures of a number. -/
def hexl (n : Nat) : List UInt8 := if n < 16 then [dchr n] else hexl (n / 16) ++ [dchr (n % 16)]
termination_by n
decreasing_by omega
theorem hexl_small {n : Nat} (h : n < 16) : hexl n = [dchr n] := by rw [hexl]; simp [h]
theorem hexl_step {n : Nat} (h : ¬ n < 16) : hexl n = hexl (n / 16) ++ [dchr (n % 16)] := by rw [hexl]; simp [h]

/-- A variable of any cells, known whole. -/
def Row (w : World) (b : Nat) (xs : Array Value) (t : TypeId) : Prop := w.heap[b]? = some (.cells xs t)
theorem Row.cell {w : World} {b : Nat} {xs : Array Value} {t : TypeId} (h : Row w b xs t) (k : Nat) : w.cell? ⟨b, k, none⟩ = xs[k]? := by
  rw [cell_of_row w b k _ t (0, 0) h]
theorem Row.frozen {w : World} {b : Nat} {xs : Array Value} {t : TypeId} (h : Row w b xs t) (k : Nat) : w.frozen? ⟨b, k, none⟩ = false := by
  unfold World.frozen?
  simp only []
  rw [show w.heap[b]? = _ from h]
  simp
theorem Row.set {w : World} {b : Nat} {xs : Array Value} {t : TypeId} (h : Row w b xs t) (k : Nat) (u : Value) : Row (w.setCell ⟨b, k, none⟩ u) b (xs.setIfInBounds k u) t := by
  unfold Row World.setCell
  simp only [Array.getElem?_modify, if_true]
  rw [show w.heap[b]? = _ from h]
  rfl
theorem row_new (w : World) (xs : Array Value) (t : TypeId) : Row (w.alloc (.cells xs t)) w.heap.size xs t := (MapKept.heap_alloc w _).1

/-- The row's end reads as these bytes. -/
def Tail (w : World) (b : Nat) (t : List UInt8) : Prop := ∃ xs : Array Value, Row w b xs 87 ∧ xs.size = 65 ∧ t.length ≤ 65 ∧ xs.toList.drop (65 - t.length) = t.map bV
theorem Tail.set {w : World} {b : Nat} {t : List UInt8} (h : Tail w b t) (c : UInt8) (ht : t.length < 65) : Tail (w.setCell ⟨b, 65 - (t.length + 1), none⟩ (bV c)) b (c :: t) := by
  obtain ⟨xs, h1, h2, h3, h4⟩ := h
  refine ⟨_, h1.set _ _, by simp [h2], by simp; omega, ?_⟩
  have e : xs.toList.length = 65 := by simpa using h2
  have e2 : 65 - (c :: t).length = 65 - (t.length + 1) := by simp
  rw [e2]
  have e3 : (xs.setIfInBounds (65 - (t.length + 1)) (bV c)).toList = xs.toList.set (65 - (t.length + 1)) (bV c) := by simp
  rw [e3, List.drop_set, if_neg (by omega), Nat.sub_self]
  rw [List.drop_eq_getElem_cons (by omega), List.set_cons_zero, show 65 - (t.length + 1) + 1 = 65 - t.length by omega, h4]
  rfl
theorem Tail.old {w : World} {b : Nat} {t : List UInt8} (h : Tail w b t) (k : Nat) (hk : k < 65) : (∃ v, w.cell? ⟨b, k, none⟩ = some v) ∧ w.frozen? ⟨b, k, none⟩ = false := by
  obtain ⟨xs, h1, h2, _, _⟩ := h
  exact ⟨⟨xs[k]'(by omega), by rw [h1.cell, Array.getElem?_eq_getElem (by omega)]⟩, h1.frozen k⟩
theorem Tail.string {w : World} {b : Nat} {t : List UInt8} (h : Tail w b t) (c : Nat) : (convert 65 9 (.slice (some ⟨b, 65 - t.length, none⟩) t.length c)).run Tryd.prog w = .ok (strV t) w := by
  obtain ⟨xs, h1, h2, h3, h4⟩ := h
  refine run_convert_bytes_back w 65 9 5 _ c t u44 u5 u9 fun j hj => ?_
  rw [Addr.add_lit, h1.cell]
  have := congrArg (·[j]?) h4
  simp only [List.getElem?_drop, List.getElem?_map, List.getElem?_eq_getElem hj, Option.map_some] at this
  rw [← this]
  simp

theorem hex_index : ∀ (n : Nat), n < 16 → ∀ (w : World), (Instr.index 9 (.string ⟨#[48, 49, 50, 51, 52, 53, 54, 55, 56, 57, 97, 98, 99, 100, 101, 102, 103, 104, 105, 106, 107, 108, 109, 110, 111, 112, 113, 114, 115, 116, 117, 118, 119, 120, 121, 122]⟩) (.int .u64 n)).run Tryd.prog w = .ok (.int .u8 ((dchr n).toNat : Nat)) w
  | 0, _, _ => by kernel_rfl
  | 1, _, _ => by kernel_rfl
  | 2, _, _ => by kernel_rfl
  | 3, _, _ => by kernel_rfl
  | 4, _, _ => by kernel_rfl
  | 5, _, _ => by kernel_rfl
  | 6, _, _ => by kernel_rfl
  | 7, _, _ => by kernel_rfl
  | 8, _, _ => by kernel_rfl
  | 9, _, _ => by kernel_rfl
  | 10, _, _ => by kernel_rfl
  | 11, _, _ => by kernel_rfl
  | 12, _, _ => by kernel_rfl
  | 13, _, _ => by kernel_rfl
  | 14, _, _ => by kernel_rfl
  | 15, _, _ => by kernel_rfl
  | n + 16, h, _ => absurd h (by omega)
theorem and15_64 (n : Nat) (h : n < 18446744073709551616) : bits BinOp.and IntKind.u64 (n : Int) 15 = ((n % 16 : Nat) : Int) := by
  have := u64_and_nat n 15 (by omega) (by omega)
  rw [show ((15 : Nat) : Int) = 15 from rfl] at this
  rw [this, show (15 : Nat) = 2 ^ 4 - 1 from rfl, Nat.and_two_pow_sub_one_eq_mod]

theorem u87 : Tryd.prog.underlying 87 = some (.array (Tryd.prog.arrayLen 87) (Tryd.prog.elem 87)) := by kernel_rfl
theorem a87 : Tryd.prog.arrayLen 87 = 65 := by kernel_rfl
theorem e87 : Tryd.prog.elem 87 = 5 := by kernel_rfl
theorem size5 (w : World) : (sizeOf 5).run Tryd.prog w = .ok 1 w := by kernel_rfl
theorem slice65 (b i : Nat) (hi : i < 65) (w : World) : (Instr.sliceAt 87 (.pointer (some ⟨b, 0, none⟩)) (some (.int .i64 (i : Int))) none none).run Tryd.prog w = .ok (.slice (some ⟨b, i, none⟩) (65 - i) (65 - i)) w := by
  rw [run_sliceAt_array_l w 87 ⟨b, 0, none⟩ u87 .i64 (i : Int) (by omega) (by rw [a87]; omega), e87, size5, a87]
  simp only [Result.andThen_ok, slicedAt, Int.toNat_natCast]
  rw [if_neg (by omega), Addr.add_lit, Nat.zero_add, Nat.mul_one]
theorem small16 {m k l : Nat} (hk : l + k = 15) (hm : m < 16 ^ (k + 1)) : m < 18446744073709551616 :=
  Nat.lt_of_lt_of_le hm (Nat.le_trans (Nat.pow_le_pow_right (by omega) (show k + 1 ≤ 16 by omega)) (by decide))
theorem next16 {m k l : Nat} (hk : l + k = 15) (hm : m < 16 ^ (k + 1)) (h : ¬ m < 16) : ∃ k', k = k' + 1 ∧ m / 16 < 16 ^ (k' + 1) := by
  cases k with
  | zero => simp at hm; omega
  | succ k => exact ⟨k, rfl, by rw [Nat.pow_succ] at hm; omega⟩
theorem meas16 {m : Nat} (h : ¬ m < 16) : (intOf (Value.int IntKind.u64 ((m : Int) / 16))).toNat < (intOf (Value.int IntKind.u64 (m : Int))).toNat := by
  simp only [intOf]; omega

set_option maxRecDepth 10000 in
set_option maxHeartbeats 1000000 in
theorem formatBits_ok (n : Nat) (hn : n < 18446744073709551616) (w : World) (h : Env w) :
    Calls Tryd.prog 42 #[.slice none 0 0, .int .u64 n, .int .i64 16, .bool false, .bool false] w fun e w' => e = .returned (.tuple #[.slice none 0 0, strV (hexl n)]) ∧ Below w.heap.size w w' := by
  have e15 : IntKind.u64.wrap ((16 : Int) - 1) = 15 := by kernel_rfl
  go_enter Tryd.func42, Tryd.ntmps42
  go_wp2_with fail
  refine (isPow_ok _).mono ?_
  rintro e w1 ⟨rfl, rfl⟩
  have hb := box_below w (.cells Tryd.zeroCells87 87)
  have ht : Tail (w.alloc (.cells Tryd.zeroCells87 87)) w.heap.size [] := ⟨_, row_new w _ _, by kernel_rfl, by simp, by simp [show Tryd.zeroCells87.size = 65 by kernel_rfl]⟩
  have he := h.below hb
  generalize w.alloc (.cells Tryd.zeroCells87 87) = W at *
  go_wp2_with fail
  refine (tz_ok _ he).mono ?_
  rintro e w1 ⟨rfl, rfl⟩
  have HB := Lib.hid hb
  have HT := Lib.hid ht
  clear hb ht he h
  go_wp2_with fail
  go_loopw [1, 13] (fun u i wr => ∃ (m k j : Nat) (t : List UInt8), u = .int .u64 m ∧ i = .int .i64 j ∧ j + t.length = 65 ∧ t.length + k = 15 ∧ m < 16 ^ (k + 1) ∧ hexl n = hexl m ++ t ∧ Tail wr w.heap.size t ∧ Below w.heap.size w wr) (fun u _ _ => (intOf u).toNat)
  case atStart => exact ⟨n, 15, 65, [], rfl, rfl, rfl, rfl, by simpa using hn, by simp, HT.out, HB.out⟩
  case round =>
    obtain ⟨m, k, j, t, rfl, rfl, hj, hk, hm, hh, ht, hb⟩ := hrel
    obtain ⟨i, rfl⟩ : ∃ i, j = i + 1 := ⟨j - 1, by omega⟩
    have hi : i = 65 - (t.length + 1) := by omega
    obtain ⟨⟨v, hc⟩, hz⟩ := ht.old i (by omega)
    have HI := Lib.hid hi
    have HH := Lib.hid hh
    have HT := Lib.hid ht
    have HB := Lib.hid hb
    have HM := Lib.hid hm
    clear hi hh ht hb hm
    by_cases hlt : m < 16
    · have hd := hex_index m hlt
      have hsl := slice65 w.heap.size i (by omega)
      have ht2 := HT.out.set (dchr m) (by omega)
      rw [← HI.out] at ht2
      have hcv := ht2.string (65 - i)
      rw [show 65 - (dchr m :: t).length = i by simp; omega, show (dchr m :: t).length = 65 - i by simp; omega] at hcv
      have hb2 := HB.out.setCell (p := ⟨w.heap.size, i, none⟩) (Nat.le_refl _) (bV (dchr m))
      have HB2 := Lib.hid hb2
      have e : hexl n = dchr m :: t := by rw [HH.out, hexl_small hlt]; rfl
      rw [← e] at hcv
      clear ht2 hb2 e HT HB HM HH HI hk
      go_wp2_with fail
      go_ret2
      exact ⟨rfl, HB2.out⟩
    · have ha := and15_64 m (small16 hk HM.out)
      have hd : ∀ w, (Instr.index 9 (.string ⟨#[48, 49, 50, 51, 52, 53, 54, 55, 56, 57, 97, 98, 99, 100, 101, 102, 103, 104, 105, 106, 107, 108, 109, 110, 111, 112, 113, 114, 115, 116, 117, 118, 119, 120, 121, 122]⟩) (.int .u64 ((m : Int) % 16))).run Tryd.prog w = .ok (.int .u8 ((dchr (m % 16)).toNat : Nat)) w := hex_index (m % 16) (by omega)
      go_wp2_with fail
      obtain ⟨k', rfl, hm'⟩ := next16 hk HM.out hlt
      have ht2 := HT.out.set (dchr (m % 16)) (by omega)
      rw [← HI.out] at ht2
      exact ⟨⟨m / 16, k', i, dchr (m % 16) :: t, rfl, rfl, by simp; omega, by simp; omega, hm', by rw [HH.out, hexl_step hlt, List.append_assoc]; rfl, ht2, HB.out.setCell (p := ⟨w.heap.size, i, none⟩) (Nat.le_refl _) _⟩, meas16 hlt⟩

theorem fmtUint_ok (n : Nat) (hn : n < 18446744073709551616) (w : World) (h : Env w) :
    Calls Tryd.prog 31 #[.int .u64 n, .int .i64 16] w fun e w' => e = .returned (strV (hexl n)) ∧ Below w.heap.size w w' := by
  have c := formatBits_ok n hn w h
  go_enter Tryd.func31, Tryd.ntmps31
  go_wp2_with fail
  refine c.mono ?_
  rintro e w1 ⟨rfl, hb⟩
  have HB := Lib.hid hb
  clear hb c
  go_wp2_with fail
  go_ret
  exact ⟨rfl, HB.out⟩
theorem formatUint_ok (n : Nat) (hn : n < 18446744073709551616) (w : World) (h : Env w) :
    Calls Tryd.prog 22 #[.int .u64 n, .int .i64 16] w fun e w' => e = .returned (strV (hexl n)) ∧ Below w.heap.size w w' := by
  have c := fmtUint_ok n hn w h
  go_enter Tryd.func22, Tryd.ntmps22
  go_wp2_with fail
  refine c.mono ?_
  rintro e w1 ⟨rfl, hb⟩
  have HB := Lib.hid hb
  clear hb c
  go_wp2_with fail
  go_ret
  exact ⟨rfl, HB.out⟩
end Go.Proofs.YtgeommhambkmgaaDoor
