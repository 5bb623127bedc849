/- The contracts of ident's functions on numbers and addresses, of its Text, and of the laws' own example. Condition: the library's table of bits' places. -/
import Derived.Test.YtgeommhambkmgaaDoorK
namespace Go.Proofs.YtgeommhambkmgaaDoor
open Go.RowKit Go.Sort

theorem ret_str {a b : ByteArray} (h : a = b) : Ending.returned (.string a) = .returned (.string b) := by rw [h]
/-- Is a priority one of the steps? -/
def stB (p s m : Int) : Bool := decide (0 ≤ p) && (decide (p ≤ m) && (p % s == 0))
theorem stepped_any (p s m : Int) (hs : 0 < s) (w : World) :
    Calls Tryd.prog 19 #[.int .i64 p, .int .i64 s, .int .i64 m] w fun e w' => e = .returned (.bool (stB p s m)) ∧ w = w' := by
  go_enter Tryd.func19, Tryd.ntmps19
  go_wp2
  · go_ret
    exact ⟨ret_bool (by unfold stB; simp [*]), rfl⟩
  · go_ret
    exact ⟨ret_bool (by unfold stB; simp; omega), rfl⟩
  · go_ret
    exact ⟨ret_bool (by unfold stB; simp; omega), rfl⟩

/-- The identifier of the first 16 bits and an address. -/
def idN (h : Nat) (x : Nat → Nat) : Nat := h * 281474976710656 + pref x 6
theorem idN_lt {h : Nat} {x : Nat → Nat} (hh : h < 65536) (hx : ∀ i, x i < 256) : idN h x < 18446744073709551616 := by
  have := pref6_lt hx
  unfold idN; omega
theorem join_or {h p : Nat} (hh : h < 65536) (hp : p < 281474976710656) : bits BinOp.or IntKind.u64 ((h : Int) * 281474976710656) (p : Int) = ((h * 281474976710656 + p : Nat) : Int) := by
  have e : (h : Int) * 281474976710656 = ((h * 281474976710656 : Nat) : Int) := by omega
  rw [e, u64_or_nat _ _ (by omega) (by omega), nat_join 48 _ _ (by omega) (by omega)]
theorem join_any (h : Nat) (hh : h < 65536) (x : Nat → Nat) (hx : ∀ i, x i < 256) (w : World) :
    Calls Tryd.prog 20 #[.int .u64 h, macV x] w fun e w' => e = .returned (.int .u64 (idN h x)) ∧ Below w.heap.size w w' := by
  have c := number_any x hx
  have hor := join_or hh (pref6_lt hx)
  have HO := Lib.hid hor
  clear hor
  go_enter Tryd.func20, Tryd.ntmps20
  go_wp2_with fail
  refine (c _).mono ?_
  rintro e w1 ⟨rfl, hb⟩
  have HB := Lib.hid (below_next (box_below w (macO x 23)) hb)
  clear hb c hx
  go_wp2_with fail
  go_ret
  exact ⟨ret_int HO.out, HB.out⟩
theorem bridge_ok (p : Nat) (hp : stB p 4096 61440 = true) (x : Nat → Nat) (hx : ∀ i, x i < 256) (w : World) :
    Calls Tryd.prog 7 #[.int .i64 p, macV x] w fun e w' => e = .returned (.tuple #[.int .u64 (idN p x), .int .i64 0]) ∧ Below w.heap.size w w' := by
  have hp2 : p < 65536 := by unfold stB at hp; simp at hp; omega
  have c := stepped_any p 4096 61440 (by omega)
  rw [hp] at c
  have c2 := join_any p hp2 x hx
  clear hp hx
  go_enter Tryd.func7, Tryd.ntmps7
  go_wp2_with fail
  refine (c _).mono ?_
  rintro e w1 ⟨rfl, rfl⟩
  clear c
  go_wp2_with fail
  refine (c2 _).mono ?_
  rintro e w1 ⟨rfl, hb⟩
  have HB := Lib.hid (below_next (box_below w (macO x 23)) hb)
  clear hb c2
  go_wp2_with fail
  go_ret2
  exact ⟨rfl, HB.out⟩
theorem bridge_not (p : Int) (hp : stB p 4096 61440 = false) (x : Nat → Nat) (w : World) :
    Calls Tryd.prog 7 #[.int .i64 p, macV x] w fun e w' => e = .returned (.tuple #[.int .u64 0, .int .i64 4]) ∧ Below w.heap.size w w' := by
  have c := stepped_any p 4096 61440 (by omega)
  rw [hp] at c
  clear hp
  go_enter Tryd.func7, Tryd.ntmps7
  go_wp2_with fail
  refine (c _).mono ?_
  rintro e w1 ⟨rfl, rfl⟩
  clear c
  go_wp2_with fail
  go_ret2
  exact ⟨rfl, box_below _ _⟩
theorem priority_any (n : Nat) (hn : n < 18446744073709551616) (w : World) :
    Calls Tryd.prog 9 #[.int .u64 n] w fun e w' => e = .returned (.int .i64 ((n / 1152921504606846976 * 4096 : Nat) : Int)) ∧ w = w' := by
  have h1 : (n : Int) / 1152921504606846976 < 16 := by omega
  have h2 : 0 ≤ (n : Int) / 1152921504606846976 := by omega
  go_enter Tryd.func9, Tryd.ntmps9
  go_wp2
  go_ret
  exact ⟨ret_int (by omega), rfl⟩
theorem mac_any (n : Nat) (hn : n < 18446744073709551616) (w : World) :
    Calls Tryd.prog 10 #[.int .u64 n] w fun e w' => e = .returned (macV (ofN n)) ∧ Below w.heap.size w w' := by
  have c := of_any n hn
  generalize ofN n = x at *
  go_enter Tryd.func10, Tryd.ntmps10
  go_wp2_with fail
  refine (c _).mono ?_
  rintro e w1 ⟨rfl, hb⟩
  have hv : VarAt (w.alloc (macO zeroX 23)) w.heap.size zeroX 23 := (MapKept.heap_alloc w _).1
  have v1 := hv.below hb (by rw [alloc_size]; omega)
  have hb1 := below_next (box_below w (macO zeroX 23)) hb
  clear hv hb c
  have b0 := v1.at 0 (by omega)
  have b1 := v1.at 1 (by omega)
  have b2 := v1.at 2 (by omega)
  have b3 := v1.at 3 (by omega)
  have b4 := v1.at 4 (by omega)
  have b5 := v1.at 5 (by omega)
  have f0 := v1.frozen
  have V1 := Lib.hid v1
  have HB := Lib.hid hb1
  clear v1 hb1
  go_wp2_with fail
  obtain ⟨v2, k2, b2'⟩ := store6 x V1.out HB.out
  clear k2 b0 b1 b2 b3 b4 b5 f0
  revert v2 b2'
  generalize (((((w1.setCell ⟨w.heap.size, 0, none⟩ (.int .u8 (x 0))).setCell ⟨w.heap.size, 1, none⟩ (.int .u8 (x 1))).setCell ⟨w.heap.size, 2, none⟩ (.int .u8 (x 2))).setCell ⟨w.heap.size, 3, none⟩ (.int .u8 (x 3))).setCell ⟨w.heap.size, 4, none⟩ (.int .u8 (x 4))).setCell ⟨w.heap.size, 5, none⟩ (.int .u8 (x 5)) = W'
  intro v2 hb2
  have r0 := v2.at 0 (by omega)
  have r1 := v2.at 1 (by omega)
  have r2 := v2.at 2 (by omega)
  have r3 := v2.at 3 (by omega)
  have r4 := v2.at 4 (by omega)
  have r5 := v2.at 5 (by omega)
  exact bodyPost_ret (v := macV x) (by simp [results, Tryd.results10, go_sem, r0, r1, r2, r3, r4, r5]) rfl ⟨rfl, hb2⟩

/-- The text of an identifier. -/
def idT (n : Nat) : List UInt8 := hexl (n / 281474976710656) ++ 45 :: txt (ofN n) 6
theorem hexl_len : ∀ (k n : Nat), n < 16 ^ (k + 1) → (hexl n).length ≤ k + 1
  | 0, n, h => by rw [hexl_small (by simpa using h)]; simp
  | k + 1, n, h => by
    by_cases h16 : n < 16
    · rw [hexl_small h16]; simp
    · rw [hexl_step h16, List.length_append]
      have := hexl_len k (n / 16) (by rw [Nat.pow_succ] at h; omega)
      simp; omega
theorem idT_cat (n : Nat) : (⟨⟨hexl (n / 281474976710656)⟩⟩ : ByteArray) ++ ⟨#[45]⟩ ++ ⟨⟨txt (ofN n) 6⟩⟩ = ⟨⟨idT n⟩⟩ := by
  rw [cat_data, cat_data, idT, List.append_assoc]; rfl
theorem text5_ok (n : Nat) (hn : n < 18446744073709551616) (w : World) (h : Env w) :
    Calls Tryd.prog 11 #[.int .u64 n] w fun e w' => e = .returned (strV (idT n)) ∧ Below w.heap.size w w' := by
  have c1 := formatUint_ok (n / 281474976710656) (by omega) w h
  have c2 := mac_any n hn
  have c3 := text_any (ofN n) (ofN_lt n)
  have hl := hexl_len 15 (n / 281474976710656) (by omega)
  have hl2 := txt_le (ofN n) 6 (by omega)
  have he := idT_cat n
  have e1 : ((n / 281474976710656 : Nat) : Int) = (n : Int) / 281474976710656 := by omega
  rw [e1] at c1
  clear e1 h
  generalize idT n = T at *
  generalize hexl (n / 281474976710656) = H at *
  generalize txt (ofN n) 6 = X at *
  generalize ofN n = x at *
  go_enter Tryd.func11, Tryd.ntmps11
  go_wp2_with fail
  refine c1.mono ?_
  rintro e w1 ⟨rfl, hb⟩
  have HB := Lib.hid hb
  clear hb c1
  go_wp2_with fail
  refine (c2 _).mono ?_
  rintro e w2 ⟨rfl, hb⟩
  have HB2 := Lib.hid (below_next HB.out hb)
  clear hb c2 HB
  go_wp2_with fail
  refine (c3 _).mono ?_
  rintro e w3 ⟨rfl, hb⟩
  have HB3 := Lib.hid (below_next HB2.out hb)
  clear hb c3 HB2
  have HE := Lib.hid he
  clear he
  go_wp2_with fail
  go_ret
  exact ⟨ret_str HE.out, HB3.out⟩

def exX : Nat → Nat | 0 => 2 | 5 => 1 | _ => 0
theorem exX_lt (i : Nat) : exX i < 256 := by unfold exX; split <;> omega
theorem ex_text : idT (idN 32768 exX) = [56, 48, 48, 48, 45, 48, 50, 58, 48, 48, 58, 48, 48, 58, 48, 48, 58, 48, 48, 58, 48, 49] := by
  have e1 : idN 32768 exX / 281474976710656 = 32768 := by decide +kernel
  have e2 : txt (ofN (idN 32768 exX)) 6 = [48, 50, 58, 48, 48, 58, 48, 48, 58, 48, 48, 58, 48, 48, 58, 48, 49] := by decide +kernel
  have e3 : hexl 32768 = [56, 48, 48, 48] := by
    rw [hexl_step (by omega), hexl_step (by omega), hexl_step (by omega), hexl_small (by omega)]; decide +kernel
  rw [idT, e1, e2, e3]; rfl
set_option maxRecDepth 10000 in
theorem lives_ok (w : World) (h : Env w) : Calls Tryd.prog 6 #[] w fun e w' => e = .returned (.bool true) ∧ Below w.heap.size w w' := by
  have c1 := bridge_ok 32768 (by decide) exX exX_lt w
  have c2 := text5_ok (idN 32768 exX) (idN_lt (by omega) exX_lt)
  rw [ex_text] at c2
  generalize idN 32768 exX = N at *
  go_enter Tryd.func6, Tryd.ntmps6
  go_wp2_with fail
  refine c1.mono ?_
  rintro e w1 ⟨rfl, hb⟩
  have HB := Lib.hid hb
  have he := h.below hb
  clear hb c1
  go_wp2_with fail
  refine (c2 _ he).mono ?_
  rintro e w2 ⟨rfl, hb⟩
  have HB2 := Lib.hid (below_next HB.out hb)
  clear hb c2 HB he h
  go_wp2_with fail
  go_ret
  exact ⟨ret_bool (by first | rfl | decide), HB2.out⟩
end Go.Proofs.YtgeommhambkmgaaDoor
