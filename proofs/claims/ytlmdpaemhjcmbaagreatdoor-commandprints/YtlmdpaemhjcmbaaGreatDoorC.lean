/- Contracts of ident's Bridge and Port. -/
import Derived.Test.YtlmdpaemhjcmbaaGreatDoorB
namespace Go.Proofs.YtlmdpaemhjcmbaaGreatDoor
open Go.RowKit Go.Sort

/-- Is a priority one of the steps? -/
def stB (p s m : Int) : Bool := decide (0 ≤ p) && (decide (p ≤ m) && (p % s == 0))
theorem stepped_any (p s m : Int) (hs : 0 < s) (w : World) :
    Calls Tryz.prog 33 #[.int .i64 p, .int .i64 s, .int .i64 m] w fun e w' => e = .returned (.bool (stB p s m)) ∧ w = w' := by
  go_enter Tryz.func33, Tryz.ntmps33
  go_wp2
  · go_ret
    exact ⟨ret_bool (by unfold stB; simp [*]), rfl⟩
  · go_ret
    exact ⟨ret_bool (by unfold stB; simp; omega), rfl⟩
  · go_ret
    exact ⟨ret_bool (by unfold stB; simp; omega), rfl⟩

/-- The identifier of the first 16 bits and an address. -/
def idN (h : Nat) (x : Nat → Nat) : Nat := h * 281474976710656 + pref x 6
theorem idN_lt {h : Nat} {x : Nat → Nat} (hh : h < 65536) (hx : ∀ i, x i < 256) : idN h x < 18446744073709551616 := by
  have := pref6_lt hx
  unfold idN; omega
theorem join_or {h p : Nat} (hh : h < 65536) (hp : p < 281474976710656) : bits BinOp.or IntKind.u64 ((h : Int) * 281474976710656) (p : Int) = ((h * 281474976710656 + p : Nat) : Int) := by
  have e : (h : Int) * 281474976710656 = ((h * 281474976710656 : Nat) : Int) := by omega
  rw [e, u64_or_nat _ _ (by omega) (by omega), nat_join 48 _ _ (by omega) (by omega)]
theorem join_any (h : Nat) (hh : h < 65536) (x : Nat → Nat) (hx : ∀ i, x i < 256) (w : World) :
    Calls Tryz.prog 34 #[.int .u64 h, macV x] w fun e w' => e = .returned (.int .u64 (idN h x)) ∧ Below w.heap.size w w' := by
  have c := number_any x hx
  have hor := join_or hh (pref6_lt hx)
  have HO := Lib.hid hor
  clear hor
  go_enter Tryz.func34, Tryz.ntmps34
  go_wp2_with fail
  refine (c _).mono ?_
  rintro e w1 ⟨rfl, hb⟩
  have HB := Lib.hid (below_next (box_below w (macO x 23)) hb)
  clear hb c hx
  go_wp2_with fail
  go_ret
  exact ⟨ret_int HO.out, HB.out⟩
theorem bridge_ok (p : Nat) (hp : stB p 4096 61440 = true) (x : Nat → Nat) (hx : ∀ i, x i < 256) (w : World) :
    Calls Tryz.prog 20 #[.int .i64 p, macV x] w fun e w' => e = .returned (.tuple #[.int .u64 (idN p x), .int .i64 0]) ∧ Below w.heap.size w w' := by
  have hp2 : p < 65536 := by unfold stB at hp; simp at hp; omega
  have c := stepped_any p 4096 61440 (by omega)
  rw [hp] at c
  have c2 := join_any p hp2 x hx
  clear hp hx
  go_enter Tryz.func20, Tryz.ntmps20
  go_wp2_with fail
  refine (c _).mono ?_
  rintro e w1 ⟨rfl, rfl⟩
  clear c
  go_wp2_with fail
  refine (c2 _).mono ?_
  rintro e w1 ⟨rfl, hb⟩
  have HB := Lib.hid (below_next (box_below w (macO x 23)) hb)
  clear hb c2
  go_wp2_with fail
  go_ret2
  exact ⟨rfl, HB.out⟩
theorem bridge_not (p : Int) (hp : stB p 4096 61440 = false) (x : Nat → Nat) (w : World) :
    Calls Tryz.prog 20 #[.int .i64 p, macV x] w fun e w' => e = .returned (.tuple #[.int .u64 0, .int .i64 4]) ∧ Below w.heap.size w w' := by
  have c := stepped_any p 4096 61440 (by omega)
  rw [hp] at c
  clear hp
  go_enter Tryz.func20, Tryz.ntmps20
  go_wp2_with fail
  refine (c _).mono ?_
  rintro e w1 ⟨rfl, rfl⟩
  clear c
  go_wp2_with fail
  go_ret2
  exact ⟨rfl, box_below _ _⟩
/-- May a port have this priority and number? -/
def ptB (p k : Int) : Bool := stB p 16 240 && (decide (1 ≤ k) && decide (k ≤ 4095))
theorem port_or {q k : Nat} (hq : q < 16) (hk : k < 4096) : bits BinOp.or IntKind.i64 ((q : Int) * 4096) (k : Int) = ((q * 4096 + k : Nat) : Int) := by
  have e : (q : Int) * 4096 = ((q * 4096 : Nat) : Int) := by omega
  rw [e]
  show IntKind.i64.wrap ((BitVec.ofInt 64 ((q * 4096 : Nat) : Int) ||| BitVec.ofInt 64 (k : Int)).toNat : Int) = _
  rw [BitVec.toNat_or, ofInt_u64 _ (by omega), ofInt_u64 _ (by omega), nat_join 12 _ _ (by omega) (by omega), IntKind.wrap_i64]
  omega
theorem port_word {p k : Nat} (hq : p / 16 < 16) (hk : (k : Int) ≤ 4095) : IntKind.u16.wrap (bits BinOp.or IntKind.i64 ((p : Int) / 16 * 4096) (k : Int)) = ((p / 16 * 4096 + k : Nat) : Int) := by
  have e : (p : Int) / 16 = ((p / 16 : Nat) : Int) := by omega
  rw [e, port_or hq (by omega)]
  simp only [IntKind.wrap, IntKind.bits, IntKind.signed]; simp; omega
set_option maxRecDepth 10000 in
theorem port_ok (p k : Nat) (hp : ptB p k = true) (w : World) :
    Calls Tryz.prog 51 #[.int .i64 p, .int .i64 k] w fun e w' => e = .returned (.tuple #[.int .u16 ((p / 16 * 4096 + k : Nat) : Int), .int .i64 0]) ∧ w = w' := by
  have h1 : stB p 16 240 = true := by unfold ptB at hp; simp at hp; exact hp.1
  have h2 : 1 ≤ (k : Int) := by unfold ptB at hp; simp at hp; omega
  have h3 : (k : Int) ≤ 4095 := by unfold ptB at hp; simp at hp; omega
  have h4 : p / 16 < 16 := by unfold stB at h1; simp at h1; omega
  have c := stepped_any p 16 240 (by omega)
  rw [h1] at c
  have ho := Lib.hid (port_word h4 h3)
  clear hp h1
  go_enter Tryz.func51, Tryz.ntmps51
  go_wp2_with fail
  refine (c _).mono ?_
  rintro e w1 ⟨rfl, rfl⟩
  clear c
  go_wp2_with fail
  exact bodyPost_ret (v := .tuple #[.int .u16 ((p / 16 * 4096 + k : Nat) : Int), .int .i64 0]) (by simp only [← ho.out]; simp [results, Tryz.results51, go_sem]) rfl ⟨rfl, rfl⟩
set_option maxRecDepth 10000 in
theorem port_not (p k : Int) (hp : ptB p k = false) (w : World) :
    Calls Tryz.prog 51 #[.int .i64 p, .int .i64 k] w fun e w' => e = .returned (.tuple #[.int .u16 0, .int .i64 4]) ∧ w = w' := by
  have c := stepped_any p 16 240 (by omega)
  by_cases h1 : stB p 16 240 = true
  · have h2 : k < 1 ∨ 4095 < k := by unfold ptB at hp; simp [h1] at hp; omega
    rw [h1] at c
    clear hp h1
    go_enter Tryz.func51, Tryz.ntmps51
    go_wp2_with fail
    refine (c _).mono ?_
    rintro e w1 ⟨rfl, rfl⟩
    clear c
    go_wp2_with fail
    all_goals
      go_ret2
      exact ⟨rfl, rfl⟩
  · have h1' : stB p 16 240 = false := by simpa using h1
    rw [h1'] at c
    clear hp h1 h1'
    go_enter Tryz.func51, Tryz.ntmps51
    go_wp2_with fail
    refine (c _).mono ?_
    rintro e w1 ⟨rfl, rfl⟩
    clear c
    go_wp2_with fail
    go_ret2
    exact ⟨rfl, rfl⟩
end Go.Proofs.YtlmdpaemhjcmbaaGreatDoor
