/- The contracts of ident's functions on ports, and IdentPorts' whole call. Condition: the library's table of bits' places. -/
import Derived.Test.YtgeommhambkmgaaDoorM
namespace Go.Proofs.YtgeommhambkmgaaDoor
open Go.RowKit Go.Sort

/-- May a port have this priority and number? -/
def ptB (p k : Int) : Bool := stB p 16 240 && (decide (1 ≤ k) && decide (k ≤ 4095))
theorem port_or {q k : Nat} (hq : q < 16) (hk : k < 4096) : bits BinOp.or IntKind.i64 ((q : Int) * 4096) (k : Int) = ((q * 4096 + k : Nat) : Int) := by
  have e : (q : Int) * 4096 = ((q * 4096 : Nat) : Int) := by omega
  rw [e]
  show IntKind.i64.wrap ((BitVec.ofInt 64 ((q * 4096 : Nat) : Int) ||| BitVec.ofInt 64 (k : Int)).toNat : Int) = _
  rw [BitVec.toNat_or, ofInt_u64 _ (by omega), ofInt_u64 _ (by omega), nat_join 12 _ _ (by omega) (by omega), IntKind.wrap_i64]
  omega
theorem port_word {p k : Nat} (hq : p / 16 < 16) (hk : (k : Int) ≤ 4095) : IntKind.u16.wrap (bits BinOp.or IntKind.i64 ((p : Int) / 16 * 4096) (k : Int)) = ((p / 16 * 4096 + k : Nat) : Int) := by
  have e : (p : Int) / 16 = ((p / 16 : Nat) : Int) := by omega
  rw [e, port_or hq (by omega)]
  simp only [IntKind.wrap, IntKind.bits, IntKind.signed]; simp; omega
set_option maxRecDepth 10000 in
theorem port_ok (p k : Nat) (hp : ptB p k = true) (w : World) :
    Calls Tryd.prog 15 #[.int .i64 p, .int .i64 k] w fun e w' => e = .returned (.tuple #[.int .u16 ((p / 16 * 4096 + k : Nat) : Int), .int .i64 0]) ∧ w = w' := by
  have h1 : stB p 16 240 = true := by unfold ptB at hp; simp at hp; exact hp.1
  have h2 : 1 ≤ (k : Int) := by unfold ptB at hp; simp at hp; omega
  have h3 : (k : Int) ≤ 4095 := by unfold ptB at hp; simp at hp; omega
  have h4 : p / 16 < 16 := by unfold stB at h1; simp at h1; omega
  have c := stepped_any p 16 240 (by omega)
  rw [h1] at c
  have ho := Lib.hid (port_word h4 h3)
  clear hp h1
  go_enter Tryd.func15, Tryd.ntmps15
  go_wp2_with fail
  refine (c _).mono ?_
  rintro e w1 ⟨rfl, rfl⟩
  clear c
  go_wp2_with fail
  exact bodyPost_ret (v := .tuple #[.int .u16 ((p / 16 * 4096 + k : Nat) : Int), .int .i64 0]) (by simp only [← ho.out]; simp [results, Tryd.results15, go_sem]) rfl ⟨rfl, rfl⟩
set_option maxRecDepth 10000 in
theorem port_not (p k : Int) (hp : ptB p k = false) (w : World) :
    Calls Tryd.prog 15 #[.int .i64 p, .int .i64 k] w fun e w' => e = .returned (.tuple #[.int .u16 0, .int .i64 4]) ∧ w = w' := by
  have c := stepped_any p 16 240 (by omega)
  by_cases h1 : stB p 16 240 = true
  · have h2 : k < 1 ∨ 4095 < k := by unfold ptB at hp; simp [h1] at hp; omega
    rw [h1] at c
    clear hp h1
    go_enter Tryd.func15, Tryd.ntmps15
    go_wp2_with fail
    refine (c _).mono ?_
    rintro e w1 ⟨rfl, rfl⟩
    clear c
    go_wp2_with fail
    all_goals
      go_ret2
      exact ⟨rfl, rfl⟩
  · have h1' : stB p 16 240 = false := by simpa using h1
    rw [h1'] at c
    clear hp h1 h1'
    go_enter Tryd.func15, Tryd.ntmps15
    go_wp2_with fail
    refine (c _).mono ?_
    rintro e w1 ⟨rfl, rfl⟩
    clear c
    go_wp2_with fail
    go_ret2
    exact ⟨rfl, rfl⟩
theorem portPriority_any (n : Nat) (hn : n < 65536) (w : World) :
    Calls Tryd.prog 16 #[.int .u16 n] w fun e w' => e = .returned (.int .i64 ((n / 4096 * 16 : Nat) : Int)) ∧ w = w' := by
  have h1 : (n : Int) / 4096 < 16 := by omega
  have h2 : 0 ≤ (n : Int) / 4096 := by omega
  go_enter Tryd.func16, Tryd.ntmps16
  go_wp2
  go_ret
  exact ⟨ret_int (by omega), rfl⟩
theorem and4095 (n : Nat) (hn : n < 65536) : bits BinOp.and IntKind.u16 (n : Int) 4095 = ((n % 4096 : Nat) : Int) := by
  have := u16_and_nat n 4095 hn (by omega)
  rw [show ((4095 : Nat) : Int) = 4095 from rfl] at this
  rw [this, show (4095 : Nat) = 2 ^ 12 - 1 from rfl, Nat.and_two_pow_sub_one_eq_mod]
theorem portNumber_any (n : Nat) (hn : n < 65536) (w : World) :
    Calls Tryd.prog 17 #[.int .u16 n] w fun e w' => e = .returned (.int .i64 ((n % 4096 : Nat) : Int)) ∧ w = w' := by
  have h1 := and4095 n hn
  go_enter Tryd.func17, Tryd.ntmps17
  go_wp2
  go_ret
  exact ⟨ret_int (by omega), rfl⟩

theorem ports_facts {p k : Nat} (hp : ptB p k = true) : ∃ N Q R : Nat, p / 16 * 4096 + k = N ∧ N < 65536 ∧ N / 4096 * 16 = p ∧ N % 4096 = k ∧ decide ((p : Int) < 0) = false ∧ decide ((240 : Int) < p) = false ∧ ((p : Int) % 16 != 0) = false ∧
    decide ((k : Int) < 1) = false ∧ decide ((4095 : Int) < k) = false ∧ wrap64 ((p : Int) / 16) = Q ∧ wrap64 ((Q : Int) * 4096) = R ∧ wrap64 ((R : Int) + k) = N ∧ wrap64 (N : Int) = N := by
  have a1 : stB p 16 240 = true := by unfold ptB at hp; simp at hp; exact hp.1
  have a2 : 1 ≤ k ∧ k ≤ 4095 := by unfold ptB at hp; simp at hp; omega
  have a3 : p ≤ 240 ∧ p % 16 = 0 := by unfold stB at a1; simp at a1; omega
  refine ⟨_, p / 16, p / 16 * 4096, rfl, by omega, by omega, by omega, by simp, by simp; omega, by simp; omega, by simp; omega, by simp; omega, by unfold wrap64; omega, by unfold wrap64; omega, by unfold wrap64; omega, by unfold wrap64; omega⟩
theorem back_facts {n : Nat} (hn : n < 65536) : ((n / 4096 * 16 : Nat) : Int) = (n : Int) / 4096 * 16 ∧ ((n % 4096 : Nat) : Int) = (n : Int) % 4096 ∧ wrap64 ((n : Int) / 4096) = (n : Int) / 4096 ∧ wrap64 ((n : Int) / 4096 * 16) = (n : Int) / 4096 * 16 ∧ wrap64 ((n : Int) % 4096) = (n : Int) % 4096 := by
  refine ⟨by omega, by omega, by unfold wrap64; omega, by unfold wrap64; omega, by unfold wrap64; omega⟩
end Go.Proofs.YtgeommhambkmgaaDoor
