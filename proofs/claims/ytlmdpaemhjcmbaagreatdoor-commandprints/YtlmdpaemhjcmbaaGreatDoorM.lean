/- A port's setting in memory, and slices of them; contracts of a port's check, of checkPorts, of Check. -/
import Derived.Test.YtlmdpaemhjcmbaaGreatDoorK
namespace Go.Proofs.YtlmdpaemhjcmbaaGreatDoor
open Go.RowKit Go.Sort

/-- How a port is set. -/
structure Pc where
  pr : Int
  co : Nat
  ed : Bool
  au : Bool
  pt : Int
abbrev Pc.cells (p : Pc) : Array Value := #[.int .i64 p.pr, .int .u32 p.co, .bool p.ed, .bool p.au, .int .i64 p.pt]
abbrev Pc.val (p : Pc) : Value := .agg p.cells
/-- A slice of them, as it came in or was made. -/
def QIn (w : World) (s : Value) (n : Nat) (P : Nat → Pc) : Prop :=
  ∃ a c, s = .slice a n c ∧ (a = none → n = 0 ∧ c = 0) ∧ (0 < n → ∃ b o, a = some ⟨b, o, none⟩ ∧ ∀ i, i < n → ∀ k, k < 5 → w.cell? ⟨b, o + i * 5 + k, none⟩ = (P i).cells[k]?)
theorem QIn.below {w w' : World} {s : Value} {n : Nat} {P : Nat → Pc} (h : QIn w s n P) (hb : Below w.heap.size w w') : QIn w' s n P := by
  obtain ⟨a, c, rfl, h0, h1⟩ := h
  refine ⟨a, c, rfl, h0, fun hn => ?_⟩
  obtain ⟨b, o, rfl, hc⟩ := h1 hn
  have hl : b < w.heap.size := block_lt_of_cell (hc 0 hn 0 (by omega))
  exact ⟨b, o, rfl, fun i hi k hk => by rw [hb.cell (by exact hl)]; exact hc i hi k hk⟩

/-- May a port not be set so? -/
def badP (p : Pc) : Bool := !stB p.pr 16 240 || (decide (200000000 < p.co) || (decide (p.pt < 0) || decide (2 < p.pt)))
def errP (p : Pc) : Int := if badP p then 4 else 0
set_option maxRecDepth 20000 in
set_option maxHeartbeats 1000000 in
theorem pcheck_any (p : Pc) (k : Nat) (h1 : 1 ≤ k) (h2 : k ≤ 4095) (w : World) : Calls Tryz.prog 39 #[p.val, .int .i64 k] w fun e w' => e = .returned (.int .i64 (errP p)) ∧ Below w.heap.size w w' := by
  obtain ⟨pr, co, ed, au, pt⟩ := p
  have hb := Lib.hid (box_below w (.cells (⟨pr, co, ed, au, pt⟩ : Pc).cells 58))
  cases hs : stB pr 16 240
  · have c := port_not pr k (by unfold ptB; rw [hs]; rfl)
    have HE : Hid (errP ⟨pr, co, ed, au, pt⟩ = 4) := Lib.hid (by unfold errP badP; simp [hs])
    clear hs h1 h2
    go_enter Tryz.func39, Tryz.ntmps39
    go_wp2_with fail
    refine (c _).mono ?_
    rintro e w1 ⟨rfl, rfl⟩
    clear c
    go_wp2_with fail
    go_ret
    exact ⟨ret_int HE.out.symm, hb.out⟩
  · obtain ⟨q, rfl⟩ : ∃ q : Nat, pr = q := ⟨pr.toNat, by unfold stB at hs; simp at hs; omega⟩
    have c := port_ok q k (by unfold ptB; rw [hs]; simp; omega)
    have HE : Hid (errP ⟨q, co, ed, au, pt⟩ = if decide (200000000 < co) || (decide (pt < 0) || decide (2 < pt)) then 4 else 0) := Lib.hid (by unfold errP badP; rw [hs]; rfl)
    clear hs h1 h2
    generalize errP ⟨q, co, ed, au, pt⟩ = E at *
    generalize q / 16 * 4096 + k = N at *
    have t1 : decide ((200000000 : Int) < (co : Int)) = decide (200000000 < co) := by rw [decide_eq_decide]; omega
    cases b1 : decide (200000000 < co)
    · rw [b1] at t1 HE
      cases b2 : decide (pt < 0)
      · rw [b2] at HE
        cases b3 : decide (2 < pt)
        · rw [b3] at HE
          clear b1
          go_enter Tryz.func39, Tryz.ntmps39
          go_wp2_with fail
          refine (c _).mono ?_
          rintro e w1 ⟨rfl, rfl⟩
          clear c
          go_wp2_with fail
          go_ret
          exact ⟨ret_int HE.out.symm, hb.out⟩
        · rw [b3] at HE
          clear b1
          go_enter Tryz.func39, Tryz.ntmps39
          go_wp2_with fail
          refine (c _).mono ?_
          rintro e w1 ⟨rfl, rfl⟩
          clear c
          go_wp2_with fail
          go_ret
          exact ⟨ret_int HE.out.symm, hb.out⟩
      · rw [b2] at HE
        clear b1
        go_enter Tryz.func39, Tryz.ntmps39
        go_wp2_with fail
        refine (c _).mono ?_
        rintro e w1 ⟨rfl, rfl⟩
        clear c
        go_wp2_with fail
        go_ret
        exact ⟨ret_int HE.out.symm, hb.out⟩
    · rw [b1] at t1 HE
      clear b1
      go_enter Tryz.func39, Tryz.ntmps39
      go_wp2_with fail
      refine (c _).mono ?_
      rintro e w1 ⟨rfl, rfl⟩
      clear c
      go_wp2_with fail
      go_ret
      exact ⟨ret_int HE.out.symm, hb.out⟩
/-- What is wrong with the first of n ports that is wrong. -/
def errQ (P : Nat → Pc) (n : Nat) : Int := if (List.range n).any (fun i => badP (P i)) then 4 else 0
theorem errQ_bad {P : Nat → Pc} {n k : Nat} (hk : k < n) (h : badP (P k) = true) : errQ P n = 4 := by
  unfold errQ; rw [if_pos (by rw [List.any_eq_true]; exact ⟨k, by simpa using hk, h⟩)]
theorem errQ_ok {P : Nat → Pc} {n : Nat} (h : ∀ j, j < n → badP (P j) = false) : errQ P n = 0 := by
  unfold errQ
  rw [if_neg (by rw [List.any_eq_true]; rintro ⟨j, hj, hb⟩; rw [h j (by simpa using hj)] at hb; cases hb)]
theorem idx26 (b o n cap k : Nat) (h : k < n) (w : World) : (Instr.indexAt 26 (.slice (some ⟨b, o, none⟩) n cap) (.int .i64 k)).run Tryz.prog w = .ok (.pointer (some ⟨b, o + k * 5, none⟩)) w := by
  go_simp
set_option maxRecDepth 20000 in
set_option maxHeartbeats 1000000 in
theorem checkPorts_any (s : Value) (n : Nat) (P : Nat → Pc) (w : World) (hs : QIn w s n P) (hn : n ≤ 100) : Calls Tryz.prog 23 #[s] w fun e w' => e = .returned (.int .i64 (errQ P n)) ∧ Below w.heap.size w w' := by
  obtain ⟨ad, cap, rfl, _, h1⟩ := hs
  have H1 := Lib.hid h1
  clear h1
  go_enter Tryz.func23, Tryz.ntmps23
  go_wp2_with fail
  go_loopw [8] (fun i wr => ∃ k : Nat, k ≤ n ∧ i = .int .i64 k ∧ Below w.heap.size w wr ∧ ∀ j, j < k → badP (P j) = false) (fun i _ => n - (intOf i).toNat)
  case atStart => exact ⟨0, Nat.zero_le _, rfl, Below.refl _ _, fun j hj => absurd hj (by omega)⟩
  case round =>
    obtain ⟨k, hk, rfl, hb, hz⟩ := hrel
    have HB := Lib.hid hb
    have HZ := Lib.hid hz
    clear hb hz
    by_cases hlt : k < n
    · obtain ⟨b, o, rfl, hc⟩ := H1.out (by omega)
      have hix := idx26 b o n cap k hlt
      have hbl : b < w.heap.size := block_lt_of_cell (hc 0 (by omega) 0 (by omega))
      have f0 : wr.cell? ⟨b, o + k * 5, none⟩ = some (.int .i64 (P k).pr) := by rw [HB.out.cell (by exact hbl)]; exact hc k hlt 0 (by omega)
      have f1 : wr.cell? ⟨b, o + k * 5 + 1, none⟩ = some (.int .u32 (P k).co) := by rw [HB.out.cell (by exact hbl)]; exact hc k hlt 1 (by omega)
      have f2 : wr.cell? ⟨b, o + k * 5 + 2, none⟩ = some (.bool (P k).ed) := by rw [HB.out.cell (by exact hbl)]; exact hc k hlt 2 (by omega)
      have f3 : wr.cell? ⟨b, o + k * 5 + 3, none⟩ = some (.bool (P k).au) := by rw [HB.out.cell (by exact hbl)]; exact hc k hlt 3 (by omega)
      have f4 : wr.cell? ⟨b, o + k * 5 + 4, none⟩ = some (.int .i64 (P k).pt) := by rw [HB.out.cell (by exact hbl)]; exact hc k hlt 4 (by omega)
      have c := pcheck_any (P k) (k + 1) (by omega) (by omega)
      clear hc hbl
      have cE : errP (P k) = 4 ∧ badP (P k) = true ∨ errP (P k) = 0 ∧ badP (P k) = false := by
        unfold errP; cases badP (P k) <;> simp
      have HQ := Lib.hid cE
      clear cE
      generalize errP (P k) = E at *
      rcases HQ.out with ⟨rfl, h9⟩ | ⟨rfl, h9⟩
      · go_wp2_with fail
        refine (c _).mono ?_
        rintro e w1 ⟨rfl, hb1⟩
        have HB1 := Lib.hid (HB.out.trans ((below_next (box_below _ _) hb1).mono HB.out.size))
        clear hb1 c f0 f1 f2 f3 f4 hix
        go_wp2_with fail
        go_ret
        exact ⟨ret_int (errQ_bad hlt h9).symm, HB1.out⟩
      · go_wp2_with fail
        refine (c _).mono ?_
        rintro e w1 ⟨rfl, hb1⟩
        have HB1 := Lib.hid (HB.out.trans ((below_next (box_below _ _) hb1).mono HB.out.size))
        clear hb1 c f0 f1 f2 f3 f4 hix
        go_wp2_with fail
        refine ⟨⟨k + 1, by omega, by go_num, HB1.out, fun j hj => ?_⟩, by simp [intOf]; omega⟩
        by_cases e : j = k
        · rw [e]; exact h9
        · exact HZ.out j (by omega)
    · have hkn : k = n := by omega
      subst hkn
      go_wp2_with fail
      go_ret
      exact ⟨ret_int (errQ_ok HZ.out).symm, HB.out⟩
end Go.Proofs.YtlmdpaemhjcmbaaGreatDoor
