/- A number of at most 16 bits read of hexadecimal figures: the contract of the library's ParseUint at base 16 and 16 bits. Conditions: the library's two error variables hold errors; texts of at most 1000 bytes. -/
import Derived.Test.YtgeommhambkmgaaDoorS
import Derived.Lib.ConvBytes
namespace Go.Proofs.YtgeommhambkmgaaDoor
open Go.RowKit Go.Sort

/-- The value of a figure, small or capital. -/
def hv (c : Nat) : Option Nat := if 48 ≤ c ∧ c ≤ 57 then some (c - 48) else if 97 ≤ c ∧ c ≤ 102 then some (c - 87) else if 65 ≤ c ∧ c ≤ 70 then some (c - 55) else none
/-- What comes of figures behind a number. -/
def pu : List UInt8 → Nat → Option Nat
  | [], n => some n
  | c :: l, n => match hv c.toNat with
    | none => none
    | some d => if 16 * n + d < 65536 then pu l (16 * n + d) else none
/-- A small letter's byte. -/
def lo (c : Nat) : Nat := c / 64 * 64 + c % 32 + 32
theorem or32_all : ∀ n : Fin 256, bits BinOp.or IntKind.u8 (n.val : Int) 32 = ((lo n.val : Nat) : Int) := by decide +kernel
theorem lower_any (c : Nat) (hc : c < 256) (w : World) : Calls Tryd.prog 44 #[.int .u8 c] w fun e w' => e = .returned (.int .u8 (lo c)) ∧ w = w' := by
  have h := Lib.hid (or32_all ⟨c, hc⟩)
  go_enter Tryd.func44, Tryd.ntmps44
  go_wp2
  go_ret
  exact ⟨ret_int h.out, rfl⟩
theorem figs_all : ∀ c : Fin 256, (48 ≤ c.val ∧ c.val ≤ 57 ∧ hv c.val = some (c.val - 48)) ∨ (¬ (48 ≤ c.val ∧ c.val ≤ 57) ∧ 97 ≤ lo c.val ∧ lo c.val ≤ 102 ∧ hv c.val = some (lo c.val - 87)) ∨
    (¬ (48 ≤ c.val ∧ c.val ≤ 57) ∧ 103 ≤ lo c.val ∧ lo c.val ≤ 122 ∧ hv c.val = none) ∨ (¬ (48 ≤ c.val ∧ c.val ≤ 57) ∧ ¬ (97 ≤ lo c.val ∧ lo c.val ≤ 122) ∧ hv c.val = none) := by decide +kernel
theorem lo_lt {c : Nat} (h : c < 256) : lo c < 256 := by unfold lo; omega
theorem below_bytes (w : World) (s : ByteArray) : Below w.heap.size w (Lib.bytesWorld w 5 s) := by
  refine ⟨?_, ?_, ?_, by rw [Lib.bytesWorld_size]; omega, fun k hk => Lib.bytesWorld_at_old w 5 s k hk⟩
  all_goals simp [Lib.bytesWorld, World.freeze, World.alloc, World.drew, -World.alloc_eq, -World.drew_eq]
theorem conv_bytes (l : List UInt8) (w : World) : ∃ c W, (convert 9 65 (strV l)).run Tryd.prog w = .ok (.slice (some ⟨w.heap.size, 0, none⟩) l.length c) W ∧ Below w.heap.size w W ∧ ∀ j, j < l.length → W.cell? ⟨w.heap.size, j, none⟩ = some (.int .u8 (l.getD j 0).toNat) := by
  refine ⟨_, _, Lib.run_convert_string_bytes w 9 65 5 ⟨⟨l⟩⟩ u9 u44 u5, below_bytes w _, fun j hj => Lib.bytesWorld_cell w 5 ⟨⟨l⟩⟩ j hj⟩

theorem drop_get (l : List UInt8) (k : Nat) (h : k < l.length) : l.drop k = l.getD k 0 :: l.drop (k + 1) := by
  rw [List.drop_eq_getElem_cons h]; simp [List.getD, List.getElem?_eq_getElem h]
theorem pu_none {l : List UInt8} {k m : Nat} (hk : k < l.length) (h : hv (l.getD k 0).toNat = none) : pu (l.drop k) m = none := by
  rw [drop_get l k hk, pu, h]
theorem pu_some {l : List UInt8} {k m d : Nat} (hk : k < l.length) (h : hv (l.getD k 0).toNat = some d) (hd : 16 * m + d < 65536) : pu (l.drop k) m = pu (l.drop (k + 1)) (16 * m + d) := by
  rw [drop_get l k hk, pu, h]; simp [hd]
theorem pu_over {l : List UInt8} {k m d : Nat} (hk : k < l.length) (h : hv (l.getD k 0).toNat = some d) (hd : ¬ 16 * m + d < 65536) : pu (l.drop k) m = none := by
  rw [drop_get l k hk, pu, h]; simp [hd]
/-- What the reading returns. -/
def puE (l : List UInt8) (e : Ending) : Prop := match pu l 0 with
  | some n => e = .returned (.tuple #[.int .u64 (n : Int), .nilIface])
  | none => ∃ (n k : Int), e = .returned (.tuple #[.int .u64 n, .iface 78 (.int .i64 k)]) ∧ (k = 1 ∨ k = 2)
theorem puE_none {l : List UInt8} (h : pu l 0 = none) (n k : Int) (hk : k = 1 ∨ k = 2) : puE l (.returned (.tuple #[.int .u64 n, .iface 78 (.int .i64 k)])) := by
  unfold puE; rw [h]; exact ⟨n, k, rfl, hk⟩
theorem round_next {l : List UInt8} {k N : Nat} (hlt : k < l.length) (hN : N < 65536) (hp : pu l 0 = pu (l.drop (k + 1)) N) :
    (∃ k' m : Nat, k' ≤ l.length ∧ m < 65536 ∧ Value.bool false = .bool false ∧ Value.int .i64 ((k : Int) + 1) = .int .i64 k' ∧ Value.int .u64 N = .int .u64 m ∧ pu l 0 = pu (l.drop k') m) ∧
      l.length - (intOf (Value.int .i64 ((k : Int) + 1))).toNat < l.length - (intOf (Value.int .i64 (k : Int))).toNat := by
  refine ⟨⟨k + 1, N, by omega, hN, rfl, by simp, rfl, hp⟩, ?_⟩
  simp only [intOf]; omega
theorem not95_all : ∀ x : Fin 256, lo x.val ≤ 122 → x.val ≠ 95 := by decide +kernel
theorem not95 {x : Nat} (h : x < 256) (hl : lo x ≤ 122) : x ≠ 95 := not95_all ⟨x, h⟩ hl
theorem lo_big_all : ∀ x : Fin 256, 97 ≤ lo x.val → 57 < x.val := by decide +kernel
theorem lo_big {x : Nat} (h : x < 256) (hl : 97 ≤ lo x) : 57 < x := lo_big_all ⟨x, h⟩ hl
set_option maxRecDepth 10000 in
set_option maxHeartbeats 4000000 in
theorem iparse_any (l : List UInt8) (hl : l.length ≤ 1000) (h0 : 0 < l.length) (w : World) :
    Calls Tryd.prog 33 #[strV l, .int .i64 16, .int .i64 16] w fun e w' => puE l e ∧ Below w.heap.size w w' := by
  have hb : l.isEmpty = false := by cases l <;> simp_all
  have hsh : IntKind.u64.wrap ((1 : Int) * 65536) = 65536 := by kernel_rfl
  obtain ⟨c, W, hcv, hbw, hcell⟩ := conv_bytes l w
  have HB := Lib.hid hbw
  have HC := Lib.hid hcell
  clear hbw hcell
  go_enter Tryd.func33, Tryd.ntmps33
  go_wp2_with fail
  clear hcv
  go_loop [12, 13, 15, 16, 17, 101] (fun u n _ _ _ i => ∃ k m : Nat, k ≤ l.length ∧ m < 65536 ∧ u = .bool false ∧ i = .int .i64 k ∧ n = .int .u64 m ∧ pu l 0 = pu (l.drop k) m) (fun _ _ _ _ _ i => l.length - (intOf i).toNat)
  case atStart => exact ⟨0, 0, Nat.zero_le _, by omega, rfl, rfl, rfl, rfl⟩
  case round =>
    obtain ⟨k, m, hk, hm, rfl, rfl, rfl, hp⟩ := hrel
    have HP := Lib.hid hp
    clear hp
    by_cases hlt : k < l.length
    · have hi := HC.out k hlt
      have hx := (l.getD k 0).toNat_lt
      have hcase := figs_all ⟨(l.getD k 0).toNat, hx⟩
      simp only [] at hcase
      have hlo := lower_any (l.getD k 0).toNat hx
      have hnone := pu_none (m := m) hlt
      have hsome := fun d => pu_some (m := m) (d := d) hlt
      have hover := fun d => pu_over (m := m) (d := d) hlt
      generalize (l.getD k 0).toNat = x at *
      have HN := Lib.hid hnone
      have HS := Lib.hid hsome
      have HO := Lib.hid hover
      clear hnone hsome hover
      rcases hcase with ⟨a1, a2, a3⟩ | ⟨a1, a2, a3, a4⟩ | ⟨a1, a2, a3, a4⟩ | ⟨a1, a2, a3⟩
      · obtain ⟨d, hd, hd16, w8⟩ : ∃ d : Nat, x - 48 = d ∧ d < 16 ∧ IntKind.u8.wrap ((x : Int) - 48) = d := ⟨_, rfl, by omega, by simp only [IntKind.wrap, IntKind.bits, IntKind.signed]; simp; omega⟩
        rw [hd] at a3
        have A3 := Lib.hid a3
        have g1 : decide ((48 : Int) ≤ x) = true := by simp; omega
        have g2 : decide ((x : Int) ≤ 57) = true := by simp; omega
        have g3 : ((x : Int) == 95) = false := by simp; omega
        have g4 : decide ((16 : Int) ≤ d) = false := by simp; omega
        have g5 : decide ((1152921504606846976 : Int) ≤ m) = false := by simp; omega
        have w0 : IntKind.u64.wrap (d : Int) = d := by rw [IntKind.wrap_u64]; omega
        have w1 : IntKind.u64.wrap ((m : Int) * 16) = ((m * 16 : Nat) : Int) := by rw [IntKind.wrap_u64]; omega
        have w2 : IntKind.u64.wrap (((m * 16 : Nat) : Int) + d) = ((16 * m + d : Nat) : Int) := by rw [IntKind.wrap_u64]; omega
        have g6 : ((m * 16 : Nat) : Int) ≤ ((16 * m + d : Nat) : Int) := by omega
        have w3 : wrap64 ((k : Int) + 1) = (k : Int) + 1 := by unfold wrap64; omega
        have hsome := HS.out d A3.out
        have hover := HO.out d A3.out
        by_cases hr : 16 * m + d < 65536
        · have g7 : decide ((65535 : Int) < ((16 * m + d : Nat) : Int)) = false := by simp; omega
          have hq := hsome hr
          have HR := Lib.hid hr
          generalize m * 16 = M at *
          generalize 16 * m + d = N at *
          have HQ := Lib.hid hq
          clear hr hsome hover hq HS HO HN hm hl hx h0 a1 a2 a3 hd hd16 hlo
          go_wp2_with (first | (go_at_call 44; refine (hlo _).mono ?_; rintro e w' ⟨rfl, rfl⟩))
          rw [w3]
          exact round_next hlt HR.out (HP.out.trans HQ.out)
        · have g7 : decide ((65535 : Int) < ((16 * m + d : Nat) : Int)) = true := by simp; omega
          have hq := hover hr
          generalize m * 16 = M at *
          generalize 16 * m + d = N at *
          have HQ := Lib.hid hq
          clear hr hsome hover hq HS HO HN hm hl hx h0 a1 a2 a3 hd hd16 hlo
          go_wp2_with (first | (go_at_call 44; refine (hlo _).mono ?_; rintro e w' ⟨rfl, rfl⟩))
          all_goals
            go_ret2
            exact ⟨puE_none (HP.out.trans HQ.out) _ _ (.inl rfl), HB.out⟩
      · have hlx := lo_big hx (by omega)
        have g3 : ((x : Int) == 95) = false := by have := not95 hx (by omega : lo x ≤ 122); simp; omega
        generalize lo x = y at *
        obtain ⟨d, hd, hd16, w8⟩ : ∃ d : Nat, y - 87 = d ∧ d < 16 ∧ IntKind.u8.wrap (((y - 97 : Nat) : Int) + 10) = d := ⟨_, rfl, by omega, by simp only [IntKind.wrap, IntKind.bits, IntKind.signed]; simp; omega⟩
        have w7 : IntKind.u8.wrap ((y : Int) - 97) = ((y - 97 : Nat) : Int) := by simp only [IntKind.wrap, IntKind.bits, IntKind.signed]; simp; omega
        rw [hd] at a4
        have A3 := Lib.hid a4
        have g1 : decide ((48 : Int) ≤ x) = true := by simp; omega
        have g2 : decide ((x : Int) ≤ 57) = false := by simp; omega
        have l1 : decide ((97 : Int) ≤ y) = true := by simp; omega
        have l2 : decide ((y : Int) ≤ 122) = true := by simp; omega
        generalize y - 97 = z at *
        have g4 : decide ((16 : Int) ≤ d) = false := by simp; omega
        have g5 : decide ((1152921504606846976 : Int) ≤ m) = false := by simp; omega
        have w0 : IntKind.u64.wrap (d : Int) = d := by rw [IntKind.wrap_u64]; omega
        have w1 : IntKind.u64.wrap ((m : Int) * 16) = ((m * 16 : Nat) : Int) := by rw [IntKind.wrap_u64]; omega
        have w2 : IntKind.u64.wrap (((m * 16 : Nat) : Int) + d) = ((16 * m + d : Nat) : Int) := by rw [IntKind.wrap_u64]; omega
        have g6 : ((m * 16 : Nat) : Int) ≤ ((16 * m + d : Nat) : Int) := by omega
        have w3 : wrap64 ((k : Int) + 1) = (k : Int) + 1 := by unfold wrap64; omega
        have hsome := HS.out d A3.out
        have hover := HO.out d A3.out
        by_cases hr : 16 * m + d < 65536
        · have g7 : decide ((65535 : Int) < ((16 * m + d : Nat) : Int)) = false := by simp; omega
          have hq := hsome hr
          have HR := Lib.hid hr
          generalize m * 16 = M at *
          generalize 16 * m + d = N at *
          have HQ := Lib.hid hq
          clear hr hsome hover hq HS HO HN hm hl hx h0 a1 a2 a3 a4 hd hd16 hlx
          go_wp2_with (first | (go_at_call 44; refine (hlo _).mono ?_; rintro e w' ⟨rfl, rfl⟩))
          rw [w3]
          exact round_next hlt HR.out (HP.out.trans HQ.out)
        · have g7 : decide ((65535 : Int) < ((16 * m + d : Nat) : Int)) = true := by simp; omega
          have hq := hover hr
          generalize m * 16 = M at *
          generalize 16 * m + d = N at *
          have HQ := Lib.hid hq
          clear hr hsome hover hq HS HO HN hm hl hx h0 a1 a2 a3 a4 hd hd16 hlx
          go_wp2_with (first | (go_at_call 44; refine (hlo _).mono ?_; rintro e w' ⟨rfl, rfl⟩))
          all_goals
            go_ret2
            exact ⟨puE_none (HP.out.trans HQ.out) _ _ (.inl rfl), HB.out⟩
      · have hlx := lo_big hx (by omega)
        have g3 : ((x : Int) == 95) = false := by have := not95 hx (by omega : lo x ≤ 122); simp; omega
        generalize lo x = y at *
        obtain ⟨d, hd, w8⟩ : ∃ d : Nat, y - 87 = d ∧ IntKind.u8.wrap (((y - 97 : Nat) : Int) + 10) = d := ⟨_, rfl, by simp only [IntKind.wrap, IntKind.bits, IntKind.signed]; simp; omega⟩
        have w7 : IntKind.u8.wrap ((y : Int) - 97) = ((y - 97 : Nat) : Int) := by simp only [IntKind.wrap, IntKind.bits, IntKind.signed]; simp; omega
        have A3 := Lib.hid a4
        have g1 : decide ((48 : Int) ≤ x) = true := by simp; omega
        have g2 : decide ((x : Int) ≤ 57) = false := by simp; omega
        have g4 : decide ((16 : Int) ≤ d) = true := by simp; omega
        have l1 : decide ((97 : Int) ≤ y) = true := by simp; omega
        have l2 : decide ((y : Int) ≤ 122) = true := by simp; omega
        generalize y - 97 = z at *
        have hq := HN.out A3.out
        have HQ := Lib.hid hq
        clear hq HS HO HN hm hl hx h0 a1 a2 a3 a4 hd hlx
        go_wp2_with (first | (go_at_call 44; refine (hlo _).mono ?_; rintro e w' ⟨rfl, rfl⟩))
        go_ret2
        exact ⟨puE_none (HP.out.trans HQ.out) _ _ (.inr rfl), HB.out⟩
      · generalize lo x = y at *
        have A3 := Lib.hid a3
        obtain ⟨b, hb95⟩ : ∃ b, ((x : Int) == 95) = b := ⟨_, rfl⟩
        by_cases c1 : x < 48
        · have g1 : decide ((48 : Int) ≤ x) = false := by simp; omega
          by_cases c2 : y < 97
          · have l1 : decide ((97 : Int) ≤ y) = false := by simp; omega
            cases b
            all_goals
              have hq := HN.out A3.out
              have HQ := Lib.hid hq
              clear hq HS HO HN hm hl hx h0 a1 a2 a3 c1 c2
              go_wp2_with (first | (go_at_call 44; refine (hlo _).mono ?_; rintro e w' ⟨rfl, rfl⟩))
              go_ret2
              exact ⟨puE_none (HP.out.trans HQ.out) _ _ (.inr rfl), HB.out⟩
          · have l1 : decide ((97 : Int) ≤ y) = true := by simp; omega
            have l2 : decide ((y : Int) ≤ 122) = false := by simp; omega
            cases b
            all_goals
              have hq := HN.out A3.out
              have HQ := Lib.hid hq
              clear hq HS HO HN hm hl hx h0 a1 a2 a3 c1 c2
              go_wp2_with (first | (go_at_call 44; refine (hlo _).mono ?_; rintro e w' ⟨rfl, rfl⟩))
              go_ret2
              exact ⟨puE_none (HP.out.trans HQ.out) _ _ (.inr rfl), HB.out⟩
        · have g1 : decide ((48 : Int) ≤ x) = true := by simp; omega
          have g2 : decide ((x : Int) ≤ 57) = false := by simp; omega
          by_cases c2 : y < 97
          · have l1 : decide ((97 : Int) ≤ y) = false := by simp; omega
            cases b
            all_goals
              have hq := HN.out A3.out
              have HQ := Lib.hid hq
              clear hq HS HO HN hm hl hx h0 a1 a2 a3 c1 c2
              go_wp2_with (first | (go_at_call 44; refine (hlo _).mono ?_; rintro e w' ⟨rfl, rfl⟩))
              go_ret2
              exact ⟨puE_none (HP.out.trans HQ.out) _ _ (.inr rfl), HB.out⟩
          · have l1 : decide ((97 : Int) ≤ y) = true := by simp; omega
            have l2 : decide ((y : Int) ≤ 122) = false := by simp; omega
            cases b
            all_goals
              have hq := HN.out A3.out
              have HQ := Lib.hid hq
              clear hq HS HO HN hm hl hx h0 a1 a2 a3 c1 c2
              go_wp2_with (first | (go_at_call 44; refine (hlo _).mono ?_; rintro e w' ⟨rfl, rfl⟩))
              go_ret2
              exact ⟨puE_none (HP.out.trans HQ.out) _ _ (.inr rfl), HB.out⟩
    · have : l.drop k = [] := List.drop_eq_nil_of_le (by omega)
      have hp := HP.out
      rw [this] at hp
      clear this HP hm
      have HP := Lib.hid hp
      clear hp
      go_wp2_with fail
      go_ret2
      exact ⟨by unfold puE; rw [HP.out]; rfl, HB.out⟩
end Go.Proofs.YtgeommhambkmgaaDoor
