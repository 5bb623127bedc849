/- The contract of the Reader's Number. -/
import Derived.Test.YtdhmiekheecicaaDoorB
namespace Go.Proofs.YtdhmiekheecicaaDoor
open Go.RowKit Go.Sort

/-- Bytes as a number, the first one the most significant. -/
def numOf (l : List UInt8) : Nat := l.foldl (fun n c => 256 * n + c.toNat) 0
theorem numOf_snoc (l : List UInt8) (c : UInt8) : numOf (l ++ [c]) = 256 * numOf l + c.toNat := by unfold numOf; rw [List.foldl_append]; rfl
theorem numOf_lt (l : List UInt8) : numOf l < 256 ^ l.length := by
  induction h : l.length generalizing l with
  | zero => obtain rfl := List.eq_nil_of_length_eq_zero h; decide
  | succ n ih =>
    obtain ⟨l', c, rfl⟩ : ∃ l' c, l = l' ++ [c] := ⟨l.dropLast, l.getLast (by intro e; simp [e] at h), (List.dropLast_concat_getLast _).symm⟩
    have := ih l' (by simpa using h)
    have hc := c.toNat_lt
    rw [numOf_snoc, Nat.pow_succ]
    omega
theorem numOf_take {l : List UInt8} {k : Nat} (hk : k < l.length) : numOf (l.take (k + 1)) = 256 * numOf (l.take k) + (l[k]).toNat := by
  rw [List.take_succ_eq_append_getElem hk, numOf_snoc]
theorem num_or {l : List UInt8} {k : Nat} (hk : k < l.length) (h8 : l.length ≤ 8) : bits BinOp.or IntKind.u64 (IntKind.u64.wrap ((numOf (l.take k) : Int) * 256)) ((l[k]).toNat : Int) = (numOf (l.take (k + 1)) : Int) := by
  have h1 := numOf_lt (l.take k)
  rw [List.length_take, Nat.min_eq_left (by omega)] at h1
  have h2 := (l[k]).toNat_lt
  have h3 : 256 ^ k ≤ 256 ^ 7 := Nat.pow_le_pow_right (by omega) (by omega)
  have h4 : (256 : Nat) ^ 7 = 72057594037927936 := rfl
  have e : IntKind.u64.wrap ((numOf (l.take k) : Int) * 256) = ((numOf (l.take k) * 256 : Nat) : Int) := by
    simp only [IntKind.wrap, IntKind.bits, IntKind.signed]; simp; omega
  rw [e, u64_or_nat _ _ (by omega) (by omega), nat_join 8 _ _ (by omega) (by omega), numOf_take hk]
  omega

/-- What the walk asks of a slice of bytes. -/
theorem bts_parts {w : World} {B : Nat} {v : Value} {l : List UInt8} (h : Bts w B v l) : l.length ≤ maxLen ∧ ∃ p cap, v = .slice p l.length cap ∧ l.length ≤ cap ∧ cap ≤ maxLen ∧ ∀ j (hj : j < l.length), ∃ g o, p = some ⟨g, o, none⟩ ∧ w.cell? ⟨g, o + j, none⟩ = some (bV l[j]) := by
  rcases h with ⟨rfl, rfl⟩ | ⟨a, cap, rfl, h1, h2, h3, h4⟩
  · exact ⟨Nat.zero_le _, none, 0, rfl, Nat.le_refl _, Nat.zero_le _, fun j hj => absurd hj (by simp)⟩
  · refine ⟨by omega, some a, cap, rfl, h1, h2, fun j hj => ?_⟩
    obtain ⟨g, o, spot⟩ := a
    have hspot : spot = none := by
      have := World.cell?_spot (h4 0 (by omega))
      simpa [Addr.add] using this
    subst hspot
    refine ⟨g, o, rfl, ?_⟩
    have := h4 j hj
    rwa [Addr.add_lit] at this

set_option maxHeartbeats 1000000 in
theorem number_ok (b s : Nat) (v : Value) (l : List UInt8) (n : Nat) (w : World) (hr : RdAt w b v s) (hv : Bts w b v l) (hn : n ≤ l.length) (h8 : n ≤ 8) (hl : l.length ≤ 100000) :
    Calls Tryd.prog 37 #[ptr b, .int .i64 n] w fun x w' => ∃ v2, x = .returned (.int .u64 (numOf (l.take n))) ∧ Below b w w' ∧ RdAt w' b v2 s ∧ Bts w' b v2 (l.drop n) ∧ (∀ A, Far A v → Far A v2) ∧ Adv b w v2 w' := by
  have c := bytes_ok b s v l n w hr hv hn hl
  clear hr hv
  go_enter Tryd.func37, Tryd.ntmps37
  go_wp2_with fail
  refine c.mono ?_
  rintro x w1 ⟨v1, v2, rfl, hb, rd, hv2, hv1, hfar, hadv⟩
  have HB := Lib.hid hb
  have RD := Lib.hid rd
  have HV := Lib.hid hv2
  have FAR := Lib.hid hfar
  have ADV := Lib.hid hadv
  clear hb rd hv2 c hfar hadv
  have hlen : (l.take n).length = n := by rw [List.length_take]; omega
  generalize hm : l.take n = m at *
  have HM := Lib.hid hm
  clear hm
  obtain ⟨_, p, cap, rfl, _, _, hcell⟩ := bts_parts hv1
  clear hv1
  subst hlen
  have HC := Lib.hid hcell
  clear hcell
  go_wp2_with fail
  go_loop [5, 7, 12] (fun t _ i => ∃ k : Nat, k ≤ m.length ∧ i = .int .i64 k ∧ t = .int .u64 (numOf (m.take k))) (fun _ _ i => m.length - (intOf i).toNat)
  case atStart => exact ⟨0, Nat.zero_le _, rfl, rfl⟩
  case round =>
    obtain ⟨k, hk, rfl, rfl⟩ := hrel
    by_cases hlt : k < m.length
    · obtain ⟨g, o, rfl, hc⟩ := HC.out k hlt
      have hor := num_or hlt h8
      have hbt : (m[k]).toNat < 256 := (m[k]).toNat_lt
      replace hc : w1.cell? ⟨g, o + k, none⟩ = some (.int .u8 ((m[k]).toNat : Int)) := hc
      generalize hx : (m[k]).toNat = x at *
      clear hx
      go_wp2
      refine ⟨⟨k + 1, by omega, by go_num, rfl⟩, by simp [intOf]; omega⟩
    · have : k = m.length := by omega
      subst this
      go_wp2
      go_ret
      exact ⟨by rw [HM.out]; rfl, HB.out, v2, RD.out, HV.out, FAR.out, ADV.out⟩

set_option maxHeartbeats 1000000 in
theorem number_cut (b s : Nat) (v : Value) (l : List UInt8) (n : Nat) (e0 : Int) (w : World) (hr : RdAt w b v s) (hv : Bts w b v l) (hn : l.length < n) (hl : l.length ≤ 100000) (hs : OneAt w s (.int .i64 e0) 63) (hsb : s < b) :
    Calls Tryd.prog 37 #[ptr b, .int .i64 n] w fun x w' => x = stopped s ∧ w' = w.setCell ⟨s, 0, none⟩ (.int .i64 2) := by
  have c := bytes_cut b s v l n e0 w hr hv hn hl hs hsb
  clear hr hs hv
  go_enter Tryd.func37, Tryd.ntmps37
  go_wp2_with fail
  refine c.mono ?_
  rintro x w1 ⟨rfl, rfl⟩
  exact ⟨rfl, rfl, rfl⟩
end Go.Proofs.YtdhmiekheecicaaDoor
