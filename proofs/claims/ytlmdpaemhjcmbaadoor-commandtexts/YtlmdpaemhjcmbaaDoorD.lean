/- The document's text of an address: the contract of the reference's Text. -/
import Derived.Test.YtlmdpaemhjcmbaaDoorC
namespace Go.Proofs.YtlmdpaemhjcmbaaDoor
open Go.RowKit Go.Sort

/-- The text of the first k bytes. -/
def txt (x : Nat → Nat) : Nat → List UInt8
  | 0 => []
  | k + 1 => txt x k ++ ((if k = 0 then [] else [58]) ++ [dchr (x k / 16), dchr (x k % 16)])
theorem txt_len (x : Nat → Nat) : ∀ k, (txt x (k + 1)).length = 3 * k + 2
  | 0 => by simp [txt]
  | k + 1 => by
    have := txt_len x k
    rw [txt, List.length_append, this]; simp; omega
abbrev strV (l : List UInt8) : Value := .string ⟨⟨l⟩⟩
theorem txt_le (x : Nat → Nat) (k : Nat) (hk : k ≤ 6) : (txt x k).length ≤ 17 := by
  cases k with
  | zero => simp [txt]
  | succ k => rw [txt_len]; omega

theorem cat_data (a b : List UInt8) : (⟨⟨a⟩⟩ : ByteArray) ++ ⟨⟨b⟩⟩ = ⟨⟨a ++ b⟩⟩ := by
  apply ByteArray.ext; simp
theorem txt_zero (x : Nat → Nat) : (⟨⟨txt x 0⟩⟩ : ByteArray) ++ ⟨⟨[dchr (x 0 / 16)]⟩⟩ ++ ⟨⟨[dchr (x 0 % 16)]⟩⟩ = ⟨⟨txt x 1⟩⟩ := by
  rw [cat_data, cat_data]; simp [txt]
theorem txt_next (x : Nat → Nat) (k : Nat) (h : ¬ k = 0) : (⟨⟨txt x k⟩⟩ : ByteArray) ++ ⟨#[58]⟩ ++ ⟨⟨[dchr (x k / 16)]⟩⟩ ++ ⟨⟨[dchr (x k % 16)]⟩⟩ = ⟨⟨txt x (k + 1)⟩⟩ := by
  rw [cat_data, cat_data, cat_data]; simp [txt, h]
theorem below_drewN (B : Nat) (w : World) (n : Nat) : Below B w (w.drewN n) := ⟨rfl, rfl, rfl, Nat.le_refl _, fun _ _ => rfl⟩

set_option maxHeartbeats 400000 in
theorem refText_any (x : Nat → Nat) (hx : ∀ i, x i < 256) (w : World) :
    Calls Tryd.prog 20 #[macV x] w fun e w' => e = .returned (strV (txt x 6)) ∧ Below w.heap.size w w' := by
  go_enter Tryd.func20, Tryd.ntmps20
  go_wp2
  have hb := box_below w (macO x 23)
  have ha := box_at w x 23
  generalize w.alloc (macO x 23) = W at *
  have HA := Lib.hid ha
  have HB := Lib.hid hb
  have HX := Lib.hid hx
  clear ha hb hx
  go_loopw [3, 4] (fun t i wr => ∃ k : Nat, k ≤ 6 ∧ i = .int .i64 k ∧ t = strV (txt x k) ∧ At wr w.heap.size x ∧ Below w.heap.size w wr) (fun _ i _ => 6 - (intOf i).toNat)
  case atStart => exact ⟨0, Nat.zero_le _, rfl, rfl, HA.out, HB.out⟩
  case round =>
    obtain ⟨k, hk, rfl, rfl, ha, hb⟩ := hrel
    by_cases hlt : k < 6
    · have hi := ha k hlt
      have hxk := HX.out k
      have h17 := txt_le x k hk
      have HA := Lib.hid ha
      have HB := Lib.hid hb
      clear ha hb
      by_cases h0 : k = 0
      · subst h0
        have c1 : ∀ w, Calls Tryd.prog 32 #[.int .u8 ((x 0 : Int) / 16)] w fun e w' => e = .returned (strV [dchr (x 0 / 16)]) ∧ w' = w := fun w => (digit_any (x 0 / 16) (by omega) w).mono fun _ _ h => ⟨h.1, h.2.symm⟩
        have c2 : ∀ w, Calls Tryd.prog 32 #[.int .u8 ((x 0 : Int) % 16)] w fun e w' => e = .returned (strV [dchr (x 0 % 16)]) ∧ w' = w := fun w => (digit_any (x 0 % 16) (by omega) w).mono fun _ _ h => ⟨h.1, h.2.symm⟩
        go_wp2
        go_quiet (first | with_reducible exact Calls.quiet_of_same (c1 _) | with_reducible exact Calls.quiet_of_same (c2 _))
        go_wp2
        exact ⟨⟨1, by omega, rfl, by rw [txt_zero], HA.out.below (below_drewN _ _ _) HA.out.lt, HB.out.trans (below_drewN _ _ _)⟩, by simp [intOf]⟩
      · have c1 : ∀ w, Calls Tryd.prog 32 #[.int .u8 ((x k : Int) / 16)] w fun e w' => e = .returned (strV [dchr (x k / 16)]) ∧ w' = w := fun w => (digit_any (x k / 16) (by omega) w).mono fun _ _ h => ⟨h.1, h.2.symm⟩
        have c2 : ∀ w, Calls Tryd.prog 32 #[.int .u8 ((x k : Int) % 16)] w fun e w' => e = .returned (strV [dchr (x k % 16)]) ∧ w' = w := fun w => (digit_any (x k % 16) (by omega) w).mono fun _ _ h => ⟨h.1, h.2.symm⟩
        go_wp2
        go_quiet (first | with_reducible exact Calls.quiet_of_same (c1 _) | with_reducible exact Calls.quiet_of_same (c2 _))
        go_wp2
        exact ⟨⟨k + 1, by omega, by go_num, by rw [txt_next x k h0], HA.out.below (below_drewN _ _ _) HA.out.lt, HB.out.trans (below_drewN _ _ _)⟩, by simp [intOf]; omega⟩
    · have : k = 6 := by omega
      subst this
      go_wp2
      go_ret
      exact ⟨rfl, hb⟩
end Go.Proofs.YtlmdpaemhjcmbaaDoor
