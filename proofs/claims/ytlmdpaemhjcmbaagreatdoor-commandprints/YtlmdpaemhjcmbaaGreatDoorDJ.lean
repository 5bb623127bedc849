/- Texts and addresses are each other's inverses: what the text of an address reads as, and what the address of a text prints as. -/
import Derived.Test.YtlmdpaemhjcmbaaGreatDoorDI
namespace Go.Proofs.YtlmdpaemhjcmbaaGreatDoor.Cd
open Go.RowKit Go.Sort

theorem dchr_all : ∀ n : Fin 256, (match dval n.val with | some v => decide (dchr v = UInt8.ofNat n.val) | none => true) = true := by decide +kernel
theorem dchr_dval {c : UInt8} {v : Nat} (h : dval c.toNat = some v) : dchr v = c := by
  have := dchr_all ⟨c.toNat, c.toNat_lt⟩
  simp only [h] at this
  have h2 := of_decide_eq_true this
  rw [h2]; simp
theorem dval_all : ∀ n : Fin 16, dval (dchr n.val).toNat = some n.val := by decide +kernel
theorem dval_dchr {n : Nat} (h : n < 16) : dval (dchr n).toNat = some n := dval_all ⟨n, h⟩

theorem take2 (l : List UInt8) (n : Nat) (h : n + 2 ≤ l.length) : l.take (n + 2) = l.take n ++ [l.getD n 0, l.getD (n + 1) 0] := by
  rw [List.take_succ_eq_append_getElem (by omega), List.take_succ_eq_append_getElem (by omega)]
  simp only [List.append_assoc, List.cons_append, List.nil_append, List.getD_eq_getElem?_getD, List.getElem?_eq_getElem (show n < l.length by omega), List.getElem?_eq_getElem (show n + 1 < l.length by omega), Option.getD_some]
theorem take3 (l : List UInt8) (n : Nat) (h : n + 3 ≤ l.length) : l.take (n + 3) = l.take n ++ [l.getD n 0, l.getD (n + 1) 0, l.getD (n + 2) 0] := by
  rw [List.take_succ_eq_append_getElem (by omega), take2 l n (by omega)]
  simp only [List.append_assoc, List.cons_append, List.nil_append, List.getD_eq_getElem?_getD, List.getElem?_eq_getElem (show n + 2 < l.length by omega), Option.getD_some]

theorem mac_digits {s : ByteArray} {i : Nat} (h : okAt s i) : dchr (macOf s i / 16) = s.data.toList.getD (3 * i) 0 ∧ dchr (macOf s i % 16) = s.data.toList.getD (3 * i + 1) 0 := by
  obtain ⟨d1, h1⟩ := Option.isSome_iff_exists.1 h.2.1
  obtain ⟨d2, h2⟩ := Option.isSome_iff_exists.1 h.2.2
  have e1 := dval_lt h1
  have e2 := dval_lt h2
  have e : macOf s i = d1 * 16 + d2 := by unfold macOf; rw [h1, h2]; rfl
  rw [e, show (d1 * 16 + d2) / 16 = d1 by omega, show (d1 * 16 + d2) % 16 = d2 by omega]
  exact ⟨dchr_dval h1, dchr_dval h2⟩
theorem txt_back {s : ByteArray} (h : okTxt s) : ∀ k, k < 6 → txt (macOf s) (k + 1) = s.data.toList.take (3 * k + 2)
  | 0, _ => by
    obtain ⟨e1, e2⟩ := mac_digits (h.2 0 (by omega))
    have hl : s.data.toList.length = 17 := by simpa using h.1
    rw [show 3 * 0 + 2 = 0 + 2 from rfl, take2 _ 0 (by omega)]
    simp only [txt, if_true, List.nil_append, List.take_zero, e1, e2]
  | k + 1, hk => by
    obtain ⟨e1, e2⟩ := mac_digits (h.2 (k + 1) hk)
    have hl : s.data.toList.length = 17 := by simpa using h.1
    have hsep := (h.2 (k + 1) hk).1 (by omega)
    have hs : s.data.toList.getD (3 * k + 2) 0 = 58 := by
      have : 3 * (k + 1) - 1 = 3 * k + 2 := by omega
      rw [this] at hsep
      exact UInt8.toNat_inj.1 hsep
    rw [show 3 * (k + 1) + 2 = (3 * k + 2) + 3 by omega, take3 _ _ (by omega), ← txt_back h k (by omega), hs]
    rw [show 3 * k + 2 + 1 = 3 * (k + 1) by omega, show 3 * k + 2 + 2 = 3 * (k + 1) + 1 by omega, ← e1, ← e2]
    rw [txt, if_neg (by omega)]
    rfl
theorem txt_of {s : ByteArray} (h : okTxt s) : strV (txt (macOf s) 6) = .string s := by
  have hl : s.data.toList.length = 17 := by simpa using h.1
  rw [show strV (txt (macOf s) 6) = .string ⟨⟨txt (macOf s) 6⟩⟩ from rfl, txt_back h 5 (by omega), List.take_of_length_le (by omega)]

theorem txt_list (x : Nat → Nat) : txt x 6 = [dchr (x 0 / 16), dchr (x 0 % 16), 58, dchr (x 1 / 16), dchr (x 1 % 16), 58, dchr (x 2 / 16), dchr (x 2 % 16), 58, dchr (x 3 / 16), dchr (x 3 % 16), 58, dchr (x 4 / 16), dchr (x 4 % 16), 58, dchr (x 5 / 16), dchr (x 5 % 16)] := rfl
theorem bt_txt (x : Nat → Nat) : ∀ i, i < 6 → bt ⟨⟨txt x 6⟩⟩ (3 * i) = (dchr (x i / 16)).toNat ∧ bt ⟨⟨txt x 6⟩⟩ (3 * i + 1) = (dchr (x i % 16)).toNat ∧ (0 < i → bt ⟨⟨txt x 6⟩⟩ (3 * i - 1) = 58)
  | 0, _ => ⟨rfl, rfl, fun h => absurd h (by omega)⟩
  | 1, _ => ⟨rfl, rfl, fun _ => rfl⟩
  | 2, _ => ⟨rfl, rfl, fun _ => rfl⟩
  | 3, _ => ⟨rfl, rfl, fun _ => rfl⟩
  | 4, _ => ⟨rfl, rfl, fun _ => rfl⟩
  | 5, _ => ⟨rfl, rfl, fun _ => rfl⟩
  | i + 6, h => absurd h (by omega)
theorem okTxt_txt {x : Nat → Nat} (hx : ∀ i, x i < 256) : okTxt ⟨⟨txt x 6⟩⟩ := by
  refine ⟨rfl, fun i hi => ?_⟩
  obtain ⟨h1, h2, h3⟩ := bt_txt x i hi
  have := hx i
  refine ⟨h3, ?_, ?_⟩
  · rw [h1, dval_dchr (by omega)]; rfl
  · rw [h2, dval_dchr (by omega)]; rfl
theorem macOf_txt {x : Nat → Nat} (hx : ∀ i, x i < 256) (i : Nat) (hi : i < 6) : macOf ⟨⟨txt x 6⟩⟩ i = x i := by
  obtain ⟨h1, h2, _⟩ := bt_txt x i hi
  have := hx i
  unfold macOf
  rw [h1, h2, dval_dchr (by omega), dval_dchr (by omega)]
  simp; omega
theorem macV_txt {x : Nat → Nat} (hx : ∀ i, x i < 256) : macV (macOf ⟨⟨txt x 6⟩⟩) = macV x := by
  unfold macV
  rw [macOf_txt hx 0 (by omega), macOf_txt hx 1 (by omega), macOf_txt hx 2 (by omega), macOf_txt hx 3 (by omega), macOf_txt hx 4 (by omega), macOf_txt hx 5 (by omega)]
theorem parse_txt (x : Nat → Nat) (hx : ∀ i, x i < 256) (w : World) :
    Calls Tryz.prog 70 #[strV (txt x 6)] w fun e w' => e = .returned (.tuple #[macV x, .int .i64 0]) ∧ Below w.heap.size w w' := by
  have := parse_good ⟨⟨txt x 6⟩⟩ (okTxt_txt hx) w
  rwa [macV_txt hx] at this
end Go.Proofs.YtlmdpaemhjcmbaaGreatDoor.Cd
