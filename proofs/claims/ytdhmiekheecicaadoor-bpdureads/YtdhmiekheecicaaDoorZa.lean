/- The reference's Read, whole; what messages that were read are. -/
import Derived.Test.YtdhmiekheecicaaDoorZ3
namespace Go.Proofs.YtdhmiekheecicaaDoor
open Go.RowKit Go.Sort Go.Lib

theorem msg_ex (l : List UInt8) : ∃ (k : Int) (f r c b p a m h d : Nat), Msg l k f r c b p a m h d ∧ f < 256 ∧ r < 18446744073709551616 ∧ c < 4294967296 ∧ b < 18446744073709551616 ∧ p < 65536 ∧ a < 65536 ∧ m < 65536 ∧ h < 65536 ∧ d < 65536 := by
  by_cases h2 : kd l = 2
  · exact ⟨2, 0, 0, 0, 0, 0, 0, 0, 0, 0, .inl ⟨h2, rfl, rfl, rfl, rfl, rfl, rfl, rfl, rfl, rfl, rfl⟩, by omega, by omega, by omega, by omega, by omega, by omega, by omega, by omega, by omega⟩
  · have hF : fd l 4 1 < 256 := fd_lt l 4 1
    have hr : fd l 5 8 < 18446744073709551616 := fd_lt l 5 8
    have hc : fd l 13 4 < 4294967296 := fd_lt l 13 4
    have hb : fd l 17 8 < 18446744073709551616 := fd_lt l 17 8
    have hp : fd l 25 2 < 65536 := fd_lt l 25 2
    have ha : fd l 27 2 < 65536 := fd_lt l 27 2
    have hm : fd l 29 2 < 65536 := fd_lt l 29 2
    have hh : fd l 31 2 < 65536 := fd_lt l 31 2
    have hd : fd l 33 2 < 65536 := fd_lt l 33 2
    by_cases h3 : kd l = 3 ∧ roleOf (fd l 4 1) ≠ 0
    · exact ⟨3, fd l 4 1, fd l 5 8, fd l 13 4, fd l 17 8, fd l 25 2, fd l 27 2, fd l 29 2, fd l 31 2, fd l 33 2, .inr ⟨h2, rfl, rfl, rfl, rfl, rfl, rfl, rfl, rfl, .inl ⟨h3.1, h3.2, rfl, rfl⟩⟩, hF, hr, hc, hb, hp, ha, hm, hh, hd⟩
    · exact ⟨1, fd l 4 1 / 128 * 128 + fd l 4 1 % 2, fd l 5 8, fd l 13 4, fd l 17 8, fd l 25 2, fd l 27 2, fd l 29 2, fd l 31 2, fd l 33 2, .inr ⟨h2, rfl, rfl, rfl, rfl, rfl, rfl, rfl, rfl, .inr ⟨h3, rfl, rfl⟩⟩, by omega, hr, hc, hb, hp, ha, hm, hh, hd⟩
theorem mE_age {l : List UInt8} (h2 : kd l ≠ 2) (hE : mE l = 0) : fd l 27 2 < fd l 29 2 := by
  unfold mE at hE
  split at hE
  · exact absurd hE ‹_›
  split at hE
  · exact absurd hE (by decide)
  split at hE
  · exact absurd hE (by decide)
  split at hE
  · assumption
  · exact absurd hE (by decide)
theorem cut_cf : ∀ f : Nat, f < 256 → cfF ((f / 128 * 128 + f % 2 : Nat) : Int) = true := by decide +kernel
theorem msg_right {l : List UInt8} {k : Int} {f r c b p a m h d : Nat} (hM : Msg l k f r c b p a m h d) (hE : mE l = 0) : rightB k f r c b p a m h d = true := by
  rcases hM with ⟨_, rfl, rfl, rfl, rfl, rfl, rfl, rfl, rfl, rfl, rfl⟩ | ⟨h2, rfl, rfl, rfl, rfl, rfl, rfl, rfl, rfl, ⟨_, hr, rfl, rfl⟩ | ⟨_, rfl, rfl⟩⟩
  · decide
  · have ha := mE_age h2 hE
    have e : rightB 3 (fd l 4 1 : Nat) (fd l 5 8 : Nat) (fd l 13 4 : Nat) (fd l 17 8 : Nat) (fd l 25 2 : Nat) (fd l 27 2 : Nat) (fd l 29 2 : Nat) (fd l 31 2 : Nat) (fd l 33 2 : Nat) = (roleOf ((fd l 4 1 : Nat) : Int).toNat != 0 && decide (((fd l 27 2 : Nat) : Int) < (fd l 29 2 : Nat))) := rfl
    rw [e]
    simp only [Bool.and_eq_true, decide_eq_true_eq, bne_iff_ne, Int.toNat_natCast]
    exact ⟨hr, by omega⟩
  · have ha := mE_age h2 hE
    have hF : fd l 4 1 < 256 := fd_lt l 4 1
    have e : rightB 1 (fd l 4 1 / 128 * 128 + fd l 4 1 % 2 : Nat) (fd l 5 8 : Nat) (fd l 13 4 : Nat) (fd l 17 8 : Nat) (fd l 25 2 : Nat) (fd l 27 2 : Nat) (fd l 29 2 : Nat) (fd l 31 2 : Nat) (fd l 33 2 : Nat) = (cfF ((fd l 4 1 / 128 * 128 + fd l 4 1 % 2 : Nat) : Int) && decide (((fd l 27 2 : Nat) : Int) < (fd l 29 2 : Nat))) := rfl
    rw [e]
    simp only [Bool.and_eq_true, decide_eq_true_eq]
    exact ⟨cut_cf _ hF, by omega⟩
theorem hd_ok {l : List UInt8} (h4 : 4 ≤ l.length) (e0 : byt l 0 = 0) (e1 : byt l 1 = 0) (hk : kdOf (byt l 2) (byt l 3) ≠ 0) : hdE l = 0 := by
  unfold hdE
  have h : numOf (l.take 2) = 0 := by rw [two_bytes (by omega), e0, e1]
  rw [if_neg (by omega), if_neg (fun x => x h), if_neg hk]
/-- What the reference's Read leaves, in every case. -/
def Ans (w : World) (l : List UInt8) (k f r c b p a m h d : Int) (e : Ending) (w' : World) : Prop := (mE l = 0 → Refs w k f r c b p a m h d 0 e w') ∧ (mE l ≠ 0 → Refs w 0 0 0 0 0 0 0 0 0 0 (mE l) e w')
theorem ans_bad {w : World} {l : List UInt8} {k f r c b p a m h d x : Int} {e : Ending} {w' : World} (hx : mE l = x) (h0 : x ≠ 0) (hR : Refs w 0 0 0 0 0 0 0 0 0 0 x e w') : Ans w l k f r c b p a m h d e w' :=
  ⟨fun h => absurd (hx.symm.trans h) h0, fun _ => by rw [hx]; exact hR⟩
theorem ans_ok {w : World} {l : List UInt8} {k f r c b p a m h d : Int} {e : Ending} {w' : World} (hx : mE l = 0) (hR : Refs w k f r c b p a m h d 0 e w') : Ans w l k f r c b p a m h d e w' :=
  ⟨fun _ => hR, fun h => absurd hx h⟩
theorem mE_hd {l : List UInt8} {x : Int} (h : hdE l = x) (h0 : x ≠ 0) : mE l = x := by
  unfold mE
  rw [h, if_pos h0]
theorem mE_cut {l : List UInt8} (h : hdE l = 0) (h2 : kd l ≠ 2) (hl : l.length < 35 ∨ (kd l = 3 ∧ l.length < 36)) : mE l = 2 := by
  unfold mE
  rw [h, if_neg (by decide), if_neg h2]
  split
  · rfl
  · rw [if_pos (by rcases hl with h | h; · exact absurd h ‹_›
                   · exact h)]
theorem mE_full {l : List UInt8} (h : hdE l = 0) (h2 : kd l ≠ 2) (hl : 35 ≤ l.length) (hl3 : kd l = 3 → 36 ≤ l.length) : mE l = if fd l 27 2 < fd l 29 2 then 0 else 5 := by
  unfold mE
  rw [h, if_neg (by decide), if_neg h2, if_neg (by omega), if_neg (fun x => by have := hl3 x.1; omega)]
theorem refRead_any (v : Value) (l : List UInt8) (w : World) (hv : Bts w w.heap.size v l) (hl : l.length ≤ 10000) {k : Int} {f r c b p a m h d : Nat} (hM : Msg l k f r c b p a m h d) :
    Calls Tryd.prog 12 #[v] w (Ans w l k f r c b p a m h d) := by
  by_cases h4 : l.length < 4
  · exact (refRead_short v l w hv h4).mono fun e w' hx => ans_bad (mE_hd (x := 2) (by unfold hdE; rw [if_pos h4]) (by decide)) (by decide) hx
  have h4' : 4 ≤ l.length := by omega
  by_cases hx : byt l 0 = 0 ∧ byt l 1 = 0
  case neg =>
    refine (refRead_head v l w hv h4' hx).mono fun e w' hy => ans_bad (mE_hd (x := 3) ?_ (by decide)) (by decide) hy
    unfold hdE
    rw [if_neg h4, if_pos (by rw [two_bytes (by omega)]; intro h; exact hx ⟨by omega, by omega⟩)]
  obtain ⟨e0, e1⟩ := hx
  by_cases e3 : byt l 3 = 128
  · have hk : kd l = 2 := by unfold kd kdOf; rw [if_pos e3]
    have hh : hdE l = 0 := hd_ok h4' e0 e1 (by show kd l ≠ 0; rw [hk]; decide)
    refine (refRead_tcn v l w hv h4' e0 e1 e3).mono fun e w' hy => ans_ok (by unfold mE; rw [hh, if_neg (by decide), if_pos hk]) ?_
    rcases hM with ⟨_, rfl, rfl, rfl, rfl, rfl, rfl, rfl, rfl, rfl, rfl⟩ | ⟨h2, _⟩
    · exact hy
    · exact absurd hk h2
  have n2 : kd l ≠ 2 := by
    unfold kd kdOf
    rw [if_neg e3]
    split
    · decide
    · split <;> decide
  obtain ⟨hr, hc, hb, hp, ha, hm, hh, hd, hK⟩ : r = fd l 5 8 ∧ c = fd l 13 4 ∧ b = fd l 17 8 ∧ p = fd l 25 2 ∧ a = fd l 27 2 ∧ m = fd l 29 2 ∧ h = fd l 31 2 ∧ d = fd l 33 2 ∧ ((kd l = 3 ∧ roleOf (fd l 4 1) ≠ 0 ∧ k = 3 ∧ f = fd l 4 1) ∨ (¬ (kd l = 3 ∧ roleOf (fd l 4 1) ≠ 0) ∧ k = 1 ∧ f = fd l 4 1 / 128 * 128 + fd l 4 1 % 2)) := by
    rcases hM with ⟨h2, _⟩ | ⟨_, h⟩
    · exact absurd h2 n2
    · exact h
  by_cases e30 : byt l 3 = 0
  · have hk : kd l = 1 := by unfold kd kdOf; rw [if_neg e3, if_pos e30]
    have h0 : hdE l = 0 := hd_ok h4' e0 e1 (by show kd l ≠ 0; rw [hk]; decide)
    by_cases hl5 : l.length < 35
    · exact (refRead_cut1 v l w hv h4' e0 e1 e30 hl5).mono fun e w' hy => ans_bad (mE_cut h0 n2 (.inl hl5)) (by decide) hy
    have hf := mE_full h0 n2 (by omega) (fun x => absurd (hk.symm.trans x) (by decide))
    refine (refRead_body1 v l w hv hl e0 e1 e30 (by omega) (Lib.hid rfl) (Lib.hid rfl) (Lib.hid rfl) (Lib.hid rfl) (Lib.hid rfl) (Lib.hid rfl) (Lib.hid rfl) (Lib.hid rfl) (Lib.hid rfl)).mono fun e w' hy => ?_
    rcases hK with ⟨h3, _⟩ | ⟨_, rfl, rfl⟩
    · exact absurd (hk.symm.trans h3) (by decide)
    subst hr hc hb hp ha hm hh hd
    by_cases ht : fd l 27 2 < fd l 29 2
    · exact ans_ok (by rw [hf, if_pos ht]) (hy.1 ht)
    · exact ans_bad (x := 5) (by rw [hf, if_neg ht]) (by decide) (hy.2 ht)
  by_cases e32 : byt l 3 = 2 ∧ 2 ≤ byt l 2
  case neg =>
    refine (refRead_form v l w hv h4' e0 e1 e3 e30 e32).mono fun e w' hy => ans_bad (mE_hd (x := 3) ?_ (by decide)) (by decide) hy
    unfold hdE
    rw [if_neg h4, if_neg (fun x => x (by rw [two_bytes (by omega), e0, e1])), if_pos (by unfold kdOf; rw [if_neg e3, if_neg e30, if_neg e32])]
  have hk : kd l = 3 := by unfold kd kdOf; rw [if_neg e3, if_neg e30, if_pos e32]
  have h0 : hdE l = 0 := hd_ok h4' e0 e1 (by show kd l ≠ 0; rw [hk]; decide)
  by_cases hl5 : l.length < 36
  · exact (refRead_cut3 v l w hv h4' e0 e1 e32.1 e32.2 hl5).mono fun e w' hy => ans_bad (mE_cut h0 n2 (.inr ⟨hk, hl5⟩)) (by decide) hy
  have hf := mE_full h0 n2 (by omega) (fun _ => by omega)
  refine (refRead_body3 v l w hv hl e0 e1 e32.1 e32.2 (by omega) (Lib.hid rfl) (Lib.hid rfl) (Lib.hid rfl) (Lib.hid rfl) (Lib.hid rfl) (Lib.hid rfl) (Lib.hid rfl) (Lib.hid rfl) (Lib.hid rfl)).mono fun e w' hy => ?_
  subst hr hc hb hp ha hm hh hd
  by_cases ht : fd l 27 2 < fd l 29 2
  · refine ans_ok (by rw [hf, if_pos ht]) ?_
    rcases hK with ⟨_, hr, rfl, rfl⟩ | ⟨hn, rfl, rfl⟩
    · exact hy.1 ht hr
    · refine hy.2.1 ht ?_
      by_cases hr : roleOf (fd l 4 1) = 0
      · exact hr
      · exact absurd ⟨hk, hr⟩ hn
  · exact ans_bad (x := 5) (by rw [hf, if_neg ht]) (by decide) (hy.2.2 ht)
end Go.Proofs.YtdhmiekheecicaaDoor
