/- What is read of a message's own bytes, with others behind. -/
import Derived.Test.YtdhmiekheecicaaDoorT
namespace Go.Proofs.YtdhmiekheecicaaDoor
open Go.RowKit Go.Sort

theorem fd_mid (A C : List UInt8) (n k off : Nat) (h : A.length = off) : fd (A ++ (lw n k k ++ C)) off k = n % 256 ^ k := by
  subst h
  unfold fd
  rw [List.drop_left, List.take_append_of_le_length (by rw [lw_len]; omega), List.take_of_length_le (by rw [lw_len]; omega), numOf_lw n k k (Nat.le_refl _)]
  simp
theorem head_facts (v t : Nat) (hv : v < 256) (ht : t < 256) (C : List UInt8) : numOf ((hdB v t ++ C).take 2) = 0 ∧ byt (hdB v t ++ C) 2 = v ∧ byt (hdB v t ++ C) 3 = t := by
  rw [head_list v t hv ht]
  refine ⟨rfl, ?_, ?_⟩
  · show (UInt8.ofNat v).toNat = v
    rw [UInt8.toNat_ofNat', Nat.mod_eq_of_lt hv]
  · show (UInt8.ofNat t).toNat = t
    rw [UInt8.toNat_ofNat', Nat.mod_eq_of_lt ht]
theorem head_ok {v t : Nat} (hv : v < 256) (ht : t < 256) (C : List UInt8) (hk : kdOf v t ≠ 0) : hdE (hdB v t ++ C) = 0 ∧ kd (hdB v t ++ C) = kdOf v t := by
  obtain ⟨h1, h2, h3⟩ := head_facts v t hv ht C
  have h4 : ¬ (hdB v t ++ C).length < 4 := by rw [List.length_append, hdB_len]; omega
  unfold hdE kd
  rw [if_neg h4, h1, h2, h3]
  simp [hk]
/-- A body's bytes, and what follows. -/
theorem body_facts (v t : Nat) (C : List UInt8) (f r c b p a m h d : Nat) (hf : f < 256) (hr : r < 18446744073709551616) (hc : c < 4294967296) (hb : b < 18446744073709551616) (hp : p < 65536) (ha : a < 65536) (hm : m < 65536) (hh : h < 65536) (hd : d < 65536) (L : List UInt8) (hL : L = bdB (hdB v t) f r c b p a m h d ++ C) :
    L = hdB v t ++ (lw f 1 1 ++ (lw r 8 8 ++ (lw c 4 4 ++ (lw b 8 8 ++ (lw p 2 2 ++ (lw a 2 2 ++ (lw m 2 2 ++ (lw h 2 2 ++ (lw d 2 2 ++ C))))))))) ∧
    fd L 4 1 = f ∧ fd L 5 8 = r ∧ fd L 13 4 = c ∧ fd L 17 8 = b ∧ fd L 25 2 = p ∧ fd L 27 2 = a ∧ fd L 29 2 = m ∧ fd L 31 2 = h ∧ fd L 33 2 = d := by
  have e : L = hdB v t ++ (lw f 1 1 ++ (lw r 8 8 ++ (lw c 4 4 ++ (lw b 8 8 ++ (lw p 2 2 ++ (lw a 2 2 ++ (lw m 2 2 ++ (lw h 2 2 ++ (lw d 2 2 ++ C))))))))) := by rw [hL]; simp only [bdB, bdH, List.append_assoc]
  refine ⟨e, ?_, ?_, ?_, ?_, ?_, ?_, ?_, ?_, ?_⟩
  · rw [e, fd_mid _ _ f 1 4 (hdB_len _ _)]; exact Nat.mod_eq_of_lt hf
  · rw [e, ← List.append_assoc, fd_mid _ _ r 8 5 (by simp [hdB_len, lw_len])]; exact Nat.mod_eq_of_lt hr
  · rw [e, ← List.append_assoc, ← List.append_assoc, fd_mid _ _ c 4 13 (by simp [hdB_len, lw_len])]; exact Nat.mod_eq_of_lt hc
  · rw [e, ← List.append_assoc, ← List.append_assoc, ← List.append_assoc, fd_mid _ _ b 8 17 (by simp [hdB_len, lw_len])]; exact Nat.mod_eq_of_lt hb
  · rw [e, ← List.append_assoc, ← List.append_assoc, ← List.append_assoc, ← List.append_assoc, fd_mid _ _ p 2 25 (by simp [hdB_len, lw_len])]; exact Nat.mod_eq_of_lt hp
  · rw [e, ← List.append_assoc, ← List.append_assoc, ← List.append_assoc, ← List.append_assoc, ← List.append_assoc, fd_mid _ _ a 2 27 (by simp [hdB_len, lw_len])]; exact Nat.mod_eq_of_lt ha
  · rw [e, ← List.append_assoc, ← List.append_assoc, ← List.append_assoc, ← List.append_assoc, ← List.append_assoc, ← List.append_assoc, fd_mid _ _ m 2 29 (by simp [hdB_len, lw_len])]; exact Nat.mod_eq_of_lt hm
  · rw [e, ← List.append_assoc, ← List.append_assoc, ← List.append_assoc, ← List.append_assoc, ← List.append_assoc, ← List.append_assoc, ← List.append_assoc, fd_mid _ _ h 2 31 (by simp [hdB_len, lw_len])]; exact Nat.mod_eq_of_lt hh
  · rw [e, ← List.append_assoc, ← List.append_assoc, ← List.append_assoc, ← List.append_assoc, ← List.append_assoc, ← List.append_assoc, ← List.append_assoc, ← List.append_assoc, fd_mid _ _ d 2 33 (by simp [hdB_len, lw_len])]; exact Nat.mod_eq_of_lt hd
theorem bpE_true {k f r c b p a m h d k' f' r' c' b' p' a' m' h' d' : Int} (e : bpE k f r c b p a m h d k' f' r' c' b' p' a' m' h' d' = true) : k = k' ∧ f = f' ∧ r = r' ∧ c = c' ∧ b = b' ∧ p = p' ∧ a = a' ∧ m = m' ∧ h = h' ∧ d = d' := by
  unfold bpE at e
  simp only [Bool.and_eq_true, beq_iff_eq] at e
  obtain ⟨h1, h2, ⟨h3, h4, h5, h6⟩, h7, h8, h9, h10⟩ := e
  exact ⟨h1, h2, h3, h4, h5, h6, h7, h8, h9, h10⟩
theorem cut_same : ∀ f : Nat, f < 256 → cfF f = true → f / 128 * 128 + f % 2 = f := by decide +kernel
theorem own_read (k : Int) (f r c b p a m h d : Nat) (hf : f < 256) (hr : r < 18446744073709551616) (hc : c < 4294967296) (hb : b < 18446744073709551616) (hp : p < 65536) (ha : a < 65536) (hm : m < 65536) (hh : h < 65536) (hd : d < 65536) (hR : rightB k f r c b p a m h d = true) (C : List UInt8) :
    mE (bpB k f r c b p a m h d ++ C) = 0 ∧ Msg (bpB k f r c b p a m h d ++ C) k f r c b p a m h d := by
  rcases right_kind hR with rfl | rfl | rfl
  · have e : bpB 2 f r c b p a m h d = hdB 0 128 := rfl
    rw [e]
    obtain ⟨h1, h2⟩ := head_ok (v := 0) (t := 128) (by omega) (by omega) C (by decide)
    have h3 : kd (hdB 0 128 ++ C) = 2 := h2
    refine ⟨by unfold mE; rw [h1, h3]; rfl, .inl ?_⟩
    have hE : bpE 2 f r c b p a m h d 2 0 0 0 0 0 0 0 0 0 = true := hR
    obtain ⟨_, g1, g2, g3, g4, g5, g6, g7, g8, g9⟩ := bpE_true hE
    exact ⟨h3, rfl, by omega, by omega, by omega, by omega, by omega, by omega, by omega, by omega, by omega⟩
  · have hR2 : (cfF f && decide ((a : Int) < m)) = true := hR
    simp only [Bool.and_eq_true, decide_eq_true_eq] at hR2
    have e : bpB 1 f r c b p a m h d = bdB (hdB 0 0) f r c b p a m h d := rfl
    rw [e]
    generalize hL : bdB (hdB 0 0) f r c b p a m h d ++ C = L
    obtain ⟨e2, g1, g2, g3, g4, g5, g6, g7, g8, g9⟩ := body_facts 0 0 C f r c b p a m h d hf hr hc hb hp ha hm hh hd L hL.symm
    have hlen : 35 ≤ L.length := by rw [← hL, List.length_append, bdB_len, hdB_len]; omega
    obtain ⟨h1, h2⟩ := head_ok (v := 0) (t := 0) (by omega) (by omega) (lw f 1 1 ++ (lw r 8 8 ++ (lw c 4 4 ++ (lw b 8 8 ++ (lw p 2 2 ++ (lw a 2 2 ++ (lw m 2 2 ++ (lw h 2 2 ++ (lw d 2 2 ++ C))))))))) (by decide)
    rw [← e2] at h1 h2
    have h3 : kd L = 1 := h2
    refine ⟨?_, .inr ⟨by rw [h3]; decide, g2.symm, g3.symm, g4.symm, g5.symm, g6.symm, g7.symm, g8.symm, g9.symm, .inr ⟨by rw [h3]; exact fun x => absurd x.1 (by decide), rfl, by rw [g1, cut_same f hf hR2.1]⟩⟩⟩
    unfold mE
    rw [h1, h3, g6, g7, if_neg (by decide), if_neg (by decide), if_neg (by omega), if_neg (fun x => absurd x.1 (by decide)), if_pos (by omega)]
  · have hR2 : (roleOf (f : Int).toNat != 0 && decide ((a : Int) < m)) = true := hR
    simp only [Bool.and_eq_true, decide_eq_true_eq, bne_iff_ne, Int.toNat_natCast] at hR2
    have e : bpB 3 f r c b p a m h d = bdB (hdB 2 2) f r c b p a m h d ++ lw 0 1 1 := rfl
    rw [e, List.append_assoc]
    generalize hL : bdB (hdB 2 2) f r c b p a m h d ++ (lw 0 1 1 ++ C) = L
    obtain ⟨e2, g1, g2, g3, g4, g5, g6, g7, g8, g9⟩ := body_facts 2 2 (lw 0 1 1 ++ C) f r c b p a m h d hf hr hc hb hp ha hm hh hd L hL.symm
    have hlen : 36 ≤ L.length := by rw [← hL, List.length_append, bdB_len, hdB_len, List.length_append, lw_len]; omega
    obtain ⟨h1, h2⟩ := head_ok (v := 2) (t := 2) (by omega) (by omega) (lw f 1 1 ++ (lw r 8 8 ++ (lw c 4 4 ++ (lw b 8 8 ++ (lw p 2 2 ++ (lw a 2 2 ++ (lw m 2 2 ++ (lw h 2 2 ++ (lw d 2 2 ++ (lw 0 1 1 ++ C)))))))))) (by decide)
    rw [← e2] at h1 h2
    have h3 : kd L = 3 := h2
    refine ⟨?_, .inr ⟨by rw [h3]; decide, g2.symm, g3.symm, g4.symm, g5.symm, g6.symm, g7.symm, g8.symm, g9.symm, .inl ⟨h3, by rw [g1]; exact hR2.1, rfl, g1.symm⟩⟩⟩
    unfold mE
    rw [h1, h3, g6, g7, if_neg (by decide), if_neg (by decide), if_neg (by omega), if_neg (fun x => by omega), if_pos (by omega)]
end Go.Proofs.YtdhmiekheecicaaDoor
