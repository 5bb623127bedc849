/- Which command a text is, if it is one: what Parse and Text answer. -/
import Derived.Test.YtlmdpaemhjcmbaaGreatDoorDMc
namespace Go.Proofs.YtlmdpaemhjcmbaaGreatDoor.Cd
open Go.Lib

theorem pAs_head {k : Nat} (hk : k < 15) {ws : List (List UInt8)} {c : Cm} (h : pAs k ws = some c) : ∃ r, ws = hd k ++ r :=
  let ⟨r, hr, _⟩ := (go_lits _ _ fun p hp => (hd_long ⟨k, hk⟩ p hp).1).1 h
  ⟨r, hr⟩
theorem heads {j k : Nat} (hj : j < 15) (hk : k < 15) (hne : j ≠ k) (r q : List (List UInt8)) : hd j ++ r ≠ hd k ++ q := by
  intro e
  obtain ⟨i, h1, h2, h3⟩ := hd_apart ⟨j, hj⟩ ⟨k, hk⟩ (fun h => hne (Fin.mk.inj h))
  have e2 : (hd j ++ r)[i.val]? = (hd k ++ q)[i.val]? := by rw [e]
  have l1 : i.val < (hd j).length := by
    rw [Option.isSome_iff_exists] at h1
    obtain ⟨v, hv⟩ := h1
    exact (List.getElem?_eq_some_iff.1 hv).1
  have l2 : i.val < (hd k).length := by
    rw [Option.isSome_iff_exists] at h2
    obtain ⟨v, hv⟩ := h2
    exact (List.getElem?_eq_some_iff.1 hv).1
  rw [List.getElem?_append_left l1, List.getElem?_append_left l2] at e2
  exact h3 e2
/-- Whose first words these are, it alone may be. -/
theorem head_alone {j k : Nat} (hj : j < 15) (hk : k < 15) (hne : j ≠ k) {ws r : List (List UInt8)} (h : ws = hd k ++ r) : pAs j ws = none := by
  cases hp : pAs j ws with
  | none => rfl
  | some c =>
    obtain ⟨q, hq⟩ := pAs_head hj hp
    exact absurd (hq.symm.trans h) (heads hj hk hne _ _)
theorem apart {j k : Nat} (hj : j < 15) (hk : k < 15) {ws : List (List UInt8)} {c : Cm} (h : pAs k ws = some c) (hne : j ≠ k) : pAs j ws = none :=
  let ⟨_, hr⟩ := pAs_head hk h
  head_alone hj hk hne hr
open Classical in
/-- The command of these words. -/
noncomputable def PSw (ws : List (List UInt8)) : Option Cm := if h : ∃ c : Cm, ∃ k, k < 15 ∧ pAs k ws = some c then some (Classical.choose h) else none
theorem PSw_hit {k : Nat} (hk : k < 15) {ws : List (List UInt8)} {c : Cm} (h : pAs k ws = some c) : PSw ws = some c := by
  have he : ∃ c : Cm, ∃ k, k < 15 ∧ pAs k ws = some c := ⟨c, k, hk, h⟩
  unfold PSw
  rw [dif_pos he]
  obtain ⟨j, hj, hc⟩ := Classical.choose_spec he
  by_cases e : j = k
  · subst e; rw [h] at hc; exact hc.symm
  · rw [apart hj hk h e] at hc; cases hc
theorem PSw_none {ws : List (List UInt8)} (h : ∀ k, k < 15 → pAs k ws = none) : PSw ws = none := by
  unfold PSw
  rw [dif_neg]
  rintro ⟨c, k, hk, e⟩
  rw [h k hk] at e; cases e
theorem PSw_some {ws : List (List UInt8)} {c : Cm} (h : PSw ws = some c) : ∃ k, k < 15 ∧ pAs k ws = some c := by
  unfold PSw at h
  split at h
  · rename_i he
    have := Classical.choose_spec he
    rw [Option.some.inj h] at this
    exact this
  · cases h
/-- The command of a text. -/
noncomputable def PS (s : List UInt8) : Option Cm := if 80 < s.length then none else PSw (sp s)
/-- A command's text. -/
def wds (c : Cm) : List (List UInt8) := (pz c.wh.toNat).map (wd c)
def tx (c : Cm) : List UInt8 := join (wds c) [32]
theorem pz_ne (k : Nat) (hk : k < 15) : pz k ≠ [] := by
  intro h
  have h1 := (hd_len ⟨k, hk⟩).2
  have := congrArg List.length h
  unfold pz at this
  simp only [List.length_append, List.length_map, List.length_nil] at this
  simp only at h1; omega
theorem dchr_no : ∀ n : Fin 16, dchr n.val ≠ 32 := by decide +kernel
theorem txt_no {x : Nat → Nat} (h : ∀ i, x i < 256) : ∀ b ∈ txt x 6, b ≠ 32 := by
  intro b hb
  rw [txt_list] at hb
  have k1 : ∀ i, dchr (x i / 16) ≠ 32 := fun i => dchr_no ⟨x i / 16, by have := h i; omega⟩
  have k2 : ∀ i, dchr (x i % 16) ≠ 32 := fun i => dchr_no ⟨x i % 16, by omega⟩
  have k3 : (58 : UInt8) ≠ 32 := by decide
  simp only [List.mem_cons, List.not_mem_nil, or_false] at hb
  rcases hb with rfl | rfl | rfl | rfl | rfl | rfl | rfl | rfl | rfl | rfl | rfl | rfl | rfl | rfl | rfl | rfl | rfl <;> first | exact k1 _ | exact k2 _ | exact k3
theorem on_no (b : Bool) : (∀ d ∈ (if b then tOn else tOff), d ≠ 32) ∧ (if b then tOn else tOff).length ≤ 17 := by cases b <;> decide
theorem link_no (n : Int) : (∀ d ∈ linkT n, d ≠ 32) ∧ (linkT n).length ≤ 17 := by
  unfold linkT
  split
  · decide
  · split
    · decide
    · split <;> decide
theorem num_no {n : Int} (h0 : 0 ≤ n) (h1 : n ≤ 1073741824) : (∀ d ∈ itoa n, d ≠ 32) ∧ (itoa n).length ≤ 17 := by
  obtain ⟨m, rfl⟩ : ∃ m : Nat, n = m := ⟨n.toNat, by omega⟩
  rw [itoa_nat]
  exact ⟨dec_no m, Nat.le_trans (dig_len (by omega)) (by omega)⟩
theorem fm_mem : ∀ k : Fin 15, ∀ b ∈ fm k.val, b = 110 ∨ b = 111 ∨ b = 112 ∨ b = 108 ∨ b = 109 := by decide +kernel
theorem wd_no {c : Cm} (hc : Rt c) : ∀ w ∈ wds c, (∀ b ∈ w, b ≠ 32) ∧ w.length ≤ 17 := by
  obtain ⟨u1, u2, u3, u4, u5⟩ := ups
  have hk : c.wh.toNat < 15 := by have := hc.w0; have := hc.w1; omega
  intro w hw
  unfold wds pz at hw
  rw [List.map_append, map_hd ⟨_, hk⟩ c] at hw
  rcases List.mem_append.1 hw with hw | hw
  · exact ⟨hd_no ⟨_, hk⟩ w hw, Nat.le_trans (hd_long ⟨_, hk⟩ w hw).2 (by omega)⟩
  · simp only [List.map_map, List.mem_map, Function.comp_apply] at hw
    obtain ⟨b, hb, rfl⟩ := hw
    rcases fm_mem ⟨_, hk⟩ b hb with rfl | rfl | rfl | rfl | rfl
    · rw [u1, wdN]; exact num_no hc.nn0 hc.nn1
    · rw [u2, wdO]; exact on_no _
    · rw [u3, wdP]; exact num_no hc.po0 hc.po1
    · rw [u4, wdL]; exact link_no _
    · rw [u5, wdM]; exact ⟨txt_no hc.x0, txt_le _ _ (by omega)⟩
theorem pz_len (k : Nat) (hk : k < 15) : (pz k).length ≤ 4 := by
  have h1 := (hd_len ⟨k, hk⟩).1
  have h2 : (fm k).length ≤ 2 := by rcases fm_cases ⟨k, hk⟩ with e | e | e | e | e | e | e | e <;> simp only at e <;> rw [e] <;> decide
  simp only at h1
  unfold pz
  simp only [List.length_append, List.length_map]; omega
theorem lens_le {m : Nat} : ∀ (ws : List (List UInt8)), (∀ w ∈ ws, w.length ≤ m) → lens ws ≤ m * ws.length
  | [], _ => by simp [lens]
  | w :: ws, h => by
    have ih := lens_le ws fun v hv => h v (by simp [hv])
    have := h w (by simp)
    simp only [lens, List.map_cons, List.sum_cons, List.length_cons, Nat.mul_succ] at *
    omega
theorem join_len {m : Nat} (ws : List (List UInt8)) (h : ∀ w ∈ ws, w.length ≤ m) : (join ws [32]).length ≤ (m + 1) * ws.length := by
  cases ws with
  | nil => simp [join_nil]
  | cons w r =>
    rw [join_cons, List.length_append, joinTail_length]
    have h1 := h w (by simp)
    have h2 := lens_le r fun v hv => h v (by simp [hv])
    simp only [List.length_cons, List.length_nil, Nat.mul_succ, Nat.succ_mul] at *
    omega
theorem tx_len {c : Cm} (hc : Rt c) : (tx c).length ≤ 80 := by
  have hk : c.wh.toNat < 15 := by have := hc.w0; have := hc.w1; omega
  have h1 := join_len (m := 17) (wds c) fun w hw => (wd_no hc w hw).2
  have h2 : (wds c).length ≤ 4 := by unfold wds; rw [List.length_map]; exact pz_len _ hk
  have h3 : (17 + 1) * (wds c).length ≤ (17 + 1) * 4 := Nat.mul_le_mul_left _ h2
  unfold tx
  omega
theorem PS_tx {c : Cm} (hc : Rt c) : PS (tx c) = some c := by
  have hk : c.wh.toNat < 15 := by have := hc.w0; have := hc.w1; omega
  have hne : wds c ≠ [] := by unfold wds; intro h; exact pz_ne _ hk (List.map_eq_nil_iff.1 h)
  have hs : sp (tx c) = wds c := sp_join _ hne fun w hw => (wd_no hc w hw).1
  unfold PS
  rw [if_neg (by have := tx_len hc; omega), hs]
  exact PSw_hit hk (pAs_rt hk hc (by have := hc.w0; omega))
theorem PS_some {s : List UInt8} {c : Cm} (h : PS s = some c) : Rt c ∧ s = tx c ∧ s.length ≤ 80 := by
  unfold PS at h
  split at h
  · cases h
  · rename_i hl
    obtain ⟨k, hk, hp⟩ := PSw_some h
    obtain ⟨hw, hr, hs⟩ := pAs_ok hk hp
    refine ⟨hr, ?_, by omega⟩
    unfold tx wds
    rw [show c.wh.toNat = k by rw [hw]; simp, ← hs, join_sp]
theorem PS_not {c : Cm} (hc : ¬ Rt c) (s : List UInt8) : PS s ≠ some c := fun h => hc (PS_some h).1
end Go.Proofs.YtlmdpaemhjcmbaaGreatDoor.Cd
