/- Figures and numbers are each other's inverses: what the figures of a number read as; ident's Parse by cases of its text. -/
import Derived.Test.YtgeommhambkmgaaDoorU
namespace Go.Proofs.YtgeommhambkmgaaDoor
open Go.RowKit Go.Sort

/-- The number of small figures. -/
def hval : List UInt8 → Nat → Nat
  | [], n => n
  | c :: l, n => hval l (16 * n + (dval c.toNat).getD 0)
theorem hval_snoc : ∀ (l : List UInt8) (c : UInt8) (n : Nat), hval (l ++ [c]) n = 16 * hval l n + (dval c.toNat).getD 0
  | [], _, _ => rfl
  | _ :: l, c, _ => hval_snoc l c _
theorem hval_hexl (n : Nat) : hval (hexl n) 0 = n := by
  induction n using Nat.strongRecOn with
  | ind n ih =>
    by_cases h : n < 16
    · rw [hexl_small h]; simp [hval, dval_dchr h]
    · rw [hexl_step h, hval_snoc, ih _ (by omega), dval_dchr (by omega)]; simp; omega
/-- All are small figures. -/
def figs (l : List UInt8) : Prop := ∀ c ∈ l, (dval c.toNat).isSome = true
theorem figs_hexl (n : Nat) : figs (hexl n) := by
  induction n using Nat.strongRecOn with
  | ind n ih =>
    by_cases h : n < 16
    · rw [hexl_small h]; intro c hc; simp at hc; subst hc; rw [dval_dchr h]; rfl
    · rw [hexl_step h]
      intro c hc
      rcases List.mem_append.1 hc with hc | hc
      · exact ih _ (by omega) c hc
      · simp at hc; subst hc; rw [dval_dchr (by omega)]; rfl
theorem hexl_ne (n : Nat) : hexl n ≠ [] := by
  by_cases h : n < 16
  · rw [hexl_small h]; simp
  · rw [hexl_step h]; simp
/-- The first figure is 0 of a number's figures only where it is alone. -/
theorem hexl_head (n : Nat) : 0 < n → ∃ c l, hexl n = c :: l ∧ c ≠ 48 := by
  induction n using Nat.strongRecOn with
  | ind n ih =>
    intro h0
    by_cases h : n < 16
    · refine ⟨dchr n, [], hexl_small h, fun e => ?_⟩
      have := dval_dchr h
      rw [e] at this
      have : n = 0 := by simpa [dval] using this.symm
      omega
    · obtain ⟨c, l, h1, h2⟩ := ih (n / 16) (by omega) (by omega)
      exact ⟨c, l ++ [dchr (n % 16)], by rw [hexl_step h, h1]; rfl, h2⟩
/-- Figures as a number has them: some, all small, the first one not 0 unless alone. -/
def canon (l : List UInt8) : Prop := l ≠ [] ∧ figs l ∧ (1 < l.length → l.getD 0 0 ≠ 48)
theorem canon_hexl (n : Nat) : canon (hexl n) := by
  refine ⟨hexl_ne n, figs_hexl n, fun h => ?_⟩
  have h0 : 0 < n := by
    rcases Nat.eq_zero_or_pos n with rfl | h0
    · rw [hexl_small (by omega)] at h; simp at h
    · exact h0
  obtain ⟨c, l, h1, h2⟩ := hexl_head n h0
  rw [h1]; exact h2
theorem figs_snoc {l : List UInt8} {c : UInt8} (h : figs (l ++ [c])) : figs l ∧ ∃ v, dval c.toNat = some v :=
  ⟨fun x hx => h x (by simp [hx]), Option.isSome_iff_exists.1 (h c (by simp))⟩
theorem hval_up : ∀ (l : List UInt8) (n : Nat), n ≤ hval l n
  | [], _ => Nat.le_refl _
  | c :: l, n => by have := hval_up l (16 * n + (dval c.toNat).getD 0); simp only [hval]; omega
/-- Such figures are those of their number. -/
theorem hexl_hval (l : List UInt8) : canon l → hexl (hval l 0) = l := by
  generalize hk : l.length = k
  induction k generalizing l with
  | zero => intro h; exact absurd (List.eq_nil_of_length_eq_zero hk) h.1
  | succ k ih =>
    intro h
    obtain ⟨l', c, rfl⟩ : ∃ l' c, l = l' ++ [c] := ⟨_, _, (List.dropLast_concat_getLast h.1).symm⟩
    obtain ⟨hf, v, hv'⟩ := figs_snoc h.2.1
    have hv16 := dval_lt hv'
    have hlen : l'.length = k := by simpa using hk
    rw [hval_snoc, hv']
    simp only [Option.getD_some]
    cases l' with
    | nil => simp only [hval, Nat.mul_zero, Nat.zero_add]; rw [hexl_small hv16, dchr_dval hv']; rfl
    | cons a t =>
      have hca : canon (a :: t) := ⟨by simp, hf, fun _ => h.2.2 (by simp)⟩
      have hpos : 0 < hval (a :: t) 0 := by
        have hne : a ≠ 48 := h.2.2 (by simp)
        obtain ⟨u, hu⟩ := Option.isSome_iff_exists.1 (hf a (by simp))
        have hu0 : 0 < u := by
          rcases Nat.eq_zero_or_pos u with rfl | hp
          · exact absurd (dchr_dval hu).symm hne
          · exact hp
        have := hval_up t (16 * 0 + (dval a.toNat).getD 0)
        rw [hu] at this
        simp only [hval, hu, Option.getD_some] at this ⊢
        omega
      rw [hexl_step (by omega), show (16 * hval (a :: t) 0 + v) / 16 = hval (a :: t) 0 by omega, show (16 * hval (a :: t) 0 + v) % 16 = v by omega, ih _ hlen hca, dchr_dval hv']

theorem hv_of {c v : Nat} (h : dval c = some v) : hv c = some v := by
  unfold dval at h; unfold hv
  split at h
  · rw [if_pos ‹_›]; exact h
  · rw [if_neg ‹_›]
    split at h
    · rw [if_pos ‹_›]; exact h
    · cases h
theorem pu_figs : ∀ (l : List UInt8) (n : Nat), figs l → hval l n < 65536 → pu l n = some (hval l n)
  | [], _, _, _ => rfl
  | c :: l, n, h, hl => by
    obtain ⟨v, hv'⟩ := Option.isSome_iff_exists.1 (h c (by simp))
    have e : hval (c :: l) n = hval l (16 * n + v) := by simp [hval, hv']
    rw [e] at hl ⊢
    have := hval_up l (16 * n + v)
    have ih := pu_figs l (16 * n + v) (fun x hx => h x (by simp [hx])) hl
    simp only [pu, hv_of hv']
    rw [if_pos (by omega), ih]
theorem pu_lt : ∀ (l : List UInt8) (n m : Nat), n < 65536 → pu l n = some m → m < 65536
  | [], n, m, hn, h => by simp only [pu, Option.some.injEq] at h; omega
  | c :: l, n, m, hn, h => by
    simp only [pu] at h
    split at h
    · cases h
    · split at h
      · exact pu_lt l _ m ‹_› h
      · cases h
theorem puN_lt {l : List UInt8} {m : Nat} (h : puN l = some m) : m < 65536 := by
  unfold puN at h
  split at h
  · cases h
  · exact pu_lt l 0 m (by omega) h
theorem hval_lt : ∀ (l : List UInt8) (n : Nat), hval l n < (n + 1) * 16 ^ l.length
  | [], n => by simp [hval]
  | c :: l, n => by
    have h16 : (dval c.toNat).getD 0 < 16 := by
      cases h : dval c.toNat with
      | none => simp
      | some v => simpa using dval_lt h
    have ih := hval_lt l (16 * n + (dval c.toNat).getD 0)
    simp only [hval, List.length_cons, Nat.pow_succ]
    refine Nat.lt_of_lt_of_le ih ?_
    rw [Nat.mul_comm (16 ^ l.length) 16, ← Nat.mul_assoc]
    exact Nat.mul_le_mul_right _ (by omega)
theorem hval_small {l : List UInt8} (h : l.length ≤ 4) : hval l 0 < 65536 := by
  have h1 := hval_lt l 0
  have h2 : 16 ^ l.length ≤ 16 ^ 4 := Nat.pow_le_pow_right (by omega) h
  have h3 : (16 : Nat) ^ 4 = 65536 := rfl
  omega

theorem ofN_id {h : Nat} {x : Nat → Nat} (hx : ∀ i, x i < 256) : ∀ i, i < 6 → ofN (idN h x) i = x i := by
  have h0 := hx 0; have h1 := hx 1; have h2 := hx 2; have h3 := hx 3; have h4 := hx 4; have h5 := hx 5
  intro i hi
  unfold idN ofN
  rw [pref6]
  match i, hi with
  | 0, _ => simp only [Nat.reduceSub, Nat.reducePow]; omega
  | 1, _ => simp only [Nat.reduceSub, Nat.reducePow]; omega
  | 2, _ => simp only [Nat.reduceSub, Nat.reducePow]; omega
  | 3, _ => simp only [Nat.reduceSub, Nat.reducePow]; omega
  | 4, _ => simp only [Nat.reduceSub, Nat.reducePow]; omega
  | 5, _ => simp only [Nat.sub_self, Nat.pow_zero]; omega
theorem txt_congr {x y : Nat → Nat} (h : ∀ i, i < 6 → x i = y i) : txt x 6 = txt y 6 := by
  rw [txt_list, txt_list, h 0 (by omega), h 1 (by omega), h 2 (by omega), h 3 (by omega), h 4 (by omega), h 5 (by omega)]
theorem txt_ofTxt {r : List UInt8} (h : okTxt ⟨⟨r⟩⟩) : txt (macOf ⟨⟨r⟩⟩) 6 = r := by
  have := txt_of h
  simp only [Value.string.injEq, ByteArray.mk.injEq, Array.mk.injEq] at this
  exact this
theorem idT_id {n : Nat} {r : List UInt8} (hr : okTxt ⟨⟨r⟩⟩) : idT (idN n (macOf ⟨⟨r⟩⟩)) = hexl n ++ 45 :: r := by
  have e1 : idN n (macOf ⟨⟨r⟩⟩) / 281474976710656 = n := by
    have := pref6_lt (macOf_lt ⟨⟨r⟩⟩)
    unfold idN; omega
  unfold idT
  rw [e1, txt_congr (ofN_id (macOf_lt ⟨⟨r⟩⟩)), txt_ofTxt hr]
theorem figs_dash {a : List UInt8} (h : figs a) : ∀ b ∈ a, b ≠ 45 := by
  intro b hb e
  have := h b hb
  rw [e] at this
  exact absurd this (by decide)

/-- Is a text that of an identifier? -/
def idOk (l a r : List UInt8) : Prop := l = a ++ 45 :: r ∧ canon a ∧ a.length ≤ 4 ∧ okTxt ⟨⟨r⟩⟩
theorem parse5_good (l a r : List UInt8) (hl : l.length ≤ 1000) (h : idOk l a r) (w : World) (he : Env w) :
    Calls Tryd.prog 12 #[strV l] w fun e w' => e = .returned (.tuple #[.int .u64 (idN (hval a 0) (macOf ⟨⟨r⟩⟩)), .int .i64 0]) ∧ Below w.heap.size w w' := by
  obtain ⟨rfl, hc, ha, hr⟩ := h
  have hs := hval_small ha
  refine parse5_back _ a r true (fun w => cut_dash a r w (figs_dash hc.2.1) hl) (by omega) _ ?_ hs hr w he ?_
  · unfold puN; rw [if_neg hc.1]; exact pu_figs a 0 hc.2.1 hs
  · rw [idT_id hr, hexl_hval a hc]; simp
theorem parse5_bad (l : List UInt8) (hl : l.length ≤ 1000) (h : ¬ ∃ a r, idOk l a r) (w : World) (he : Env w) (hE : Errs w) :
    Calls Tryd.prog 12 #[strV l] w fun e w' => e = .returned (.tuple #[.int .u64 0, .int .i64 3]) ∧ Below w.heap.size w w' := by
  rcases ib_cases 45 l with ⟨-, h2⟩ | ⟨a, r, rfl, h2, -⟩
  · have hc : Cuts l l [] false := fun w => cut_not l w h2
    cases hn : puN l with
    | none => exact parse5_num l l [] false hc hl hn w hE
    | some n => exact parse5_mac l l [] false hc hl n hn (fun h => absurd h.1 (by decide)) w
  · have hc : Cuts (a ++ 45 :: r) a r true := fun w => cut_dash a r w h2 hl
    have hla : a.length ≤ 1000 := by simp at hl; omega
    cases hn : puN a with
    | none => exact parse5_num _ a r true hc hla hn w hE
    | some n =>
      have hn2 := puN_lt hn
      by_cases hr : okTxt ⟨⟨r⟩⟩
      · cases hT : (idT (idN n (macOf ⟨⟨r⟩⟩)) == a ++ 45 :: r) with
        | true =>
          exfalso
          have hT' := eq_of_beq hT
          rw [idT_id hr] at hT'
          have : hexl n = a := List.append_cancel_right hT'
          exact h ⟨a, r, rfl, this ▸ canon_hexl n, this ▸ hexl_len 3 n (by omega), hr⟩
        | false => exact parse5_other _ a r true hc hla n hn hn2 hr w he hT
      · exact parse5_mac _ a r true hc hla n hn hr w
end Go.Proofs.YtgeommhambkmgaaDoor
