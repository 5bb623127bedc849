/- The reference: a kind's words, what the others are, figures, numbers. -/
import Derived.Test.YtlmdpaemhjcmbaaDoorWh
namespace Go.Proofs.YtlmdpaemhjcmbaaDoor
open Go.RowKit Go.Sort Go.Lib

set_option maxRecDepth 20000 in
theorem words_cells (w : World) : ∀ k : Nat, k < 15 → (w.alloc (.cells #[.string ⟨#[112, 114, 105, 111, 114, 105, 116, 121]⟩, .string ⟨#[109, 97, 120]⟩, .string ⟨#[104, 101, 108, 108, 111]⟩, .string ⟨#[100, 101, 108, 97, 121]⟩, .string ⟨#[104, 111, 108, 100]⟩, .string ⟨#[114, 115, 116, 112]⟩, .string ⟨#[97, 103, 101, 105, 110, 103]⟩, .string ⟨#[112, 111, 114, 116, 32, 112, 114, 105, 111, 114, 105, 116, 121]⟩, .string ⟨#[112, 111, 114, 116, 32, 99, 111, 115, 116]⟩, .string ⟨#[112, 111, 114, 116, 32, 101, 100, 103, 101]⟩, .string ⟨#[112, 111, 114, 116, 32, 97, 117, 116, 111]⟩, .string ⟨#[112, 111, 114, 116, 32, 108, 105, 110, 107]⟩, .string ⟨#[102, 105, 120]⟩, .string ⟨#[102, 111, 114, 103, 101, 116]⟩, .string ⟨#[112, 111, 114, 116, 32, 99, 104, 101, 99, 107]⟩] 9)).cell? ⟨w.heap.size, k, none⟩ = some (strV (hdT k)) := fun k hk => by
  rw [World.cell?_alloc_at _ _ _ _ rfl]
  match k, hk with
  | 0, _ => rfl
  | 1, _ => rfl
  | 2, _ => rfl
  | 3, _ => rfl
  | 4, _ => rfl
  | 5, _ => rfl
  | 6, _ => rfl
  | 7, _ => rfl
  | 8, _ => rfl
  | 9, _ => rfl
  | 10, _ => rfl
  | 11, _ => rfl
  | 12, _ => rfl
  | 13, _ => rfl
  | 14, _ => rfl
set_option maxRecDepth 20000 in
/-- A kind's first words. -/
theorem words_any (k : Nat) (hk : k < 15) (w : World) : Calls Tryd.prog 14 #[.int .i64 k] w fun e w' => e = .returned (strV (hdT k)) ∧ Below w.heap.size w w' := by
  have hc := words_cells w k hk
  have b0 := Lib.hid (box_below w (.cells #[.string ⟨#[112, 114, 105, 111, 114, 105, 116, 121]⟩, .string ⟨#[109, 97, 120]⟩, .string ⟨#[104, 101, 108, 108, 111]⟩, .string ⟨#[100, 101, 108, 97, 121]⟩, .string ⟨#[104, 111, 108, 100]⟩, .string ⟨#[114, 115, 116, 112]⟩, .string ⟨#[97, 103, 101, 105, 110, 103]⟩, .string ⟨#[112, 111, 114, 116, 32, 112, 114, 105, 111, 114, 105, 116, 121]⟩, .string ⟨#[112, 111, 114, 116, 32, 99, 111, 115, 116]⟩, .string ⟨#[112, 111, 114, 116, 32, 101, 100, 103, 101]⟩, .string ⟨#[112, 111, 114, 116, 32, 97, 117, 116, 111]⟩, .string ⟨#[112, 111, 114, 116, 32, 108, 105, 110, 107]⟩, .string ⟨#[102, 105, 120]⟩, .string ⟨#[102, 111, 114, 103, 101, 116]⟩, .string ⟨#[112, 111, 114, 116, 32, 99, 104, 101, 99, 107]⟩] 9))
  have hi := idx41 w.heap.size 15 15 k hk
  go_enter Tryd.func14, Tryd.ntmps14
  go_wp2
  go_ret
  exact ⟨rfl, b0.out⟩
set_option maxRecDepth 20000 in
theorem form_cells (w : World) : ∀ k : Nat, k < 15 → (w.alloc (.cells #[.string ⟨#[110]⟩, .string ⟨#[110]⟩, .string ⟨#[110]⟩, .string ⟨#[110]⟩, .string ⟨#[110]⟩, .string ⟨#[111]⟩, .string ⟨#[110]⟩, .string ⟨#[112, 110]⟩, .string ⟨#[112, 110]⟩, .string ⟨#[112, 111]⟩, .string ⟨#[112, 111]⟩, .string ⟨#[112, 108]⟩, .string ⟨#[109, 110]⟩, .string ⟨#[109]⟩, .string ⟨#[112]⟩] 9)).cell? ⟨w.heap.size, k, none⟩ = some (strV (fm k)) := fun k hk => by
  rw [World.cell?_alloc_at _ _ _ _ rfl]
  match k, hk with
  | 0, _ => rfl
  | 1, _ => rfl
  | 2, _ => rfl
  | 3, _ => rfl
  | 4, _ => rfl
  | 5, _ => rfl
  | 6, _ => rfl
  | 7, _ => rfl
  | 8, _ => rfl
  | 9, _ => rfl
  | 10, _ => rfl
  | 11, _ => rfl
  | 12, _ => rfl
  | 13, _ => rfl
  | 14, _ => rfl
set_option maxRecDepth 20000 in
/-- What its other words are. -/
theorem form_any (k : Nat) (hk : k < 15) (w : World) : Calls Tryd.prog 15 #[.int .i64 k] w fun e w' => e = .returned (strV (fm k)) ∧ Below w.heap.size w w' := by
  have hc := form_cells w k hk
  have b0 := Lib.hid (box_below w (.cells #[.string ⟨#[110]⟩, .string ⟨#[110]⟩, .string ⟨#[110]⟩, .string ⟨#[110]⟩, .string ⟨#[110]⟩, .string ⟨#[111]⟩, .string ⟨#[110]⟩, .string ⟨#[112, 110]⟩, .string ⟨#[112, 110]⟩, .string ⟨#[112, 111]⟩, .string ⟨#[112, 111]⟩, .string ⟨#[112, 108]⟩, .string ⟨#[109, 110]⟩, .string ⟨#[109]⟩, .string ⟨#[112]⟩] 9))
  have hi := idx41 w.heap.size 15 15 k hk
  go_enter Tryd.func15, Tryd.ntmps15
  go_wp2
  go_ret
  exact ⟨rfl, b0.out⟩

theorem digit_cut : ∀ d : Fin 10, ((⟨#[48, 49, 50, 51, 52, 53, 54, 55, 56, 57]⟩ : ByteArray).extract d.val (d.val + 1)).data.toList = [UInt8.ofNat (48 + d.val)] := by decide +kernel
theorem digit_ex (n : Nat) : (⟨#[48, 49, 50, 51, 52, 53, 54, 55, 56, 57]⟩ : ByteArray).extract (n % 10) (n % 10 + 1) = ⟨⟨[UInt8.ofNat (48 + n % 10)]⟩⟩ :=
  ByteArray.ext (Array.toList_inj.1 (digit_cut ⟨n % 10, by omega⟩))
set_option maxHeartbeats 1000000 in
theorem digits_any (n : Nat) (h : n ≤ 1073741824) (w : World) : Calls Tryd.prog 19 #[.int .i64 n] w fun e w' => e = .returned (strV (decDigits n)) ∧ w = w' := by
  induction n using Nat.strongRecOn generalizing w with
  | _ n ih =>
    have HX := Lib.hid (digit_ex n)
    by_cases h9 : n < 10
    · have HD := Lib.hid (decDigits_one h9)
      have hm : Hid (n % 10 = n) := Lib.hid (Nat.mod_eq_of_lt h9)
      go_enter Tryd.func19, Tryd.ntmps19
      go_wp2_with fail
      go_ret
      refine ⟨?_, rfl⟩
      show Ending.returned (.string ((⟨#[48, 49, 50, 51, 52, 53, 54, 55, 56, 57]⟩ : ByteArray).extract (n % 10) (n % 10 + 1))) = _
      rw [HX.out, HD.out, hm.out]
    · have HD := Lib.hid (dec_big h9)
      have e : Hid ((n : Int) / 10 = ((n / 10 : Nat) : Int)) := Lib.hid (by omega)
      have c := Lib.hid (fun w => ih (n / 10) (by omega) (by omega) w)
      have hl : (decDigits (n / 10)).length ≤ 10 := dig_len (by omega)
      clear ih
      generalize UInt8.ofNat (48 + n % 10) = u at *
      go_enter Tryd.func19, Tryd.ntmps19
      go_wp2_with fail
      rw [e.out]
      refine (c.out _).mono ?_
      rintro e w1 ⟨rfl, rfl⟩
      rw [HX.out]
      go_wp2_with fail
      go_ret
      refine ⟨?_, rfl⟩
      show Ending.returned (.string ((⟨⟨decDigits (n / 10)⟩⟩ : ByteArray) ++ ⟨⟨[u]⟩⟩)) = _
      rw [cat_data, ← HD.out]
/-- The first k figures. -/
theorem vf_take {l : List UInt8} {k : Nat} {c : UInt8} (h : l[k]? = some c) : vf 0 (l.take (k + 1)) = 10 * vf 0 (l.take k) + (c.toNat - 48) := by
  rw [List.take_add_one, h]; simp [vf_snoc]
theorem vf_bound : ∀ (l : List UInt8), (∀ c ∈ l, fig c) → ∀ a, vf a l < (a + 1) * 10 ^ l.length
  | [], _, a => by simp [vf]
  | c :: l, h, a => by
    have hc := h c (by simp)
    have ih := vf_bound l (fun d hd => h d (by simp [hd])) (10 * a + (c.toNat - 48))
    unfold fig at hc
    have h1 : (10 * a + (c.toNat - 48) + 1) * 10 ^ l.length ≤ (a + 1) * 10 * 10 ^ l.length := Nat.mul_le_mul_right _ (by omega)
    show vf (10 * a + (c.toNat - 48)) l < _
    rw [List.length_cons, Nat.pow_succ, Nat.mul_comm (10 ^ l.length) 10, ← Nat.mul_assoc]
    omega
/-- What the reference's number answers. -/
def numI (s : List UInt8) : Int := match num s with | some n => n | none => -1
theorem numI_not {s : List UInt8} (h : num s = none) : numI s = -1 := by unfold numI; rw [h]
theorem numI_some {s : List UInt8} {n : Nat} (h : num s = some n) : numI s = n := by unfold numI; rw [h]
theorem lat {s : List UInt8} {j : Nat} {c : UInt8} (h : s[j]? = some c) (w : World) : (Instr.index 9 (strV s) (.int .i64 j)).run Tryd.prog w = .ok (.int .u8 (c.toNat : Nat)) w := by
  have hl : j < s.length := (List.getElem?_eq_some_iff.1 h).1
  have := str_index ⟨⟨s⟩⟩ j hl w
  rw [this]
  have e : bt ⟨⟨s⟩⟩ j = c.toNat := by
    show (s.getD j 0).toNat = _
    rw [List.getD_eq_getElem?_getD, h]; rfl
  rw [e]
set_option maxHeartbeats 1000000 in
theorem number_any (s : List UInt8) (w : World) : Calls Tryd.prog 23 #[strV s] w fun e w' => e = .returned (.int .i64 (numI s)) ∧ w = w' := by
  by_cases h0 : s = []
  · have H := Lib.hid (numI_not (num_not (l := s) (Or.inl h0)))
    subst h0
    go_enter Tryd.func23, Tryd.ntmps23
    go_wp2_with fail
    go_ret
    exact ⟨by rw [H.out]; rfl, rfl⟩
  have q0 := lst_ne h0
  by_cases h10 : 10 < s.length
  · have H := Lib.hid (numI_not (num_not (l := s) (Or.inr (Or.inl h10))))
    have h10' : (10 : Int) < (s.length : Int) := by omega
    clear h0 h10
    go_enter Tryd.func23, Tryd.ntmps23
    go_wp2_with fail
    go_ret
    exact ⟨by rw [H.out]; rfl, rfl⟩
  have hn0 : 0 < s.length := List.length_pos_iff.2 h0
  obtain ⟨c0, hc0⟩ : ∃ c, s[0]? = some c := ⟨_, List.getElem?_eq_getElem hn0⟩
  have i0 : ∀ w, (Instr.index 9 (strV s) (.int .i64 0)).run Tryd.prog w = .ok (.int .u8 (c0.toNat : Nat)) w := lat hc0
  have hz0 : c0 = 48 ↔ c0.toNat = 48 := ⟨fun h => by rw [h]; rfl, fun h => UInt8.toNat_inj.1 h⟩
  have h10' : decide (10 < (s.length : Int)) = false := by simp; omega
  by_cases hz : 1 < s.length ∧ c0.toNat = 48
  · have H := Lib.hid (numI_not (num_not (l := s) (Or.inr (Or.inr (Or.inl ⟨hz.1, by rw [List.head?_eq_getElem?, hc0, hz0.2 hz.2]⟩)))))
    obtain ⟨h1, h2⟩ := hz
    rw [h2] at i0
    clear hz0 h2 hc0 h10 h0
    go_enter Tryd.func23, Tryd.ntmps23
    go_wp2_with fail
    go_ret
    exact ⟨by rw [H.out]; rfl, rfl⟩
  have hd : s.head? = some c0 := by rw [List.head?_eq_getElem?, hc0]
  have HNZ : Hid (¬ (1 < s.length ∧ s.head? = some 48)) := Lib.hid (by rw [hd]; intro h; exact hz ⟨h.1, hz0.1 (Option.some.inj h.2)⟩)
  have H0 := Lib.hid h0
  have hcs : (1 < s.length ∧ c0.toNat ≠ 48) ∨ s.length ≤ 1 := by
    by_cases h1 : 1 < s.length
    · exact Or.inl ⟨h1, fun h => hz ⟨h1, h⟩⟩
    · exact Or.inr (by omega)
  clear hd hc0 hz0 hz h0
  generalize c0.toNat = z at *
  have hL : s.length ≤ 10 := by omega
  clear h10
  rcases hcs with ⟨h1, h2⟩ | h1
  all_goals
    go_enter Tryd.func23, Tryd.ntmps23
    go_wp2_with fail
    clear i0
    go_loop [3, 4] (fun t i => ∃ k : Nat, k ≤ s.length ∧ i = .int .i64 k ∧ t = .int .i64 (vf 0 (s.take k)) ∧ ∀ c ∈ s.take k, fig c) (fun _ i => s.length - (RowKit.intOf i).toNat)
    case atStart => exact ⟨0, Nat.zero_le _, rfl, rfl, by simp⟩
    case round =>
      obtain ⟨k, hk, rfl, rfl, hfg⟩ := hrel
      have hV : vf 0 (s.take k) < 10000000000 := by
        have h3 := vf_bound (s.take k) hfg 0
        have h4 : (s.take k).length ≤ 10 := by rw [List.length_take]; omega
        have h5 : 10 ^ (s.take k).length ≤ 10 ^ 10 := Nat.pow_le_pow_right (by omega) h4
        omega
      have HF := Lib.hid hfg
      clear hfg
      by_cases hlt : k < s.length
      · obtain ⟨c, hc⟩ : ∃ c, s[k]? = some c := ⟨_, List.getElem?_eq_getElem hlt⟩
        have i1 : ∀ w, (Instr.index 9 (strV s) (.int .i64 k)).run Tryd.prog w = .ok (.int .u8 (c.toNat : Nat)) w := lat hc
        have hz := c.toNat_lt
        by_cases hfc : fig c
        · have HT := Lib.hid (vf_take hc)
          have HG : Hid (∀ d ∈ s.take (k + 1), fig d) := Lib.hid (by rw [List.take_add_one, hc]; intro d hd; rcases List.mem_append.1 hd with hd | hd; exact HF.out d hd; simp at hd; rw [hd]; exact hfc)
          have h48 : 48 ≤ c.toNat := hfc.1
          have h57 : c.toNat ≤ 57 := hfc.2
          generalize vf 0 (s.take k) = V at *
          generalize c.toNat = q at *
          clear hfc hc
          go_wp2_with fail
          have HV : Value.int .i64 (10 * (V : Int) + ((q : Int) - 48)) = .int .i64 (vf 0 (s.take (k + 1)) : Nat) := by rw [HT.out]; congr 1; omega
          first
            | exact ⟨⟨k + 1, by omega, by go_num, HV, HG.out⟩, meas_next hlt⟩
            | exact ⟨⟨_, _, _, ⟨k + 1, by omega, by go_num, HV, HG.out⟩, rfl, rfl, rfl⟩, meas_next hlt⟩
        · have H := Lib.hid (numI_not (num_not (l := s) (Or.inr (Or.inr (Or.inr (Or.inl ⟨c, List.mem_of_getElem? hc, hfc⟩))))))
          have hcc : c.toNat < 48 ∨ 57 < c.toNat := by unfold fig at hfc; omega
          generalize c.toNat = q at *
          clear hfc hc
          rcases hcc with hcc | hcc
          all_goals
            go_wp2_with fail
            go_ret
            exact ⟨by rw [H.out]; rfl, rfl⟩
      · have hkl : s.take k = s := List.take_of_length_le (by omega)
        rw [hkl] at HF hV ⊢
        have HLE := Lib.hid (fun h => numI_some (num_ref H0.out HNZ.out HF.out h))
        have HGT := Lib.hid (fun h => numI_not (num_not (l := s) (Or.inr (Or.inr (Or.inr (Or.inr h))))))
        generalize vf 0 s = V at *
        by_cases hm : V ≤ 1073741824
        · have H := Lib.hid (HLE.out hm)
          clear HLE HGT
          go_wp2_with fail
          go_ret
          exact ⟨by rw [H.out]; rfl, rfl⟩
        · have H := Lib.hid (HGT.out (by omega))
          clear HLE HGT
          go_wp2_with fail
          go_ret
          exact ⟨by rw [H.out]; rfl, rfl⟩
end Go.Proofs.YtlmdpaemhjcmbaaDoor
