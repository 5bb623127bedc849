/- What the document reading of a text (Parts) returns: the figures ahead of the point and behind it, and the letter, or that it is no text of a speed. -/
import Derived.Test.YtbaamcjdofccjaaDoorZc
namespace Go.Proofs.YtbaamcjdofccjaaDoor
open Go.RowKit

/-- What the document reading knows ahead of byte i: where the point is, and that the others are digits. -/
def Pre (s : ByteArray) (i : Nat) (p : Int) : Prop :=
  (p = -1 ∧ ∀ k (h : k < s.size), k < i → dg s[k] = true) ∨ ∃ q : Nat, p = q ∧ 0 < q ∧ q < i ∧ q + 2 < s.size ∧ (∃ h : q < s.size, s[q] = 46) ∧ ∀ k (h : k < s.size), k < i → k ≠ q → dg s[k] = true
theorem Pre_start (s : ByteArray) : Pre s 0 (-1) := .inl ⟨rfl, fun k _ hk => absurd hk (by omega)⟩
theorem Pre_digit {s : ByteArray} {i : Nat} {p : Int} (h : Pre s i p) (hi : i < s.size) (hd : dg s[i] = true) : Pre s (i + 1) p := by
  rcases h with ⟨h1, h2⟩ | ⟨q, h1, h2, h3, h4, h5, h6⟩
  · refine .inl ⟨h1, fun k hk hki => ?_⟩
    rcases Nat.lt_or_ge k i with a | a
    · exact h2 k hk a
    · obtain rfl : k = i := by omega
      exact hd
  · refine .inr ⟨q, h1, h2, by omega, h4, h5, fun k hk hki hne => ?_⟩
    rcases Nat.lt_or_ge k i with a | a
    · exact h6 k hk a hne
    · obtain rfl : k = i := by omega
      exact hd
theorem Pre_point {s : ByteArray} {i : Nat} {p : Int} (h : Pre s i p) (hp : p < 0) (hi : i < s.size) (hd : s[i] = 46) (h0 : 0 < i) (h2 : i + 2 < s.size) : Pre s (i + 1) i := by
  rcases h with ⟨h1, h2'⟩ | ⟨q, h1, _⟩
  · refine .inr ⟨i, rfl, h0, by omega, h2, ⟨hi, hd⟩, fun k hk hki hne => h2' k hk (by omega)⟩
  · omega
theorem Pre_ge {s : ByteArray} {i : Nat} {p : Int} (h : Pre s i p) : -1 ≤ p ∧ p ≤ s.size := by
  rcases h with ⟨h1, _⟩ | ⟨q, h1, _, _, h4, _⟩ <;> omega
theorem front_mem {s : ByteArray} {k : Nat} (hk : k + 1 < s.size) : (front s).data.toList[k]? = some (s[k]'(by omega)) := by
  rw [front_list, List.getElem?_take_of_lt (by omega), get_list s k (by omega)]
theorem Pre_fail {s : ByteArray} {i : Nat} {p : Int} (h : Pre s i p) (hi : i + 1 < s.size) (hd : dg (s[i]'(by omega)) = false) (hc : ¬ ((s[i]'(by omega)) = 46 ∧ p < 0 ∧ 0 < i ∧ i + 2 < s.size)) : numB (front s) = false := by
  rcases hnb : numB (front s) with _ | _
  · rfl
  · exfalso
    have hg := front_mem (s := s) (k := i) hi
    have hsz : (front s).data.toList.length = s.size - 1 := by rw [front_list]; simp
    rcases numB_of hnb with ⟨_, h1⟩ | ⟨a, r, h1, ha, hr, hda, hdr⟩
    · have := h1 _ (List.mem_of_getElem? hg)
      rw [hd] at this; cases this
    · have hap := List.length_pos_iff.2 ha
      have hrp := List.length_pos_iff.2 hr
      have hlen : s.size - 1 = a.length + (r.length + 1) := by rw [← hsz, h1]; simp
      rw [h1] at hg
      rcases Nat.lt_trichotomy i a.length with c | c | c
      · rw [List.getElem?_append_left c] at hg
        have := hda _ (List.mem_of_getElem? hg)
        rw [hd] at this; cases this
      · refine hc ⟨?_, ?_, by omega, by omega⟩
        · have x : (a ++ 46 :: r)[i]? = some 46 := by rw [c]; simp
          exact Option.some.inj (hg.symm.trans x)
        · rcases h with ⟨h1', _⟩ | ⟨q, h1', h2, h3, h4, ⟨hq, h5⟩, h6⟩
          · omega
          · exfalso
            have hg' := front_mem (s := s) (k := q) (by omega)
            rw [h1, List.getElem?_append_left (by omega)] at hg'
            have := hda _ (List.mem_of_getElem? hg')
            rw [h5, dg46] at this; cases this
      · rw [List.getElem?_append_right (by omega)] at hg
        obtain ⟨j, hj⟩ : ∃ j, i - a.length = j + 1 := ⟨i - a.length - 1, by omega⟩
        rw [hj, List.getElem?_cons_succ] at hg
        have := hdr _ (List.mem_of_getElem? hg)
        rw [hd] at this; cases this
theorem Pre_int {s : ByteArray} {i : Nat} {p : Int} (h : Pre s i p) (hp : p < 0) (hi : i + 1 = s.size) (h2 : 2 ≤ s.size) : (front s).data.toList ≠ [] ∧ ∀ c ∈ (front s).data.toList, dg c = true := by
  have hsz : (front s).data.toList.length = s.size - 1 := by rw [front_list]; simp
  rcases h with ⟨_, h1⟩ | ⟨q, h1, _⟩
  · refine ⟨fun e => by rw [e] at hsz; simp at hsz; omega, fun c hc => ?_⟩
    obtain ⟨k, hk, rfl⟩ := List.mem_iff_getElem.1 hc
    have hg := front_mem (s := s) (k := k) (by omega)
    rw [List.getElem?_eq_getElem hk] at hg
    rw [Option.some.inj hg]
    exact h1 k (by omega) (by omega)
  · omega
theorem Pre_dot {s : ByteArray} {i : Nat} {q : Nat} (h : Pre s i (q : Int)) (hi : i + 1 = s.size) : 0 < q ∧ q + 2 < s.size ∧ (front s).data.toList = s.data.toList.take q ++ 46 :: (s.data.toList.take (s.size - 1)).drop (q + 1) ∧
    (∀ c ∈ s.data.toList.take q, dg c = true) ∧ (∀ c ∈ (s.data.toList.take (s.size - 1)).drop (q + 1), dg c = true) := by
  rcases h with ⟨h1, _⟩ | ⟨q', h1, h2, h3, h4, ⟨hq, h5⟩, h6⟩
  · omega
  · obtain rfl : q = q' := by omega
    have hl : s.data.toList.length = s.size := by simp
    refine ⟨h2, h4, ?_, ?_, ?_⟩
    · rw [front_list]
      have e : (s.data.toList.take (s.size - 1)) = (s.data.toList.take (s.size - 1)).take q ++ (s.data.toList.take (s.size - 1)).drop q := (List.take_append_drop q _).symm
      have e2 : (s.data.toList.take (s.size - 1)).drop q = 46 :: (s.data.toList.take (s.size - 1)).drop (q + 1) := by
        have hlt : q < (s.data.toList.take (s.size - 1)).length := by simp; omega
        rw [List.drop_eq_getElem_cons hlt]
        congr 1
        have hg := get_list s q hq
        rw [h5] at hg
        have : (s.data.toList.take (s.size - 1))[q]? = some 46 := by rw [List.getElem?_take_of_lt (by omega)]; exact hg
        rw [List.getElem?_eq_getElem hlt] at this
        exact Option.some.inj this
      rw [e2, List.take_take, Nat.min_eq_left (by omega)] at e
      exact e
    · intro c hc
      obtain ⟨k, hk, rfl⟩ := List.mem_iff_getElem.1 hc
      simp at hk
      have hg := get_list s k (by omega)
      rw [List.getElem_take]
      rw [List.getElem?_eq_getElem (by omega)] at hg
      rw [Option.some.inj hg]
      exact h6 k (by omega) (by omega) (by omega)
    · intro c hc
      obtain ⟨k, hk, rfl⟩ := List.mem_iff_getElem.1 hc
      simp at hk
      rw [List.getElem_drop, List.getElem_take]
      have hg := get_list s (q + 1 + k) (by omega)
      rw [List.getElem?_eq_getElem (by omega)] at hg
      rw [Option.some.inj hg]
      exact h6 _ (by omega) (by omega) (by omega)

def pNo : Ending := .returned (.tuple #[.string ⟨#[]⟩, .string ⟨#[]⟩, .int .u8 0, .bool false])
set_option maxHeartbeats 400000 in
theorem parts_short (s : ByteArray) (w : World) (hs : s.size ≤ maxLen) (h : s.size < 2 ∨ 20 < s.size) :
    Calls Tryd.prog 18 #[.string s] w fun e w' => e = pNo ∧ w = w' := by
  unfold maxLen at hs
  rcases h with h | h
  all_goals
    go_enter Tryd.func18, Tryd.ntmps18
    go_wp2
    exact bodyPost_ret (v := .tuple #[.string ⟨#[]⟩, .string ⟨#[]⟩, .int .u8 0, .bool false]) (by simp [results, Tryd.results18, go_sem]) rfl ⟨rfl, rfl⟩
/-- What the document reading returns. -/
def PartsEnd (s : ByteArray) (h : 2 ≤ s.size) (w : World) (e : Ending) (w' : World) : Prop :=
  (numB (front s) = false ∧ e = pNo ∧ w = w') ∨
  (((front s).data.toList ≠ [] ∧ ∀ c ∈ (front s).data.toList, dg c = true) ∧ e = .returned (.tuple #[.string (front s), .string ⟨#[]⟩, .int .u8 (s[s.size - 1]'(by omega)).toNat, .bool (unitB (s[s.size - 1]'(by omega))).isSome]) ∧ w = w') ∨
  ∃ q : Nat, 0 < q ∧ q + 2 < s.size ∧ (front s).data.toList = s.data.toList.take q ++ 46 :: (s.data.toList.take (s.size - 1)).drop (q + 1) ∧ (∀ c ∈ s.data.toList.take q, dg c = true) ∧ (∀ c ∈ (s.data.toList.take (s.size - 1)).drop (q + 1), dg c = true) ∧
    e = .returned (.tuple #[.string (s.extract 0 q), .string (s.extract (q + 1) (s.size - 1)), .int .u8 (s[s.size - 1]'(by omega)).toNat, .bool (unitB (s[s.size - 1]'(by omega))).isSome]) ∧ ∃ n, w' = w.drewN n
theorem letter_cases (c : UInt8) : (((c.toNat : Int) == 75) = true ∧ (unitB c).isSome = true) ∨ (((c.toNat : Int) == 75) = false ∧ ((c.toNat : Int) == 77) = true ∧ (unitB c).isSome = true) ∨
    (((c.toNat : Int) == 75) = false ∧ ((c.toNat : Int) == 77) = false ∧ ((c.toNat : Int) == 71) = true ∧ (unitB c).isSome = true) ∨
    (((c.toNat : Int) == 75) = false ∧ ((c.toNat : Int) == 77) = false ∧ ((c.toNat : Int) == 71) = false ∧ ((c.toNat : Int) == 84) = true ∧ (unitB c).isSome = true) ∨
    (((c.toNat : Int) == 75) = false ∧ ((c.toNat : Int) == 77) = false ∧ ((c.toNat : Int) == 71) = false ∧ ((c.toNat : Int) == 84) = false ∧ (unitB c).isSome = false) := by
  unfold unitB
  by_cases h1 : c = 75
  · subst h1; exact .inl ⟨rfl, rfl⟩
  · have g1 : ((c.toNat : Int) == 75) = false := ne_toNat (by decide) h1
    rw [if_neg h1]
    by_cases h2 : c = 77
    · subst h2; exact .inr (.inl ⟨g1, rfl, rfl⟩)
    · have g2 : ((c.toNat : Int) == 77) = false := ne_toNat (by decide) h2
      rw [if_neg h2]
      by_cases h3 : c = 71
      · subst h3; exact .inr (.inr (.inl ⟨g1, g2, rfl, rfl⟩))
      · have g3 : ((c.toNat : Int) == 71) = false := ne_toNat (by decide) h3
        rw [if_neg h3]
        by_cases h4 : c = 84
        · subst h4; exact .inr (.inr (.inr (.inl ⟨g1, g2, g3, rfl, rfl⟩)))
        · have g4 : ((c.toNat : Int) == 84) = false := ne_toNat (by decide) h4
          rw [if_neg h4]
          exact .inr (.inr (.inr (.inr ⟨g1, g2, g3, g4, rfl⟩)))
set_option maxRecDepth 100000 in
set_option maxHeartbeats 4000000 in
theorem parts_any (s : ByteArray) (w : World) (h1 : 2 ≤ s.size) (h2 : s.size ≤ 20) : Calls Tryd.prog 18 #[.string s] w (PartsEnd s h1 w) := by
  go_enter Tryd.func18, Tryd.ntmps18
  go_wp2
  go_loop [7, 8] (fun p i => ∃ (k : Nat) (q : Int), k + 1 ≤ s.size ∧ i = .int .i64 k ∧ p = .int .i64 q ∧ -1 ≤ q ∧ q ≤ s.size ∧ Hid (Pre s k q)) (fun _ i => s.size - (intOf i).toNat)
  case atStart => exact ⟨0, -1, by omega, rfl, rfl, by omega, by omega, Lib.hid (Pre_start s)⟩
  case round =>
    obtain ⟨k, q, hk, rfl, rfl, hq1, hq2, HP⟩ := hrel
    by_cases hlt : k + 1 < s.size
    · by_cases h46 : s[k] = 46
      · have hb1 : 46 ≤ (s[k].toNat : Int) := by rw [h46]; decide
        have hb2 : (s[k].toNat : Int) ≤ 46 := by rw [h46]; decide
        by_cases hg : q < 0 ∧ 0 < k ∧ k + 2 < s.size
        · obtain ⟨g1, g2, g3⟩ := hg
          have P2 := Lib.hid (Pre_point HP.out g1 (by omega) h46 g2 g3)
          clear h46
          go_wp2
          go_round
          case rel => exact ⟨k + 1, k, by omega, by go_num, rfl, by omega, by omega, P2⟩
          case measure => simp [intOf]; omega
        · have F := Lib.hid (Pre_fail HP.out hlt (by rw [h46]; exact dg46) (fun h => hg h.2))
          have cs : 0 ≤ q ∨ (q < 0 ∧ k = 0) ∨ (q < 0 ∧ 0 < k ∧ s.size ≤ k + 2) := by omega
          clear h46 hg
          rcases cs with c1 | ⟨c1, rfl⟩ | ⟨c1, c2, c3⟩
          all_goals
            go_wp2
            exact bodyPost_ret (v := .tuple #[.string ⟨#[]⟩, .string ⟨#[]⟩, .int .u8 0, .bool false]) (by simp [results, Tryd.results18, go_sem]) rfl (.inl ⟨F.out, rfl, rfl⟩)
      · have hne : ((s[k].toNat : Int) == 46) = false := ne_toNat (by decide) h46
        cases hd : dg s[k]
        · have F := Lib.hid (Pre_fail HP.out hlt hd (fun h => h46 h.1))
          have cs : (s[k].toNat : Int) < 48 ∨ 57 < (s[k].toNat : Int) := by
            unfold dg at hd
            simp only [Bool.and_eq_false_iff, decide_eq_false_iff_not] at hd
            omega
          clear h46 hd
          rcases cs with c1 | c1
          all_goals
            go_wp2
            exact bodyPost_ret (v := .tuple #[.string ⟨#[]⟩, .string ⟨#[]⟩, .int .u8 0, .bool false]) (by simp [results, Tryd.results18, go_sem]) rfl (.inl ⟨F.out, rfl, rfl⟩)
        · have P2 := Lib.hid (Pre_digit HP.out (by omega) hd)
          obtain ⟨d1, d2⟩ := dg_b hd
          clear h46 hd
          go_wp2
          go_round
          case rel => exact ⟨k + 1, q, by omega, by go_num, rfl, by omega, by omega, P2⟩
          case measure => simp [intOf]; omega
    · have hks : k + 1 = s.size := by omega
      by_cases hq : q < 0
      · have I := Lib.hid (Pre_int HP.out hq hks h1)
        clear HP hks
        rcases letter_cases (s[s.size - 1]'(by omega)) with ⟨l1, lu⟩ | ⟨l1, l2, lu⟩ | ⟨l1, l2, l3, lu⟩ | ⟨l1, l2, l3, l4, lu⟩ | ⟨l1, l2, l3, l4, lu⟩
        all_goals
          have LU := Lib.hid lu
          clear lu
          go_wp2
          exact bodyPost_ret (v := .tuple #[.string (s.extract 0 (s.size - 1)), .string ⟨#[]⟩, .int .u8 (s[s.size - 1]'(by omega)).toNat, .bool (unitB (s[s.size - 1]'(by omega))).isSome]) (by rw [LU.out]; simp [results, Tryd.results18, go_sem]) rfl (.inr (.inl ⟨I.out, rfl, rfl⟩))
      · obtain ⟨Q, rfl⟩ := Int.eq_ofNat_of_zero_le (show 0 ≤ q by omega)
        have D := Pre_dot HP.out hks
        have hQ2 := D.2.1
        have I := Lib.hid D
        clear HP hks D
        rcases letter_cases (s[s.size - 1]'(by omega)) with ⟨l1, lu⟩ | ⟨l1, l2, lu⟩ | ⟨l1, l2, l3, lu⟩ | ⟨l1, l2, l3, l4, lu⟩ | ⟨l1, l2, l3, l4, lu⟩
        all_goals
          have LU := Lib.hid lu
          clear lu
          go_wp2
          have hw1 : IntKind.i64.wrap ((Q : Int) + 1) = (Q : Int) + 1 := IntWalk.i64_in _ (by omega)
          have hw0 : (0 : Int) ≤ (Q : Int) + 1 := by omega
          have hw2 : ((Q : Int) + 1).toNat = Q + 1 := by omega
          have hv1 : IntKind.i64.wrap ((s.size : Int) - 1) = (s.size : Int) - 1 := IntWalk.i64_in _ (by omega)
          have hv2 : ((s.size : Int) - 1).toNat = s.size - 1 := by omega
          have hv3 : (Q : Int) + 1 ≤ (s.size : Int) - 1 := by omega
          have hv4 : Q + 1 ≤ s.size - 1 := by omega
          go_quiet (fail)
          clear hw1 hw0 hw2 hv1 hv2 hv3 hv4
          go_wp2
          exact bodyPost_ret (v := .tuple #[.string (s.extract 0 Q), .string (s.extract (Q + 1) (s.size - 1)), .int .u8 (s[s.size - 1]'(by omega)).toNat, .bool (unitB (s[s.size - 1]'(by omega))).isSome]) (by rw [LU.out]; simp [results, Tryd.results18, go_sem]) rfl (.inr (.inr ⟨Q, I.out.1, I.out.2.1, I.out.2.2.1, I.out.2.2.2.1, I.out.2.2.2.2, rfl, _, rfl⟩))
end Go.Proofs.YtbaamcjdofccjaaDoor
