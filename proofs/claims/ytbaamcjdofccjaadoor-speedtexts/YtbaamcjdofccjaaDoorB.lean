/- What readFloat of the library returns for a text of at most nineteen bytes: digits, with at most one point, a digit first; nothing else is assumed of the world. -/
import Derived.Test.YtbaamcjdofccjaaDoorA
namespace Go.Proofs.YtbaamcjdofccjaaDoor
open Go.RowKit

def mstep (m : Nat) (c : UInt8) : Nat := if c = 46 then m else 10 * m + (c.toNat - 48)
def mant (l : List UInt8) : Nat := l.foldl mstep 0
def hasDot (l : List UInt8) : Bool := l.any (· == 46)
def frac (l : List UInt8) : Nat := (l.dropWhile (· != 46)).length - 1
/-- A text of digits and at most one point, a digit first. -/
structure NumS (s : ByteArray) : Prop where
  pos : 1 ≤ s.size
  le : s.size ≤ 19
  all : ∀ k (h : k < s.size), dg s[k] = true ∨ s[k] = 46
  one : ∀ k (h : k < s.size), s[k] = 46 → hasDot (s.data.toList.take k) = false
  first : ∀ h : 0 < s.size, dg s[0] = true

theorem lower_num (c : UInt8) (w : World) (h : dg c = true ∨ c = 46) :
    Calls Tryd.prog 71 #[.int .u8 c.toNat] w fun e w' => e = .returned (.int .u8 c.toNat) ∧ w = w' := by
  have hb : bits BinOp.or IntKind.u8 (c.toNat : Int) 32 = (c.toNat : Int) := by
    have key : ∀ n : Fin 256, ((48 ≤ n.val ∧ n.val ≤ 57) ∨ n.val = 46) → bits BinOp.or IntKind.u8 (n.val : Int) 32 = (n.val : Int) := by decide +kernel
    refine key ⟨c.toNat, c.toNat_lt⟩ ?_
    rcases h with h | h
    · left; unfold dg at h; simp at h; show 48 ≤ c.toNat ∧ c.toNat ≤ 57; omega
    · right; rw [h]; rfl
  go_enter Tryd.func71, Tryd.ntmps71
  go_wp2
  go_ret
  exact ⟨by first | rfl | simp [hb], rfl⟩

theorem dg_b {c : UInt8} (h : dg c = true) : 48 ≤ (c.toNat : Int) ∧ (c.toNat : Int) ≤ 57 := by
  unfold dg at h; simp at h; omega
theorem mant_snoc (l : List UInt8) (c : UInt8) : mant (l ++ [c]) = mstep (mant l) c := by
  unfold mant; rw [List.foldl_append]; rfl
theorem hasDot_snoc (l : List UInt8) (c : UInt8) : hasDot (l ++ [c]) = (hasDot l || c == 46) := by
  unfold hasDot; simp
theorem frac_snoc (l : List UInt8) (c : UInt8) : frac (l ++ [c]) = if hasDot l = true then frac l + 1 else 0 := by
  unfold frac hasDot
  induction l with
  | nil => by_cases h : c = 46 <;> simp [List.dropWhile, h]
  | cons b l ih =>
    by_cases h : b = 46
    · simp [h]
    · simpa [List.dropWhile_cons, h] using ih
def RF (s : ByteArray) (k n : Nat) (a q : Int) (d g : Bool) : Prop :=
  a = (mant (s.data.toList.take k) : Int) ∧ mant (s.data.toList.take k) < 10 ^ n ∧ d = hasDot (s.data.toList.take k) ∧ g = decide (0 < k) ∧ (d = true → q = n - frac (s.data.toList.take k))
theorem RF_start (s : ByteArray) : RF s 0 0 0 0 false false := ⟨rfl, Nat.one_pos, rfl, rfl, fun h => by cases h⟩
theorem RF_dot {s : ByteArray} {k n : Nat} {a q : Int} {g : Bool} (H : NumS s) (h : k < s.size) (hd : s[k] = 46) (R : RF s k n a q false g) : RF s (k + 1) n a n true g := by
  obtain ⟨h1, h2, h3, h4, _⟩ := R
  have hk : 0 < k := by
    rcases Nat.eq_zero_or_pos k with e | e
    · subst e
      have := dg_b (H.first h)
      rw [hd] at this
      exact absurd this.1 (by decide)
    · exact e
  unfold RF
  rw [take_snoc s k h, mant_snoc, hasDot_snoc, frac_snoc, ← h3, hd]
  refine ⟨by simpa [mstep] using h1, by simpa [mstep] using h2, by simp, by rw [h4]; simp [hk], fun _ => by simp⟩
theorem RF_zero {s : ByteArray} {k : Nat} {a q : Int} {d g : Bool} (h : k < s.size) (hd : s[k] = 48) (R : RF s k 0 a q d g) : RF s (k + 1) 0 a (q - 1) d true := by
  obtain ⟨h1, h2, h3, h4, h5⟩ := R
  have hm : mant (s.data.toList.take k) = 0 := by simpa using h2
  unfold RF
  rw [take_snoc s k h, mant_snoc, hasDot_snoc, frac_snoc, hd, ← h3, hm]
  refine ⟨by rw [h1, hm]; rfl, by decide, by simp, by simp, fun e => ?_⟩
  rw [if_pos e, h5 e]; omega
theorem mul10 (n m : Nat) (c : Nat) (hc : c ≤ 9) (h : m < 10 ^ n) : 10 * m + c < 10 ^ (n + 1) := by
  rw [Nat.pow_succ]; omega
theorem RF_digit {s : ByteArray} {k n : Nat} {a q : Int} {d g : Bool} (h : k < s.size) (hd : dg s[k] = true) (R : RF s k n a q d g) : RF s (k + 1) (n + 1) (a * 10 + ((s[k].toNat : Int) - 48)) q d true := by
  obtain ⟨h1, h2, h3, h4, h5⟩ := R
  have hb := dg_b hd
  have hne : s[k] ≠ 46 := fun e => by rw [e] at hb; exact absurd hb.1 (by decide)
  unfold RF
  rw [take_snoc s k h, mant_snoc, hasDot_snoc, frac_snoc, ← h3]
  unfold mstep
  rw [if_neg hne]
  refine ⟨by rw [h1]; omega, mul10 n _ _ (by omega) h2, by simp [hne], by simp, fun e => ?_⟩
  rw [if_pos e, h5 e]; omega
theorem RF_bound {s : ByteArray} {k n : Nat} {a q : Int} {d g : Bool} (hn : n ≤ 18) (R : RF s k n a q d g) : a < 1000000000000000000 := by
  obtain ⟨h1, h2, _⟩ := R
  have : 10 ^ n ≤ 10 ^ 18 := Nat.pow_le_pow_right (by decide) hn
  have e : (10 : Nat) ^ 18 = 1000000000000000000 := by decide
  omega
theorem RF_dotfree {s : ByteArray} {k n : Nat} {a q : Int} {d g : Bool} (H : NumS s) (h : k < s.size) (hd : s[k] = 46) (R : RF s k n a q d g) : d = false := by
  rw [R.2.2.1]; exact H.one k h hd
theorem RF_g {s : ByteArray} {k n : Nat} {a q : Int} {d g : Bool} (h : 0 < k) (R : RF s k n a q d g) : g = true := by
  rw [R.2.2.2.1]; simp [h]
/-- What a text of a number is read as. -/
def rfEnd (s : ByteArray) : Ending := .returned (.tuple #[.int .u64 (mant s.data.toList), .int .i64 (if mant s.data.toList = 0 then 0 else -(frac s.data.toList : Int)), .bool false, .bool false, .bool false, .int .i64 s.size, .bool true])
theorem frac_none {l : List UInt8} (h : hasDot l = false) : frac l = 0 := by
  unfold frac; unfold hasDot at h
  have : l.dropWhile (· != 46) = [] := by
    induction l with
    | nil => rfl
    | cons b l ih =>
      simp at h
      have hb : ¬ b = 46 := h.1
      simp [hb]
      exact ih (by simp; exact h.2)
  rw [this]; rfl
theorem rfEnd_of {s : ByteArray} {k n : Nat} {a q : Int} {d g : Bool} (hk : k ≤ s.size) (hlt : ¬ k < s.size) (R : RF s k n a q d g) (x : Int) (hx : x = if a = 0 then 0 else if d = true then q - n else 0) :
    Ending.returned (.tuple #[.int .u64 a, .int .i64 x, .bool false, .bool false, .bool false, .int .i64 k, .bool true]) = rfEnd s := by
  obtain rfl : k = s.size := by omega
  obtain ⟨h1, _, h3, _, h5⟩ := R
  rw [List.take_of_length_le (by simp)] at h1 h3 h5
  have hm : (mant s.data.toList = 0) ↔ a = 0 := by omega
  have e : x = if mant s.data.toList = 0 then 0 else -(frac s.data.toList : Int) := by
    rw [hx]
    by_cases h0 : a = 0
    · rw [if_pos h0, if_pos (hm.2 h0)]
    · rw [if_neg h0, if_neg (fun h => h0 (hm.1 h))]
      cases d
      · rw [frac_none h3.symm]; rfl
      · rw [if_pos rfl, h5 rfl]; omega
  unfold rfEnd
  rw [e, h1]
set_option maxRecDepth 100000 in
set_option maxHeartbeats 4000000 in
theorem readFloat_num (s : ByteArray) (w : World) (H : NumS s) :
    Calls Tryd.prog 53 #[.string s] w fun e w' => e = rfEnd s ∧ w = w' := by
  have hp := H.pos
  have hl := H.le
  have h0 := dg_b (H.first (by omega))
  obtain ⟨h01, h02⟩ := h0
  have l1 : ∀ h : 1 < s.size, Hid (dg s[1] = true ∨ s[1] = 46) := fun h => Lib.hid (H.all 1 h)
  have L1 := Lib.hid l1
  clear l1
  have hE : ¬ s = ByteArray.empty := by
    intro h; rw [h] at hp; exact absurd hp (by decide)
  have h0s : 0 < s.size := by omega
  have cs : (2 < s.size ∧ ((s[0].toNat : Int) == 48) = true) ∨ (2 < s.size ∧ ((s[0].toNat : Int) == 48) = false) ∨ ¬ 2 < s.size := by
    by_cases h2 : 2 < s.size
    · by_cases h3 : ((s[0].toNat : Int) == 48) = true
      · exact .inl ⟨h2, h3⟩
      · exact .inr (.inl ⟨h2, by simpa using h3⟩)
    · exact .inr (.inr h2)
  rcases cs with ⟨h2, h3'⟩ | ⟨h2, h3'⟩ | h2
  focus
    have lo := lower_num s[1] w (L1.out (by omega)).out
    have hx : ((s[1].toNat : Int) == 120) = false := by
      rcases (L1.out (by omega)).out with h | h
      · have := dg_b h; simp; omega
      · rw [h]; rfl
    clear h01 h02
    go_enter Tryd.func53, Tryd.ntmps53
    go_wp2
    go_step3
    go_wp2_with (go_at_call 71; refine lo.mono ?_; rintro e w' ⟨rfl, rfl⟩)
    clear lo hx h3'
    go_step3
    go_wp2
  rotate_left
  focus
    go_enter Tryd.func53, Tryd.ntmps53
    go_wp2
    go_step3
    go_wp2
    go_step3
    go_wp2
    clear h01 h02 h3'
  rotate_left
  focus
    go_enter Tryd.func53, Tryd.ntmps53
    go_wp2
    go_step3
    go_wp2
    go_step3
    go_wp2
    clear h01 h02
  all_goals
    go_loop [2, 5, 7, 9, 13, 14, 15, 16, 17] (fun m t i u sd sg nd ndm dp => ∃ (k n : Nat) (a q : Int) (d g : Bool), k ≤ s.size ∧ n ≤ k ∧ 0 ≤ a ∧ -(k : Int) ≤ q ∧ q ≤ k ∧ Hid (RF s k n a q d g) ∧ m = .int .u64 a ∧ t = .bool false ∧ i = .int .i64 k ∧ u = .bool false ∧ sd = .bool d ∧ sg = .bool g ∧ nd = .int .i64 n ∧ ndm = .int .i64 n ∧ dp = .int .i64 q) (fun _ _ i _ _ _ _ _ _ => s.size - (intOf i).toNat)
    case atStart => exact ⟨0, 0, 0, 0, false, false, by omega, by omega, by omega, by omega, by omega, Lib.hid (RF_start s), rfl, rfl, rfl, rfl, rfl, rfl, rfl, rfl, rfl⟩
    case round =>
      obtain ⟨k, n, a, q, d, g, hk, hnk, ha, hq1, hq2, R, rfl, rfl, rfl, rfl, rfl, rfl, rfl, rfl, rfl⟩ := hrel
      by_cases hlt : k < s.size
      · have hk18 : n ≤ 18 := by omega
        have hab := RF_bound hk18 R.out
        by_cases hdot : s[k] = 46
        · obtain rfl : false = d := (RF_dotfree H hlt hdot R.out).symm
          have R2 := Lib.hid (RF_dot H hlt hdot R.out)
          have hb1 : 46 ≤ (s[k].toNat : Int) := by rw [hdot]; decide
          have hb2 : (s[k].toNat : Int) ≤ 46 := by rw [hdot]; decide
          clear hdot R
          go_wp2
          go_round
          case rel => exact ⟨k + 1, n, a, n, true, g, by omega, by omega, ha, by omega, by omega, R2, rfl, rfl, by go_num, rfl, rfl, rfl, rfl, rfl, rfl⟩
          case measure => simp [intOf]; omega
        · have hdg : dg s[k] = true := (H.all k hlt).resolve_right hdot
          have hb := dg_b hdg
          obtain ⟨hb1, hb2⟩ := hb
          have HD := Lib.hid hdg
          clear hdot hdg
          by_cases hz : s[k] = 48 ∧ n = 0
          · obtain ⟨hz1, hz2⟩ := hz
            subst hz2
            have R2 := Lib.hid (RF_zero hlt hz1 R.out)
            have hz3 : ((s[k].toNat : Int) == 48) = true := by rw [hz1]; rfl
            clear hz1 R
            go_wp2
            go_round
            case rel => exact ⟨k + 1, 0, a, q - 1, d, true, by omega, by omega, ha, by omega, by omega, R2, rfl, rfl, by go_num, rfl, rfl, rfl, rfl, rfl, rfl⟩
            case measure => simp [intOf]; omega
          · have R2 := Lib.hid (RF_digit hlt HD.out R.out)
            have hzz : ((s[k].toNat : Int) == 48) = false ∨ (((s[k].toNat : Int) == 48) = true ∧ ((n : Int) == 0) = false) := by
              by_cases h : ((s[k].toNat : Int) == 48) = true
              · refine .inr ⟨h, ?_⟩
                have h48 : s[k] = 48 := by
                  have : (s[k].toNat : Int) = 48 := by simpa using h
                  exact UInt8.toNat_inj.1 (by show s[k].toNat = 48; omega)
                have : n ≠ 0 := fun e => hz ⟨h48, e⟩
                simpa using this
              · exact .inl (by simpa using h)
            clear hz R
            rcases hzz with hz3 | ⟨hz3, hz4⟩
            all_goals
              go_wp2
              go_round
              case rel => exact ⟨k + 1, n + 1, a * 10 + ((s[k].toNat : Int) - 48), q, d, true, by omega, by omega, by omega, by omega, by omega, R2, rfl, rfl, by go_num, rfl, rfl, rfl, by go_num, by go_num, rfl⟩
              case measure => simp [intOf]; omega
      · have hg : true = g := (RF_g (by omega) R.out).symm
        subst hg
        by_cases ha0 : a = 0
        · have hab : (a != 0) = false := by simp [ha0]
          have E := rfEnd_of hk hlt R.out 0 (by rw [if_pos ha0])
          have E' := Lib.hid E
          clear E ha0
          cases d
          all_goals
            go_wp2
            exact bodyPost_ret (v := .tuple #[.int .u64 a, .int .i64 0, .bool false, .bool false, .bool false, .int .i64 k, .bool true]) (by simp [results, Tryd.results53, go_sem]) rfl ⟨E'.out, rfl⟩
        · have hab : (a != 0) = true := by simp [ha0]
          cases d
          · have E := rfEnd_of hk hlt R.out 0 (by rw [if_neg ha0]; rfl)
            have E' := Lib.hid E
            clear E ha0
            go_wp2
            exact bodyPost_ret (v := .tuple #[.int .u64 a, .int .i64 0, .bool false, .bool false, .bool false, .int .i64 k, .bool true]) (by simp [results, Tryd.results53, go_sem]) rfl ⟨E'.out, rfl⟩
          · have E := rfEnd_of hk hlt R.out (q - n) (by rw [if_neg ha0]; rfl)
            have E' := Lib.hid E
            clear E ha0
            go_wp2
            exact bodyPost_ret (v := .tuple #[.int .u64 a, .int .i64 (q - n), .bool false, .bool false, .bool false, .int .i64 k, .bool true]) (by simp [results, Tryd.results53, go_sem]) rfl ⟨E'.out, rfl⟩
end Go.Proofs.YtbaamcjdofccjaaDoor
