/- A text cut at its first dash: the contracts of strings.Cut and of what it calls; conditions: texts no longer than the model holds. -/
import Derived.Test.YtgeommhambkmgaaDoorM
import Derived.Lib.Bytealg
namespace Go.Proofs.YtgeommhambkmgaaDoor
open Go.RowKit Go.Sort

theorem run_ibs (s : ByteArray) (c : Int) (w : World) : (callFunc 65 #[.string s, .int .u8 c]).run Tryd.prog w = .ok (.value (.int .i64 (firstIdx s c.toNat.toUInt8))) w := by
  rw [run_callFunc_extern (e := Extern.BytealgIndexByte.indexByte) Tryd.func65 (by kernel_rfl) (by kernel_rfl) (by kernel_rfl) (by kernel_rfl)]
  rw [run_indexByte_string]; rfl
theorem idxByte_any (s : ByteArray) (c : Int) (w : World) :
    Calls Tryd.prog 56 #[.string s, .int .u8 c] w fun e w' => e = .returned (.int .i64 (firstIdx s c.toNat.toUInt8)) ∧ w = w' := by
  have hx := run_ibs s c
  go_enter Tryd.func56, Tryd.ntmps56
  go_wp2
  go_ret
  exact ⟨rfl, rfl⟩
theorem fi_dash (s : ByteArray) (h : ([45] == s.toList) = true) : firstIdx s 45 = 0 := by
  have h1 : [45] = s.data.toList := by rw [← ByteArray.toList_eq]; exact eq_of_beq h
  rw [Lib.firstIdx_eq, ← h1]; rfl
theorem index_any (s : ByteArray) (w : World) :
    Calls Tryd.prog 43 #[.string s, .string ⟨#[45]⟩] w fun e w' => e = .returned (.int .i64 (firstIdx s 45)) ∧ w = w' := by
  go_enter Tryd.func43, Tryd.ntmps43
  go_wp2_with (first | (go_at_call 56; refine (idxByte_any _ _ _).mono ?_; rintro e w' ⟨rfl, rfl⟩))
  · go_ret
    exact ⟨ret_int (fi_dash s ‹_›).symm, rfl⟩
  · go_ret
    exact ⟨rfl, rfl⟩
theorem cut_none (s : ByteArray) (w : World) (h : firstIdx s 45 = -1) :
    Calls Tryd.prog 32 #[.string s, .string ⟨#[45]⟩] w fun e w' => e = .returned (.tuple #[.string s, .string ⟨#[]⟩, .bool false]) ∧ w = w' := by
  have c := index_any s w
  rw [h] at c
  clear h
  go_enter Tryd.func32, Tryd.ntmps32
  go_wp2_with (first | (go_at_call 43; refine c.mono ?_; rintro e w' ⟨rfl, rfl⟩))
  go_ret3
  exact ⟨rfl, rfl⟩
theorem cut_some (s : ByteArray) (k : Nat) (w : World) (hs : s.size ≤ maxLen) (hk : k < s.size) (h : firstIdx s 45 = k) :
    Calls Tryd.prog 32 #[.string s, .string ⟨#[45]⟩] w fun e w' => e = .returned (.tuple #[.string (s.extract 0 k), .string (s.extract (k + 1) s.size), .bool true]) ∧ ∃ n, w' = w.drewN n := by
  unfold maxLen at hs
  have c := index_any s w
  rw [h] at c
  clear h
  go_enter Tryd.func32, Tryd.ntmps32
  go_wp2_with (first | (go_at_call 43; refine c.mono ?_; rintro e w' ⟨rfl, rfl⟩))
  have hw1 : IntKind.i64.wrap ((k : Int) + 1) = (k : Int) + 1 := IntWalk.i64_in _ (by omega)
  have hw0 : (0 : Int) ≤ (k : Int) + 1 := by omega
  have hw2 : ((k : Int) + 1).toNat = k + 1 := by omega
  go_quiet (fail)
  clear hw1 hw0 hw2
  go_wp2
  go_ret3
  exact ⟨rfl, _, rfl⟩
theorem cuts_none (s : ByteArray) (w : World) (h : firstIdx s 45 = -1) :
    Calls Tryd.prog 24 #[.string s, .string ⟨#[45]⟩] w fun e w' => e = .returned (.tuple #[.string s, .string ⟨#[]⟩, .bool false]) ∧ Below w.heap.size w w' := by
  have c := cut_none s w h
  clear h
  go_enter Tryd.func24, Tryd.ntmps24
  go_wp2_with (first | (go_at_call 32; refine c.mono ?_; rintro e w' ⟨rfl, rfl⟩))
  go_ret3
  exact ⟨rfl, Below.refl _ _⟩
theorem cuts_some (s : ByteArray) (k : Nat) (w : World) (hs : s.size ≤ maxLen) (hk : k < s.size) (h : firstIdx s 45 = k) :
    Calls Tryd.prog 24 #[.string s, .string ⟨#[45]⟩] w fun e w' => e = .returned (.tuple #[.string (s.extract 0 k), .string (s.extract (k + 1) s.size), .bool true]) ∧ Below w.heap.size w w' := by
  have c := cut_some s k w hs hk h
  clear h
  go_enter Tryd.func24, Tryd.ntmps24
  go_wp2_with (first | (go_at_call 32; refine c.mono ?_; rintro e w' ⟨rfl, n, rfl⟩))
  go_ret3
  exact ⟨rfl, below_drewN _ _ _⟩

theorem ib_cases (c : UInt8) : ∀ l : List UInt8, (Lib.indexByte l c = -1 ∧ ∀ b ∈ l, b ≠ c) ∨ ∃ a r, l = a ++ c :: r ∧ (∀ b ∈ a, b ≠ c) ∧ Lib.indexByte l c = a.length
  | [] => .inl ⟨rfl, by simp⟩
  | b :: l => by
    by_cases hb : b = c
    · exact .inr ⟨[], l, by simp [hb], by simp, by simp [Lib.indexByte, hb]⟩
    · rcases ib_cases c l with ⟨h1, h2⟩ | ⟨a, r, h1, h2, h3⟩
      · refine .inl ⟨by simp [Lib.indexByte, hb, h1], ?_⟩
        intro x hx
        rcases List.mem_cons.1 hx with e | e
        · rw [e]; exact hb
        · exact h2 x e
      · refine .inr ⟨b :: a, r, by rw [h1]; rfl, ?_, ?_⟩
        · intro x hx
          rcases List.mem_cons.1 hx with e | e
          · rw [e]; exact hb
          · exact h2 x e
        · have hne : ¬ ((a.length : Int) = -1) := by omega
          simp [Lib.indexByte, hb, h3, hne]
theorem extract_pre (a r : List UInt8) : (⟨⟨a ++ r⟩⟩ : ByteArray).extract 0 a.length = ⟨⟨a⟩⟩ := by
  apply ByteArray.ext
  simp
theorem extract_post (a : List UInt8) (c : UInt8) (r : List UInt8) : (⟨⟨a ++ c :: r⟩⟩ : ByteArray).extract (a.length + 1) (⟨⟨a ++ c :: r⟩⟩ : ByteArray).size = ⟨⟨r⟩⟩ := by
  have e : (⟨⟨a ++ c :: r⟩⟩ : ByteArray).size = a.length + (r.length + 1) := by show (a ++ c :: r).length = _; simp
  rw [e]
  apply ByteArray.ext
  simp
  exact List.take_of_length_le (by omega)
/-- What Cut returns, of a text with a dash, and of one without. -/
theorem cut_dash (a r : List UInt8) (w : World) (ha : ∀ b ∈ a, b ≠ 45) (hl : (a ++ 45 :: r).length ≤ 1000) :
    Calls Tryd.prog 24 #[strV (a ++ 45 :: r), .string ⟨#[45]⟩] w fun e w' => e = .returned (.tuple #[strV a, strV r, .bool true]) ∧ Below w.heap.size w w' := by
  have hi : firstIdx (⟨⟨a ++ 45 :: r⟩⟩ : ByteArray) 45 = (a.length : Int) := by
    rw [Lib.firstIdx_eq]
    rcases ib_cases 45 (a ++ 45 :: r) with ⟨_, h2⟩ | ⟨a', r', h1, h2, h3⟩
    · exact absurd rfl (h2 45 (by simp))
    · have : a' = a := by
        clear h3 hl
        induction a generalizing a' with
        | nil => cases a' with
          | nil => rfl
          | cons x xs => simp at h1; exact absurd h1.1.symm (h2 x (by simp))
        | cons y ys ih => cases a' with
          | nil => simp at h1; exact absurd h1.1 (ha y (by simp))
          | cons x xs =>
            simp at h1
            rw [h1.1, ih (fun b hb => ha b (by simp [hb])) xs h1.2 (fun b hb => h2 b (by simp [hb]))]
      rw [show (⟨⟨a ++ 45 :: r⟩⟩ : ByteArray).data.toList = a ++ 45 :: r from rfl, h3, this]
  have c := cuts_some ⟨⟨a ++ 45 :: r⟩⟩ a.length w (by unfold maxLen; show (a ++ 45 :: r).length ≤ _; omega) (by show a.length < (a ++ 45 :: r).length; simp) hi
  rw [extract_pre, extract_post] at c
  exact c
theorem cut_not (l : List UInt8) (w : World) (ha : ∀ b ∈ l, b ≠ 45) :
    Calls Tryd.prog 24 #[strV l, .string ⟨#[45]⟩] w fun e w' => e = .returned (.tuple #[strV l, .string ⟨#[]⟩, .bool false]) ∧ Below w.heap.size w w' := by
  refine cuts_none ⟨⟨l⟩⟩ w ?_
  rw [Lib.firstIdx_eq]
  rcases ib_cases 45 l with ⟨h1, _⟩ | ⟨a', r', h1, h2, h3⟩
  · exact h1
  · exact absurd rfl (ha 45 (by rw [h1]; simp))
end Go.Proofs.YtgeommhambkmgaaDoor
