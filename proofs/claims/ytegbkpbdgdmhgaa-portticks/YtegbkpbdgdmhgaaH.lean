/- Contracts of countDown and of Tick: each of nine numbers of a port is one less, if it is above 0. -/
import Derived.Test.YtegbkpbdgdmhgaaG
namespace Go.Proofs.Ytegbkpbdgdmhgaa
open Go.RowKit Go.Sort

/-- One less, if it is above 0. -/
def dn (n : Int) : Int := if 0 < n then wrap64 (n - 1) else n
/-- The first k of the numbers, each one less. -/
def tks (t : Nat → Int) (k : Nat) : List Value := (List.range k).map fun i => .int .i64 (dn (t i))
theorem tks_succ (t : Nat → Int) (k : Nat) : tks t (k + 1) = tks t k ++ [.int .i64 (dn (t k))] := by simp [tks, List.range_succ]
theorem tks_len (t : Nat → Int) (k : Nat) : (tks t k).length = k := by simp [tks]
theorem meas_next {n k : Nat} (h : k < n) : n - (intOf (.int .i64 ((k + 1 : Nat) : Int))).toNat < n - (intOf (.int .i64 (k : Int))).toNat := by simp [intOf]; omega
theorem idx65 (g n c k : Nat) (h : k < n) (w : World) : (Instr.indexAt 65 (.slice (some ⟨g, 0, none⟩) n c) (.int .i64 k)).run Try.prog w = .ok (.pointer (some ⟨g, k, none⟩)) w := by
  go_simp
theorem count_any (g n pb o : Nat) (t : Nat → Int) (A : Array Value) (w : World) (hg : ∀ k, k < n → w.cell? ⟨g, k, none⟩ = some (.pointer (some ⟨pb, o + k, none⟩))) (hv : VarAt w pb A 49) (hA : ∀ k, k < n → A[o + k]? = some (.int .i64 (t k))) (hne : g ≠ pb) (hn : n ≤ 9) :
    Calls Try.prog 27 #[.slice (some ⟨g, 0, none⟩) n n] w fun e w' => e = .returned (.tuple #[]) ∧ VarAt w' pb (putL A o (tks t n)) 49 ∧ Only pb w w' := by
  have HG := Lib.hid hg
  have HA := Lib.hid hA
  have HV := Lib.hid hv
  clear hg hA hv
  go_enter Try.func27, Try.ntmps27
  go_wp2_with fail
  go_loopw [6] (fun i wr => ∃ k : Nat, k ≤ n ∧ i = .int .i64 k ∧ VarAt wr pb (putL A o (tks t k)) 49 ∧ Only pb w wr) (fun i _ => n - (intOf i).toNat)
  case atStart => exact ⟨0, Nat.zero_le _, rfl, HV.out, Only.refl _ _⟩
  case round =>
    obtain ⟨k, hk, rfl, hvk, hok⟩ := hrel
    by_cases hlt : k < n
    · have c0 : wr.cell? ⟨g, k, none⟩ = some (.pointer (some ⟨pb, o + k, none⟩)) := by
        have h0 := HG.out k hlt
        have hl := block_lt_of_cell h0
        unfold World.cell? at h0 ⊢
        rw [hok.block g hl hne]; exact h0
      have i0 := idx65 g n n k hlt
      have c1 : wr.cell? ⟨pb, o + k, none⟩ = some (.int .i64 (t k)) := by
        rw [hvk.cell, putL_at, tks_len, if_neg (by omega)]; exact HA.out k hlt
      have fz := hvk.frozen
      have hs := Lib.hid (tks_succ t k)
      have HVK := Lib.hid hvk
      have HOK := Lib.hid hok
      have hd := Lib.hid (show dn (t k) = if 0 < t k then wrap64 (t k - 1) else t k from rfl)
      have hkeep := Lib.hid (show t k = dn (t k) → putL A o (tks t k ++ [.int .i64 (dn (t k))]) = putL A o (tks t k) from fun e => putL_keep _ _ _ _ (by rw [tks_len, ← e]; exact HA.out k hlt))
      clear hvk hok
      generalize t k = x at *
      by_cases hx : 0 < x
      · go_wp2_with fail
        refine ⟨⟨k + 1, by omega, by go_num, ?_, HOK.out.set _ _⟩, meas_next hlt⟩
        rw [hs.out, putL_snoc, tks_len, hd.out, if_pos hx]
        exact HVK.out.set _ _
      · go_wp2_with fail
        refine ⟨⟨k + 1, by omega, by go_num, ?_, HOK.out⟩, meas_next hlt⟩
        rw [hs.out, hkeep.out (by rw [hd.out, if_neg hx])]
        exact HVK.out
    · obtain rfl : k = n := by omega
      have HVK := Lib.hid hvk
      clear hvk
      go_wp2_with fail
      go_end0
      exact ⟨rfl, HVK.out, hok⟩
end Go.Proofs.Ytegbkpbdgdmhgaa
