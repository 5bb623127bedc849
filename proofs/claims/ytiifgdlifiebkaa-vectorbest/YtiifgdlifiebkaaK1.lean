/- VectorBest's call, where there is no vector. -/
import Derived.Test.YtiifgdlifiebkaaK
namespace Go.Proofs.Ytiifgdlifiebkaa
open Go.RowKit Go.Sort

set_option maxRecDepth 20000 in
set_option maxHeartbeats 2000000 in
theorem vbest_none (a : Option Addr) (b' o' n n' c c' : Nat) (Q : Nat → Nat) (w : World) (hn : n = 0) (hm : 0 < n') (hn100 : n ≤ 100) (hm100 : n' ≤ 100) (hq : Qs w b' o' n' Q) :
    Calls Try.prog 5 #[.slice (a) n c, .slice (some ⟨b', o', none⟩) n' c'] w fun e w' => e = .returned (.bool true) ∧ Below w.heap.size w w' := by
  have HQ := Lib.hid hq
  have LQ := Lib.hid (hq.lt (by omega))
  clear hq
  obtain ⟨i0, hi, hz0, hz1, hz2⟩ := info_parts info26
  go_enter Try.func5, Try.ntmps5
  go_wp2_with fail
  refine (lives_any _).mono ?_
  rintro e w1 ⟨rfl, hb⟩
  have HB := Lib.hid hb
  clear hb
  go_wp2
  go_loopw [5, 27] (fun v i wr => ∃ k : Nat, k ≤ n' ∧ i = .int .i64 k ∧ wr.ownsRow w.heap.size 26 1 v k (qs Q k) ∧ Below w.heap.size w wr) (fun _ i _ => n' - (intOf i).toNat)
  case atStart => exact ⟨0, Nat.zero_le _, rfl, World.ownsRow_nil _ _ _ _, HB.out⟩
  case round =>
    obtain ⟨k, hk, rfl, hown, hnx⟩ := hrel
    by_cases hlt : k < n'
    · have hcx := (HQ.out.below hnx LQ.out) k hlt
      have hsz := hnx.size
      have HN := Lib.hid hnx
      have HO := Lib.hid hown
      clear hnx hown
      go_wp2_with (at_builtin; refine wpList_append_own _ rfl _ _ 41 rfl w.heap.size 26 i0 (.int .u16 0) 1 2 und41 hi hz0 hz1 hz2 rfl (by decide) _ _ _ rfl (HO.out.alloc _) ⟨wr.heap.size, 0, none⟩ 1 1 [.int .u16 (Q k)] rfl rfl ?c1 ?c2 ?c3 ?c4 ?c5 ?_)
      case c1 => exact cell_one_new _ _ _
      case c2 => intro u hu; simp at hu; subst hu; rfl
      case c3 => unfold maxLen; omega
      case c4 => omega
      case c5 => simp; omega
      intro v' w2 hown' hgrow _
      have R := Lib.hid (rel_app (by omega) HO.out HN.out hown' hgrow)
      clear hown' hgrow HN HO hcx
      go_wp2
      go_roundw
      case rel => exact ⟨k + 1, by omega, by go_num, R.out.1, R.out.2⟩
      case measure => simp [intOf]; omega
    · obtain rfl : n' = k := by omega
      subst hn
      obtain ⟨g, cap, rfl, hg, -⟩ := own_qs hown hm
      have HN := Lib.hid hnx
      have hm0 : ¬ n' < 0 := by omega
      clear hnx hown
      go_wp2_with (go_at_call 18; refine (best_none a (some ⟨g, 0, none⟩) 0 n' c cap (.inl rfl) _).mono ?_; rintro e w3 ⟨rfl, hb⟩)
      go_ret
      exact ⟨rfl, below_next HN.out (hb.mono (Nat.le_refl _))⟩
end Go.Proofs.Ytiifgdlifiebkaa
