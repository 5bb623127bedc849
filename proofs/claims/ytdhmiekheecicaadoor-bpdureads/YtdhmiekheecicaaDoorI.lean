/- The reference's Right. -/
import Derived.Test.YtdhmiekheecicaaDoorH
namespace Go.Proofs.YtdhmiekheecicaaDoor
open Go.RowKit Go.Sort

theorem cf_cases (f : Nat) : (cfF f = true ∧ (f = 0 ∨ f = 1 ∨ f = 128 ∨ f = 129)) ∨ (cfF f = false ∧ ((f : Int) == 0) = false ∧ ((f : Int) == 1) = false ∧ ((f : Int) == 128) = false ∧ ((f : Int) == 129) = false) := by
  unfold cfF
  by_cases h0 : f = 0
  · left; subst h0; exact ⟨rfl, .inl rfl⟩
  · by_cases h1 : f = 1
    · left; subst h1; exact ⟨rfl, .inr (.inl rfl)⟩
    · by_cases h2 : f = 128
      · left; subst h2; exact ⟨rfl, .inr (.inr (.inl rfl))⟩
      · by_cases h3 : f = 129
        · left; subst h3; exact ⟨rfl, .inr (.inr (.inr rfl))⟩
        · right
          have e0 : ((f : Int) == 0) = false := by simp; omega
          have e1 : ((f : Int) == 1) = false := by simp; omega
          have e2 : ((f : Int) == 128) = false := by simp; omega
          have e3 : ((f : Int) == 129) = false := by simp; omega
          exact ⟨by rw [e0, e1, e2, e3]; rfl, e0, e1, e2, e3⟩
set_option maxHeartbeats 2000000 in
theorem refRight_any (k : Int) (f : Nat) (r c b p a m h d : Int) (hf : f < 256) (w : World) : Calls Tryd.prog 9 #[bpV k f r c b p a m h d] w fun e w' => e = .returned (.bool (rightB k f r c b p a m h d)) ∧ Below w.heap.size w w' := by
  have K := (var_new w (bpC k f r c b p a m h d) 31).bp
  obtain ⟨k0, k1, k2, k3, k4, k5, k6, k7, k8, k9⟩ := K
  have HB := Lib.hid (box_below w (.cells (bpC k f r c b p a m h d) 31))
  have c2 := refRole_any f hf (w.alloc (.cells (bpC k f r c b p a m h d) 31))
  have e1 := bp_eql k f r c b p a m h d 2 0 0 0 0 0 0 0 0 0
  unfold rightB
  simp only [Int.toNat_natCast]
  generalize hR : roleOf f = R at *
  generalize hE : bpE k f r c b p a m h d 2 0 0 0 0 0 0 0 0 0 = E at *
  clear hR hE
  by_cases h2 : k = 2
  · subst h2
    rw [if_pos rfl]
    go_enter Tryd.func9, Tryd.ntmps9
    go_wp2_with fail
    refine c2.mono ?_
    rintro e w1 ⟨rfl, rfl⟩
    clear c2
    by_cases hr : R = 0
    · subst hr
      go_wp2_with fail
      go_ret
      exact ⟨rfl, HB.out⟩
    · go_wp2_with fail
      go_ret
      exact ⟨rfl, HB.out⟩
  · rw [if_neg h2]
    clear e1
    by_cases h1 : k = 1
    · subst h1
      rw [if_pos rfl]
      rcases cf_cases f with ⟨hc, h⟩ | ⟨hc, q0, q1, q2, q3⟩
      · rw [hc]
        clear hc
        rcases h with rfl | rfl | rfl | rfl
        · go_enter Tryd.func9, Tryd.ntmps9
          go_wp2_with fail
          refine c2.mono ?_
          rintro e w1 ⟨rfl, rfl⟩
          clear c2
          go_wp2_with fail
          go_ret
          exact ⟨ret_bool (by simp), HB.out⟩
        · go_enter Tryd.func9, Tryd.ntmps9
          go_wp2_with fail
          refine c2.mono ?_
          rintro e w1 ⟨rfl, rfl⟩
          clear c2
          go_wp2_with fail
          go_ret
          exact ⟨ret_bool (by simp), HB.out⟩
        · go_enter Tryd.func9, Tryd.ntmps9
          go_wp2_with fail
          refine c2.mono ?_
          rintro e w1 ⟨rfl, rfl⟩
          clear c2
          go_wp2_with fail
          go_ret
          exact ⟨ret_bool (by simp), HB.out⟩
        · go_enter Tryd.func9, Tryd.ntmps9
          go_wp2_with fail
          refine c2.mono ?_
          rintro e w1 ⟨rfl, rfl⟩
          clear c2
          go_wp2_with fail
          go_ret
          exact ⟨ret_bool (by simp), HB.out⟩
      · rw [hc]
        clear hc
        go_enter Tryd.func9, Tryd.ntmps9
        go_wp2_with fail
        refine c2.mono ?_
        rintro e w1 ⟨rfl, rfl⟩
        clear c2
        go_wp2_with fail
        go_ret
        exact ⟨ret_bool (by simp), HB.out⟩
    · rw [if_neg h1]
      by_cases h3 : k = 3
      · subst h3
        rw [if_pos rfl]
        go_enter Tryd.func9, Tryd.ntmps9
        go_wp2_with fail
        refine c2.mono ?_
        rintro e w1 ⟨rfl, rfl⟩
        clear c2
        by_cases hr : R = 0
        · subst hr
          go_wp2_with fail
          go_ret
          exact ⟨ret_bool (by simp), HB.out⟩
        · go_wp2_with fail
          go_ret
          exact ⟨rfl, HB.out⟩
      · rw [if_neg h3]
        go_enter Tryd.func9, Tryd.ntmps9
        go_wp2_with fail
        refine c2.mono ?_
        rintro e w1 ⟨rfl, rfl⟩
        clear c2
        by_cases hr : R = 0
        · subst hr
          go_wp2_with fail
          go_ret
          exact ⟨rfl, HB.out⟩
        · go_wp2_with fail
          go_ret
          exact ⟨rfl, HB.out⟩
end Go.Proofs.YtdhmiekheecicaaDoor
