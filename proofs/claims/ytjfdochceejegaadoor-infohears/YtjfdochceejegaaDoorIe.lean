/- Contract of the reference's Seconds. -/
import Derived.Test.YtjfdochceejegaaDoorIb
namespace Go.Proofs.YtjfdochceejegaaDoor
open Go.RowKit Go.Sort

set_option maxHeartbeats 2000000 in
theorem sec_any (k f r c b p : Int) (a m h d : Nat) (ha : a < 65536) (hm : m < 65536) (hh : h < 65536) (hd : d < 65536) (w : World) :
    Calls Tryd.prog 24 #[bpV k f r c b p a m h d] w fun e w' => e = .returned (tmV ((a + 255) / 256 : Nat) (m / 256 : Nat) (max (h / 256) 1 : Nat) (d / 256 : Nat)) ∧ Below w.heap.size w w' := by
  have e0 : ((a : Int) / 256) = ((a / 256 : Nat) : Int) := by omega
  have e1 : ((a : Int) % 256) = ((a % 256 : Nat) : Int) := by omega
  have e2 : ((m : Int) / 256) = ((m / 256 : Nat) : Int) := by omega
  have e3 : ((h : Int) / 256) = ((h / 256 : Nat) : Int) := by omega
  have e4 : ((d : Int) / 256) = ((d / 256 : Nat) : Int) := by omega
  have l0 : a / 256 < 256 := by omega
  have l2 : m / 256 < 256 := by omega
  have l3 : h / 256 < 256 := by omega
  have l4 : d / 256 < 256 := by omega
  have q0 : a % 256 = 0 → (a + 255) / 256 = a / 256 := by omega
  have q1 : a % 256 ≠ 0 → (a + 255) / 256 = a / 256 + 1 := by omega
  have hv := (var_new w (bpC k f r c b p a m h d) 36)
  have k6 := hv.cell 6
  have k7 := hv.cell 7
  have k8 := hv.cell 8
  have k9 := hv.cell 9
  simp only [List.getElem?_toArray, List.getElem?_cons_zero, List.getElem?_cons_succ] at k6 k7 k8 k9
  clear hv
  have hb := box_below w (.cells (bpC k f r c b p a m h d) 36)
  generalize (a + 255) / 256 = A at *
  generalize a / 256 = A0 at *
  generalize a % 256 = R0 at *
  generalize m / 256 = M at *
  generalize h / 256 = H at *
  generalize d / 256 = D at *
  have HB := Lib.hid hb
  clear hb ha hm hh hd
  by_cases hR : R0 = 0
  · obtain rfl := q0 hR
    by_cases hH : H = 0
    · have hm1 : max H 1 = 1 := by omega
      rw [hm1]
      go_enter Tryd.func24, Tryd.ntmps24
      go_wp2
      go_returns
      exact ⟨by simp, (HB.out.alloc (by rw [alloc_size]; omega) _).alloc (by rw [alloc_size, alloc_size]; omega) _⟩
    · have hm1 : max H 1 = H := by omega
      rw [hm1]
      go_enter Tryd.func24, Tryd.ntmps24
      go_wp2
      go_returns
      exact ⟨by simp, (HB.out.alloc (by rw [alloc_size]; omega) _).alloc (by rw [alloc_size, alloc_size]; omega) _⟩
  · obtain rfl := q1 hR
    by_cases hH : H = 0
    · have hm1 : max H 1 = 1 := by omega
      rw [hm1]
      go_enter Tryd.func24, Tryd.ntmps24
      go_wp2
      go_returns
      exact ⟨by simp, (HB.out.alloc (by rw [alloc_size]; omega) _).alloc (by rw [alloc_size, alloc_size]; omega) _⟩
    · have hm1 : max H 1 = H := by omega
      rw [hm1]
      go_enter Tryd.func24, Tryd.ntmps24
      go_wp2
      go_returns
      exact ⟨by simp, (HB.out.alloc (by rw [alloc_size]; omega) _).alloc (by rw [alloc_size, alloc_size]; omega) _⟩
theorem sec_msg (xs : Array Value) (hr : Rg xs) (w : World) : Calls Tryd.prog 24 #[.agg (msgC xs)] w fun e w' => e = .returned (tmV (secA xs) (secM xs) (secH xs) (secD xs)) ∧ Below w.heap.size w w' := by
  obtain ⟨a, ea, la⟩ := hr.a
  obtain ⟨m, em, lm⟩ := hr.m
  obtain ⟨h, eh, lh⟩ := hr.h
  obtain ⟨d, ed, ld⟩ := hr.d
  rw [msgC_bp]
  unfold secA secM secH secD
  rw [ea, em, eh, ed]
  exact sec_any _ _ _ _ _ _ a m h d la lm lh ld w
end Go.Proofs.YtjfdochceejegaaDoor
