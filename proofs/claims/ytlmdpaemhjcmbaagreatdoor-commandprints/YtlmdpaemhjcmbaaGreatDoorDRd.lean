/- The reference's Parse. -/
import Derived.Test.YtlmdpaemhjcmbaaGreatDoorDRc
namespace Go.Proofs.YtlmdpaemhjcmbaaGreatDoor.Cd
open Go.RowKit Go.Sort Go.Lib

theorem wp_load32 {op : Oper} {a : Act} {w : World} {K : Act → World → Prop} {Q : Exit → Act → World → Prop} (x : Operand) (ho : op.op = .load 36 x) {b : Nat} {c : Cm} (hx : a.eval x = .pointer (some ⟨b, 0, none⟩)) (hv : CA w b c.cells 36) (h : K (a.put op.dst (.agg c.cells)) w) : op.wp Tryz.prog a w K Q :=
  wp_load_mid 36 x ho b 0 hx c.cells.toList _ (range_whole hv) u32 rfl (by rw [s32]; rfl) (by simpa using h)
/-- What the reference's Parse answers. -/
def RPEnd (s : List UInt8) (e : Ending) : Prop :=
  match PS s with
  | some c => e = .returned (.tuple #[.agg c.cells, .bool true])
  | none => e = .returned (.tuple #[.agg (zc 0).cells, .bool false])
theorem rpEnd_some {s : List UInt8} {c : Cm} (h : PS s = some c) : RPEnd s (.returned (.tuple #[.agg c.cells, .bool true])) := by unfold RPEnd; rw [h]
theorem rpEnd_none {s : List UInt8} (h : PS s = none) : RPEnd s (.returned (.tuple #[.agg (zc 0).cells, .bool false])) := by unfold RPEnd; rw [h]
theorem pAs_cut {k : Nat} (hk : k < 15) {ws r : List (List UInt8)} (h : ws = hd k ++ r) : pAs k ws = go (zc k) ((fm k).map up) r := by
  unfold pAs pz
  apply Option.ext
  intro c
  subst h
  refine (go_lits _ _ fun p hp => (hd_long ⟨k, hk⟩ p hp).1).trans ⟨?_, fun h => ⟨r, rfl, h⟩⟩
  rintro ⟨q, hq, hc⟩
  rw [List.append_cancel_left hq]; exact hc
/-- The first words of a kind, and as many as it has. -/
def Hm (k : Nat) (ws : List (List UInt8)) : Prop := ws.length = (hd k).length + (fm k).length ∧ ∀ j, j < (hd k).length → ws[j]? = (hd k)[j]?
theorem Hm.cut {k : Nat} {ws : List (List UInt8)} (h : Hm k ws) : ws = hd k ++ ws.drop (hd k).length := by
  conv => lhs; rw [← List.take_append_drop (hd k).length ws]
  congr 1
  apply List.ext_getElem?
  intro j
  rw [List.getElem?_take]
  by_cases hj : j < (hd k).length
  · rw [if_pos hj, h.2 j hj]
  · rw [if_neg hj, List.getElem?_eq_none (by omega)]
theorem hm_not {k : Nat} (hk : k < 15) {ws : List (List UInt8)} (h : ¬ Hm k ws) : pAs k ws = none := by
  cases hp : pAs k ws with
  | none => rfl
  | some c =>
    exfalso
    apply h
    obtain ⟨r, hr⟩ := pAs_head hk hp
    have hl := go_len _ _ _ _ hp
    unfold pz at hl
    rw [List.length_append, List.length_map] at hl
    exact ⟨hl.symm, fun j hj => by rw [hr, List.getElem?_append_left hj]⟩
theorem fm_at {k j : Nat} {b : UInt8} (h : (fm k)[j]? = some b) : ((fm k).map up)[j]? = some (up b) := by rw [List.getElem?_map, h]; rfl
theorem hd_short (k : Nat) (hk : k < 15) : (hdT k).length ≤ 1000 ∧ (fm k).length ≤ 2 ∧ (hd k).length ≤ 2 := by
  have : ∀ k : Fin 15, (hdT k.val).length ≤ 1000 ∧ (fm k.val).length ≤ 2 ∧ (hd k.val).length ≤ 2 := by decide +kernel
  exact this ⟨k, hk⟩
end Go.Proofs.YtlmdpaemhjcmbaaGreatDoor.Cd
