/- The text of an address as the program makes it: the contract of addr.Text. -/
import Derived.Test.YtlmdpaemhjcmbaaGreatDoorDD
import Derived.Deep.RegionLaw
import Derived.Deep.AppendLies
import Derived.MapKept
import Derived.Laws.IdiomStrings
namespace Go.Proofs.YtlmdpaemhjcmbaaGreatDoor.Cd
open Go.RowKit Go.Sort

theorem info5 : (Tryz.prog.info? 5).map (fun i => (i.zero, i.size, i.bytes)) = some (some (.int .u8 0), 1, 1) := by kernel_rfl
theorem u44 : Tryz.prog.underlying 87 = some (.slice 5) := by kernel_rfl
theorem u9 : Tryz.prog.underlying 9 = some .string := by kernel_rfl
abbrev bV (c : UInt8) : Value := .int .u8 c.toNat
theorem and15 : ∀ n : Fin 256, bits BinOp.and IntKind.u8 (n.val : Int) 15 = ((n.val % 16 : Nat) : Int) := by decide +kernel
theorem digits_index : ∀ (n : Nat), n < 16 → ∀ (w : World), (Instr.index 9 (.string ⟨#[48, 49, 50, 51, 52, 53, 54, 55, 56, 57, 97, 98, 99, 100, 101, 102]⟩) (.int .u8 n)).run Tryz.prog w = .ok (.int .u8 ((dchr n).toNat : Nat)) w
  | 0, _, _ => by kernel_rfl
  | 1, _, _ => by kernel_rfl
  | 2, _, _ => by kernel_rfl
  | 3, _, _ => by kernel_rfl
  | 4, _, _ => by kernel_rfl
  | 5, _, _ => by kernel_rfl
  | 6, _, _ => by kernel_rfl
  | 7, _, _ => by kernel_rfl
  | 8, _, _ => by kernel_rfl
  | 9, _, _ => by kernel_rfl
  | 10, _, _ => by kernel_rfl
  | 11, _, _ => by kernel_rfl
  | 12, _, _ => by kernel_rfl
  | 13, _, _ => by kernel_rfl
  | 14, _, _ => by kernel_rfl
  | 15, _, _ => by kernel_rfl
  | n + 16, h, _ => absurd h (by omega)

theorem own_of_heap {w w' : World} {base : Nat} {e : TypeId} {size : Nat} {v : Value} {n : Nat} {xs : List Value} (h : w.ownsRow base e size v n xs) (hh : w'.heap = w.heap) : w'.ownsRow base e size v n xs := by
  unfold World.ownsRow at *; rw [hh]; exact h
theorem two_oneCell (a b : UInt8) : ∀ u ∈ [bV a, bV b], u.oneCell' = true := by
  intro u hu; simp at hu; rcases hu with rfl | rfl <;> rfl
theorem cell_two_new (w : World) (u v : Value) (t : TypeId) {w' : World} (hh : w'.heap = (w.alloc (.cells #[u, v] t)).heap) : ∀ j y, [u, v][j]? = some y → w'.cell? ((⟨w.heap.size, 0, none⟩ : Addr).add j) = some y := by
  have hb : w'.heap[w.heap.size]? = some (.cells #[u, v] t) := by rw [hh]; exact (MapKept.heap_alloc w (.cells #[u, v] t)).1
  exact World.news_of_block hb

theorem own_next {w : World} {B : Nat} {v : Value} {x : Nat → Nat} {k : Nat} (h0 : 0 < k) (h : w.ownsRow B 5 1 v ((txt x k).length + 1 + 2) ((txt x k).map bV ++ [bV 58] ++ [bV (dchr (x k / 16)), bV (dchr (x k % 16))])) :
    w.ownsRow B 5 1 v (txt x (k + 1)).length ((txt x (k + 1)).map bV) := by
  have e : txt x (k + 1) = txt x k ++ [58, dchr (x k / 16), dchr (x k % 16)] := by rw [txt, if_neg (by omega)]; rfl
  rw [e]
  simpa using h
theorem own_first {w : World} {B : Nat} {v : Value} {x : Nat → Nat} {k : Nat} (h0 : ¬ 0 < k) (h : w.ownsRow B 5 1 v ((txt x k).length + 2) ((txt x k).map bV ++ [bV (dchr (x k / 16)), bV (dchr (x k % 16))])) :
    w.ownsRow B 5 1 v (txt x (k + 1)).length ((txt x (k + 1)).map bV) := by
  have e : txt x (k + 1) = txt x k ++ [dchr (x k / 16), dchr (x k % 16)] := by rw [txt, if_pos (by omega)]; rfl
  rw [e]
  simpa using h
theorem own_string {w : World} {B : Nat} {v : Value} {l : List UInt8} (hl : 0 < l.length) (h : w.ownsRow B 5 1 v l.length (l.map bV)) : (convert 87 9 v).run Tryz.prog w = .ok (strV l) w := by
  obtain ⟨g, cap, rfl, _, _⟩ := h.form hl
  refine run_convert_bytes_back w 87 9 5 ⟨g, 0, none⟩ cap l u44 u5 u9 (fun j hj => ?_)
  exact h.cells rfl j _ (by simp [hj])

set_option maxRecDepth 10000 in
set_option maxHeartbeats 1000000 in
theorem text_any (x : Nat → Nat) (hx : ∀ i, x i < 256) (w : World) :
    Calls Tryz.prog 44 #[macV x] w fun e w' => e = .returned (strV (txt x 6)) ∧ Below w.heap.size w w' := by
  obtain ⟨i0, hinf, hz0, hz1, hz2⟩ := info_parts info5
  go_enter Tryz.func44, Tryz.ntmps44
  go_wp2_with (at_make; refine wpList_make_own _ rfl _ _ 87 rfl w.heap.size 5 i0 (.int .u8 0) 1 u44 hinf hz0 hz1 _ _ _ 17 rfl rfl (by omega) ?c1 ?c2 ?c3 ?_)
  case c1 => rw [hz2]; omega
  case c2 => unfold maxLen; omega
  case c3 => simp
  intro w1 hown hgrow
  have ha : At w1 w.heap.size x := fun k hk => hgrow.cell (box_at w x 23 k hk) (by simp)
  have hb : Below w.heap.size w w1 := (box_below w (macO x 23)).grown hgrow (by simp) (by simp)
  clear hgrow
  have a0 := ha 0 (by omega)
  have a1 := ha 1 (by omega)
  have a2 := ha 2 (by omega)
  have a3 := ha 3 (by omega)
  have a4 := ha 4 (by omega)
  have a5 := ha 5 (by omega)
  have HO := Lib.hid hown
  have HB := Lib.hid hb
  have HX := Lib.hid hx
  clear ha hb hown hx
  go_wp2
  clear a0 a1 a2 a3 a4 a5
  go_loopw [3, 4, 5, 8] (fun v _ _ i wr => ∃ k : Nat, k ≤ 6 ∧ i = .int .i64 k ∧ wr.ownsRow w.heap.size 5 1 v (txt x k).length ((txt x k).map bV) ∧ Below w.heap.size w wr) (fun _ _ _ i _ => 6 - (intOf i).toNat)
  case atStart => exact ⟨0, Nat.zero_le _, rfl, HO.out, HB.out⟩
  case round =>
    obtain ⟨k, hk, rfl, hown, hb⟩ := hrel
    by_cases hlt : k < 6
    · have hi := mac_index x k hlt
      have hxk := HX.out k
      have h17 := txt_le x k hk
      have h15 := and15 ⟨x k, hxk⟩
      simp only at h15
      have d1 : ∀ w, (Instr.index 9 (.string ⟨#[48, 49, 50, 51, 52, 53, 54, 55, 56, 57, 97, 98, 99, 100, 101, 102]⟩) (.int .u8 ((x k : Int) / 16))).run Tryz.prog w = .ok (bV (dchr (x k / 16))) w := digits_index (x k / 16) (by omega)
      have d2 : ∀ w, (Instr.index 9 (.string ⟨#[48, 49, 50, 51, 52, 53, 54, 55, 56, 57, 97, 98, 99, 100, 101, 102]⟩) (.int .u8 ((x k : Int) % 16))).run Tryz.prog w = .ok (bV (dchr (x k % 16))) w := digits_index (x k % 16) (by omega)
      have hsz := hb.size
      by_cases h0 : 0 < k
      · go_wp2_with (at_builtin; refine wpList_append_own _ rfl _ _ 87 rfl w.heap.size 5 i0 (.int .u8 0) 1 1 u44 hinf hz0 hz1 hz2 rfl (by decide) _ _ _ rfl (hown.alloc _) ⟨wr.heap.size, 0, none⟩ 1 1 [bV 58] rfl rfl ?d1 ?d2 ?d3 ?d4 ?d5 ?_)
        case d1 => exact cell_one_new _ _ _
        case d2 => intro u hu; simp at hu; subst hu; rfl
        case d3 => unfold maxLen; omega
        case d4 => omega
        case d5 => simp; omega
        intro v1 w2 hown2 hgrow2 _
        have hb2 : Below w.heap.size w w2 := (hb.alloc (by omega) _).grown hgrow2 (by simp; omega) (fun j hj => (hown.lt j hj).1)
        clear hown hgrow2 hb
        have hsz2 := hb2.size
        go_wp2
        go_region_law (refine step_append_lies _ rfl _ _ 87 rfl w.heap.size 5 i0 (.int .u8 0) 1 1 u44 hinf hz0 hz1 hz2 rfl (by decide) v1 _ _ rfl (own_of_heap (hown2.alloc _) rfl) ⟨w2.heap.size, 0, none⟩ 2 2 [bV (dchr (x k / 16)), bV (dchr (x k % 16))] rfl rfl (cell_two_new w2 _ _ 5 rfl) (two_oneCell _ _) (by decide) (by unfold maxLen; omega) (by omega) (by simp; omega) _ rfl ?_; intro g3 cap3 w3 hown3 hgrow3 hat3 hlt3)
        all_goals
          have hb3 : Below w.heap.size w w3 := ((hb2.alloc (by omega) _).drew).grown hgrow3 (by simp; omega) (fun j hj => (hown2.lt j hj).1)
          have R := own_next h0 hown3
          clear hown3 hgrow3 hat3 hlt3 hb2 hown2
          go_wp2
          go_roundw
          case rel => exact ⟨k + 1, by omega, by go_num, R, hb3⟩
          case measure => simp [intOf]; omega
      · go_wp2
        go_region_law (refine step_append_lies _ rfl _ _ 87 rfl w.heap.size 5 i0 (.int .u8 0) 1 1 u44 hinf hz0 hz1 hz2 rfl (by decide) u3 _ _ rfl (own_of_heap (hown.alloc _) rfl) ⟨wr.heap.size, 0, none⟩ 2 2 [bV (dchr (x k / 16)), bV (dchr (x k % 16))] rfl rfl (cell_two_new wr _ _ 5 rfl) (two_oneCell _ _) (by decide) (by unfold maxLen; omega) (by omega) (by simp; omega) _ rfl ?_; intro g3 cap3 w3 hown3 hgrow3 hat3 hlt3)
        all_goals
          have hb3 : Below w.heap.size w w3 := ((hb.alloc (by omega) _).drew).grown hgrow3 (by simp; omega) (fun j hj => (hown.lt j hj).1)
          have R := own_first h0 hown3
          clear hown3 hgrow3 hat3 hlt3 hb hown
          go_wp2
          go_roundw
          case rel => exact ⟨k + 1, by omega, by go_num, R, hb3⟩
          case measure => simp [intOf]; omega
    · have : k = 6 := by omega
      subst this
      have hs := own_string (by rw [txt_len]; omega) hown
      go_wp2
      go_ret
      exact ⟨rfl, hb⟩
end Go.Proofs.YtlmdpaemhjcmbaaGreatDoor.Cd
