/- The whole call of FdbNil. -/
import Derived.Test.YtkdaloikpljccaaR
namespace Go.Proofs.Ytkdaloikpljccaa
open Go.RowKit Go.Sort Go.Maps
theorem At.nexts {w w' : World} {b n : Nat} (h : At w b (ofN n)) (hb : Below w.heap.size w w') : At w' b (ofN n) := h.below hb h.lt
theorem nil_any (n : Nat) (k : Int) (w : World) : Calls Try.prog 4 #[macN n, .int .i64 k] w fun e w' => e = .returned (.bool true) ∧ Below w.heap.size w w' := by
  have hb0 := box_below w (macO (ofN n) 24)
  have a0 := box_at w (ofN n) 24
  have HB0 := Lib.hid hb0
  have HA0 := Lib.hid a0
  clear hb0 a0
  go_enter Try.func4, Try.ntmps4
  go_wp2_with fail
  refine (lives_any _).mono ?_
  rintro e w1 ⟨rfl, hb1⟩
  have a1 := HA0.out.nexts hb1
  have hb := below_next HB0.out hb1
  have HA1 := Lib.hid a1
  have HB1 := Lib.hid hb
  clear a1 hb hb1
  go_wp2_with fail
  refine (start_nil _).mono ?_
  rintro e w2 ⟨rfl, hb2⟩
  have a2 := HA1.out.nexts hb2
  obtain ⟨c0, c1, c2, c3, c4, c5⟩ := a2.n
  have hb := HB1.out.trans (hb2.mono HB1.out.size)
  have HA2 := Lib.hid a2
  have HB2 := Lib.hid hb
  clear a2 hb hb2
  go_wp2_with fail
  refine (find_nil n _).mono ?_
  rintro e w3 ⟨rfl, hb3⟩
  have hb3' := (box_below w3 (.cells noC 39))
  have a3 := (HA2.out.nexts hb3).nexts hb3'
  obtain ⟨d0, d1, d2, d3, d4, d5⟩ := a3.n
  have hb := (HB2.out.trans (hb3.mono HB2.out.size)).alloc (Nat.le_trans HB2.out.size hb3.size) (.cells noC 39)
  have HA3 := Lib.hid a3
  have HB3 := Lib.hid hb
  clear a3 hb hb3 hb3' c0 c1 c2 c3 c4 c5
  unfold foundV
  go_wp2_with fail
  refine (learn_nil n k _).mono ?_
  rintro e w4 ⟨rfl, hb4⟩
  have a4 := HA3.out.nexts hb4
  obtain ⟨c0, c1, c2, c3, c4, c5⟩ := a4.n
  have hb := HB3.out.trans (hb4.mono HB3.out.size)
  have HA4 := Lib.hid a4
  have HB4 := Lib.hid hb
  clear a4 hb hb4 d0 d1 d2 d3 d4 d5
  go_wp2_with fail
  refine (fix_nil n 1 _).mono ?_
  rintro e w5 ⟨rfl, hb5⟩
  have a5 := HA4.out.nexts hb5
  obtain ⟨d0, d1, d2, d3, d4, d5⟩ := a5.n
  have hb := HB4.out.trans (hb5.mono HB4.out.size)
  have HA5 := Lib.hid a5
  have HB5 := Lib.hid hb
  clear a5 hb hb5 c0 c1 c2 c3 c4 c5
  go_wp2_with fail
  refine (forget_nil n _).mono ?_
  rintro e w6 ⟨rfl, hb6⟩
  have hb := HB5.out.trans (hb6.mono HB5.out.size)
  have HB6 := Lib.hid hb
  clear hb hb6 d0 d1 d2 d3 d4 d5
  go_wp2_with fail
  refine (flush_nil k _).mono ?_
  rintro e w7 ⟨rfl, hb7⟩
  have hb := HB6.out.trans (hb7.mono HB6.out.size)
  have HB7 := Lib.hid hb
  clear hb hb7
  go_wp2_with fail
  refine (older_nil k _).mono ?_
  rintro e w8 ⟨rfl, hb8⟩
  have hb := HB7.out.trans (hb8.mono HB7.out.size)
  have HB8 := Lib.hid hb
  clear hb hb8
  go_wp2_with fail
  refine (len_nil _).mono ?_
  rintro e w9 ⟨rfl, rfl⟩
  go_wp2_with fail
  refine (all_nil _).mono ?_
  rintro e w9 ⟨rfl, rfl⟩
  go_wp2
  go_ret
  exact ⟨rfl, HB8.out⟩
end Go.Proofs.Ytkdaloikpljccaa
