/- The chapter's example, and a nil table. -/
import Derived.Test.YtkdaloikpljccaaQ
namespace Go.Proofs.Ytkdaloikpljccaa
open Go.RowKit Go.Sort Go.Maps
abbrev m1 : Nat := 2199023255553
theorem m1_mac : macN m1 = .agg #[.int .u8 2, .int .u8 0, .int .u8 0, .int .u8 0, .int .u8 0, .int .u8 1] := by simp [ofN]
abbrev x1 : Ent := ⟨m1, 1, 0, 0, false⟩
theorem ok1 : okL [] 4 m1 = true := by decide
theorem put1 : putE x1 [] = [x1] := rfl
theorem fnd1 : fnd [x1] m1 = some x1 := by simp [fnd]
theorem cnt1 : cntR [x1] (fun e => e.port == 1) = 1 := by simp [cntR, rmv]
theorem fil1 : ([x1].filter fun e => !rmv (fun e => e.port == 1) e) = [] := by simp [rmv]
theorem fnd0 : fnd [] m1 = none := rfl
theorem x1_val : entV x1 = .agg #[.int .u8 2, .int .u8 0, .int .u8 0, .int .u8 0, .int .u8 0, .int .u8 1, .int .i64 1, .int .u32 0, .int .i64 0, .bool false] := by simp [ofN]
theorem next_off {F : Nat → Prop} {w w1 w2 : World} (h : Below w.heap.size w w1) (k : Off F w1 w2) (hf : ∀ i, i < w.heap.size → ¬ F i) : Below w.heap.size w w2 :=
  h.trans (k.below h.size hf)

theorem lives_any (w : World) : Calls Try.prog 5 #[] w fun e w' => e = .returned (.bool true) ∧ Below w.heap.size w w' := by
  go_enter Try.func5, Try.ntmps5
  go_wp2_with fail
  refine (new_any 4 (by decide) _).mono ?_
  rintro e w1 ⟨tb, b, rfl, ht1, hb1, hl1, hl2⟩
  have a1 := box_at w1 (ofN m1) 24
  have ht2 := ht1.below (box_below w1 (macO (ofN m1) 24))
  have hb2 := hb1.alloc hb1.size (macO (ofN m1) 24)
  have hc := learn_any ht2 (n := m1) (by decide) 1
  rw [ok1, if_pos rfl, put1, m1_mac] at hc
  have em : macO (ofN m1) 24 = .cells #[.int .u8 2, .int .u8 0, .int .u8 0, .int .u8 0, .int .u8 0, .int .u8 1] 24 := by simp [ofN]
  have hne := ht2.ne_map a1
  rw [em] at hc a1 hb2
  have HB2 := Lib.hid hb2
  have HL := Lib.hid hl2
  have HA1 := Lib.hid a1
  have HNE := Lib.hid hne
  clear ht1 ht2 hb1 hb2 hl1 hl2 em a1 hne
  go_wp2_with fail
  refine hc.mono ?_
  rintro e w2 ⟨rfl, ⟨E2, ht2, _⟩, ho2⟩
  have a2 := HA1.out.other ho2 HNE.out
  have hb2 := next_off HB2.out ho2 (fun i hi e0 => by have := HL.out; omega)
  have c2 := a2.n
  simp [ofN] at c2
  obtain ⟨c0, c1, c2, c3, c4, c5⟩ := c2
  have hf := find_any ht2 (n := m1) (by decide)
  rw [fnd1, m1_mac] at hf
  unfold foundV at hf
  simp only [x1_val] at hf
  have HA2 := Lib.hid a2
  have HB3 := Lib.hid hb2
  have HT2 := Lib.hid ht2
  clear a2 hb2 ht2 ho2 hc
  go_wp2_with fail
  refine hf.mono ?_
  rintro e w3 ⟨rfl, hb3⟩
  have ht3 := (HT2.out.below hb3).below (box_below w3 (.cells (entC x1) 39))
  have hfl := flush_any ht3 1
  rw [cnt1, fil1] at hfl
  have ex : (entC x1) = #[.int .u8 2, .int .u8 0, .int .u8 0, .int .u8 0, .int .u8 0, .int .u8 1, .int .i64 1, .int .u32 0, .int .i64 0, .bool false] := by simp [ofN]
  have v3 := var_new w3 (entC x1) 39
  have hne3 := ht3.far v3
  have a3 := (HA2.out.below hb3 HA2.out.lt).below (box_below w3 (.cells (entC x1) 39)) (HA2.out.below hb3 HA2.out.lt).lt
  have hna3 := ht3.ne_map a3
  have hb3' := (HB3.out.trans (hb3.mono HB3.out.size)).alloc (Nat.le_trans HB3.out.size hb3.size) (.cells (entC x1) 39)
  rw [ex] at hfl v3 a3 hb3'
  have HV3 := Lib.hid v3
  have HA3 := Lib.hid a3
  have HB4 := Lib.hid hb3'
  have HN3 := Lib.hid hne3
  have HNA := Lib.hid hna3
  clear ht3 ex v3 hne3 a3 hna3 hb3' hb3 hf c0 c1 c2 c3 c4 c5
  go_wp2_with fail
  refine hfl.mono ?_
  rintro e w4 ⟨rfl, ht4, ho4⟩
  have v4 := (ho4.var HV3.out HN3.out).cell 6
  simp at v4
  have a4 := (HA3.out.other ho4 HNA.out).n
  simp [ofN] at a4
  obtain ⟨c0, c1, c2, c3, c4, c5⟩ := a4
  have hb4 := next_off HB4.out ho4 (fun i hi e0 => by have := HL.out; omega)
  have hf := find_any ht4 (n := m1) (by decide)
  rw [fnd0, m1_mac] at hf
  unfold foundV at hf
  have HB5 := Lib.hid hb4
  have hv4 := fun w' (hb : Below w4.heap.size w4 w') => ((hb.alloc hb.size (.cells noC 39)).cell (p := ⟨w3.heap.size, 6, none⟩) (block_lt_of_cell v4)).trans v4
  have HV4 := Lib.hid hv4
  clear ht4 ho4 hb4 hfl v4 hv4
  go_wp2_with fail
  refine hf.mono ?_
  rintro e w5 ⟨rfl, hb5⟩
  have v5 := HV4.out w5 hb5
  have HB6 := Lib.hid ((HB5.out.trans (hb5.mono HB5.out.size)).alloc (Nat.le_trans HB5.out.size hb5.size) (.cells noC 39))
  clear hb5 hf
  go_wp2
  go_ret
  exact ⟨rfl, HB6.out⟩
end Go.Proofs.Ytkdaloikpljccaa
