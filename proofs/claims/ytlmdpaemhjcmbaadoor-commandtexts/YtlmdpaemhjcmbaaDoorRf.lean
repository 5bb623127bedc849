/- The reference's Text. -/
import Derived.Test.YtlmdpaemhjcmbaaDoorRe
namespace Go.Proofs.YtlmdpaemhjcmbaaDoor
open Go.RowKit Go.Sort Go.Lib

theorem joinTail_app (sep : List UInt8) (a b : List (List UInt8)) : joinTail sep (a ++ b) = joinTail sep a ++ joinTail sep b := by simp [joinTail]
theorem join_app (xs ys : List (List UInt8)) (sep : List UInt8) (h : xs ≠ []) : join (xs ++ ys) sep = join xs sep ++ joinTail sep ys := by
  cases xs with
  | nil => exact absurd rfl h
  | cons x r => rw [List.cons_append, join_cons, join_cons, joinTail_app, List.append_assoc]
theorem cat3 (a b c : List UInt8) : Value.string ((⟨⟨a⟩⟩ : ByteArray) ++ ⟨⟨b⟩⟩ ++ ⟨⟨c⟩⟩) = strV (a ++ b ++ c) := by rw [cat_data, cat_data]
/-- The text so far. -/
def pr (c : Cm) (k j : Nat) : List UInt8 := hdT k ++ joinTail [32] (((fm k).take j).map fun b => wd c (up b))
theorem pr_zero (c : Cm) (k : Nat) : pr c k 0 = hdT k := by simp [pr, joinTail]
theorem pr_next {c : Cm} {k j : Nat} {b : UInt8} (h : (fm k)[j]? = some b) : pr c k (j + 1) = pr c k j ++ [32] ++ wd c (up b) := by
  unfold pr
  rw [List.take_add_one, h]
  simp [joinTail_app, joinTail]
theorem pr_all {c : Cm} {k j : Nat} (hk : k < 15) (hw : c.wh = k) (hj : (fm k).length ≤ j) : pr c k j = tx c := by
  unfold pr tx wds pz
  rw [List.take_of_length_le hj, hw, Int.toNat_natCast, List.map_append, map_hd ⟨k, hk⟩ c, join_app _ _ _ (fun h => by have := (hd_len ⟨k, hk⟩).2; rw [h] at this; simp at this)]
  rw [show join (hd k) [32] = hdT k from join_sp _, List.map_map]
  rfl
theorem pr_len {c : Cm} (hc : Rt c) {k : Nat} (hk : k < 15) (hw : c.wh = k) (j : Nat) : (pr c k j).length ≤ 1000 := by
  have h1 := (hd_short k hk).1
  have h2 : (hdT k).length ≤ 100 := by
    have : ∀ k : Fin 15, (hdT k.val).length ≤ 100 := by decide +kernel
    exact this ⟨k, hk⟩
  have h3 := lens_le (m := 17) (((fm k).take j).map fun b => wd c (up b)) (fun w hw' => by
    obtain ⟨b, hb, rfl⟩ := List.mem_map.1 hw'
    refine (wd_no hc _ ?_).2
    unfold wds pz
    rw [List.map_append, hw, Int.toNat_natCast]
    refine List.mem_append.2 (Or.inr ?_)
    rw [List.map_map]
    exact List.mem_map.2 ⟨b, List.mem_of_mem_take hb, rfl⟩)
  have h4 : (((fm k).take j).map fun b => wd c (up b)).length ≤ 2 := by
    rw [List.length_map, List.length_take]
    have := (hd_short k hk).2.1
    omega
  unfold pr
  rw [List.length_append, joinTail_length]
  simp only [List.length_cons, List.length_nil] at *
  omega
set_option maxRecDepth 20000 in
set_option maxHeartbeats 4000000 in
theorem rtext_any (c : Cm) (hr : Rt c) (w : World) : Calls Tryd.prog 10 #[.agg c.cells] w fun e w' => e = .returned (strV (tx c)) ∧ Below w.heap.size w w' := by
  have v := Lib.hid (var_new w c.cells 32)
  have b0 := Lib.hid (box_below w (.cells c.cells 32))
  have k0 : (w.alloc (.cells c.cells 32)).cell? ⟨w.heap.size, 0, none⟩ = some (.int .i64 c.wh) := v.out.cell 0
  obtain ⟨k, hk⟩ : ∃ k : Nat, c.wh = k := ⟨c.wh.toNat, by have := hr.w0; omega⟩
  have hk15 : k < 15 := by have := hr.w1; omega
  rw [hk] at k0
  have cw := Lib.hid (fun w => words_any k hk15 w)
  have cf := Lib.hid (fun w => form_any k hk15 w)
  have HFM := Lib.hid (fm_mem ⟨k, hk15⟩)
  simp only at HFM
  have HALL := Lib.hid (fun j (h : (fm k).length ≤ j) => pr_all hk15 hk h)
  have HLEN := Lib.hid (fun j => pr_len hr hk15 hk j)
  have hfl : (fm k).length ≤ 2 := (hd_short k hk15).2.1
  have HR := Lib.hid hr
  have HLL := Lib.hid (fun (h : 108 ∈ fm k) => hr.lk (by rw [hk]; exact h))
  clear hk hr
  go_enter Tryd.func10, Tryd.ntmps10
  go_wp2_with fail
  refine (cw.out _).mono ?_
  rintro e w1 ⟨rfl, hb⟩
  have V1 := Lib.hid (v.out.below hb v.out.lt)
  have HB1 := Lib.hid (below_next b0.out hb)
  have k1 : w1.cell? ⟨w.heap.size, 0, none⟩ = some (.int .i64 k) := (hb.cell v.out.lt).trans k0
  clear hb cw k0 v b0
  go_wp2_with fail
  refine (cf.out _).mono ?_
  rintro e w2 ⟨rfl, hb⟩
  have V2 := Lib.hid (V1.out.below hb V1.out.lt)
  have HB2 := Lib.hid (below_next HB1.out hb)
  have HXX := Lib.hid (fun w' (h : CA w' w.heap.size c.cells 32) => And.intro (h.cell 4) (And.intro (h.cell 5) (And.intro (h.cell 6) (And.intro (h.cell 7) (And.intro (h.cell 8) (h.cell 9))))))
  clear hb cf k1 V1 HB1
  go_wp2_with fail
  go_loopw [3, 5] (fun t i wr => ∃ j : Nat, j ≤ (fm k).length ∧ i = .int .i64 j ∧ t = strV (pr c k j) ∧ Below w2.heap.size w2 wr) (fun _ i _ => (fm k).length - (RowKit.intOf i).toNat)
  case atStart => exact ⟨0, Nat.zero_le _, rfl, by rw [pr_zero], Below.refl _ _⟩
  case round =>
    obtain ⟨j, hj, rfl, rfl, hbr⟩ := hrel
    have HBr := Lib.hid hbr
    have VX := Lib.hid (V2.out.below hbr V2.out.lt)
    clear hbr
    by_cases hlt : j < (fm k).length
    · obtain ⟨b, hb⟩ : ∃ b, (fm k)[j]? = some b := ⟨_, List.getElem?_eq_getElem hlt⟩
      have HST := Lib.hid (pr_next (c := c) hb)
      have hl := HLEN.out j
      have hbm := HFM.out b (List.mem_of_getElem? hb)
      have HMEM := Lib.hid (List.mem_of_getElem? hb)
      generalize pr c k j = P at *
      rcases hbm with rfl | rfl | rfl | rfl | rfl
      · have i1 : ∀ w, (Instr.index 9 (strV (fm k)) (.int .i64 j)).run Tryd.prog w = .ok (.int .u8 110) w := lat hb
        obtain ⟨n, hn⟩ : ∃ n : Nat, c.nn = n := ⟨c.nn.toNat, by have := HR.out.nn0; omega⟩
        have hn2 : n ≤ 1073741824 := by have := HR.out.nn1; omega
        have a1 : wr.cell? ⟨w.heap.size, 2, none⟩ = some (.int .i64 n) := by rw [← hn]; exact VX.out.cell 2
        have HD : Hid (wd c (up 110) = decDigits n) := Lib.hid (by rw [← itoa_nat, ← hn]; rfl)
        have cd := Lib.hid (digits_any n hn2)
        have hdl : (decDigits n).length ≤ 10 := dig_len hn2
        clear hb hn hn2
        go_wp2_with fail
        refine (cd.out _).mono ?_
        rintro e w2 ⟨rfl, rfl⟩
        clear cd
        go_wp2_with fail
        refine ⟨⟨j + 1, by omega, by go_num, ?_, HBr.out⟩, meas_next hlt⟩
        rw [HST.out, HD.out]
        exact cat3 P [32] _
      · have i1 : ∀ w, (Instr.index 9 (strV (fm k)) (.int .i64 j)).run Tryd.prog w = .ok (.int .u8 111) w := lat hb
        have a1 : wr.cell? ⟨w.heap.size, 3, none⟩ = some (.bool c.on) := VX.out.cell 3
        have HD : Hid (wd c (up 111) = if c.on then tOn else tOff) := Lib.hid rfl
        clear hb
        generalize c.on = q at *
        cases q
        all_goals
          go_wp2_with fail
          refine ⟨⟨j + 1, by omega, by go_num, ?_, HBr.out⟩, meas_next hlt⟩
          rw [HST.out, HD.out]
          exact cat3 P [32] _
      · have i1 : ∀ w, (Instr.index 9 (strV (fm k)) (.int .i64 j)).run Tryd.prog w = .ok (.int .u8 112) w := lat hb
        obtain ⟨n, hn⟩ : ∃ n : Nat, c.po = n := ⟨c.po.toNat, by have := HR.out.po0; omega⟩
        have hn2 : n ≤ 1073741824 := by have := HR.out.po1; omega
        have a1 : wr.cell? ⟨w.heap.size, 1, none⟩ = some (.int .i64 n) := by rw [← hn]; exact VX.out.cell 1
        have HD : Hid (wd c (up 112) = decDigits n) := Lib.hid (by rw [← itoa_nat, ← hn]; rfl)
        have cd := Lib.hid (digits_any n hn2)
        have hdl : (decDigits n).length ≤ 10 := dig_len hn2
        clear hb hn hn2
        go_wp2_with fail
        refine (cd.out _).mono ?_
        rintro e w2 ⟨rfl, rfl⟩
        clear cd
        go_wp2_with fail
        refine ⟨⟨j + 1, by omega, by go_num, ?_, HBr.out⟩, meas_next hlt⟩
        rw [HST.out, HD.out]
        exact cat3 P [32] _
      · have i1 : ∀ w, (Instr.index 9 (strV (fm k)) (.int .i64 j)).run Tryd.prog w = .ok (.int .u8 108) w := lat hb
        have a1 : wr.cell? ⟨w.heap.size, 2, none⟩ = some (.int .i64 c.nn) := VX.out.cell 2
        have HD : Hid (wd c (up 108) = linkT c.nn) := Lib.hid rfl
        have h3 : c.nn = 0 ∨ c.nn = 1 ∨ c.nn = 2 := by have := HLL.out HMEM.out; have := HR.out.nn0; omega
        clear hb
        generalize c.nn = n at *
        have a2 : ∀ o, (wr.alloc o).cell? ⟨w.heap.size, 2, none⟩ = some (.int .i64 n) := fun o => by rw [World.cell?_alloc_old _ _ _ (Nat.ne_of_lt VX.out.lt)]; exact a1
        rcases h3 with rfl | rfl | rfl
        all_goals
          go_wp2_with fail
          refine ⟨⟨j + 1, by omega, by go_num, ?_, HBr.out.alloc HBr.out.size _⟩, meas_next hlt⟩
          rw [HST.out, HD.out]
          exact cat3 P [32] _
      · have i1 : ∀ w, (Instr.index 9 (strV (fm k)) (.int .i64 j)).run Tryd.prog w = .ok (.int .u8 109) w := lat hb
        obtain ⟨m0, m1, m2, m3, m4, m5⟩ := HXX.out wr VX.out
        simp only [Cm.cells, List.getElem?_toArray, List.getElem?_cons_succ, List.getElem?_cons_zero] at m0 m1 m2 m3 m4 m5
        have HD : Hid (wd c (up 109) = txt c.x 6) := Lib.hid rfl
        have ct := Lib.hid (fun w => refText_any c.x HR.out.x0 w)
        have htl : (txt c.x 6).length ≤ 17 := txt_le _ _ (by omega)
        clear hb
        go_wp2_with fail
        refine (ct.out _).mono ?_
        rintro e w3 ⟨rfl, hb3⟩
        have HB3 := Lib.hid (HBr.out.trans (hb3.mono HBr.out.size))
        clear ct hb3 m0 m1 m2 m3 m4 m5
        go_wp2_with fail
        refine ⟨⟨j + 1, by omega, by go_num, ?_, HB3.out⟩, meas_next hlt⟩
        rw [HST.out, HD.out]
        exact cat3 P [32] _
    · have hjf : (fm k).length ≤ j := by omega
      have HT := Lib.hid (HALL.out j hjf)
      have HBE := Lib.hid (below_next HB2.out HBr.out)
      go_wp2_with fail
      go_ret
      exact ⟨by rw [← HT.out]; rfl, HBE.out⟩
end Go.Proofs.YtlmdpaemhjcmbaaDoor
