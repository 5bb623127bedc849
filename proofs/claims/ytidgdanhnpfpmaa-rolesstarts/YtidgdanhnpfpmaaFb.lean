/- Contract of Fits. -/
import Derived.Test.YtidgdanhnpfpmaaFa
namespace Go.Proofs.Ytidgdanhnpfpmaa
open Go.RowKit Go.Sort

/-- A Bool came back: true only for few ports. -/
def IsF (n : Nat) (e : Ending) : Prop := ∃ q, e = .returned (.bool q) ∧ (q = true → n ≤ 20)
theorem idx32 (b o n c k : Nat) (h : k < n) (w : World) : (Instr.indexAt 32 (.slice (some ⟨b, o, none⟩) n c) (.int .i64 k)).run Try.prog w = .ok (.pointer (some ⟨b, o + k * 90, none⟩)) w := by
  go_simp
set_option maxHeartbeats 1000000 in
theorem fits_any (B : Bd) (s : Value) (n : Nat) (XS : Nat → Array Value) (w : World) (hs : PIn w s n XS) (ht : ∀ i, i < n → Typed (XS i)) :
    Calls Try.prog 6 #[.agg (B.cells s)] w fun e w' => IsF n e ∧ Below w.heap.size w w' := by
  obtain ⟨a, c, rfl, _, h1⟩ := hs
  have hv := Lib.hid (var_new w (B.cells (.slice a n c)) 34)
  have hB := Lib.hid (box_below w (.cells (B.cells (.slice a n c)) 34))
  have HT := Lib.hid ht
  have H1 := Lib.hid h1
  clear h1 ht
  go_enter Try.func6, Try.ntmps6
  go_wp2_with fail
  refine (times_any _ _ _ _ _).mono ?_
  rintro e w1 ⟨⟨q1, rfl⟩, hb⟩
  have V1 := Lib.hid (hv.out.below hb hv.out.lt)
  have B1 := Lib.hid (hB.out.trans (hb.mono hB.out.size))
  clear hb hv hB
  have b12 : w1.cell? ⟨w.heap.size, 12, none⟩ = some (.int .i64 B.ra) := V1.out.cell 12
  have b13 : w1.cell? ⟨w.heap.size, 13, none⟩ = some (.int .i64 B.rm) := V1.out.cell 13
  have b14 : w1.cell? ⟨w.heap.size, 14, none⟩ = some (.int .i64 B.rh) := V1.out.cell 14
  have b15 : w1.cell? ⟨w.heap.size, 15, none⟩ = some (.int .i64 B.rd) := V1.out.cell 15
  go_wp2_with fail
  refine (times_any _ _ _ _ _).mono ?_
  rintro e w2 ⟨⟨q2, rfl⟩, hb⟩
  have V2 := Lib.hid (V1.out.below hb V1.out.lt)
  have B2 := Lib.hid (B1.out.trans (hb.mono B1.out.size))
  clear hb V1 B1 b12 b13 b14 b15
  have b5 : w2.cell? ⟨w.heap.size, 5, none⟩ = some (.int .i64 B.tx) := V2.out.cell 5
  have b17 : w2.cell? ⟨w.heap.size, 17, none⟩ = some (.slice a n c) := V2.out.cell 17
  cases q1
  · go_wp2_with fail
    go_ret
    exact ⟨⟨false, rfl, fun h => by cases h⟩, B2.out⟩
  · cases q2
    · go_wp2_with fail
      go_ret
      exact ⟨⟨false, rfl, fun h => by cases h⟩, B2.out⟩
    · by_cases hn : 20 < n
      · go_wp2_with fail
        go_ret
        exact ⟨⟨false, rfl, fun h => by cases h⟩, B2.out⟩
      · have k1 := Lib.hid (seconds1 w2 B.tx)
        go_wp2_with fail
        refine k1.out.mono ?_
        rintro e w3 ⟨⟨q3, rfl⟩, rfl⟩
        have V3 := Lib.hid (V2.out.alloc (.cells #[.int .i64 B.tx] 3))
        have B3 := Lib.hid (B2.out.alloc B2.out.size (.cells #[.int .i64 B.tx] 3))
        clear k1 V2 B2 b5 b17
        generalize w2.alloc (.cells #[.int .i64 B.tx] 3) = w3 at *
        cases q3
        · go_wp2_with fail
          go_ret
          exact ⟨⟨false, rfl, fun h => by cases h⟩, B3.out⟩
        · go_wp2_with fail
          go_loopw [5] (fun i wr => ∃ k : Nat, k ≤ n ∧ i = .int .i64 k ∧ Below w3.heap.size w3 wr) (fun i _ => n - (intOf i).toNat)
          case atStart => exact ⟨0, Nat.zero_le _, rfl, Below.refl _ _⟩
          case round =>
            obtain ⟨k, hk, rfl, hnx⟩ := hrel
            have HN := Lib.hid hnx
            have b17 : wr.cell? ⟨w.heap.size, 17, none⟩ = some (.slice a n c) := (V3.out.below hnx V3.out.lt).cell 17
            clear hnx
            by_cases hlt : k < n
            · obtain ⟨b, o, rfl, hc⟩ := H1.out (by omega)
              have i0 := idx32 b o n c k hlt
              have hr : w.rangeAt b (o + k * 90) (XS k).toList := fun j v hj => by
                have hj' : j < 90 := by rw [← (HT.out k hlt).1]; simpa using (List.getElem?_eq_some_iff.1 hj).1
                rw [hc k hlt j hj']; simpa using hj
              have hr3 : wr.rangeAt b (o + k * 90) (XS k).toList := fun j v hj => cell_below HN.out (cell_below B3.out (hr j v hj))
              have HR := Lib.hid hr3
              clear hr hr3 hc
              go_wp2_with (with_reducible refine stopL 50 _ rfl ?_)
              refine Lib.hid ?_
              refine wpList_load_whole uP rfl sP rfl _ rfl rfl HR.out (HT.out k hlt).1 ?_
              go_wp2_with fail
              refine (fitsPort_any (XS k) (HT.out k hlt) _).mono ?_
              rintro e w5 ⟨⟨q, rfl⟩, hb⟩
              have B5 := Lib.hid (HN.out.trans (hb.mono HN.out.size))
              clear hb
              cases q
              · go_wp2_with fail
                go_ret
                exact ⟨⟨false, rfl, fun h => by cases h⟩, B3.out.trans (B5.out.mono B3.out.size)⟩
              · go_wp2_with fail
                exact ⟨⟨k + 1, by omega, by go_num, B5.out⟩, by simp [intOf]; omega⟩
            · go_wp2_with fail
              go_ret
              exact ⟨⟨true, rfl, fun _ => by omega⟩, B3.out.trans (HN.out.mono B3.out.size)⟩
end Go.Proofs.Ytidgdanhnpfpmaa
