/- AddrTexts returns true for every text, and turns nothing that was there. -/
import Derived.Test.YtncgfjmadofopaaJ
namespace Go.Proofs.Ytncgfjmadofopaa
open Go.RowKit Go.Sort

set_option maxHeartbeats 1000000 in
theorem texts_long (s : ByteArray) (h : 100 < s.size) (w : World) : Calls Try.prog 4 #[.string s] w fun e w' => e = .returned (.bool true) ∧ Below w.heap.size w w' := by
  go_enter Try.func4, Try.ntmps4
  go_wp2_with fail
  refine (lives_ok _).mono ?_
  rintro e w1 ⟨rfl, hb⟩
  have HB := Lib.hid hb
  clear hb
  go_wp2_with fail
  refine (lives_ok _).mono ?_
  rintro e w2 ⟨rfl, hb⟩
  have HB2 := Lib.hid hb
  clear hb
  go_wp2_with fail
  go_ret
  exact ⟨rfl, below_next HB.out HB2.out⟩

set_option maxHeartbeats 1000000 in
theorem texts_good (s : ByteArray) (h : ¬ 100 < s.size) (hs : okTxt s) (w : World) : Calls Try.prog 4 #[.string s] w fun e w' => e = .returned (.bool true) ∧ Below w.heap.size w w' := by
  have hp := parse_good s hs
  have ht := text_any (macOf s) (macOf_lt s)
  rw [txt_of hs] at ht
  have hr := fun w => refParse_any s w
  rw [refEnd_good hs] at hr
  have q := mac_same (macOf s)
  have g23' := g23
  generalize hg : macOf s = g at *
  clear hg hs
  go_enter Try.func4, Try.ntmps4
  go_wp2_with fail
  refine (lives_ok _).mono ?_
  rintro e w1 ⟨rfl, hb⟩
  have HB := Lib.hid hb
  clear hb
  go_wp2_with fail
  refine (hp _).mono ?_
  rintro e w2 ⟨rfl, hb⟩
  have HB2 := Lib.hid (below_next HB.out hb)
  clear hb HB hp
  go_wp2_with fail
  refine (hr _).mono ?_
  rintro e w3 ⟨rfl, hb⟩
  have v1 : At w3 w2.heap.size g := (box_at w2 g 23).below hb (by rw [alloc_size]; omega)
  have HB3 := Lib.hid (below_next (below_next HB2.out (box_below w2 (macO g 23))) hb)
  clear hb HB2 hr
  have u : At (w3.alloc (macO g 22)) w2.heap.size g := v1.below (box_below _ _) v1.lt
  have m0 := u 0 (by omega)
  have m1 := u 1 (by omega)
  have m2 := u 2 (by omega)
  have m3 := u 3 (by omega)
  have m4 := u 4 (by omega)
  have m5 := u 5 (by omega)
  clear u v1
  go_wp2_with fail
  refine (ht _).mono ?_
  rintro e w4 ⟨rfl, hb⟩
  have HB4 := Lib.hid (below_next (below_next HB3.out (box_below w3 (macO g 22))) hb)
  clear hb HB3 ht m0 m1 m2 m3 m4 m5
  go_wp2_with fail
  go_ret
  exact ⟨by first | rfl | simp, HB4.out⟩

set_option maxHeartbeats 1000000 in
theorem texts_bad (s : ByteArray) (h : ¬ 100 < s.size) (hs : ¬ okTxt s) (w : World) : Calls Try.prog 4 #[.string s] w fun e w' => e = .returned (.bool true) ∧ Below w.heap.size w w' := by
  have hp := parse_bad s hs
  have hr := fun w => refParse_any s w
  rw [refEnd_bad hs] at hr
  have q := mac_same zeroX
  have g23' := g23
  clear hs
  go_enter Try.func4, Try.ntmps4
  go_wp2_with fail
  refine (lives_ok _).mono ?_
  rintro e w1 ⟨rfl, hb⟩
  have HB := Lib.hid hb
  clear hb
  go_wp2_with fail
  refine (hp _).mono ?_
  rintro e w2 ⟨rfl, hb⟩
  have HB2 := Lib.hid (below_next HB.out hb)
  clear hb HB hp
  go_wp2_with fail
  refine (hr _).mono ?_
  rintro e w3 ⟨rfl, hb⟩
  have v1 : At w3 w2.heap.size zeroX := (box_at w2 zeroX 23).below hb (by rw [alloc_size]; omega)
  have HB3 := Lib.hid (below_next (below_next HB2.out (box_below w2 (macO zeroX 23))) hb)
  clear hb HB2 hr
  have u : At (w3.alloc (macO zeroX 22)) w2.heap.size zeroX := v1.below (box_below _ _) v1.lt
  have m0 := u 0 (by omega)
  have m1 := u 1 (by omega)
  have m2 := u 2 (by omega)
  have m3 := u 3 (by omega)
  have m4 := u 4 (by omega)
  have m5 := u 5 (by omega)
  clear u v1
  have z : ∀ w, (Op.equalIn 10000 23 (macV zeroX) (.agg #[.int .u8 0, .int .u8 0, .int .u8 0, .int .u8 0, .int .u8 0, .int .u8 0])).run Try.prog w = .ok true w := q
  go_wp2_with fail
  go_ret
  exact ⟨by first | rfl | simp, below_next HB3.out (box_below w3 (macO zeroX 22))⟩
theorem texts_any (s : ByteArray) (w : World) : Calls Try.prog 4 #[.string s] w fun e w' => e = .returned (.bool true) ∧ Below w.heap.size w w' := by
  by_cases h : 100 < s.size
  · exact texts_long s h w
  · by_cases hs : okTxt s
    · exact texts_good s h hs w
    · exact texts_bad s h hs w
end Go.Proofs.Ytncgfjmadofopaa
