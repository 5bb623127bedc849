/- The contracts of readHead and readBody. -/
import Derived.Test.YtdhmiekheecicaaDoorN
namespace Go.Proofs.YtdhmiekheecicaaDoor
open Go.RowKit Go.Sort

def byt (l : List UInt8) (i : Nat) : Nat := (l.getD i 0).toNat
theorem byt_lt (l : List UInt8) (i : Nat) : byt l i < 256 := (l.getD i 0).toNat_lt
theorem num1 {l : List UInt8} (h : 1 ≤ l.length) : numOf (l.take 1) = byt l 0 := by
  obtain ⟨a, m, rfl⟩ : ∃ a m, l = a :: m := by
    match l, h with
    | a :: m, _ => exact ⟨a, m, rfl⟩
  simp [byt, numOf]
theorem byt_drop (l : List UInt8) (k i : Nat) : byt (l.drop k) i = byt l (k + i) := by simp [byt, List.getD, List.getElem?_drop]
/-- The kind that a version and a type tell. -/
def kdOf (v t : Nat) : Int := if t = 128 then 2 else if t = 0 then 1 else if t = 2 ∧ 2 ≤ v then 3 else 0
/-- What is wrong with a head first. -/
def hdE (l : List UInt8) : Int := if l.length < 4 then 2 else if numOf (l.take 2) ≠ 0 then 3 else if kdOf (byt l 2) (byt l 3) = 0 then 3 else 0

set_option maxHeartbeats 2000000 in
theorem readHead_any {b s : Nat} {w0 w : World} {l : List UInt8} {v : Value} (h : St b s w0 l v w) :
    Calls Tryd.prog 28 #[ptr b] w fun e w' => (hdE l = 0 ∧ ∃ v', e = .returned (.int .i64 (kdOf (byt l 2) (byt l 3))) ∧ St b s w0 (l.drop 4) v' w') ∨ (hdE l ≠ 0 ∧ Stops b s w0 (hdE l) e w') := by
  have c1 := h.left
  have hlen := h.len
  by_cases hl : l.length < 4
  · have c2 := h.halt 2
    have e : hdE l = 2 := by unfold hdE; rw [if_pos hl]
    rw [e]
    clear h e
    go_enter Tryd.func28, Tryd.ntmps28
    go_wp2_with fail
    refine c1.mono ?_
    rintro e w1 ⟨rfl, rfl⟩
    go_wp2_with fail
    refine c2.mono ?_
    rintro e w1 ⟨rfl, hs⟩
    exact ⟨rfl, .inr ⟨by decide, rfl, hs⟩⟩
  · have c2 := h.is 2 (by omega) (by omega) 3
    have E1 := Lib.hid (show hdE l = if numOf (l.take 2) ≠ 0 then 3 else if kdOf (byt l 2) (byt l 3) = 0 then 3 else 0 by unfold hdE; rw [if_neg hl])
    clear h
    go_enter Tryd.func28, Tryd.ntmps28
    go_wp2_with fail
    refine c1.mono ?_
    rintro e w1 ⟨rfl, rfl⟩
    go_wp2_with fail
    refine c2.mono ?_
    intro e w1 hE
    rcases hE.symm with ⟨h0, rfl, hs⟩ | ⟨h0, v1, rfl, S1⟩
    · have e3 : hdE l = 3 := by rw [E1.out, if_pos h0]
      exact ⟨rfl, .inr ⟨by rw [e3]; decide, rfl, by rw [e3]; exact hs⟩⟩
    have E2 := Lib.hid (show hdE l = if kdOf (byt l 2) (byt l 3) = 0 then 3 else 0 by rw [E1.out, if_neg (by simp [h0])])
    have c3 := S1.num 1 (by omega)
    clear c1 c2 E1 h0 S1
    go_wp2_with fail
    refine c3.mono ?_
    intro e w2 hE
    rcases hE.symm with ⟨hc, -⟩ | ⟨-, v2, rfl, S2, -⟩
    · rw [List.length_drop] at hc; omega
    rw [num1 (by rw [List.length_drop]; omega), byt_drop]
    rw [List.drop_drop] at S2
    have c4 := S2.num 1 (by omega)
    clear c3 S2 hE
    have hv := byt_lt l 2
    have ht := byt_lt l 3
    go_wp2_with fail
    refine c4.mono ?_
    intro e w3 hE
    rcases hE.symm with ⟨hc, -⟩ | ⟨-, v3, rfl, S3, -⟩
    · rw [List.length_drop] at hc; omega
    rw [num1 (by rw [List.length_drop]; omega), byt_drop]
    rw [List.drop_drop] at S3
    have c5 := S3.halt 3
    have S4 := Lib.hid S3
    clear c4 S3 hE
    simp only [Nat.reduceAdd, Nat.add_zero] at *
    generalize hV : byt l 2 = V at *
    generalize hT : byt l 3 = T at *
    have HK := Lib.hid (show kdOf (byt l 2) (byt l 3) = kdOf V T by rw [hV, hT])
    clear hV hT
    by_cases t1 : T = 128
    · subst t1
      have q : kdOf V 128 = 2 := by unfold kdOf; rw [if_pos rfl]
      have E3 := Lib.hid (show hdE l = 0 by rw [E2.out, q]; rfl)
      have Q := Lib.hid (HK.out.trans q)
      clear c5 E2 q HK
      go_wp2_with fail
      go_ret
      exact .inl ⟨E3.out, v3, ret_int Q.out.symm, S4.out⟩
    · by_cases t2 : T = 0
      · subst t2
        have q : kdOf V 0 = 1 := by unfold kdOf; rfl
        have E3 := Lib.hid (show hdE l = 0 by rw [E2.out, q]; rfl)
        have Q := Lib.hid (HK.out.trans q)
        clear c5 E2 q HK
        go_wp2_with fail
        go_ret
        exact .inl ⟨E3.out, v3, ret_int Q.out.symm, S4.out⟩
      · by_cases t3 : T = 2
        · subst t3
          by_cases t4 : 2 ≤ V
          · have q : kdOf V 2 = 3 := by unfold kdOf; simp [t4]
            have E3 := Lib.hid (show hdE l = 0 by rw [E2.out, q]; rfl)
            have Q := Lib.hid (HK.out.trans q)
            clear c5 E2 q HK
            go_wp2_with fail
            go_ret
            exact .inl ⟨E3.out, v3, ret_int Q.out.symm, S4.out⟩
          · have q : kdOf V 2 = 0 := by unfold kdOf; simp [t4]
            have E3 := Lib.hid (show hdE l = 3 by rw [E2.out, q]; rfl)
            clear E2 q HK
            go_wp2_with fail
            refine c5.mono ?_
            rintro e w4 ⟨rfl, hs⟩
            exact ⟨rfl, .inr ⟨by rw [E3.out]; decide, rfl, by rw [E3.out]; exact hs⟩⟩
        · have q : kdOf V T = 0 := by unfold kdOf; simp [t1, t2, t3]
          have E3 := Lib.hid (show hdE l = 3 by rw [E2.out, q]; rfl)
          clear E2 q HK
          go_wp2_with fail
          refine c5.mono ?_
          rintro e w4 ⟨rfl, hs⟩
          exact ⟨rfl, .inr ⟨by rw [E3.out]; decide, rfl, by rw [E3.out]; exact hs⟩⟩
end Go.Proofs.YtdhmiekheecicaaDoor
