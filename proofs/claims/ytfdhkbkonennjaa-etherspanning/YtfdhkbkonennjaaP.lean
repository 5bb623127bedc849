/- Frames of the protocol: HasPrefix, BPDU and its reference. -/
import Derived.Test.YtfdhkbkonennjaaH
import Derived.Deep.RegionHeld
namespace Go.Proofs.Ytfdhkbkonennjaa
open Go.RowKit Go.Sort

theorem ret_boolE {a b : Bool} (h : a = b) : Ending.returned (.bool a) = .returned (.bool b) := by rw [h]
theorem equal_any (a b : Value) (la lb : List UInt8) (B : Nat) (w : World) (ha : Bts w B a la) (hb : Bts w B b lb) :
    Calls Try.prog 37 #[a, b] w fun e w' => e = .returned (.bool (la == lb)) ∧ w = w' := by
  have e1 := bts_string ha
  have e2 := bts_string hb
  clear ha hb
  go_enter Try.func37, Try.ntmps37
  go_wp2_with fail
  go_ret
  exact ⟨rfl, rfl⟩
/-- What the Body of a frame of the protocol begins with. -/
abbrev mark : List UInt8 := [66, 66, 3]
theorem hasPrefix_any (s q : Value) (l : List UInt8) (B : Nat) (w : World) (hs : Bts w B s l) (hq : Bts w B q mark) (hl : l.length ≤ 10000) :
    Calls Try.prog 31 #[s, q] w fun e w' => e = .returned (.bool (l.take 3 == mark)) ∧ w = w' := by
  obtain ⟨pq, cq, rfl, -⟩ := bts_len hq
  have hq' := hq
  by_cases h : (3 : Int) ≤ l.length
  · rcases hs with ⟨_, hl0⟩ | ⟨a, cap, rfl, h1, h2, h3, h4⟩
    · rw [hl0] at h; simp at h
    have hsl : ∀ w, (Instr.slice 25 (.slice (some a) l.length cap) none (some (.int .i64 3)) none).run Try.prog w = .ok (.slice (some a) 3 cap) w := slice_head a l.length cap 3 (by omega)
    have c := equal_any _ _ (l.take 3) mark B w (bts_head 3 (by omega) h1 h2 h3 h4) hq
    clear hq hq' h4 h3 hl
    unfold maxLen at h2
    go_enter Try.func31, Try.ntmps31
    go_wp2_with fail
    refine c.mono ?_
    rintro e w1 ⟨rfl, rfl⟩
    go_wp2_with fail
    go_ret
    exact ⟨rfl, rfl⟩
  · obtain ⟨ps, cs, rfl, -⟩ := bts_len hs
    have e0 : (l.take 3 == mark) = false := by
      rw [beq_eq_false_iff_ne]
      intro e
      have := congrArg List.length e
      simp at this
      omega
    rw [e0]
    clear hs hq hq' e0 hl
    go_enter Try.func31, Try.ntmps31
    go_wp2_with fail
    go_ret
    exact ⟨rfl, rfl⟩

/-- Is it a frame of the protocol? -/
def isP (x : Nat → Nat) (t : Nat) (l : List UInt8) : Bool := ((x 0 : Int) == 1 && ((x 1 : Int) == 128 && ((x 2 : Int) == 194 && ((x 3 : Int) == 0 && ((x 4 : Int) == 0 && ((x 5 : Int) == 0 && true)))))) && (((t : Int) == 0) && (l.take 3 == mark))
def msgP (x : Nat → Nat) (t : Nat) (l : List UInt8) : List UInt8 := if isP x t l then l.drop 3 else []

theorem ext_list (l : List UInt8) (i j : Nat) : (⟨l.toArray⟩ : ByteArray).extract i j = ⟨((l.take j).drop i).toArray⟩ := by
  apply ByteArray.ext
  rw [ByteArray.data_extract]
  apply Array.ext'
  simp [List.drop_take]
theorem str_head (l : List UInt8) (h : 3 ≤ l.length) (w : World) : (Instr.slice 9 (strV l) none (some (.int .i64 3)) none).run Try.prog w = .ok (strV (l.take 3)) w := by
  rw [run_slice_string_to_if w 9 _ .i64 3 und9, if_pos (by rw [str_len]; omega)]
  rw [ext_list]
  rfl
theorem str_tail (l : List UInt8) (h : 3 ≤ l.length) (w : World) : (Instr.slice 9 (strV l) (some (.int .i64 3)) none none).run Try.prog w = .ok (strV (l.drop 3)) w := by
  rw [run_slice_string_from_if w 9 _ .i64 3 und9, if_pos (by rw [str_len]; omega)]
  rw [ext_list, str_len, List.take_length]
  rfl
theorem eqItemD {d : Nat} {xs ys : Array Value} {i : Nat} {is : List Nat} {a b : Int} {r : Bool} {w : World} (hx : xs[i]? = some (.int .u8 a)) (hy : ys[i]? = some (.int .u8 b))
    (hr : (Op.eqItems (d + 1) 5 1 xs ys is).run Try.prog w = .ok r w) : (Op.eqItems (d + 1) 5 1 xs ys (i :: is)).run Try.prog w = .ok (a == b && r) w := by
  have e : i * 1 = i := Nat.mul_one i
  simp only [Op.eqItems, Sem.run_bind, e, part5 _ _ _ hx, part5 _ _ _ hy, Result.andThen_ok, run_equalIn_int _ d 5 .u8 .u8 a b und5]
  by_cases h : a = b
  · simp [h, hr]
  · simp [h]
theorem mac_eqT (d : Nat) (t : TypeId) (ht : Try.prog.underlying t = some (.array 6 5)) (a0 a1 a2 a3 a4 a5 b0 b1 b2 b3 b4 b5 : Int) (w : World) :
    (Op.equalIn (d + 2) t (.agg #[.int .u8 a0, .int .u8 a1, .int .u8 a2, .int .u8 a3, .int .u8 a4, .int .u8 a5]) (.agg #[.int .u8 b0, .int .u8 b1, .int .u8 b2, .int .u8 b3, .int .u8 b4, .int .u8 b5])).run Try.prog w
      = .ok (a0 == b0 && (a1 == b1 && (a2 == b2 && (a3 == b3 && (a4 == b4 && (a5 == b5 && true)))))) w := by
  obtain ⟨i, hi⟩ := inf5
  rw [run_equalIn_array w (d + 1) _ _ ht hi, cells5]
  exact eqItemD (i := 0) rfl rfl (eqItemD (i := 1) rfl rfl (eqItemD (i := 2) rfl rfl (eqItemD (i := 3) rfl rfl (eqItemD (i := 4) rfl rfl (eqItemD (i := 5) rfl rfl rfl)))))

theorem g22 : Try.prog.eqGuardType Try.prog.depth 22 = false := by kernel_rfl
def gB (x : Nat → Nat) : Bool := (x 0 : Int) == 1 && ((x 1 : Int) == 128 && ((x 2 : Int) == 194 && ((x 3 : Int) == 0 && ((x 4 : Int) == 0 && ((x 5 : Int) == 0 && true)))))
theorem isP_eq (x : Nat → Nat) (t : Nat) (l : List UInt8) : isP x t l = (gB x && (((t : Int) == 0) && (l.take 3 == mark))) := rfl
abbrev grpV : Value := .agg #[.int .u8 1, .int .u8 128, .int .u8 194, .int .u8 0, .int .u8 0, .int .u8 0]

set_option maxHeartbeats 1000000 in
theorem refBpdu_any (x y : Nat → Nat) (t : Nat) (l : List UInt8) (w : World) (hl : l.length ≤ 10000) :
    Calls Try.prog 15 #[rfV x y t l] w fun e w' => e = .returned (.tuple #[strV (msgP x t l), .bool (isP x t l)]) ∧ Below w.heap.size w w' := by
  have hb := Lib.hid (box_below w (.cells (rfC x y t l) 30))
  have q22 : ∀ w, (Op.equalIn 10000 22 (macV x) grpV).run Try.prog w = .ok (gB x) w := fun w => mac_eqT 9998 22 undA _ _ _ _ _ _ _ _ _ _ _ _ w
  have g := g22
  have hs := str_len l
  by_cases h0 : (t : Int) = 0
  · have t0 : ((t : Int) != 0) = false := by simp; omega
    have t1 : ((t : Int) == 0) = true := by simp; omega
    cases hg : gB x with
    | false =>
      have e : isP x t l = false := by rw [isP_eq, hg]; rfl
      have e2 : msgP x t l = [] := by unfold msgP; rw [e]; rfl
      rw [e, e2]
      rw [hg] at q22
      clear e e2 h0 hg hl
      go_enter Try.func15, Try.ntmps15
      go_wp2_with fail
      exact bodyPost_ret (v := .tuple #[strV [], .bool false]) (by simp [results, Try.results15, go_sem]) rfl ⟨rfl, hb.out⟩
    | true =>
      rw [hg] at q22
      by_cases h3 : (3 : Int) ≤ l.length
      · have s1 := str_head l (by omega)
        have s2 := str_tail l (by omega)
        have h3' : ¬ (l.length : Int) < 3 := by omega
        cases hm : (l.take 3 == mark) with
        | true =>
          have e : isP x t l = true := by rw [isP_eq, hg, t1, hm]; rfl
          have e2 : msgP x t l = l.drop 3 := by unfold msgP; rw [e]; rfl
          rw [e, e2]
          clear e e2 h0 hg hl h3
          go_enter Try.func15, Try.ntmps15
          go_wp2_with fail
          exact bodyPost_ret (v := .tuple #[strV (l.drop 3), .bool true]) (by simp [results, Try.results15, go_sem]) rfl ⟨rfl, hb.out⟩
        | false =>
          have e : isP x t l = false := by rw [isP_eq, hg, t1, hm]; rfl
          have e2 : msgP x t l = [] := by unfold msgP; rw [e]; rfl
          rw [e, e2]
          clear e e2 h0 hg hl h3
          go_enter Try.func15, Try.ntmps15
          go_wp2_with fail
          exact bodyPost_ret (v := .tuple #[strV [], .bool false]) (by simp [results, Try.results15, go_sem]) rfl ⟨rfl, hb.out⟩
      · have h3' : (l.length : Int) < 3 := by omega
        have hm : (l.take 3 == mark) = false := by
          rw [beq_eq_false_iff_ne]
          intro e
          have := congrArg List.length e
          simp at this
          omega
        have e : isP x t l = false := by rw [isP_eq, hg, t1, hm]; rfl
        have e2 : msgP x t l = [] := by unfold msgP; rw [e]; rfl
        rw [e, e2]
        clear e e2 h0 hg hl h3 hm
        go_enter Try.func15, Try.ntmps15
        go_wp2_with fail
        exact bodyPost_ret (v := .tuple #[strV [], .bool false]) (by simp [results, Try.results15, go_sem]) rfl ⟨rfl, hb.out⟩
  · have t0 : ((t : Int) != 0) = true := by simp; omega
    have t1 : ((t : Int) == 0) = false := by simp; omega
    have e : isP x t l = false := by rw [isP_eq, t1]; cases gB x <;> rfl
    have e2 : msgP x t l = [] := by unfold msgP; rw [e]; rfl
    rw [e, e2]
    clear e e2 h0 hl
    go_enter Try.func15, Try.ntmps15
    go_wp2_with fail
    exact bodyPost_ret (v := .tuple #[strV [], .bool false]) (by simp [results, Try.results15, go_sem]) rfl ⟨rfl, hb.out⟩
end Go.Proofs.Ytfdhkbkonennjaa
