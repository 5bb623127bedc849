/- Frames as values; the contracts of Plain, of both Right, and of what Bytes calls for its number. -/
import Derived.Test.YtfdhkbkonennjaaG
namespace Go.Proofs.Ytfdhkbkonennjaa
open Go.RowKit Go.Sort

/-- A frame's cells: two addresses, a type, a Body. -/
abbrev frC (x y : Nat → Nat) (t : Nat) (v : Value) : Array Value := #[.int .u8 (x 0), .int .u8 (x 1), .int .u8 (x 2), .int .u8 (x 3), .int .u8 (x 4), .int .u8 (x 5), .int .u8 (y 0), .int .u8 (y 1), .int .u8 (y 2), .int .u8 (y 3), .int .u8 (y 4), .int .u8 (y 5), .int .u16 t, v]
abbrev frV (x y : Nat → Nat) (t : Nat) (v : Value) : Value := .agg (frC x y t v)
abbrev rfC (x y : Nat → Nat) (t : Nat) (l : List UInt8) : Array Value := #[.int .u8 (x 0), .int .u8 (x 1), .int .u8 (x 2), .int .u8 (x 3), .int .u8 (x 4), .int .u8 (x 5), .int .u8 (y 0), .int .u8 (y 1), .int .u8 (y 2), .int .u8 (y 3), .int .u8 (y 4), .int .u8 (y 5), .int .i64 t, strV l]
abbrev rfV (x y : Nat → Nat) (t : Nat) (l : List UInt8) : Value := .agg (rfC x y t l)
abbrev rfZ : Array Value := #[.int .u8 0, .int .u8 0, .int .u8 0, .int .u8 0, .int .u8 0, .int .u8 0, .int .u8 0, .int .u8 0, .int .u8 0, .int .u8 0, .int .u8 0, .int .u8 0, .int .i64 0, .string ⟨#[]⟩]
/-- May a frame be encoded? -/
def Rt (y : Nat → Nat) (t : Nat) (n : Nat) : Prop := y 0 % 2 = 0 ∧ n ≤ 1500 ∧ (t = 0 ∨ 1536 ≤ t)
instance (y : Nat → Nat) (t n : Nat) : Decidable (Rt y t n) := by unfold Rt; exact inferInstance

theorem bts_string {w : World} {B : Nat} {v : Value} {l : List UInt8} (h : Bts w B v l) : (convert 25 9 v).run Try.prog w = .ok (strV l) w := by
  rcases h with ⟨rfl, rfl⟩ | ⟨a, cap, rfl, h1, h2, h3, h4⟩
  · rw [run_convert_bytes_string w 25 9 5 none 0 0 und22 und5 und9]; rfl
  · exact run_convert_bytes_back w 25 9 5 a cap l und22 und5 und9 h4

set_option maxHeartbeats 1000000 in
theorem plain_any (x y : Nat → Nat) (t : Nat) (v : Value) (l : List UInt8) (B : Nat) (w : World) (ht : t < 65536) (hv : Bts w B v l) (hB : B ≤ w.heap.size) :
    Calls Try.prog 7 #[frV x y t v] w fun e w' => e = .returned (rfV x y t l) ∧ Below w.heap.size w w' := by
  have hb : Below w.heap.size w ((w.alloc (.cells (frC x y t v) 27)).alloc (.cells rfZ 30)) := (box_below w _).alloc (by rw [alloc_size]; omega) _
  have e := bts_string (hv.below hb hB)
  have HB := Lib.hid hb
  clear hb hv
  go_enter Try.func7, Try.ntmps7
  go_wp2
  go_returns
  exact ⟨rfl, ((Below.refl _ _).alloc (Nat.le_refl _) _).alloc (by rw [alloc_size]; omega) _⟩
theorem bts_len {w : World} {B : Nat} {v : Value} {l : List UInt8} (h : Bts w B v l) : ∃ p cap, v = .slice p l.length cap ∧ l.length ≤ 9223372036854775807 := by
  obtain ⟨h0, p, cap, rfl, _⟩ := bts_parts h
  unfold maxLen at h0
  exact ⟨p, cap, rfl, by omega⟩
theorem ret_bool {a b : Bool} (h : a = b) : Ending.returned (.bool a) = .returned (.bool b) := by rw [h]
theorem decideRt {y : Nat → Nat} {t n : Nat} {b : Bool} (h : b = true ↔ Rt y t n) : b = decide (Rt y t n) := by
  by_cases hr : Rt y t n
  · rw [h.2 hr]; simp [hr]
  · cases b with
    | true => exact absurd (h.1 rfl) hr
    | false => simp [hr]

set_option maxHeartbeats 1000000 in
theorem right_any (x y : Nat → Nat) (t : Nat) (p : Option Addr) (n cap : Nat) (w : World) (ht : t < 65536) (hn : n ≤ 9223372036854775807) :
    Calls Try.prog 9 #[frV x y t (.slice p n cap)] w fun e w' => e = .returned (.bool (decide (Rt y t n))) ∧ Below w.heap.size w w' := by
  have hv := var_new w (frC x y t (.slice p n cap)) 27
  have hb := box_below w (.cells (frC x y t (.slice p n cap)) 27)
  have HV := Lib.hid hv
  have HB := Lib.hid hb
  clear hv hb
  go_enter Try.func9, Try.ntmps9
  go_wp2_with fail
  refine (grouped_any y _).mono ?_
  rintro e w1 ⟨rfl, hb1⟩
  have v1 := HV.out.below hb1 HV.out.lt
  have c12 : w1.cell? ⟨w.heap.size, 12, none⟩ = some (.int .u16 t) := v1.cell 12
  have c13 : w1.cell? ⟨w.heap.size, 13, none⟩ = some (.slice p n cap) := v1.cell 13
  have HB1 := Lib.hid (below_next HB.out hb1)
  clear v1 hb1 HV HB
  by_cases hg : (y 0 : Int) % 2 = 1
  · go_wp2_with fail
    go_ret
    exact ⟨ret_bool (decideRt (by unfold Rt; simp; omega)), HB1.out⟩
  · by_cases h1 : (n : Int) ≤ 1500
    · by_cases h2 : (t : Int) = 0
      · go_wp2_with fail
        go_ret
        exact ⟨ret_bool (decideRt (by unfold Rt; simp; omega)), HB1.out⟩
      · go_wp2_with fail
        go_ret
        exact ⟨ret_bool (decideRt (by unfold Rt; simp; omega)), HB1.out⟩
    · go_wp2_with fail
      go_ret
      exact ⟨ret_bool (decideRt (by unfold Rt; simp; omega)), HB1.out⟩

theorem str_len (l : List UInt8) : (⟨l.toArray⟩ : ByteArray).size = l.length := by simp [ByteArray.size]
set_option maxHeartbeats 1000000 in
theorem refRight_any (x y : Nat → Nat) (t : Nat) (l : List UInt8) (w : World) (hx : ∀ i, y i < 256) (ht : t < 65536) (hn : l.length ≤ 9223372036854775807) :
    Calls Try.prog 10 #[rfV x y t l] w fun e w' => e = .returned (.bool (decide (Rt y t l.length))) ∧ Below w.heap.size w w' := by
  have hb := box_below w (.cells (rfC x y t l) 30)
  have HB := Lib.hid hb
  clear hb
  have hy := hx 0
  clear hx
  have hs := str_len l
  by_cases hg : (y 0 : Int) % 2 = 0
  · by_cases h1 : (l.length : Int) ≤ 1500
    · by_cases h2 : (t : Int) = 0
      · go_enter Try.func10, Try.ntmps10
        go_wp2
        go_ret
        exact ⟨ret_bool (decideRt (by unfold Rt; simp; omega)), HB.out⟩
      · go_enter Try.func10, Try.ntmps10
        go_wp2
        go_ret
        exact ⟨ret_bool (decideRt (by unfold Rt; simp; omega)), HB.out⟩
    · go_enter Try.func10, Try.ntmps10
      go_wp2
      go_ret
      exact ⟨ret_bool (decideRt (by unfold Rt; simp; omega)), HB.out⟩
  · go_enter Try.func10, Try.ntmps10
    go_wp2
    go_ret
    exact ⟨ret_bool (decideRt (by unfold Rt; simp; omega)), HB.out⟩

/-- The number of two bytes before a Body. -/
def numB (t n : Nat) : Nat := if t = 0 then n else t
set_option maxHeartbeats 1000000 in
theorem fnum_any (x y : Nat → Nat) (t : Nat) (p : Option Addr) (n cap : Nat) (w : World) (ht : t < 65536) (hn : n ≤ 100000) :
    Calls Try.prog 19 #[frV x y t (.slice p n cap)] w fun e w' => e = .returned (.int .u64 (numB t n : Nat)) ∧ Below w.heap.size w w' := by
  have hb := box_below w (.cells (frC x y t (.slice p n cap)) 27)
  have HB := Lib.hid hb
  clear hb
  by_cases h2 : (t : Int) = 0
  · go_enter Try.func19, Try.ntmps19
    go_wp2
    go_ret
    exact ⟨by unfold numB; rw [if_pos (by omega)]; rfl, HB.out⟩
  · go_enter Try.func19, Try.ntmps19
    go_wp2
    go_ret
    exact ⟨by unfold numB; rw [if_neg (by omega)]; rfl, HB.out⟩
end Go.Proofs.Ytfdhkbkonennjaa
