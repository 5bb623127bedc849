/- The public ParseUint at base 16 and 16 bits, and ident's Parse. Conditions: the library's two error variables hold errors, its table of bits' places; texts of at most 1000 bytes. -/
import Derived.Test.YtgeommhambkmgaaDoorT
namespace Go.Proofs.YtgeommhambkmgaaDoor
open Go.RowKit Go.Sort

set_option maxRecDepth 10000 in
theorem iparse_empty (w : World) : Calls Tryd.prog 33 #[strV [], .int .i64 16, .int .i64 16] w fun e w' => e = .returned (.tuple #[.int .u64 0, .iface 78 (.int .i64 2)]) ∧ w = w' := by
  go_enter Tryd.func33, Tryd.ntmps33
  go_wp2_with fail
  go_ret2
  exact ⟨rfl, rfl⟩
/-- The number of a text of figures. -/
def puN (l : List UInt8) : Option Nat := if l = [] then none else pu l 0
theorem iface_ne (t : TypeId) (v : Value) (w : World) : (binOp .neq 56 (.iface t v) .nilIface).run Tryd.prog w = .ok (.bool true) w := by kernel_rfl
theorem nil_ne (w : World) : (binOp .neq 56 .nilIface .nilIface).run Tryd.prog w = .ok (.bool false) w := by kernel_rfl
set_option maxRecDepth 10000 in
theorem parseUint_ok (l : List UInt8) (hl : l.length ≤ 1000) (n : Nat) (hn : puN l = some n) (w : World) :
    Calls Tryd.prog 25 #[strV l, .int .i64 16, .int .i64 16] w fun e w' => e = .returned (.tuple #[.int .u64 n, .nilIface]) ∧ Below w.heap.size w w' := by
  have h0 : 0 < l.length := by
    cases l with
    | nil => simp [puN] at hn
    | cons => simp
  have hp : pu l 0 = some n := by
    unfold puN at hn
    split at hn
    · cases hn
    · exact hn
  have c : Calls Tryd.prog 33 #[strV l, .int .i64 16, .int .i64 16] w fun e w' => e = .returned (.tuple #[.int .u64 (n : Int), .nilIface]) ∧ Below w.heap.size w w' :=
    (iparse_any l hl h0 w).mono fun e w' h => ⟨by have := h.1; unfold puE at this; rw [hp] at this; exact this, h.2⟩
  have hne := nil_ne
  clear hl hn h0 hp
  go_enter Tryd.func25, Tryd.ntmps25
  go_wp2_with fail
  refine c.mono ?_
  rintro e w1 ⟨rfl, hb⟩
  have HB := Lib.hid hb
  clear hb c
  go_wp2_with fail
  go_ret2
  exact ⟨rfl, HB.out⟩
set_option maxRecDepth 10000 in
theorem parseUint_bad (l : List UInt8) (hl : l.length ≤ 1000) (hn : puN l = none) (w : World) (h : Errs w) :
    Calls Tryd.prog 25 #[strV l, .int .i64 16, .int .i64 16] w fun e w' => (∃ (n : Int) (a : Addr), e = .returned (.tuple #[.int .u64 n, .iface 80 (.pointer (some a))])) ∧ Below w.heap.size w w' := by
  have c : Calls Tryd.prog 33 #[strV l, .int .i64 16, .int .i64 16] w fun e w' => (∃ (n k : Int), e = .returned (.tuple #[.int .u64 n, .iface 78 (.int .i64 k)]) ∧ (k = 1 ∨ k = 2)) ∧ Below w.heap.size w w' := by
    cases l with
    | nil => exact (iparse_empty w).mono fun e w' h => ⟨⟨0, 2, h.1, .inr rfl⟩, by rw [← h.2]; exact Below.refl _ _⟩
    | cons c r =>
      have hp : pu (c :: r) 0 = none := by
        unfold puN at hn
        rw [if_neg (by simp)] at hn
        exact hn
      exact (iparse_any (c :: r) hl (by simp) w).mono fun e w' h => ⟨by have := h.1; unfold puE at this; rw [hp] at this; exact this, h.2⟩
  have hne := iface_ne 78
  have c1 := toError_syntax [80, 97, 114, 115, 101, 85, 105, 110, 116] l hl 16 16
  have c2 := toError_range [80, 97, 114, 115, 101, 85, 105, 110, 116] l hl 16 16
  clear hl hn
  go_enter Tryd.func25, Tryd.ntmps25
  go_wp2_with fail
  refine c.mono ?_
  rintro e w1 ⟨⟨n, k, rfl, hk⟩, hb⟩
  have HB := Lib.hid hb
  have h1 := h.below hb
  clear hb c
  rcases hk with rfl | rfl
  · go_wp2_with fail
    refine (c2 _ h1).mono ?_
    rintro e w2 ⟨⟨a, rfl⟩, hb⟩
    have HB2 := Lib.hid (below_next HB.out hb)
    clear hb HB h1 h c1 c2
    go_wp2_with fail
    go_ret2
    exact ⟨⟨_, _, rfl⟩, HB2.out⟩
  · go_wp2_with fail
    refine (c1 _ h1).mono ?_
    rintro e w2 ⟨⟨a, rfl⟩, hb⟩
    have HB2 := Lib.hid (below_next HB.out hb)
    clear hb HB h1 h c1 c2
    go_wp2_with fail
    go_ret2
    exact ⟨⟨_, _, rfl⟩, HB2.out⟩

/-- What Cut leaves of a text. -/
def Cuts (l a r : List UInt8) (b : Bool) : Prop := ∀ w, Calls Tryd.prog 24 #[strV l, .string ⟨#[45]⟩] w fun e w' => e = .returned (.tuple #[strV a, strV r, .bool b]) ∧ Below w.heap.size w w'
set_option maxRecDepth 10000 in
theorem parse5_num (l a r : List UInt8) (b : Bool) (hc : Cuts l a r b) (hl : a.length ≤ 1000) (hn : puN a = none) (w : World) (h : Errs w) :
    Calls Tryd.prog 12 #[strV l] w fun e w' => e = .returned (.tuple #[.int .u64 0, .int .i64 3]) ∧ Below w.heap.size w w' := by
  have c1 := hc w
  have c2 := parseUint_bad a hl hn
  have hne := iface_ne 80
  clear hc hl hn
  go_enter Tryd.func12, Tryd.ntmps12
  go_wp2_with fail
  refine c1.mono ?_
  rintro e w1 ⟨rfl, hb⟩
  have HB := Lib.hid hb
  have h1 := h.below hb
  clear hb c1
  go_wp2_with fail
  refine (c2 _ h1).mono ?_
  rintro e w2 ⟨⟨n, p, rfl⟩, hb⟩
  have HB2 := Lib.hid (below_next HB.out hb)
  clear hb HB c2
  go_wp2_with fail
  go_ret2
  exact ⟨rfl, HB2.out⟩
set_option maxRecDepth 10000 in
theorem parse5_mac (l a r : List UInt8) (b : Bool) (hc : Cuts l a r b) (hl : a.length ≤ 1000) (n : Nat) (hn : puN a = some n) (hr : ¬ okTxt ⟨⟨r⟩⟩) (w : World) :
    Calls Tryd.prog 12 #[strV l] w fun e w' => e = .returned (.tuple #[.int .u64 0, .int .i64 3]) ∧ Below w.heap.size w w' := by
  have c1 := hc w
  have c2 := parseUint_ok a hl n hn
  have c3 := parse_bad ⟨⟨r⟩⟩ hr
  have hne := nil_ne
  clear hc hl hn hr
  go_enter Tryd.func12, Tryd.ntmps12
  go_wp2_with fail
  refine c1.mono ?_
  rintro e w1 ⟨rfl, hb⟩
  have HB := Lib.hid hb
  clear hb c1
  go_wp2_with fail
  refine (c2 _).mono ?_
  rintro e w2 ⟨rfl, hb⟩
  have HB2 := Lib.hid (below_next HB.out hb)
  clear hb HB c2
  go_wp2_with fail
  refine (c3 _).mono ?_
  rintro e w3 ⟨rfl, hb⟩
  have HB3 := Lib.hid (below_next (below_next HB2.out hb) (box_below w3 (macO zeroX 23)))
  clear hb HB2 c3
  go_wp2_with fail
  go_ret2
  exact ⟨rfl, HB3.out⟩
set_option maxRecDepth 10000 in
theorem parse5_back (l a r : List UInt8) (b : Bool) (hc : Cuts l a r b) (hl : a.length ≤ 1000) (n : Nat) (hn : puN a = some n) (hn2 : n < 65536) (hr : okTxt ⟨⟨r⟩⟩) (w : World) (h : Env w) (hT : (idT (idN n (macOf ⟨⟨r⟩⟩)) == l) = true) :
    Calls Tryd.prog 12 #[strV l] w fun e w' => e = .returned (.tuple #[.int .u64 (idN n (macOf ⟨⟨r⟩⟩)), .int .i64 0]) ∧ Below w.heap.size w w' := by
  have c1 := hc w
  have c2 := parseUint_ok a hl n hn
  have c3 := parse_good ⟨⟨r⟩⟩ hr
  have c4 := join_any n hn2 (macOf ⟨⟨r⟩⟩) (macOf_lt _)
  have c5 := text5_ok (idN n (macOf ⟨⟨r⟩⟩)) (idN_lt hn2 (macOf_lt _))
  have hne := nil_ne
  clear hc hl hn hr hn2
  generalize idT (idN n (macOf ⟨⟨r⟩⟩)) = T at *
  generalize idN n (macOf ⟨⟨r⟩⟩) = N at *
  generalize macOf ⟨⟨r⟩⟩ = g at *
  go_enter Tryd.func12, Tryd.ntmps12
  go_wp2_with fail
  refine c1.mono ?_
  rintro e w1 ⟨rfl, hb⟩
  have HB := Lib.hid hb
  have h1 := h.below hb
  clear hb c1 h
  go_wp2_with fail
  refine (c2 _).mono ?_
  rintro e w2 ⟨rfl, hb⟩
  have HB2 := Lib.hid (below_next HB.out hb)
  have h2 := h1.below hb
  clear hb HB c2 h1
  go_wp2_with fail
  refine (c3 _).mono ?_
  rintro e w3 ⟨rfl, hb⟩
  have hb4 := below_next hb (box_below w3 (macO g 23))
  have h3 := h2.below hb4
  have HB3 := Lib.hid (below_next HB2.out hb4)
  clear hb hb4 HB2 c3 h2
  go_wp2_with fail
  refine (c4 _).mono ?_
  rintro e w4 ⟨rfl, hb⟩
  have h4 := h3.below hb
  have HB4 := Lib.hid (below_next HB3.out hb)
  clear hb HB3 c4 h3
  go_wp2_with fail
  refine (c5 _ h4).mono ?_
  rintro e w5 ⟨rfl, hb⟩
  have HB5 := Lib.hid (below_next HB4.out hb)
  clear hb HB4 c5 h4
  go_wp2_with fail
  go_ret2
  exact ⟨rfl, HB5.out⟩
set_option maxRecDepth 10000 in
theorem parse5_other (l a r : List UInt8) (b : Bool) (hc : Cuts l a r b) (hl : a.length ≤ 1000) (n : Nat) (hn : puN a = some n) (hn2 : n < 65536) (hr : okTxt ⟨⟨r⟩⟩) (w : World) (h : Env w) (hT : (idT (idN n (macOf ⟨⟨r⟩⟩)) == l) = false) :
    Calls Tryd.prog 12 #[strV l] w fun e w' => e = .returned (.tuple #[.int .u64 0, .int .i64 3]) ∧ Below w.heap.size w w' := by
  have c1 := hc w
  have c2 := parseUint_ok a hl n hn
  have c3 := parse_good ⟨⟨r⟩⟩ hr
  have c4 := join_any n hn2 (macOf ⟨⟨r⟩⟩) (macOf_lt _)
  have c5 := text5_ok (idN n (macOf ⟨⟨r⟩⟩)) (idN_lt hn2 (macOf_lt _))
  have hne := nil_ne
  clear hc hl hn hr hn2
  generalize idT (idN n (macOf ⟨⟨r⟩⟩)) = T at *
  generalize idN n (macOf ⟨⟨r⟩⟩) = N at *
  generalize macOf ⟨⟨r⟩⟩ = g at *
  go_enter Tryd.func12, Tryd.ntmps12
  go_wp2_with fail
  refine c1.mono ?_
  rintro e w1 ⟨rfl, hb⟩
  have HB := Lib.hid hb
  have h1 := h.below hb
  clear hb c1 h
  go_wp2_with fail
  refine (c2 _).mono ?_
  rintro e w2 ⟨rfl, hb⟩
  have HB2 := Lib.hid (below_next HB.out hb)
  have h2 := h1.below hb
  clear hb HB c2 h1
  go_wp2_with fail
  refine (c3 _).mono ?_
  rintro e w3 ⟨rfl, hb⟩
  have hb4 := below_next hb (box_below w3 (macO g 23))
  have h3 := h2.below hb4
  have HB3 := Lib.hid (below_next HB2.out hb4)
  clear hb hb4 HB2 c3 h2
  go_wp2_with fail
  refine (c4 _).mono ?_
  rintro e w4 ⟨rfl, hb⟩
  have h4 := h3.below hb
  have HB4 := Lib.hid (below_next HB3.out hb)
  clear hb HB3 c4 h3
  go_wp2_with fail
  refine (c5 _ h4).mono ?_
  rintro e w5 ⟨rfl, hb⟩
  have HB5 := Lib.hid (below_next HB4.out hb)
  clear hb HB4 c5 h4
  go_wp2_with fail
  go_ret2
  exact ⟨rfl, HB5.out⟩
end Go.Proofs.YtgeommhambkmgaaDoor
