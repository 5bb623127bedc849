/- Contract of roleOfReceived. -/
import Derived.Test.YtidgdanhnpfpmaaO
namespace Go.Proofs.Ytidgdanhnpfpmaa
open Go.RowKit Go.Sort

/-- The role of a port whose vector came. -/
def roleN (isRoot lt own : Bool) : Int := if isRoot then 1 else if lt then 2 else if own then 4 else 3
/-- What roleOfReceived asks of the world. -/
abbrev SR (bb pb o i r c b p r' c' b' p' : Nat) (w : World) : Prop :=
  w.cell? ⟨bb, 0, none⟩ = some (.int .u64 i) ∧
  w.cell? ⟨pb, o + 48, none⟩ = some (.int .u64 r) ∧ w.cell? ⟨pb, o + 49, none⟩ = some (.int .u32 c) ∧ w.cell? ⟨pb, o + 50, none⟩ = some (.int .u64 b) ∧ w.cell? ⟨pb, o + 51, none⟩ = some (.int .u16 p) ∧
  w.cell? ⟨pb, o + 56, none⟩ = some (.int .u64 r') ∧ w.cell? ⟨pb, o + 57, none⟩ = some (.int .u32 c') ∧ w.cell? ⟨pb, o + 58, none⟩ = some (.int .u64 b') ∧ w.cell? ⟨pb, o + 59, none⟩ = some (.int .u16 p')
theorem SR.call {bb pb o i r c b p r' c' b' p' : Nat} {w w1 : World} (hb : Below w.heap.size w w1) (h : SR bb pb o i r c b p r' c' b' p' w) : SR bb pb o i r c b p r' c' b' p' w1 := by
  obtain ⟨h1, h2, h3, h4, h5, h6, h7, h8, h9⟩ := h
  exact ⟨cell_below hb h1, cell_below hb h2, cell_below hb h3, cell_below hb h4, cell_below hb h5, cell_below hb h6, cell_below hb h7, cell_below hb h8, cell_below hb h9⟩
theorem roleR_any (q : Bool) (bb pb o i r c b p r' c' b' p' : Nat) (hi : i < 18446744073709551616) (hb' : b' < 18446744073709551616) (w : World) (hS : SR bb pb o i r c b p r' c' b' p' w) :
    Calls Try.prog 38 #[.pointer (some ⟨bb, 0, none⟩), .pointer (some ⟨pb, o, none⟩), .bool q] w fun e w' => e = .returned (.int .i64 (roleN q (ltV r c b p r' c' b' p') (eqM b' i))) ∧ Below w.heap.size w w' := by
  have k1 := better_any r c b p r' c' b' p'
  have k2 := fun w => isOwn_any r' c' b' p' i bb hb' hi w
  have HS0 := Lib.hid (show SR bb pb o i r c b p r' c' b' p' w.drew from hS)
  clear hS hi hb'
  generalize ltV r c b p r' c' b' p' = L at *
  generalize eqM b' i = E at *
  cases q
  · cases L
    · cases E
      · go_enter Try.func38, Try.ntmps38
        go_wp2_with fail
        go_region_held (fun w' => SR bb pb o i r c b p r' c' b' p' w')
          (first | with_reducible exact HS0.out | with_reducible assumption | exact SR.call hb (by with_reducible assumption))
          (first | (go_at_call 34; refine (k1 _).mono ?_; rintro e w1 ⟨rfl, hb⟩))
        have HS1 := Lib.hid ‹SR bb pb o i r c b p r' c' b' p' w1›
        have HB1 := Lib.hid ((Below.refl w.heap.size w).drew.trans hb)
        clear hb
        obtain ⟨c0, c1, c2, c3, c4, c5, c6, c7, c8⟩ := HS1.out
        go_wp2_with fail
        refine (k2 _ c0).mono ?_
        rintro e w2 ⟨rfl, hb⟩
        have HB2 := Lib.hid (below_next HB1.out hb)
        clear hb
        go_wp2
        go_ret
        exact ⟨rfl, HB2.out⟩
      · go_enter Try.func38, Try.ntmps38
        go_wp2_with fail
        go_region_held (fun w' => SR bb pb o i r c b p r' c' b' p' w')
          (first | with_reducible exact HS0.out | with_reducible assumption | exact SR.call hb (by with_reducible assumption))
          (first | (go_at_call 34; refine (k1 _).mono ?_; rintro e w1 ⟨rfl, hb⟩))
        have HS1 := Lib.hid ‹SR bb pb o i r c b p r' c' b' p' w1›
        have HB1 := Lib.hid ((Below.refl w.heap.size w).drew.trans hb)
        clear hb
        obtain ⟨c0, c1, c2, c3, c4, c5, c6, c7, c8⟩ := HS1.out
        go_wp2_with fail
        refine (k2 _ c0).mono ?_
        rintro e w2 ⟨rfl, hb⟩
        have HB2 := Lib.hid (below_next HB1.out hb)
        clear hb
        go_wp2
        go_ret
        exact ⟨rfl, HB2.out⟩
    · go_enter Try.func38, Try.ntmps38
      go_wp2_with fail
      go_region_held (fun w' => SR bb pb o i r c b p r' c' b' p' w')
        (first | with_reducible exact HS0.out | with_reducible assumption | exact SR.call hb (by with_reducible assumption))
        (first | (go_at_call 34; refine (k1 _).mono ?_; rintro e w1 ⟨rfl, hb⟩))
      have HB1 := Lib.hid ((Below.refl w.heap.size w).drew.trans hb)
      clear hb
      go_wp2
      go_ret
      exact ⟨rfl, HB1.out⟩
  · have HB := Lib.hid (Below.refl w.heap.size w)
    go_enter Try.func38, Try.ntmps38
    go_wp2
    go_ret
    exact ⟨rfl, HB.out⟩
end Go.Proofs.Ytidgdanhnpfpmaa
