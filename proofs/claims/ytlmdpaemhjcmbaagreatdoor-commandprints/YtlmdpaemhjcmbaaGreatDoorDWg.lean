/- Contracts of onText, linkText and word: what is written for a part of a form. -/
import Derived.Test.YtlmdpaemhjcmbaaGreatDoorDWf
namespace Go.Proofs.YtlmdpaemhjcmbaaGreatDoor.Cd
open Go.RowKit Go.Sort Go.Lib

theorem onText_any (b : Bool) (w : World) : Calls Tryz.prog 42 #[.bool b] w fun e w' => e = .returned (strV (if b then tOn else tOff)) ∧ w = w' := by
  cases b
  · go_enter Tryz.func42, Tryz.ntmps42
    go_wp2
    go_ret
    exact ⟨rfl, rfl⟩
  · go_enter Tryz.func42, Tryz.ntmps42
    go_wp2
    go_ret
    exact ⟨rfl, rfl⟩
theorem linkText_any (n : Int) (w : World) (he : Env w) : Calls Tryz.prog 43 #[.int .i64 n] w fun e w' => e = .returned (strV (linkT n)) ∧ w = w' := by
  have l0 : w.cell? ⟨1, 0, none⟩ = some (strV [97, 117, 116, 111]) := he.links 0 (by omega)
  have l1 : w.cell? ⟨1, 1, none⟩ = some (strV [116, 119, 111]) := he.links 1 (by omega)
  have l2 : w.cell? ⟨1, 2, none⟩ = some (strV [109, 97, 110, 121]) := he.links 2 (by omega)
  by_cases h0 : n = 0
  · subst h0
    go_enter Tryz.func43, Tryz.ntmps43
    go_wp2
    go_ret
    exact ⟨rfl, rfl⟩
  by_cases h1 : n = 1
  · subst h1
    go_enter Tryz.func43, Tryz.ntmps43
    go_wp2
    go_ret
    exact ⟨rfl, rfl⟩
  by_cases h2 : n = 2
  · subst h2
    go_enter Tryz.func43, Tryz.ntmps43
    go_wp2
    go_ret
    exact ⟨rfl, rfl⟩
  have H : Hid (linkT n = []) := Lib.hid (by unfold linkT; rw [if_neg h0, if_neg h1, if_neg h2])
  by_cases h3 : n < 0
  · clear h0 h1 h2
    go_enter Tryz.func43, Tryz.ntmps43
    go_wp2
    go_ret
    exact ⟨by rw [H.out]; rfl, rfl⟩
  · have h4 : 3 ≤ n := by omega
    clear h0 h1 h2
    go_enter Tryz.func43, Tryz.ntmps43
    go_wp2
    go_ret
    exact ⟨by rw [H.out]; rfl, rfl⟩
/-- What every command's fields are. -/
structure Cm.Fit (c : Cm) : Prop where
  w0 : -9223372036854775808 ≤ c.wh
  w1 : c.wh ≤ 9223372036854775807
  p0 : -9223372036854775808 ≤ c.po
  p1 : c.po ≤ 9223372036854775807
  n0 : -9223372036854775808 ≤ c.nn
  n1 : c.nn ≤ 9223372036854775807
  x0 : ∀ i, c.x i < 256
  x1 : ∀ i, 6 ≤ i → c.x i = 0
set_option maxHeartbeats 1000000 in
theorem word_any (c : Cm) (hc : c.Fit) (p : List UInt8) (w : World) (he : Env w) :
    Calls Tryz.prog 27 #[.agg c.cells, strV p] w fun e w' => e = .returned (strV (wd c p)) ∧ Below w.heap.size w w' := by
  have v := Lib.hid (var_new w c.cells 33)
  have b0 := Lib.hid (box_below w (.cells c.cells 33))
  have E := Lib.hid (he.below b0.out)
  have k1 : (w.alloc (.cells c.cells 33)).cell? ⟨w.heap.size, 1, none⟩ = some (.int .i64 c.po) := v.out.cell 1
  have k2 : (w.alloc (.cells c.cells 33)).cell? ⟨w.heap.size, 2, none⟩ = some (.int .i64 c.nn) := v.out.cell 2
  have k3 : (w.alloc (.cells c.cells 33)).cell? ⟨w.heap.size, 3, none⟩ = some (.bool c.on) := v.out.cell 3
  have m0 : (w.alloc (.cells c.cells 33)).cell? ⟨w.heap.size, 4, none⟩ = some (.int .u8 (c.x 0)) := v.out.cell 4
  have m1 : (w.alloc (.cells c.cells 33)).cell? ⟨w.heap.size, 5, none⟩ = some (.int .u8 (c.x 1)) := v.out.cell 5
  have m2 : (w.alloc (.cells c.cells 33)).cell? ⟨w.heap.size, 6, none⟩ = some (.int .u8 (c.x 2)) := v.out.cell 6
  have m3 : (w.alloc (.cells c.cells 33)).cell? ⟨w.heap.size, 7, none⟩ = some (.int .u8 (c.x 3)) := v.out.cell 7
  have m4 : (w.alloc (.cells c.cells 33)).cell? ⟨w.heap.size, 8, none⟩ = some (.int .u8 (c.x 4)) := v.out.cell 8
  have m5 : (w.alloc (.cells c.cells 33)).cell? ⟨w.heap.size, 9, none⟩ = some (.int .u8 (c.x 5)) := v.out.cell 9
  have cP := Lib.hid (itoa_any c.po hc.p0 hc.p1 _ E.out)
  have cN := Lib.hid (itoa_any c.nn hc.n0 hc.n1 _ E.out)
  have cO := Lib.hid (onText_any c.on (w.alloc (.cells c.cells 33)))
  have cL := Lib.hid (linkText_any c.nn _ E.out)
  have cM := Lib.hid (text_any c.x hc.x0 (w.alloc (.cells c.cells 33)))
  by_cases h1 : p = [80]
  · subst h1
    have HW := Lib.hid (wdP c)
    clear v he hc
    generalize wd c [80] = W at *
    generalize c.cells = C at *
    go_enter Tryz.func27, Tryz.ntmps27
    go_wp2_with fail
    refine cP.out.mono ?_
    rintro e w1 ⟨rfl, hb⟩
    have HB := Lib.hid (below_next b0.out hb)
    clear hb
    go_wp2_with fail
    go_ret
    exact ⟨by rw [HW.out]; rfl, HB.out⟩
  by_cases h2 : p = [78]
  · subst h2
    have HW := Lib.hid (wdN c)
    clear v he hc
    generalize wd c [78] = W at *
    generalize c.cells = C at *
    go_enter Tryz.func27, Tryz.ntmps27
    go_wp2_with fail
    refine cN.out.mono ?_
    rintro e w1 ⟨rfl, hb⟩
    have HB := Lib.hid (below_next b0.out hb)
    clear hb
    go_wp2_with fail
    go_ret
    exact ⟨by rw [HW.out]; rfl, HB.out⟩
  by_cases h3 : p = [79]
  · subst h3
    have HW := Lib.hid (wdO c)
    clear v he hc
    generalize (if c.on = true then tOn else tOff) = T at *
    generalize wd c [79] = W at *
    generalize c.cells = C at *
    go_enter Tryz.func27, Tryz.ntmps27
    go_wp2_with fail
    refine cO.out.mono ?_
    rintro e w1 ⟨rfl, rfl⟩
    go_wp2_with fail
    go_ret
    exact ⟨by rw [HW.out]; rfl, b0.out⟩
  by_cases h4 : p = [76]
  · subst h4
    have HW := Lib.hid (wdL c)
    clear v he hc
    generalize wd c [76] = W at *
    generalize c.cells = C at *
    go_enter Tryz.func27, Tryz.ntmps27
    go_wp2_with fail
    refine cL.out.mono ?_
    rintro e w1 ⟨rfl, rfl⟩
    go_wp2_with fail
    go_ret
    exact ⟨by rw [HW.out]; rfl, b0.out⟩
  by_cases h5 : p = [77]
  · subst h5
    have HW := Lib.hid (wdM c)
    clear v he hc
    generalize wd c [77] = W at *
    generalize c.cells = C at *
    go_enter Tryz.func27, Tryz.ntmps27
    go_wp2_with fail
    refine cM.out.mono ?_
    rintro e w1 ⟨rfl, hb⟩
    have HB := Lib.hid (below_next b0.out hb)
    clear hb
    go_wp2_with fail
    go_ret
    exact ⟨by rw [HW.out]; rfl, HB.out⟩
  · have q1 := lst_ne h1
    have q2 := lst_ne h2
    have q3 := lst_ne h3
    have q4 := lst_ne h4
    have q5 := lst_ne h5
    have HW : Hid (wd c p = p) := Lib.hid (by unfold wd; rw [if_neg h1, if_neg h2, if_neg h3, if_neg h4, if_neg h5])
    clear v he hc h1 h2 h3 h4 h5
    generalize wd c p = W at *
    generalize c.cells = C at *
    go_enter Tryz.func27, Tryz.ntmps27
    go_wp2_with fail
    go_ret
    exact ⟨by rw [HW.out]; rfl, b0.out⟩
end Go.Proofs.YtlmdpaemhjcmbaaGreatDoor.Cd
