/- A command in memory; contracts of parseLink, parseMac and take. -/
import Derived.Test.YtlmdpaemhjcmbaaGreatDoorDWa
namespace Go.Proofs.YtlmdpaemhjcmbaaGreatDoor.Cd
open Go.RowKit Go.Sort Go.Lib

/-- A command's cells. -/
def Cm.cells (c : Cm) : Array Value := #[.int .i64 c.wh, .int .i64 c.po, .int .i64 c.nn, .bool c.on, .int .u8 (c.x 0), .int .u8 (c.x 1), .int .u8 (c.x 2), .int .u8 (c.x 3), .int .u8 (c.x 4), .int .u8 (c.x 5)]
theorem Cm.size (c : Cm) : c.cells.size = 10 := rfl
theorem Env.under {w w' : World} {B : Nat} (h : Env w) (hb : Below B w w') (hB : 7 < B) : Env w' := by
  have c : ∀ (g k : Nat), g < 8 → w'.cell? ⟨g, k, none⟩ = w.cell? ⟨g, k, none⟩ := fun g k hg => hb.cell (by show g < B; omega)
  exact ⟨fun k hk => (c 0 k (by omega)).trans (h.forms k hk), fun k hk => (c 1 k (by omega)).trans (h.links k hk), by rw [c 2 0 (by omega)]; exact h.most,
    var?_below hb gb5 (by omega) h.tab, by rw [c 6 0 (by omega)]; exact h.esyn, by rw [c 7 0 (by omega)]; exact h.erng⟩
theorem links_index (w : World) : (Instr.index 106 (.agg #[strV [97, 117, 116, 111], strV [116, 119, 111], strV [109, 97, 110, 121]]) (.int .i64 0)).run Tryz.prog w = .ok (strV [97, 117, 116, 111]) w ∧
    (Instr.index 106 (.agg #[strV [97, 117, 116, 111], strV [116, 119, 111], strV [109, 97, 110, 121]]) (.int .i64 1)).run Tryz.prog w = .ok (strV [116, 119, 111]) w ∧
    (Instr.index 106 (.agg #[strV [97, 117, 116, 111], strV [116, 119, 111], strV [109, 97, 110, 121]]) (.int .i64 2)).run Tryz.prog w = .ok (strV [109, 97, 110, 121]) w := ⟨by kernel_rfl, by kernel_rfl, by kernel_rfl⟩
set_option maxRecDepth 20000 in
theorem link_any (s : List UInt8) (w : World) (he : Env w) :
    Calls Tryz.prog 60 #[strV s] w fun e w' => (∃ n : Int, e = .returned (.tuple #[.int .i64 n, .bool (lnk s).isSome]) ∧ ∀ m : Nat, lnk s = some m → n = m) ∧ w = w' := by
  have l0 : w.cell? ⟨1, 0, none⟩ = some (strV [97, 117, 116, 111]) := he.links 0 (by omega)
  have l1 : w.cell? ⟨1, 1, none⟩ = some (strV [116, 119, 111]) := he.links 1 (by omega)
  have l2 : w.cell? ⟨1, 2, none⟩ = some (strV [109, 97, 110, 121]) := he.links 2 (by omega)
  have i0 := fun w => (links_index w).1
  have i1 := fun w => (links_index w).2.1
  have i2 := fun w => (links_index w).2.2
  clear he
  by_cases h0 : s = [97, 117, 116, 111]
  · subst h0
    go_enter Tryz.func60, Tryz.ntmps60
    go_wp2
    refine wp_loop_rounds 4 ?_
    rw [rounds_succ]; go_wp2
    go_ret2
    exact ⟨⟨0, by simp [lnk], by simp [lnk]⟩, rfl⟩
  · by_cases h1 : s = [116, 119, 111]
    · subst h1
      go_enter Tryz.func60, Tryz.ntmps60
      go_wp2
      refine wp_loop_rounds 4 ?_
      rw [rounds_succ]; go_wp2
      rw [rounds_succ]; go_wp2
      go_ret2
      exact ⟨⟨1, by simp [lnk], by simp [lnk]⟩, rfl⟩
    · by_cases h2 : s = [109, 97, 110, 121]
      · subst h2
        go_enter Tryz.func60, Tryz.ntmps60
        go_wp2
        refine wp_loop_rounds 4 ?_
        rw [rounds_succ]; go_wp2
        rw [rounds_succ]; go_wp2
        rw [rounds_succ]; go_wp2
        go_ret2
        exact ⟨⟨2, by simp [lnk], by simp [lnk]⟩, rfl⟩
      · have k0 : (([97, 117, 116, 111] : List UInt8) == s) = false := beq_eq_false_iff_ne.2 fun h => h0 h.symm
        have k1 : (([116, 119, 111] : List UInt8) == s) = false := beq_eq_false_iff_ne.2 fun h => h1 h.symm
        have k2 : (([109, 97, 110, 121] : List UInt8) == s) = false := beq_eq_false_iff_ne.2 fun h => h2 h.symm
        have H : Hid (lnk s = none) := Lib.hid (by simp [lnk, h0, h1, h2])
        clear h0 h1 h2
        go_enter Tryz.func60, Tryz.ntmps60
        go_wp2
        refine wp_loop_rounds 4 ?_
        rw [rounds_succ]; go_wp2
        rw [rounds_succ]; go_wp2
        rw [rounds_succ]; go_wp2
        rw [rounds_succ]; go_wp2
        go_ret2
        exact ⟨⟨0, by rw [H.out]; rfl, fun m h => by rw [H.out] at h; cases h⟩, rfl⟩
/-- An address's cells. -/
def mc (x : Nat → Nat) : Array Value := #[.int .u8 (x 0), .int .u8 (x 1), .int .u8 (x 2), .int .u8 (x 3), .int .u8 (x 4), .int .u8 (x 5)]
theorem mc_one (x : Nat → Nat) : (mc x).all (·.oneCell') = true := by simp [mc, Value.oneCell']
theorem s24 : (Tryz.prog.info? 23).map (·.size) = some 6 := by kernel_rfl
theorem s26 : (Tryz.prog.info? 33).map (·.size) = some 10 := by kernel_rfl
theorem u26 : Tryz.prog.underlying 33 = some (.struct (Tryz.prog.fieldsOf 33)) := by kernel_rfl
theorem u24 : Tryz.prog.underlying 23 = some (.array 6 5) := by kernel_rfl
theorem Cm.one (c : Cm) : c.cells.all (·.oneCell') = true := by simp [Cm.cells, Value.oneCell']
set_option maxHeartbeats 1000000 in
theorem parseMac_any (s : List UInt8) (w : World) :
    Calls Tryz.prog 61 #[strV s] w fun e w' => (∃ x : Nat → Nat, e = .returned (.tuple #[macV x, .bool (tk [77] s).isSome]) ∧ (∀ i, x i < 256) ∧ ∀ f c, tk [77] s = some f → f c = { c with x := trim x }) ∧ Below w.heap.size w w' := by
  by_cases hs : okTxt ⟨⟨s⟩⟩
  · have c := fun w => parse_good _ hs w
    have H := Lib.hid (show tk [77] s = some fun c => { c with x := trim (macOf ⟨⟨s⟩⟩) } by rw [tkM, if_pos hs])
    have hl := macOf_lt ⟨⟨s⟩⟩
    clear hs
    generalize macOf ⟨⟨s⟩⟩ = x at *
    have v := Lib.hid (var_new w (mc zeroX) 23)
    have b0 := Lib.hid (box_below w (.cells (mc zeroX) 23))
    go_enter Tryz.func61, Tryz.ntmps61
    go_wp2_with fail
    refine (c _).mono ?_
    rintro e w1 ⟨rfl, hb⟩
    have V1 := Lib.hid (v.out.below hb v.out.lt)
    have HB := Lib.hid (below_next b0.out hb)
    clear hb c v b0
    go_wp2_with (with_reducible refine stopS 23 (.tmp 2) (.tmp 11) rfl ?_)
    refine Lib.hid ?_
    refine wpList_store_whole s24 rfl _ _ rfl rfl rfl (V1.out.alloc _) (xs := mc x) (mc_one _) rfl (show 0 + 6 ≤ (mc zeroX).size from Nat.le_refl 6) ?_
    intro w5 hv5 hb5 _ _
    have HB5 := Lib.hid (hb5 w.heap.size w (Nat.le_refl _) (below_next HB.out (box_below _ _)))
    have r0 := hv5.cell 0
    have r1 := hv5.cell 1
    have r2 := hv5.cell 2
    have r3 := hv5.cell 3
    have r4 := hv5.cell 4
    have r5 := hv5.cell 5
    clear hv5 hb5 V1 HB
    go_wp2_with fail
    exact bodyPost_ret (v := .tuple #[macV x, .bool true]) (by simp [results, Tryz.results61, go_sem, r0, r1, r2, r3, r4, r5, putL, mc]) rfl ⟨⟨x, by rw [H.out]; rfl, hl, fun f c h => by rw [H.out] at h; rw [← Option.some.inj h]⟩, HB5.out⟩
  · have c := fun w => parse_bad _ hs w
    have H := Lib.hid (show tk [77] s = none by rw [tkM, if_neg hs])
    clear hs
    have v := Lib.hid (var_new w (mc zeroX) 23)
    have b0 := Lib.hid (box_below w (.cells (mc zeroX) 23))
    go_enter Tryz.func61, Tryz.ntmps61
    go_wp2_with fail
    refine (c _).mono ?_
    rintro e w1 ⟨rfl, hb⟩
    have V1 := Lib.hid (v.out.below hb v.out.lt)
    have HB := Lib.hid (below_next b0.out hb)
    clear hb c v b0
    go_wp2_with (with_reducible refine stopS 23 (.tmp 2) (.tmp 11) rfl ?_)
    refine Lib.hid ?_
    refine wpList_store_whole s24 rfl _ _ rfl rfl rfl (V1.out.alloc _) (xs := mc zeroX) (mc_one _) rfl (show 0 + 6 ≤ (mc zeroX).size from Nat.le_refl 6) ?_
    intro w5 hv5 hb5 _ _
    have HB5 := Lib.hid (hb5 w.heap.size w (Nat.le_refl _) (below_next HB.out (box_below _ _)))
    have r0 := hv5.cell 0
    have r1 := hv5.cell 1
    have r2 := hv5.cell 2
    have r3 := hv5.cell 3
    have r4 := hv5.cell 4
    have r5 := hv5.cell 5
    clear hv5 hb5 V1 HB
    go_wp2_with fail
    exact bodyPost_ret (v := .tuple #[macV zeroX, .bool false]) (by simp [results, Tryz.results61, go_sem, r0, r1, r2, r3, r4, r5, putL, mc]) rfl ⟨⟨zeroX, by rw [H.out]; rfl, fun _ => by unfold zeroX; omega, fun f c h => by rw [H.out] at h; cases h⟩, HB5.out⟩
end Go.Proofs.YtlmdpaemhjcmbaaGreatDoor.Cd
