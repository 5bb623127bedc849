/- ChooseUpdates' call. -/
import Derived.Test.YtlddmdnlibfndaaUa
import Derived.Test.YtlddmdnlibfndaaSa
import Derived.Test.YtlddmdnlibfndaaFb
import Derived.Test.YtlddmdnlibfndaaLa
namespace Go.Proofs.Ytlddmdnlibfndaa
open Go.RowKit Go.Sort

theorem cells18 {B : Bd} {s : Value} {w : World} {b : Nat} (h : VarAt w b (B.cells s) 34) :
    w.cell? ⟨b, 0, none⟩ = some (.int .u64 B.id) ∧ w.cell? ⟨b, 1, none⟩ = some (.int .i64 B.a) ∧ w.cell? ⟨b, 2, none⟩ = some (.int .i64 B.m) ∧ w.cell? ⟨b, 3, none⟩ = some (.int .i64 B.h) ∧ w.cell? ⟨b, 4, none⟩ = some (.int .i64 B.d) ∧ w.cell? ⟨b, 5, none⟩ = some (.int .i64 B.tx) ∧ w.cell? ⟨b, 6, none⟩ = some (.bool B.rs) ∧
    w.cell? ⟨b, 7, none⟩ = some (.int .u64 B.r) ∧ w.cell? ⟨b, 8, none⟩ = some (.int .u32 B.c) ∧ w.cell? ⟨b, 9, none⟩ = some (.int .u64 B.b) ∧ w.cell? ⟨b, 10, none⟩ = some (.int .u16 B.p) ∧ w.cell? ⟨b, 11, none⟩ = some (.int .u16 B.rp) ∧
    w.cell? ⟨b, 12, none⟩ = some (.int .i64 B.ra) ∧ w.cell? ⟨b, 13, none⟩ = some (.int .i64 B.rm) ∧ w.cell? ⟨b, 14, none⟩ = some (.int .i64 B.rh) ∧ w.cell? ⟨b, 15, none⟩ = some (.int .i64 B.rd) ∧ w.cell? ⟨b, 16, none⟩ = some (.int .i64 B.ps) ∧ w.cell? ⟨b, 17, none⟩ = some s :=
  ⟨h.cell 0, h.cell 1, h.cell 2, h.cell 3, h.cell 4, h.cell 5, h.cell 6, h.cell 7, h.cell 8, h.cell 9, h.cell 10, h.cell 11, h.cell 12, h.cell 13, h.cell 14, h.cell 15, h.cell 16, h.cell 17⟩
/-- A bridge's zero. -/
def z34 : Array Value := (⟨0, 0, 0, 0, 0, 0, false, 0, 0, 0, 0, 0, 0, 0, 0, 0, 0⟩ : Bd).cells (.slice none 0 0)
theorem info34 : (Try.prog.info? 34).map (fun i => (i.zero, i.size)) = some (some (.agg z34), 18) := by kernel_rfl
theorem z34_size : z34.size = 18 := by kernel_rfl
theorem zero34 : ∀ w, (zeroValue 34).run Try.prog w = .ok (.agg z34) w := (zero_of_info info34).1
theorem guarded_load {ops : Array Oper} {rest : List Oper} {op : Oper} {a : Act} {w : World} {Q : Exit → Act → World → Prop} (hw : Region.wanted op (yielded ops a.tmps) = true) (x : Operand) (ho : op.op = .load 34 x) {b : Nat} (hx : a.eval x = .pointer (some ⟨b, 0, none⟩)) {xs : Array Value}
    (hv : VarAt w b xs 34) (hz : xs.size = 18) (h : wpList Try.prog ops Q rest (a.put op.dst (.agg xs)) w) : wpList Try.prog ops Q (op :: rest) a w :=
  wpList_step fun K hK => by
    rw [if_pos hw]
    exact wp_load_whole uB rfl sB x ho hx (range_whole hv) hz (hK _ _ h)
theorem yields_br {ops : Array Oper} {S : World → Prop} {op : Oper} {a : Act} {xs : Array Value} (hw : Region.wanted op (yielded ops a.tmps) = true) (x : Operand) (ho : op.op = .load 34 x) {b : Nat} (hx : a.eval x = .pointer (some ⟨b, 0, none⟩))
    (hS : ∀ w, S w → VarAt w b xs 34) (hz : xs.size = 18) : YieldsIf Try.prog ops S op (.agg xs) a := by
  have := yieldsIf_load_mid (P := Try.prog) (ops := ops) hw 34 x ho b 0 hx xs.toList _ (fun w h => range_whole (hS w h)) uB rfl (by rw [sB]; simp [hz])
  simpa using this
set_option maxRecDepth 20000 in
set_option maxHeartbeats 4000000 in
theorem updates_any (B : Bd) (s : Value) (n : Nat) (XS : Nat → Array Value) (X : Nat → Pd) (w : World) (hs : PIn w s n XS) (hps : ∀ i, i < n → (X i).In (XS i) ∧ Typed (XS i)) (hid : B.id < 18446744073709551616) :
    Calls Try.prog 3 #[.agg (B.cells s)] w fun e w' => e = .returned (.bool true) ∧ Below w.heap.size w w' := by
  have hx : ∀ i, i < n → (XS i).size = 90 := fun i hi => (hps i hi).1.size
  have hv0 := Lib.hid (var_new w (B.cells s) 34)
  have hB0 := Lib.hid (box_below w (.cells (B.cells s) 34))
  have HX := Lib.hid hx
  have HP := Lib.hid hps
  have HSW := Lib.hid hs
  have HID := Lib.hid hid
  have HC18 := Lib.hid (show (B.cells s).size = 18 by simp)
  have kF := Lib.hid (fun w => fits_any B s n XS w)
  have kCp := Lib.hid (fun w => copy_any B s n XS w)
  have kUp := Lib.hid (fun bb pb cap Bl A w => update_any B bb pb n cap Bl A XS X w)
  have kZ := Lib.hid zero34
  clear hs hx hps hid
  generalize B.cells s = C at *
  go_enter Try.func3, Try.ntmps3
  go_wp2_with fail
  generalize w.alloc (.cells (B.cells s) 34) = w0 at *
  refine (lives_any _).mono ?_
  rintro e w1 ⟨rfl, hb⟩
  have V1 := Lib.hid (hv0.out.below hb hv0.out.lt)
  have B1 := Lib.hid (hB0.out.trans (hb.mono hB0.out.size))
  clear hb hv0 hB0
  go_wp2_with (with_reducible refine stopL 34 _ rfl ?_)
  refine Lib.hid ?_
  refine guarded_load (by rfl) _ rfl rfl V1.out HC18.out ?_
  go_wp2_with fail
  refine (kF.out _ (HSW.out.below HX.out B1.out) (fun i hi => (HP.out i hi).2)).mono ?_
  rintro e w2 ⟨⟨q, rfl, hqn⟩, hb⟩
  have V2 := Lib.hid (V1.out.below hb V1.out.lt)
  have B2 := Lib.hid (B1.out.trans (hb.mono B1.out.size))
  clear hb V1 B1
  cases q
  · go_wp2_with fail
    refine (lives_any _).mono ?_
    rintro e w3 ⟨rfl, hb⟩
    have B3 := Lib.hid (B2.out.trans (hb.mono B2.out.size))
    clear hb
    go_wp2_with fail
    go_ret
    exact ⟨rfl, B3.out⟩
  · have hn := hqn rfl
    clear hqn
    go_wp2_with (with_reducible refine stopL 34 _ rfl ?_)
    refine Lib.hid ?_
    refine wpList_load_whole uB rfl sB rfl _ rfl rfl (range_whole V2.out) HC18.out ?_
    go_wp2_with fail
    refine (kCp.out _ (HSW.out.below HX.out B2.out) hn (fun i hi => (HP.out i hi).2)).mono ?_
    rintro e w3 ⟨pb, cap, rfl, ⟨A, hA, hAn, hAs, hpb⟩, hb⟩
    have V3 := Lib.hid (V2.out.below hb V2.out.lt)
    have B3 := Lib.hid (B2.out.trans (hb.mono B2.out.size))
    have hlt0 : w.heap.size < pb := Nat.lt_of_lt_of_le V2.out.lt hpb
    have PA := Lib.hid hA
    have PN := Lib.hid hAn
    have PS := Lib.hid hAs
    clear hb hA hAn hAs V2 B2 hpb
    have kU0 := kUp.out
    have hC1 := Lib.hid (show (B.cells (.slice (some ⟨pb, 0, none⟩) n cap)).size = 18 by simp)
    have hO1 := Lib.hid (B.one (s := .slice (some ⟨pb, 0, none⟩) n cap) rfl)
    have KU := Lib.hid (fun bb Bl A w => kU0 bb pb cap Bl A w)
    clear kU0
    generalize B.cells (.slice (some ⟨pb, 0, none⟩) n cap) = C1 at *
    have zz := kZ.out
    have zs := Lib.hid z34_size
    generalize z34 = Z3 at *
    go_wp2_with (with_reducible refine stopS 34 _ _ rfl ?_)
    refine Lib.hid ?_
    clear zz
    refine wpList_store_whole sB rfl _ _ rfl rfl rfl (var_new w3 Z3 34) hO1.out hC1.out (by rw [zs.out]; omega) ?_
    intro w4a hv4 hb4 ho4 hz4
    simp only [Act.put]
    rw [putL_all _ _ (by rw [zs.out, hC1.out])] at hv4
    have hl3 := V3.out.lt
    have hpl := PA.out.lt
    have hne3 : pb ≠ w3.heap.size := by omega
    have hne4 : w.heap.size ≠ w3.heap.size := by omega
    have VX := Lib.hid hv4
    have PA4 := Lib.hid (ho4 _ _ _ hne3 (PA.out.alloc (.cells Z3 34)))
    have V4 := Lib.hid (ho4 _ _ _ hne4 (V3.out.alloc (.cells Z3 34)))
    have B4 := Lib.hid (hb4 w.heap.size w B3.out.size (B3.out.alloc B3.out.size (.cells Z3 34)))
    have kU := KU.out w3.heap.size pb A w4a VX.out PA4.out (fun i hi => ⟨PS.out i hi, HP.out i hi⟩) PN.out hn HID.out hpl (Nat.le_refl _)
    clear hv4 hb4 ho4 hz4 hl3 hne3 hne4 V3 B3 KU
    generalize w3.heap.size = xb at *
    go_wp2_with fail
    refine kU.mono ?_
    rintro e w4 ⟨rfl, ⟨hub, A1, hua, _, hus, _⟩, hb⟩
    have V5 := Lib.hid (V4.out.below hb hlt0)
    have B5 := Lib.hid (B4.out.trans (hb.mono (Nat.le_of_lt hlt0)))
    have UB := Lib.hid hub
    have UA := Lib.hid hua
    have US := Lib.hid hus
    clear hb hub hua hus V4 B4 kU PA PN PS PA4 VX
    go_wp2_with fail
    have HD2 := Lib.hid (show ((rootB B X (rootI X B.id n)).cells (.slice (some ⟨pb, 0, none⟩) n cap)).size = 18 by simp)
    have kSm := Lib.hid (fun p2 c2 A2 w => same_any (rootB B X (rootI X B.id n)) pb p2 n cap c2 A1 A2 (fun i => newP (rootB B X (rootI X B.id n)) (X i) ((i : Int) == rootI X B.id n) (XS i)) w)
    generalize (rootB B X (rootI X B.id n)).cells (.slice (some ⟨pb, 0, none⟩) n cap) = C2 at *
    refine wp_region_held_drew (S := fun w' => VarAt w' xb C2 34 ∧ VarAt w' w.heap.size C 34) (by kernel_rfl) ⟨UB.out.drew, V5.out.drew⟩ (fun hS => ?_)
    refine wpAnyH_take (i := 0) (v := .agg C2) rfl (by kernel_rfl) (by kernel_rfl) (by kernel_rfl) (fun _ _ _ h => h) (yields_br (by rfl) _ rfl rfl (fun w9 h9 => h9.1) HD2.out) hS ?_
    simp only [Act.put, List.getElem_toArray, List.getElem_cons_zero, List.setIfInBounds_toArray, List.set_cons_zero, List.set_cons_succ]
    refine wpAnyH_take (i := 1) (v := .agg C) rfl (by kernel_rfl) (by kernel_rfl) (by kernel_rfl) (fun _ _ _ h => h) (yields_br (by rfl) _ rfl rfl (fun w9 h9 => h9.2) HC18.out) hS ?_
    simp only [Act.put, List.getElem_toArray, List.getElem_cons_zero, List.getElem_cons_succ, List.setIfInBounds_toArray, List.set_cons_zero, List.set_cons_succ]
    refine wpAnyH_ready (rs := [2]) (by kernel_rfl) (by simp) (AllReadyH.cons rfl (fun K hK => ?_) AllReadyH.nil)
    go_simp
    refine (kCp.out _ (HSW.out.below HX.out B5.out.drew) hn (fun i hi => (HP.out i hi).2)).mono ?_
    rintro e w5 ⟨p2, cap2, rfl, ⟨A2, hA2, hA2n, hA2s, hp2⟩, hb⟩
    have B6 := Lib.hid (B5.out.drew.trans (hb.mono B5.out.size))
    have UA6 := Lib.hid (UA.out.drew.below hb UA.out.lt)
    have kR := Lib.hid (refUpdate_any B p2 n cap2 A2 XS X w5 hA2 hA2s (fun i hi => HP.out i hi) hn HID.out)
    have hS6 : VarAt w5 xb C2 34 ∧ VarAt w5 w.heap.size C 34 := ⟨hS.1.below hb hS.1.lt, hS.2.below hb hS.2.lt⟩
    clear hb hA2 hA2n hA2s hp2 B5 UA UB V5
    generalize B.cells (.slice (some ⟨p2, 0, none⟩) n cap2) = C3 at *
    refine hK.out _ _ hS6 (fun hS => ?_)
    clear hK K hS6
    refine wpAnyH_ready (rs := [3]) (by kernel_rfl) (by simp) (AllReadyH.cons rfl (fun K hK => ?_) AllReadyH.nil)
    go_simp
    refine kR.out.mono ?_
    rintro e w6 ⟨p3, cap3, rfl, ⟨A3, hA3, hA3n, hA3s, hp3⟩, hb⟩
    have B7 := Lib.hid (B6.out.trans (hb.mono B6.out.size))
    have UA7 := Lib.hid (UA6.out.below hb UA6.out.lt)
    have kS := Lib.hid (kSm.out p3 cap3 A3 w6 UA7.out hA3 US.out hA3s (fun i hi => newP_typed (HP.out i hi).2) hn)
    have hS7 : VarAt w6 xb C2 34 ∧ VarAt w6 w.heap.size C 34 := ⟨hS.1.below hb hS.1.lt, hS.2.below hb hS.2.lt⟩
    clear hb hA3 hA3n hA3s hp3 B6 UA6 kR
    generalize (rootB B X (rootI X B.id n)).cells (.slice (some ⟨p3, 0, none⟩) n cap3) = C4 at *
    refine hK.out _ _ hS7 (fun hS => ?_)
    clear hK K hS7
    refine wpAnyH_ready (rs := [4]) (by kernel_rfl) (by simp) (AllReadyH.cons rfl (fun K hK => ?_) AllReadyH.nil)
    go_simp
    refine kS.out.mono ?_
    rintro e w7 ⟨rfl, hb⟩
    have B8 := Lib.hid (B7.out.trans (hb.mono B7.out.size))
    have hS8 : VarAt w7 xb C2 34 ∧ VarAt w7 w.heap.size C 34 := ⟨hS.1.below hb hS.1.lt, hS.2.below hb hS.2.lt⟩
    refine hK.out _ _ hS8 (fun hS => ?_)
    clear hK K hS8 hb
    refine wpAnyH_take (i := 5) (v := ?_) rfl (by kernel_rfl) (by kernel_rfl) (by kernel_rfl) (fun _ _ _ h => h) (Or.inl ⟨by rfl, ?_⟩) hS ?_
    rotate_left
    · (intro w9 hS9; go_simp; try with_reducible rfl)
    simp only [Act.put, List.getElem_toArray, List.getElem_cons_zero, List.getElem_cons_succ, List.setIfInBounds_toArray, List.set_cons_zero, List.set_cons_succ]
    refine wpAnyH_done (by kernel_rfl) ?_ _
    go_wp2_with fail
    go_ret
    exact ⟨rfl, B8.out⟩
end Go.Proofs.Ytlddmdnlibfndaa
