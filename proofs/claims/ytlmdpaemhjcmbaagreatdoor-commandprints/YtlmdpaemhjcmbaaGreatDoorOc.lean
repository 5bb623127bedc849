/- The whole call of CommandPrints. -/
import Derived.Test.YtlmdpaemhjcmbaaGreatDoorOb
import Derived.Test.YtlmdpaemhjcmbaaGreatDoorOd
namespace Go.Proofs.YtlmdpaemhjcmbaaGreatDoor
open Go.RowKit Go.Sort
open Cd (strV)

theorem wpList_load_want {T n : Nat} {d : TypeDesc} (hu : Tryz.prog.underlying T = some d) (hd : d.isRow = true) (hn : (Tryz.prog.info? T).map (·.size) = some n)
    {ops : Array Oper} {rest : List Oper} {op : Oper} {a : Act} {w : World} {Q : Exit → Act → World → Prop} (hw : Region.wanted op (yielded ops a.tmps) = true) (x : Operand) (ho : op.op = .load T x) {b o : Nat} (hx : a.eval x = .pointer (some ⟨b, o, none⟩)) {xs : Array Value}
    (hv : w.rangeAt b o xs.toList) (hz : xs.size = n) (h : wpList Tryz.prog ops Q rest (a.put op.dst (.agg xs)) w) : wpList Tryz.prog ops Q (op :: rest) a w :=
  BigFrame.wpList_want hw fun _ hK => wp_load_mid T x ho b o hx xs.toList d hv hu hd (by rw [hn]; simp [hz]) (hK _ _ (by simpa using h))
theorem errQ_congr {P Q : Nat → Pc} {n : Nat} (h : ∀ i, i < n → P i = Q i) : errQ P n = errQ Q n := by
  unfold errQ
  have : (List.range n).any (fun i => badP (P i)) = (List.range n).any (fun i => badP (Q i)) := by
    rw [Bool.eq_iff_iff, List.any_eq_true, List.any_eq_true]
    constructor
    · rintro ⟨i, hi, hb⟩; exact ⟨i, hi, by rw [← h i (by simpa using hi)]; exact hb⟩
    · rintro ⟨i, hi, hb⟩; exact ⟨i, hi, by rw [h i (by simpa using hi)]; exact hb⟩
  rw [this]
theorem cfgE_congr {c : Cf} {P Q : Nat → Pc} {n : Nat} (h : ∀ i, i < n → P i = Q i) : cfgE c P n = cfgE c Q n := by
  unfold cfgE; rw [errQ_congr h]
theorem QIn.congr {w : World} {s : Value} {n : Nat} {P Q : Nat → Pc} (h : QIn w s n P) (hq : ∀ i, i < n → P i = Q i) : QIn w s n Q := by
  obtain ⟨a, c, rfl, h0, h1⟩ := h
  refine ⟨a, c, rfl, h0, fun hn => ?_⟩
  obtain ⟨b, o, e, hc⟩ := h1 hn
  exact ⟨b, o, e, fun i hi k hk => by rw [← hq i hi]; exact hc i hi k hk⟩
theorem own_slice {w : World} {B n : Nat} {v : Value} {xs : List Value} (h : w.ownsRow B 33 10 v n xs) : ∃ a c, v = .slice a n c := by
  rcases h.2 with ⟨e, rfl⟩ | ⟨g, cap, _, e, _⟩
  · exact ⟨_, _, e⟩
  · exact ⟨_, _, e⟩
theorem chE_pl {c : Cf} {P : Nat → Pc} {n : Nat} (h : cfgE c P n = 0) (Q : Nat → Pc) : chE n (pl c P) (usualC c.x) Q (7 + 5 * n) = 0 ∧ runC n (pl c P) (usualC c.x) (7 + 5 * n) = c ∧ ∀ i, i < n → runP n (pl c P) Q (7 + 5 * n) i = P i := by
  obtain ⟨e, hc, hp⟩ := run_all (okc_of h) Q n (Nat.le_refl _)
  have hi : ∀ i, i < n → runP n (pl c P) Q (7 + 5 * n) i = P i := fun i hi => by rw [hp]; simp only []; rw [if_pos hi]
  refine ⟨?_, hc, hi⟩
  unfold chE
  rw [if_pos e, hc, cfgE_congr hi, h]
set_option maxRecDepth 20000 in
set_option maxHeartbeats 4000000 in
theorem prints_any (c : Cf) (s : Value) (n : Nat) (P : Nat → Pc) (w : World) (he : Cd.Env w) (hx : ∀ i, c.x i < 256) (hs : QIn w s n P) :
    Calls Tryz.prog 4 #[.agg (c.cells s)] w fun e w' => e = .returned (.bool true) ∧ Below w.heap.size w w' := by
  have C0 := Lib.hid (var_new w (c.cells s) 28)
  have HB := Lib.hid (box_below w (.cells (c.cells s) 28))
  have HE := Lib.hid (he.below HB.out)
  have HS := Lib.hid (hs.below HB.out)
  obtain ⟨aS, cS, rfl, _⟩ := hs
  have CL := Lib.hid (Cf.size c (.slice aS n cS))
  have HX := Lib.hid hx
  have HK := Lib.hid (fun (w' : World) (h : VarAt w' w.heap.size (c.cells (.slice aS n cS)) 28) => h.box)
  clear he hx
  generalize hC : c.cells (.slice aS n cS) = C at *
  have HC := Lib.hid hC
  clear hC
  have lv1 := Cd.lives_any _ HE.out
  go_enter Tryz.func4, Tryz.ntmps4
  go_wp2_with fail
  generalize hWW : w.alloc (.cells C 28) = W at *
  have HW := Lib.hid (show W.heap.size = w.heap.size + 1 by rw [← hWW, alloc_size])
  clear hWW
  refine lv1.mono ?_
  rintro e w1 ⟨rfl, hb1⟩
  have HB1 := Lib.hid hb1
  have C1 := Lib.hid (C0.out.below hb1 C0.out.lt)
  have HS1 := Lib.hid (HS.out.below hb1)
  have HE1 := Lib.hid (HE.out.below hb1)
  have ck := Lib.hid (show Calls Tryz.prog 11 #[.agg C] w1 fun e w' => e = .returned (.int .i64 (cfgE c P n)) ∧ Below w1.heap.size w1 w' from by rw [← HC.out]; exact checkC_all c _ n P w1 HX.out HS1.out)
  clear hb1 lv1 C0 HS HE
  go_wp2_with (with_reducible refine stopL 28 _ rfl ?_)
  refine Lib.hid ?_
  refine wpList_load_want uC rfl sC (by rfl) _ rfl rfl (range_whole C1.out) CL.out ?_
  by_cases h0 : cfgE c P n = 0
  · have hOk := okc_of h0
    have HPL := Lib.hid (fun Q => chE_pl h0 Q)
    have H8 := hOk.n8
    have hRt := Lib.hid (fun i (hi : i < 7 + 5 * n) => pl_rt hOk i hi)
    have hCo := Lib.hid (fun i (hi : i < n) => (show (P i).co ≤ 4294967295 from by have := (hOk.p i hi).2.1; omega))
    rw [h0] at ck
    clear h0 hOk
    go_wp2_with fail
    refine ck.out.mono ?_
    rintro e w2 ⟨rfl, hb2⟩
    have HB2 := Lib.hid (HB1.out.trans (hb2.mono HB1.out.size))
    have C2 := Lib.hid (C1.out.below hb2 C1.out.lt)
    have HS2 := Lib.hid (HS1.out.below hb2)
    have HE2 := Lib.hid (HE1.out.below hb2)
    clear hb2 ck HB1 C1 HS1 HE1
    have cp := Lib.hid (show Calls Tryz.prog 13 #[.agg C] w2 _ from by rw [← HC.out]; exact Print_any c _ n P w2 HS2.out (by omega) hCo.out)
    go_wp2_with (with_reducible refine stopL 28 _ rfl ?_)
    refine Lib.hid ?_
    refine wpList_load_whole uC rfl sC rfl _ rfl rfl (range_whole C2.out) CL.out ?_
    
    go_wp2_with fail
    refine cp.out.mono ?_
    rintro e w3 ⟨g, cap, rfl, ho3, hb3⟩
    have HB3 := Lib.hid (HB2.out.trans (hb3.mono HB2.out.size))
    have C3 := Lib.hid (C2.out.below hb3 C2.out.lt)
    have HS3 := Lib.hid (HS2.out.below hb3)
    have HE3 := Lib.hid (HE2.out.below hb3)
    have HL3 := Lib.hid (own_lin ho3)
    clear hb3 ho3 cp HB2 C2 HS2 HE2
    generalize hm : 7 + 5 * n = m at *
    go_wp2_with fail
    go_loopw [25, 3] (fun i l wr => ∃ k : Nat, k ≤ m ∧ i = .int .i64 k ∧ wr.ownsRow w3.heap.size 33 10 l k (lcs (pl c P) k) ∧ Below w3.heap.size w3 wr) (fun i _ _ => m - (intOf i).toNat)
    case atStart => exact ⟨0, Nat.zero_le _, rfl, ⟨rfl, .inl ⟨rfl, rfl⟩⟩, Below.refl _ _⟩
    case round =>
      obtain ⟨k, hk, rfl, ho, hb⟩ := hrel
      have HBr := Lib.hid hb
      have HO := Lib.hid ho
      clear hb ho
      obtain ⟨al, cl, rfl⟩ := own_slice HO.out
      by_cases hlt : k < m
      · obtain ⟨a', cp', h9, hc0⟩ := HL3.out
        cases h9
        obtain ⟨b, o, hbo, hc⟩ := hc0 (by omega)
        cases hbo
        have hix := idx29 g 0 m cap k hlt
        have hbl : g < w3.heap.size := block_lt_of_cell (hc 0 (by omega) 0 (by omega))
        have RL := Lib.hid (show wr.rangeAt g (k * 10) (pl c P k).cells.toList from range_cm fun q hq => by rw [HBr.out.cell (by exact hbl)]; have := hc k hlt q hq; rw [Nat.zero_add] at this; exact this)
        have hR := hRt.out k hlt
        have hT := Lib.hid (fun w' (he : Cd.Env w') => (show Calls Tryz.prog 14 #[.agg (pl c P k).cells] w' fun e w'' => e = .returned (.tuple #[strV (Cd.tx (pl c P k)), .int .i64 0]) ∧ Below w'.heap.size w' w'' from by rw [← Cd.tEnd_ok hR]; exact Cd.textCm_any _ hR.fit w' he))
        have hP := Lib.hid (fun w' (he : Cd.Env w') => (show Calls Tryz.prog 15 #[strV (Cd.tx (pl c P k))] w' fun e w'' => e = .returned (.tuple #[.agg (pl c P k).cells, .int .i64 0]) ∧ Below w'.heap.size w' w'' from by
          have := Cd.parse_any (Cd.tx (pl c P k)) w' he
          unfold Cd.PEnd at this
          rw [Cd.PS_tx hR] at this
          exact this))
        have hN := Lib.hid (show ∀ w, (binOp .neq 33 (.agg (pl c P k).cells) (.agg (pl c P k).cells)).run Tryz.prog w = .ok (.bool false) w from fun w => by rw [Cd.cm_neq26, Cd.eqC_self]; rfl)
        have hG := Cd.cm_g26
        have hwh := pl_wh c P k
        have hpo : 7 ≤ k → _ := pl_po c P k
        have hls := Lib.hid (lcs_succ (pl c P) k)
        have F0 := Lib.hid (fun (w' : World) (b : Nat) (h : VarAt w' b (pl c P k).cells 33) => (show w'.cell? ⟨b, 0, none⟩ = some (.int .i64 (pl c P k).wh) ∧ w'.cell? ⟨b, 1, none⟩ = some (.int .i64 (pl c P k).po) from ⟨h.cell 0, h.cell 1⟩))
        have XS := Lib.hid (show (pl c P k).cells.size = 10 from rfl)
        have XO := Lib.hid (Cd.Cm.one (pl c P k))
        clear hc hc0 hbl hR
        obtain ⟨nn, on, y, hXX⟩ : ∃ (nn : Int) (on : Bool) (y : Nat → Nat), (pl c P k).cells = #[.int .i64 (pl c P k).wh, .int .i64 (pl c P k).po, .int .i64 nn, .bool on, .int .u8 (y 0), .int .u8 (y 1), .int .u8 (y 2), .int .u8 (y 3), .int .u8 (y 4), .int .u8 (y 5)] := ⟨_, _, _, rfl⟩
        have HXX := Lib.hid hXX
        clear hXX
        generalize (pl c P k).wh = wh at *
        generalize (pl c P k).po = po at *
        generalize Cd.tx (pl c P k) = tx at *
        generalize (pl c P k).cells = X at *
        go_wp2_with (with_reducible refine stopL 33 _ rfl ?_)
        refine Lib.hid ?_
        refine wpList_load_whole Cd.u26 rfl Cd.s26 rfl _ rfl rfl RL.out XS.out ?_
        go_wp2_with (with_reducible refine stopS 33 _ _ rfl ?_)
        refine Lib.hid ?_
        refine wpList_store_whole Cd.s26 rfl _ _ rfl rfl rfl (var_new wr _ 33) XO.out XS.out (by simp) ?_
        intro w6 hv6 hb6 _ _
        rw [putL_all _ _ (by rw [XS.out]; rfl)] at hv6
        have V6 := Lib.hid hv6
        have hb7 := hb6 wr.heap.size wr (Nat.le_refl _) (box_below wr _)
        have HB6 := Lib.hid (HBr.out.trans (hb7.mono HBr.out.size))
        have HO6 := Lib.hid (own_kept HO.out hb7)
        clear hv6 hb6 hb7 RL hix HBr HO
        go_wp2_with (with_reducible refine stopL 33 _ rfl ?_)
        refine Lib.hid ?_
        refine wpList_load_whole Cd.u26 rfl Cd.s26 rfl _ rfl rfl (range_whole V6.out) XS.out ?_
        go_wp2_with fail
        refine (hT.out _ (HE3.out.below HB6.out)).mono ?_
        rintro e w7 ⟨rfl, hb7⟩
        have V7 := Lib.hid (V6.out.below hb7 V6.out.lt)
        have HB7 := Lib.hid (HB6.out.trans (hb7.mono HB6.out.size))
        have HO7 := Lib.hid (own_kept HO6.out hb7)
        clear hb7 V6 HB6 HO6 hT
        go_wp2_with fail
        refine (hP.out _ (HE3.out.below HB7.out)).mono ?_
        rintro e w8 ⟨rfl, hb8⟩
        have V8 := Lib.hid (V7.out.below hb8 V7.out.lt)
        have HB8 := Lib.hid (HB7.out.trans (hb8.mono HB7.out.size))
        have HO8 := Lib.hid (own_kept HO7.out hb8)
        have s8 : wr.heap.size < w8.heap.size := V8.out.lt
        clear hb8 V7 HB7 HO7 hP
        go_wp2_with (with_reducible refine stopS 33 _ _ rfl ?_)
        refine Lib.hid ?_
        refine wpList_store_whole Cd.s26 rfl _ _ rfl rfl rfl (var_new w8 _ 33) XO.out XS.out (by simp) ?_
        intro w9 hv9 hb9 ho9 _
        rw [putL_all _ _ (by rw [XS.out]; rfl)] at hv9
        have Y9 := Lib.hid hv9
        have hb := hb9 w8.heap.size w8 (Nat.le_refl _) (box_below w8 _)
        have V9 := Lib.hid (V8.out.below hb V8.out.lt)
        have HB9 := Lib.hid (HB8.out.trans (hb.mono HB8.out.size))
        have HO9 := Lib.hid (own_kept HO8.out hb)
        clear hv9 hb9 ho9 hb V8 HB8 HO8
        obtain ⟨q0, q1⟩ := F0.out _ _ Y9.out
        have hnil : ∀ (E : Prop), True := fun _ => trivial
        clear hnil
        by_cases h7 : 7 ≤ k
        ·
          obtain ⟨r, rfl⟩ : ∃ r, k = 7 + r := ⟨k - 7, by omega⟩
          have hpo' := hpo h7
          rw [show 7 + r - 7 = r by omega] at hpo'
          unfold plW at hwh
          rw [if_pos h7, show 7 + r - 7 = r by omega] at hwh
          have hwh' : wh = 7 + (r : Int) % 5 := by rw [hwh]; omega
          have hpo2 : po = 1 + (r : Int) / 5 := by rw [hpo']; omega
          clear hwh hpo hpo'
          subst hwh' hpo2
          
          have hXX := HXX.out
          subst hXX
          have VA := Lib.hid (var_new w9 #[.int .i64 (7 + (r : Int) % 5), .int .i64 (1 + (r : Int) / 5), .int .i64 nn, .bool on, .int .u8 (y 0), .int .u8 (y 1), .int .u8 (y 2), .int .u8 (y 3), .int .u8 (y 4), .int .u8 (y 5)] 33)
          have HOA := Lib.hid (own_kept HO9.out (box_below w9 (.cells #[.int .i64 (7 + (r : Int) % 5), .int .i64 (1 + (r : Int) / 5), .int .i64 nn, .bool on, .int .u8 (y 0), .int .u8 (y 1), .int .u8 (y 2), .int .u8 (y 3), .int .u8 (y 4), .int .u8 (y 5)] 33)))
          obtain ⟨ia, hia⟩ : ∃ i, Hid (Tryz.prog.info? 33 = some i ∧ i.zero = some (.agg (Cd.zc 0).cells) ∧ i.size = 10 ∧ i.bytes = 32) := (info_parts info33).imp fun _ h => Lib.hid h
          have hmm : m ≤ 47 := by omega
          have HC1 := Lib.hid (show ∀ j u, (#[.int .i64 (7 + (r : Int) % 5), .int .i64 (1 + (r : Int) / 5), .int .i64 nn, .bool on, .int .u8 (y 0), .int .u8 (y 1), .int .u8 (y 2), .int .u8 (y 3), .int .u8 (y 4), .int .u8 (y 5)] : Array Value).toList[j]? = some u → (w9.alloc (.cells #[.int .i64 (7 + (r : Int) % 5), .int .i64 (1 + (r : Int) / 5), .int .i64 nn, .bool on, .int .u8 (y 0), .int .u8 (y 1), .int .u8 (y 2), .int .u8 (y 3), .int .u8 (y 4), .int .u8 (y 5)] 33)).cell? ((⟨w9.heap.size, 0, none⟩ : Addr).add j) = some u from by
            intro j u hj
            rw [addN, Nat.zero_add, VA.out.cell, ← hj, Array.getElem?_toList])
          have HC2 := Lib.hid (show ∀ u ∈ (#[.int .i64 (7 + (r : Int) % 5), .int .i64 (1 + (r : Int) / 5), .int .i64 nn, .bool on, .int .u8 (y 0), .int .u8 (y 1), .int .u8 (y 2), .int .u8 (y 3), .int .u8 (y 4), .int .u8 (y 5)] : Array Value).toList, u.oneCell' = true from by
            have := XO.out
            rw [Array.all_eq_true_iff_forall_mem] at this
            exact fun u hu => this u (Array.mem_toList_iff.1 hu))
          have HC3 := Lib.hid (show 7 + r + 1 ≤ maxLen by unfold maxLen; omega)
          have HC4 := Lib.hid (show (7 + r + 1) * 32 ≤ 140737488355328 by omega)
          have HC5 := Lib.hid (show w3.heap.size ≤ (w9.alloc (.cells #[.int .i64 (7 + (r : Int) % 5), .int .i64 (1 + (r : Int) / 5), .int .i64 nn, .bool on, .int .u8 (y 0), .int .u8 (y 1), .int .u8 (y 2), .int .u8 (y 3), .int .u8 (y 4), .int .u8 (y 5)] 33)).heap.size by rw [alloc_size]; have := HB9.out.size; omega)
          go_wp2_with (with_reducible refine stopL 33 _ rfl ?_)
          refine Lib.hid ?_
          refine wpList_load_want Cd.u26 rfl Cd.s26 (by rfl) _ rfl rfl (range_whole Y9.out) XS.out ?_
          refine wpList_load_want Cd.u26 rfl Cd.s26 (by rfl) _ rfl rfl (range_whole V9.out) XS.out ?_
          have hN0 := hN.out
          go_wp2_with (with_reducible refine stopL 33 _ rfl ?_)
          clear hN0 q0 q1
          refine Lib.hid ?_
          refine wpList_load_whole Cd.u26 rfl Cd.s26 rfl _ rfl rfl (range_whole Y9.out) XS.out ?_
          
          go_wp2_with (first | (at_builtin; go_loud (refine wpList_append_own _ rfl _ _ 29 rfl w3.heap.size 33 ia (.agg (Cd.zc 0).cells) 10 32 und29' hia.out.1 hia.out.2.1 hia.out.2.2.1 hia.out.2.2.2 rfl (by decide) _ (7 + r) (lcs (pl c P) (7 + r)) rfl HOA.out ⟨w9.heap.size, 0, none⟩ 1 1 (#[.int .i64 (7 + (r : Int) % 5), .int .i64 (1 + (r : Int) / 5), .int .i64 nn, .bool on, .int .u8 (y 0), .int .u8 (y 1), .int .u8 (y 2), .int .u8 (y 3), .int .u8 (y 4), .int .u8 (y 5)] : Array Value).toList rfl rfl HC1.out HC2.out HC3.out HC4.out HC5.out ?_)))
          intro v' w10 ho10 hg10 _
          have HB10 := Lib.hid ((HB9.out.trans ((box_below w9 (.cells #[.int .i64 (7 + (r : Int) % 5), .int .i64 (1 + (r : Int) / 5), .int .i64 nn, .bool on, .int .u8 (y 0), .int .u8 (y 1), .int .u8 (y 2), .int .u8 (y 3), .int .u8 (y 4), .int .u8 (y 5)] 33)).mono HB9.out.size)).grown hg10 HC5.out (fun k hk => (HOA.out.lt k hk).1))
          have ho11 : w10.ownsRow w3.heap.size 33 10 v' (7 + r + 1) (lcs (pl c P) (7 + r + 1)) := by rw [hls.out]; exact ho10
          obtain ⟨a10, c10, rfl⟩ := own_slice ho11
          have HO10 := Lib.hid ho11
          clear ho10 ho11 hg10 HOA VA HB9 HO9 Y9 V9 HC1 HC2 HC3 HC4 HC5
          go_wp2_with fail
          exact ⟨⟨7 + r + 1, by omega, by go_num, HO10.out, HB10.out⟩, by simp [intOf]; omega⟩
        ·
          unfold plW at hwh
          rw [if_neg h7] at hwh
          subst hwh
          clear hpo
          
          have hXX := HXX.out
          subst hXX
          have VA := Lib.hid (var_new w9 #[.int .i64 k, .int .i64 po, .int .i64 nn, .bool on, .int .u8 (y 0), .int .u8 (y 1), .int .u8 (y 2), .int .u8 (y 3), .int .u8 (y 4), .int .u8 (y 5)] 33)
          have HOA := Lib.hid (own_kept HO9.out (box_below w9 (.cells #[.int .i64 k, .int .i64 po, .int .i64 nn, .bool on, .int .u8 (y 0), .int .u8 (y 1), .int .u8 (y 2), .int .u8 (y 3), .int .u8 (y 4), .int .u8 (y 5)] 33)))
          obtain ⟨ia, hia⟩ : ∃ i, Hid (Tryz.prog.info? 33 = some i ∧ i.zero = some (.agg (Cd.zc 0).cells) ∧ i.size = 10 ∧ i.bytes = 32) := (info_parts info33).imp fun _ h => Lib.hid h
          have hmm : m ≤ 47 := by omega
          have HC1 := Lib.hid (show ∀ j u, (#[.int .i64 k, .int .i64 po, .int .i64 nn, .bool on, .int .u8 (y 0), .int .u8 (y 1), .int .u8 (y 2), .int .u8 (y 3), .int .u8 (y 4), .int .u8 (y 5)] : Array Value).toList[j]? = some u → (w9.alloc (.cells #[.int .i64 k, .int .i64 po, .int .i64 nn, .bool on, .int .u8 (y 0), .int .u8 (y 1), .int .u8 (y 2), .int .u8 (y 3), .int .u8 (y 4), .int .u8 (y 5)] 33)).cell? ((⟨w9.heap.size, 0, none⟩ : Addr).add j) = some u from by
            intro j u hj
            rw [addN, Nat.zero_add, VA.out.cell, ← hj, Array.getElem?_toList])
          have HC2 := Lib.hid (show ∀ u ∈ (#[.int .i64 k, .int .i64 po, .int .i64 nn, .bool on, .int .u8 (y 0), .int .u8 (y 1), .int .u8 (y 2), .int .u8 (y 3), .int .u8 (y 4), .int .u8 (y 5)] : Array Value).toList, u.oneCell' = true from by
            have := XO.out
            rw [Array.all_eq_true_iff_forall_mem] at this
            exact fun u hu => this u (Array.mem_toList_iff.1 hu))
          have HC3 := Lib.hid (show k + 1 ≤ maxLen by unfold maxLen; omega)
          have HC4 := Lib.hid (show (k + 1) * 32 ≤ 140737488355328 by omega)
          have HC5 := Lib.hid (show w3.heap.size ≤ (w9.alloc (.cells #[.int .i64 k, .int .i64 po, .int .i64 nn, .bool on, .int .u8 (y 0), .int .u8 (y 1), .int .u8 (y 2), .int .u8 (y 3), .int .u8 (y 4), .int .u8 (y 5)] 33)).heap.size by rw [alloc_size]; have := HB9.out.size; omega)
          go_wp2_with (with_reducible refine stopL 33 _ rfl ?_)
          refine Lib.hid ?_
          refine wpList_load_want Cd.u26 rfl Cd.s26 (by rfl) _ rfl rfl (range_whole Y9.out) XS.out ?_
          refine wpList_load_want Cd.u26 rfl Cd.s26 (by rfl) _ rfl rfl (range_whole V9.out) XS.out ?_
          have hN0 := hN.out
          go_wp2_with (with_reducible refine stopL 33 _ rfl ?_)
          clear hN0 q0 q1
          refine Lib.hid ?_
          refine wpList_load_whole Cd.u26 rfl Cd.s26 rfl _ rfl rfl (range_whole Y9.out) XS.out ?_
          
          go_wp2_with (first | (at_builtin; go_loud (refine wpList_append_own _ rfl _ _ 29 rfl w3.heap.size 33 ia (.agg (Cd.zc 0).cells) 10 32 und29' hia.out.1 hia.out.2.1 hia.out.2.2.1 hia.out.2.2.2 rfl (by decide) _ k (lcs (pl c P) k) rfl HOA.out ⟨w9.heap.size, 0, none⟩ 1 1 (#[.int .i64 k, .int .i64 po, .int .i64 nn, .bool on, .int .u8 (y 0), .int .u8 (y 1), .int .u8 (y 2), .int .u8 (y 3), .int .u8 (y 4), .int .u8 (y 5)] : Array Value).toList rfl rfl HC1.out HC2.out HC3.out HC4.out HC5.out ?_)))
          intro v' w10 ho10 hg10 _
          have HB10 := Lib.hid ((HB9.out.trans ((box_below w9 (.cells #[.int .i64 k, .int .i64 po, .int .i64 nn, .bool on, .int .u8 (y 0), .int .u8 (y 1), .int .u8 (y 2), .int .u8 (y 3), .int .u8 (y 4), .int .u8 (y 5)] 33)).mono HB9.out.size)).grown hg10 HC5.out (fun k hk => (HOA.out.lt k hk).1))
          have ho11 : w10.ownsRow w3.heap.size 33 10 v' (k + 1) (lcs (pl c P) (k + 1)) := by rw [hls.out]; exact ho10
          obtain ⟨a10, c10, rfl⟩ := own_slice ho11
          have HO10 := Lib.hid ho11
          clear ho10 ho11 hg10 HOA VA HB9 HO9 Y9 V9 HC1 HC2 HC3 HC4 HC5
          go_wp2_with fail
          exact ⟨⟨k + 1, by omega, by go_num, HO10.out, HB10.out⟩, by simp [intOf]; omega⟩
      · have hkm : k = m := by omega
        subst hkm
        have CZ := Lib.hid (C3.out.below HBr.out C3.out.lt)
        have SZ := Lib.hid (HS3.out.below HBr.out)
        have BZ := Lib.hid (HB3.out.trans (HBr.out.mono HB3.out.size))
        obtain ⟨z1, z2, z3⟩ := HPL.out (fun _ => usualP)
        have HLz : LIn wr (.slice al k cl) k (pl c P) := by
          rcases HO.out.2 with ⟨_, h⟩ | ⟨g', cap', _, h, _⟩
          · omega
          · cases h; exact own_lin HO.out
        have HLZ := Lib.hid HLz
        obtain ⟨b0, b1, b2, b3, b4, b5, -, -, -, -, -, -, -, -, bps⟩ := HK.out wr CZ.out
        have us := usualC_any c.x n wr
        rw [show clampN (n : Int) = n by unfold clampN; omega] at us
        have us := Lib.hid us
        have Z1 := Lib.hid z1
        have Z2 := Lib.hid z2
        have Z3 := Lib.hid z3
        clear HLz z1 z2 z3 HBr HO C3 HS3 HB3 HPL HL3 HE3
        subst hm
        go_wp2_with fail
        refine us.out.mono ?_
        rintro e w4 ⟨gu, rfl, hgu, hOu, hb4⟩
        have Q4 := Lib.hid (Own5.in (cap := n) hOu)
        have C4 := Lib.hid (CZ.out.below hb4 CZ.out.lt)
        have S4 := Lib.hid (SZ.out.below hb4)
        have B4 := Lib.hid (BZ.out.trans (hb4.mono BZ.out.size))
        have L4 := Lib.hid (HLZ.out.below hb4)
        clear hgu hOu hb4 us CZ SZ BZ HLZ b0 b1 b2 b3 b4 b5 bps
        go_wp2_with (with_reducible refine stopS 28 _ _ rfl ?_)
        refine Lib.hid ?_
        refine wpList_store_whole sC rfl _ _ rfl rfl rfl (var_new w4 zC 28) (Cf.one (usualC c.x) rfl) (Cf.size _ _) (by simp) ?_
        intro w5 hv5 hb5 _ _
        rw [putL_all _ _ (by rw [Cf.size]; rfl)] at hv5
        have V5 := Lib.hid hv5
        have hb := hb5 w4.heap.size w4 (Nat.le_refl _) (box_below w4 _)
        have Q5 := Lib.hid (Q4.out.below hb)
        have C5 := Lib.hid (C4.out.below hb C4.out.lt)
        have S5 := Lib.hid (S4.out.below hb)
        have B5 := Lib.hid (B4.out.trans (hb.mono B4.out.size))
        have L5 := Lib.hid (L4.out.below hb)
        clear hv5 hb5 hb Q4 C4 S4 B4 L4
        have ch := Lib.hid (Change_any (usualC c.x) _ n (fun _ => usualP) _ _ (pl c P) w5 HX.out Q5.out (by omega) L5.out hRt.out (by omega))
        go_wp2_with (with_reducible refine stopL 28 _ rfl ?_)
        refine Lib.hid ?_
        refine wpList_load_whole uC rfl sC rfl _ rfl rfl (range_whole V5.out) (Cf.size _ _) ?_
        
        go_wp2_with fail
        refine ch.out.mono ?_
        rintro e w6 ⟨XX, rfl, hX0, _, hb6⟩
        obtain ⟨s2, hXX, hg2⟩ := hX0 Z1.out
        rw [Z2.out] at hXX
        subst hXX
        rw [Z1.out]
        have Q6 := Lib.hid (hg2.qin.congr Z3.out)
        have O6 := Lib.hid hg2.one
        have C6 := Lib.hid (C5.out.below hb6 C5.out.lt)
        have S6 := Lib.hid (S5.out.below hb6)
        have B6 := Lib.hid (B5.out.trans (hb6.mono B5.out.size))
        clear hX0 hg2 hb6 ch V5 Q5 C5 S5 B5 L5 Z1 Z2 Z3
        go_wp2_with (with_reducible refine stopS 28 _ _ rfl ?_)
        refine Lib.hid ?_
        refine wpList_store_whole sC rfl _ _ rfl rfl rfl (var_new w6 zC 28) (Cf.one c O6.out) (Cf.size _ s2) (by simp) ?_
        intro w7 hv7 hb7 _ _
        rw [putL_all _ _ (by rw [Cf.size]; rfl)] at hv7
        have V7 := Lib.hid hv7
        have hb := hb7 w6.heap.size w6 (Nat.le_refl _) (box_below w6 _)
        have Q7 := Lib.hid (Q6.out.below hb)
        have C7 := Lib.hid (C6.out.below hb C6.out.lt)
        have S7 := Lib.hid (S6.out.below hb)
        have B7 := Lib.hid (B6.out.trans (hb.mono B6.out.size))
        clear hv7 hb7 hb Q6 C6 S6 B6
        obtain ⟨-, -, -, -, -, -, -, -, -, -, -, -, -, -, bps⟩ := HK.out w7 C7.out
        have sm := Lib.hid (show Calls Tryz.prog 12 #[.agg (c.cells s2), .agg C] w7 fun e w' => e = .returned (.bool true) ∧ Below w7.heap.size w7 w' from by rw [← HC.out]; exact same_any c s2 _ n P w7 Q7.out S7.out (by omega))
        go_wp2_with (with_reducible refine stopL 28 _ rfl ?_)
        refine Lib.hid ?_
        refine wpList_load_want uC rfl sC (by rfl) _ rfl rfl (range_whole V7.out) (Cf.size _ s2) ?_
        refine wpList_load_want uC rfl sC (by rfl) _ rfl rfl (range_whole C7.out) CL.out ?_
        go_wp2_with fail
        refine sm.out.mono ?_
        rintro e w8 ⟨rfl, hb8⟩
        have B8 := Lib.hid (B7.out.trans (hb8.mono B7.out.size))
        clear hb8 sm
        go_wp2_with fail
        go_ret
        exact ⟨rfl, HB.out.trans (B8.out.mono HB.out.size)⟩
  ·
    generalize cfgE c P n = E at *
    go_wp2_with fail
    refine ck.out.mono ?_
    rintro e w2 ⟨rfl, hb2⟩
    have HB2 := Lib.hid (HB1.out.trans (hb2.mono HB1.out.size))
    have lv2 := Cd.lives_any w2 (HE1.out.below hb2)
    clear hb2 ck
    go_wp2_with fail
    refine lv2.mono ?_
    rintro e w3 ⟨rfl, hb3⟩
    have HB3 := Lib.hid (HB2.out.trans (hb3.mono HB2.out.size))
    clear hb3
    go_wp2_with fail
    go_ret
    exact ⟨rfl, HB.out.trans (HB3.out.mono HB.out.size)⟩
end Go.Proofs.YtlmdpaemhjcmbaaGreatDoor
