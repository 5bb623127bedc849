/- Contracts of printPort and Print. -/
import Derived.Test.YtlmdpaemhjcmbaaGreatDoorNf
import Derived.Test.YtlmdpaemhjcmbaaGreatDoorOa
namespace Go.Proofs.YtlmdpaemhjcmbaaGreatDoor
open Go.RowKit Go.Sort

/-- Commands, cell by cell. -/
def lcs (L : Nat → Cd.Cm) (n : Nat) : List Value := (List.range n).flatMap fun i => (L i).cells.toList
theorem lcs_succ (L : Nat → Cd.Cm) (n : Nat) : lcs L (n + 1) = lcs L n ++ (L n).cells.toList := by simp [lcs, List.range_succ]
theorem cm_len (c : Cd.Cm) : c.cells.toList.length = 10 := rfl
theorem lcs_len (L : Nat → Cd.Cm) : ∀ n, (lcs L n).length = n * 10
  | 0 => rfl
  | n + 1 => by rw [lcs_succ, List.length_append, lcs_len L n, cm_len]; omega
theorem lcs_at (L : Nat → Cd.Cm) : ∀ n i, i < n → ∀ k, k < 10 → (lcs L n)[i * 10 + k]? = (L i).cells[k]?
  | n + 1, i, hi, k, hk => by
    rw [lcs_succ]
    by_cases h : i < n
    · rw [List.getElem?_append_left (by rw [lcs_len]; omega)]
      exact lcs_at L n i h k hk
    · obtain rfl : i = n := by omega
      rw [List.getElem?_append_right (by rw [lcs_len]; omega), lcs_len, show i * 10 + k - i * 10 = k by omega]
      simp
theorem lcs_one (L : Nat → Cd.Cm) (n : Nat) : ∀ u ∈ lcs L n, u.oneCell' = true := by
  intro u hu
  obtain ⟨i, _, hi⟩ := List.mem_flatMap.1 hu
  have := Cd.Cm.one (L i)
  rw [Array.all_eq_true_iff_forall_mem] at this
  exact this u (by simpa using hi)
theorem lcs_congr {L M : Nat → Cd.Cm} : ∀ n, (∀ i, i < n → L i = M i) → lcs L n = lcs M n
  | 0, _ => rfl
  | n + 1, h => by rw [lcs_succ, lcs_succ, lcs_congr n (fun i hi => h i (by omega)), h n (by omega)]
theorem lcs_add (L : Nat → Cd.Cm) (a : Nat) : ∀ b, lcs L (a + b) = lcs L a ++ lcs (fun j => L (a + j)) b
  | 0 => by simp [lcs]
  | b + 1 => by rw [← Nat.add_assoc, lcs_succ, lcs_add L a b, lcs_succ, List.append_assoc]
theorem own_kept {w w' : World} {B n : Nat} {v : Value} {xs : List Value} (h : w.ownsRow B 33 10 v n xs) (hb : Below w.heap.size w w') : w'.ownsRow B 33 10 v n xs := by
  refine ⟨h.1, ?_⟩
  rcases h.2 with h | ⟨g, cap, cur, e, hB, hg, rest⟩
  · exact .inl h
  · exact .inr ⟨g, cap, cur, e, hB, (hb.block g (Array.getElem?_eq_some_iff.1 hg).1).trans hg, rest⟩
theorem own_lin {w : World} {B n g cap : Nat} {L : Nat → Cd.Cm} (h : w.ownsRow B 33 10 (.slice (some ⟨g, 0, none⟩) n cap) n (lcs L n)) : LIn w (.slice (some ⟨g, 0, none⟩) n cap) n L := by
  refine ⟨some ⟨g, 0, none⟩, cap, rfl, fun _ => ⟨g, 0, rfl, fun i hi k hk => ?_⟩⟩
  rw [Nat.zero_add, World.ownsRow.cellAt h (i * 10 + k) (by omega), lcs_at L n i hi k hk]
theorem info33 : (Tryz.prog.info? 33).map (fun i => (i.zero, i.size, i.bytes)) = some (some (.agg (Cd.zc 0).cells), 10, 32) := by kernel_rfl
theorem und29' : Tryz.prog.underlying 29 = some (.slice 33) := by kernel_rfl
theorem i64_co (m : Nat) (h : m ≤ 4294967295) : IntKind.i64.wrap (m : Int) = m := by
  simp only [IntKind.wrap, IntKind.bits, IntKind.signed]; simp; omega
set_option maxRecDepth 20000 in
set_option maxHeartbeats 2000000 in
theorem printPort_any (k : Int) (p : Pc) (hc : p.co ≤ 4294967295) (w : World) :
    Calls Tryz.prog 25 #[.int .i64 k, p.val] w fun e w' => ∃ g, e = .returned (.slice (some ⟨g, 0, none⟩) 5 5) ∧ w'.ownsRow w.heap.size 33 10 (.slice (some ⟨g, 0, none⟩) 5 5) 5 (lcs (ptc k p) 5) ∧ Below w.heap.size w w' := by
  have v := var_new w p.cells 58
  have hw := i64_co p.co hc
  have hb := Lib.hid (box_below w (.cells p.cells 58))
  have HB := Lib.hid (fun (cs : Array Value) => (show Below w.heap.size w ((w.alloc (.cells p.cells 58)).alloc (.cells cs 33)) from hb.out.alloc (by rw [alloc_size]; omega) _))
  have HO := Lib.hid (fun (cs : Array Value) (xs : List Value) (hz : cs.size = 5 * 10) (hx : cs.toList = xs) => (show ((w.alloc (.cells p.cells 58)).alloc (.cells cs 33)).ownsRow w.heap.size 33 10 (.slice (some ⟨w.heap.size + 1, 0, none⟩) 5 5) 5 xs from by
    have := World.ownsRow_lit (base := w.heap.size) (e := 33) (size := 10) (w.alloc (.cells p.cells 58)) cs 5 (by rw [alloc_size]; omega) (by unfold maxLen; omega) hz
    rw [alloc_size, hx] at this
    exact this))
  obtain ⟨pr, co, ed, au, pt⟩ := p
  have k0 : (w.alloc (.cells (⟨pr, co, ed, au, pt⟩ : Pc).cells 58)).cell? ⟨w.heap.size, 0, none⟩ = some (.int .i64 pr) := v.cell 0
  have k1 : (w.alloc (.cells (⟨pr, co, ed, au, pt⟩ : Pc).cells 58)).cell? ⟨w.heap.size, 1, none⟩ = some (.int .u32 co) := v.cell 1
  have k2 : (w.alloc (.cells (⟨pr, co, ed, au, pt⟩ : Pc).cells 58)).cell? ⟨w.heap.size, 2, none⟩ = some (.bool ed) := v.cell 2
  have k3 : (w.alloc (.cells (⟨pr, co, ed, au, pt⟩ : Pc).cells 58)).cell? ⟨w.heap.size, 3, none⟩ = some (.bool au) := v.cell 3
  have k4 : (w.alloc (.cells (⟨pr, co, ed, au, pt⟩ : Pc).cells 58)).cell? ⟨w.heap.size, 4, none⟩ = some (.int .i64 pt) := v.cell 4
  clear v hb hc
  simp only at hw
  go_enter Tryz.func25, Tryz.ntmps25
  go_wp2_with fail
  go_ret
  refine ⟨_, rfl, ?_, HB.out _⟩
  refine HO.out _ _ ?_ ?_
  · rfl
  · rfl
theorem range_pc {w : World} {b o : Nat} {x : Pc} (h : ∀ k, k < 5 → w.cell? ⟨b, o + k, none⟩ = x.cells[k]?) : w.rangeAt b o x.cells.toList := fun j v hj => by
  have h10 : j < 5 := (List.getElem?_eq_some_iff.1 hj).1
  have := h j h10
  rw [Array.getElem?_toList] at hj
  rw [this, hj]
theorem pl_next (c : Cf) (P : Nat → Pc) (k : Nat) : lcs (pl c P) (7 + 5 * k) ++ lcs (ptc ((k : Int) + 1) (P k)) 5 = lcs (pl c P) (7 + 5 * (k + 1)) := by
  rw [show 7 + 5 * (k + 1) = 7 + 5 * k + 5 by omega, lcs_add (pl c P) (7 + 5 * k) 5, lcs_congr 5 (fun i hi => (pl_port c P k i hi).symm)]
theorem pl_first (c : Cf) (P : Nat → Pc) : lcs (pl c P) 7 = lcs (hdr c) 7 := lcs_congr 7 fun i hi => by unfold pl; rw [if_pos hi]
set_option maxRecDepth 20000 in
set_option maxHeartbeats 4000000 in
theorem Print_any (c : Cf) (s : Value) (n : Nat) (P : Nat → Pc) (w : World) (hs : QIn w s n P) (hn : n ≤ 20) (hco : ∀ i, i < n → (P i).co ≤ 4294967295) :
    Calls Tryz.prog 13 #[.agg (c.cells s)] w fun e w' => ∃ g cap, e = .returned (.slice (some ⟨g, 0, none⟩) (7 + 5 * n : Nat) cap) ∧ w'.ownsRow w.heap.size 33 10 (.slice (some ⟨g, 0, none⟩) (7 + 5 * n) cap) (7 + 5 * n) (lcs (pl c P) (7 + 5 * n)) ∧ Below w.heap.size w w' := by
  have v := var_new w (c.cells s) 28
  have hb := box_below w (.cells (c.cells s) 28)
  have HS := Lib.hid (hs.below hb)
  have HB := Lib.hid (fun (cs : Array Value) => (show Below (w.alloc (.cells (c.cells s) 28)).heap.size (w.alloc (.cells (c.cells s) 28)) ((w.alloc (.cells (c.cells s) 28)).alloc (.cells cs 33)) from box_below _ _))
  have HO := Lib.hid (fun (cs : Array Value) (xs : List Value) (hz : cs.size = 7 * 10) (hx : cs.toList = xs) => (show ((w.alloc (.cells (c.cells s) 28)).alloc (.cells cs 33)).ownsRow (w.heap.size + 1) 33 10 (.slice (some ⟨w.heap.size + 1, 0, none⟩) 7 7) 7 xs from by
    have := World.ownsRow_lit (base := w.heap.size + 1) (e := 33) (size := 10) (w.alloc (.cells (c.cells s) 28)) cs 7 (by rw [alloc_size]; omega) (by unfold maxLen; omega) hz
    rw [alloc_size, hx] at this
    exact this))
  have HW := Lib.hid (alloc_size w (.cells (c.cells s) 28))
  have HB0 := Lib.hid hb
  have HC := Lib.hid hco
  obtain ⟨ia, hia⟩ : ∃ i, Hid (Tryz.prog.info? 33 = some i ∧ i.zero = some (.agg (Cd.zc 0).cells) ∧ i.size = 10 ∧ i.bytes = 32) := (info_parts info33).imp fun _ h => Lib.hid h
  obtain ⟨aS, cS, rfl, _⟩ := hs
  obtain ⟨-, -, -, -, -, -, k6, -, k8, k9, k10, k11, k12, k13, -⟩ := v.box
  have f14 : ∀ cs, ((w.alloc (.cells (c.cells (.slice aS n cS)) 28)).alloc (.cells cs 33)).cell? ⟨w.heap.size, 14, none⟩ = some (.slice aS n cS) := fun cs => (v.alloc _).cell 14
  have LF := Lib.hid (show lcs (pl c P) (7 + 5 * 0) = [.int .i64 0, .int .i64 0, .int .i64 c.pr, .bool false, .int .u8 0, .int .u8 0, .int .u8 0, .int .u8 0, .int .u8 0, .int .u8 0,
    .int .i64 1, .int .i64 0, .int .i64 c.m, .bool false, .int .u8 0, .int .u8 0, .int .u8 0, .int .u8 0, .int .u8 0, .int .u8 0,
    .int .i64 2, .int .i64 0, .int .i64 c.h, .bool false, .int .u8 0, .int .u8 0, .int .u8 0, .int .u8 0, .int .u8 0, .int .u8 0,
    .int .i64 3, .int .i64 0, .int .i64 c.d, .bool false, .int .u8 0, .int .u8 0, .int .u8 0, .int .u8 0, .int .u8 0, .int .u8 0,
    .int .i64 4, .int .i64 0, .int .i64 c.ho, .bool false, .int .u8 0, .int .u8 0, .int .u8 0, .int .u8 0, .int .u8 0, .int .u8 0,
    .int .i64 5, .int .i64 0, .int .i64 0, .bool c.rs, .int .u8 0, .int .u8 0, .int .u8 0, .int .u8 0, .int .u8 0, .int .u8 0,
    .int .i64 6, .int .i64 0, .int .i64 c.ag, .bool false, .int .u8 0, .int .u8 0, .int .u8 0, .int .u8 0, .int .u8 0, .int .u8 0] from (pl_first c P).trans rfl)
  clear v hb hco
  generalize hX : c.cells (.slice aS n cS) = X at *
  clear hX
  go_enter Tryz.func13, Tryz.ntmps13
  go_wp2_with fail
  go_loopw [34, 3] (fun i l wr => ∃ k g cap : Nat, k ≤ n ∧ i = .int .i64 k ∧ l = .slice (some ⟨g, 0, none⟩) (7 + 5 * k) cap ∧ wr.ownsRow (w.heap.size + 1) 33 10 (.slice (some ⟨g, 0, none⟩) (7 + 5 * k) cap) (7 + 5 * k) (lcs (pl c P) (7 + 5 * k)) ∧ Below (w.heap.size + 1) (w.alloc (.cells X 28)) wr) (fun i _ _ => n - (intOf i).toNat)
  case atStart =>
    refine ⟨0, _, _, Nat.zero_le _, rfl, rfl, ?_, by have := HB.out; rw [HW.out] at this; exact this _⟩
    refine HO.out _ _ ?_ ?_
    · rfl
    · rw [LF.out]
  case round =>
    obtain ⟨k, g, cap, hk, rfl, rfl, ho, hb⟩ := hrel
    have HB1 := Lib.hid hb
    have HO1 := Lib.hid ho
    clear hb ho HB HO LF k6 k8 k9 k10 k11 k12 k13 f14
    by_cases hlt : k < n
    · obtain ⟨a', cp, h9, _, hc0⟩ := HS.out
      cases h9
      obtain ⟨b, o, rfl, hc⟩ := hc0 (by omega)
      have hix := idx26 b o n cS k hlt
      have hbl : b < w.heap.size + 1 := by have := block_lt_of_cell (hc 0 (by omega) 0 (by omega)); rw [HW.out] at this; exact this
      have RL := Lib.hid (show wr.rangeAt b (o + k * 5) (P k).cells.toList from range_pc fun q hq => by rw [HB1.out.cell (by exact hbl)]; exact hc k hlt q hq)
      have cp := Lib.hid (fun w' => printPort_any ((k : Int) + 1) (P k) (HC.out k hlt) w')
      clear hc hc0 hbl
      go_wp2_with (with_reducible refine stopL 58 _ rfl ?_)
      refine Lib.hid ?_
      refine wpList_load_whole undP rfl sP5 rfl _ rfl rfl RL.out rfl ?_
      go_wp2_with (with_reducible refine stopS 58 _ _ rfl ?_)
      refine Lib.hid ?_
      refine wpList_store_whole sP5 rfl _ _ rfl rfl rfl (var_new wr _ 58) (Pc.one _) rfl (by simp) ?_
      intro w6 hv6 hb6 _ _
      rw [putL_all _ _ (by rfl)] at hv6
      have V6 := Lib.hid hv6
      have hb7 := hb6 wr.heap.size wr (Nat.le_refl _) (box_below wr _)
      have hsz : w.heap.size + 1 ≤ wr.heap.size := by have := HB1.out.size; rw [HW.out] at this; exact this
      have HB6 := Lib.hid (HB1.out.trans (hb7.mono hsz))
      have HO6 := Lib.hid (own_kept HO1.out hb7)
      clear hv6 hb6 hb7 RL hix HB1 HO1
      go_wp2_with (with_reducible refine stopL 58 _ rfl ?_)
      refine Lib.hid ?_
      refine wpList_load_whole undP rfl sP5 rfl _ rfl rfl (range_whole V6.out) rfl ?_
      go_wp2_with fail
      refine (cp.out _).mono ?_
      rintro e w7 ⟨g2, rfl, ho2, hb7⟩
      have hs6 : w.heap.size + 1 ≤ w6.heap.size := by have := HB6.out.size; rw [HW.out] at this; exact this
      have HB7 := Lib.hid (HB6.out.trans (hb7.mono hs6))
      have HO7 := Lib.hid (own_kept HO6.out hb7)
      have HO2 := Lib.hid ho2
      have hs7 : w.heap.size + 1 ≤ w7.heap.size := Nat.le_trans hs6 hb7.size
      clear ho2 hb7 HB6 HO6 V6 cp
      go_wp2_with (first | (at_builtin; go_loud (refine wpList_append_own _ rfl _ _ 29 rfl (w.heap.size + 1) 33 ia (.agg (Cd.zc 0).cells) 10 32 und29' hia.out.1 hia.out.2.1 hia.out.2.2.1 hia.out.2.2.2 rfl (by decide) _ (7 + 5 * k) (lcs (pl c P) (7 + 5 * k)) rfl HO7.out ⟨g2, 0, none⟩ 5 5 (lcs (ptc ((k : Int) + 1) (P k)) 5) rfl (lcs_len _ 5) ?c1 (lcs_one _ 5) ?c3 ?c4 ?c5 ?_)))
      case c1 =>
        intro j u hj
        rw [addN, Nat.zero_add, World.ownsRow.cellAt HO2.out j (by rw [← lcs_len]; exact (List.getElem?_eq_some_iff.1 hj).1)]
        exact hj
      case c3 => unfold maxLen; omega
      case c4 => omega
      case c5 => omega
      intro v' w8 ho8 hg8 hnil
      have HB8 := Lib.hid (HB7.out.grown hg8 (by rw [HW.out] at *; omega) (fun k hk => (HO7.out.lt k hk).1))
      rw [pl_next, show 7 + 5 * k + 5 = 7 + 5 * (k + 1) by omega] at ho8
      obtain ⟨g8, cap8, rfl⟩ : ∃ g8 cap8, v' = .slice (some ⟨g8, 0, none⟩) (7 + 5 * (k + 1)) cap8 := by
        rcases ho8.2 with ⟨e, h⟩ | ⟨g, cap, _, e, _⟩
        · omega
        · exact ⟨g, cap, e⟩
      have HO8 := Lib.hid ho8
      clear ho8 hg8 hnil HB7 HO7 HO2
      go_wp2_with fail
      exact ⟨⟨k + 1, g8, cap8, by omega, by go_num, rfl, HO8.out, HB8.out⟩, by simp [intOf]; omega⟩
    · have hkn : k = n := by omega
      subst hkn
      go_wp2_with fail
      go_ret
      refine ⟨g, cap, rfl, ⟨HO1.out.1, ?_⟩, HB0.out.trans (HB1.out.mono (by omega))⟩
      rcases HO1.out.2 with ⟨e, _⟩ | ⟨g', c', cur, e, h1, h2⟩
      · cases e
      · exact .inr ⟨g', c', cur, e, by omega, h2⟩
end Go.Proofs.YtlmdpaemhjcmbaaGreatDoor
