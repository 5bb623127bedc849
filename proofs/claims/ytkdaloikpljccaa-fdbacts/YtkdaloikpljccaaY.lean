/- A table and its model side by side; the closures of the model's calls; how a call begins. -/
import Derived.Test.YtkdaloikpljccaaWd
import Derived.Deep.CutRange
namespace Go.Proofs.Ytkdaloikpljccaa
open Go.RowKit Go.Sort Go.Maps

/-- A table and its model, apart in memory, and above a bound. -/
structure Duo (w : World) (tb b mb B : Nat) (most : Int) (E : Nat → Option Ent) (v : Value) (lt lm : List Ent) : Prop where
  tab : Tab w tb b most E lt
  mdl : Mdl w mb v (max most 0) B lm
  apart : ∀ k, v.ownBlock = some k → E k = none
  size : B ≤ w.heap.size
  lo : B ≤ b ∧ B ≤ tb ∧ B ≤ mb
  loE : ∀ q, (E q).isSome = true → B ≤ q
variable {w w1 : World} {tb b mb B : Nat} {most : Int} {E E1 : Nat → Option Ent} {v v1 : Value} {lt lm l1 : List Ent}
theorem Mdl.not_map {l : List Ent} {m : Int} (h : Mdl w mb v m B l) {b : Nat} (hm : ∃ es c, w.heap[b]? = some (.map es c)) : ¬ mb = b ∧ ∀ k, v.ownBlock = some k → ¬ k = b := by
  obtain ⟨es, c, hb⟩ := hm
  refine ⟨fun e => ?_, fun k hk e => ?_⟩
  · subst e
    have := h.row
    unfold VarAt at this
    rw [hb] at this
    cases this
  · subst e
    obtain ⟨_, ⟨rfl, _⟩ | ⟨g, cap, cur, rfl, _, hg, _⟩⟩ := h.own
    · simp [Value.ownBlock] at hk
    · simp only [Value.ownBlock, Option.some.injEq] at hk
      subst hk
      rw [hb] at hg
      cases hg
theorem Mdl.own_ne {l : List Ent} {m : Int} (h : Mdl w mb v m B l) {c : Nat} {xs : Array Value} {t : TypeId} (hc : VarAt w c xs t) (ht : t ≠ 39) : ∀ k, v.ownBlock = some k → ¬ k = c := fun k hk e => by
  subst e
  obtain ⟨_, ⟨rfl, _⟩ | ⟨g, cap, cur, rfl, _, hg, _⟩⟩ := h.own
  · simp [Value.ownBlock] at hk
  · simp only [Value.ownBlock, Option.some.injEq] at hk
    subst hk
    exact var_ne hc (show VarAt w g cur 39 from hg) ht rfl
theorem Mdl.own_lt {l : List Ent} {m : Int} (h : Mdl w mb v m B l) : ∀ k, v.ownBlock = some k → B ≤ k ∧ k < w.heap.size := fun k hk => h.own.lt k hk
theorem Duo.below (h : Duo w tb b mb B most E v lt lm) (hb : Below w.heap.size w w1) : Duo w1 tb b mb B most E v lt lm :=
  ⟨h.tab.below hb, h.mdl.below hb, h.apart, Nat.le_trans h.size hb.size, h.lo, h.loE⟩
/-- The table has turned. -/
theorem Duo.tstep (h : Duo w tb b mb B most E v lt lm) (ht : Tab w1 tb b most E1 l1) (hg : Grew w E E1) (ho : Off (Foot b E) w w1) : Duo w1 tb b mb B most E1 v l1 lm ∧ Below B w w1 := by
  have hmb := h.mdl.not_map h.tab.at_map
  have hE : ∀ q, (E1 q).isSome = true → B ≤ q := fun q hq => by
    by_cases hlt : q < w.heap.size
    · exact h.loE q (hg q hlt hq)
    · have := h.size; omega
  refine ⟨⟨ht, h.mdl.off ho ?_ ?_, fun k hk => ?_, Nat.le_trans h.size ho.size, h.lo, hE⟩, ho.below h.size ?_⟩
  · rintro (e | e)
    · exact hmb.1 e
    · obtain ⟨x, hx⟩ := Option.isSome_iff_exists.1 e
      exact var_ne h.mdl.row (h.tab.ents _ x hx) (by decide) rfl
  · rintro k hk (e | e)
    · exact hmb.2 k hk e
    · rw [h.apart k hk] at e
      cases e
  · cases hq : E1 k with
    | none => rfl
    | some x =>
      have h1 := hg k (h.mdl.own_lt k hk).2 (by rw [hq]; rfl)
      rw [h.apart k hk] at h1
      cases h1
  · rintro k hk (e | e)
    · have := h.lo.1; omega
    · have := h.loE k e; omega
/-- The model has turned. -/
theorem Duo.mstep (h : Duo w tb b mb B most E v lt lm) (hm : Mdl w1 mb v1 (max most 0) B l1) (hv : ∀ k, v1.ownBlock = some k → v.ownBlock = some k ∨ w.heap.size ≤ k) (ho : Off (MOff mb v) w w1) : Duo w1 tb b mb B most E v1 lt l1 ∧ Below B w w1 := by
  have hmb := h.mdl.not_map h.tab.at_map
  refine ⟨⟨h.tab.off ho ?_ ?_ ?_, hm, fun k hk => ?_, Nat.le_trans h.size ho.size, h.lo, h.loE⟩, ho.below h.size ?_⟩
  · rintro (e | e)
    · exact var_ne h.tab.row h.mdl.row (by decide) e
    · exact h.mdl.own_ne h.tab.row (by decide) tb e rfl
  · rintro (e | e)
    · exact hmb.1 e.symm
    · exact hmb.2 b e rfl
  · rintro q (e | e)
    · cases hq : E q with
      | none => rfl
      | some x => exact absurd e (fun e => var_ne h.mdl.row (h.tab.ents q x hq) (by decide) e.symm)
    · exact h.apart q e
  · rcases hv k hk with h1 | h1
    · exact h.apart k h1
    · cases hq : E k with
      | none => rfl
      | some x => have := (h.tab.ents k x hq).lt; omega
  · rintro k hk (e | e)
    · have := h.lo.2.2; omega
    · have := (h.mdl.own_lt k e).1; omega
theorem Duo.keepM (h : Duo w tb b mb B most E v lt lm) (ho : Off (MOff mb v) w w1) {c : Nat} {xs : Array Value} {t : TypeId} (hc : VarAt w c xs t) (h1 : t ≠ 31) (h2 : t ≠ 39) : VarAt w1 c xs t :=
  ho.var hc (by
    rintro (e | e)
    · exact var_ne hc h.mdl.row h1 e
    · exact h.mdl.own_ne hc h2 c e rfl)
theorem Duo.keepT (h : Duo w tb b mb B most E v lt lm) (ho : Off (Foot b E) w w1) {c : Nat} {xs : Array Value} {t : TypeId} (hc : VarAt w c xs t) (h2 : t ≠ 39) : VarAt w1 c xs t :=
  ho.var hc (by
    rintro (e | e)
    · exact h.tab.far hc e
    · obtain ⟨x, hx⟩ := Option.isSome_iff_exists.1 e
      exact var_ne hc (h.tab.ents c x hx) h2 rfl)
theorem mbM (h : Off (fun k => k = mb) w w1) (v : Value) : Off (MOff mb v) w w1 := h.mono (fun _ _ x => Or.inl x)
theorem tbF (h : Off (fun k => k = b) w w1) (E : Nat → Option Ent) : Off (Foot b E) w w1 := h.mono (fun _ _ x => Or.inl x)
theorem max_room (l : List Ent) (most : Int) (n : Nat) : room l (max most 0) n = room l most n := by
  unfold room
  congr 1
  by_cases h : (l.length : Int) < most
  · have : (l.length : Int) < max most 0 := by omega
    simp [h, this]
  · have : ¬ (l.length : Int) < max most 0 := by omega
    simp [h, this]

theorem cnt_none {l : List Ent} {n : Nat} (h : has l n = false) : ((l.length : Int) - ((l.filter fun e => !(e.n == n)).length : Nat)) = 0 := by
  have h1 : (l.filter fun e => !(e.n == n)) = l := List.filter_eq_self.2 (fun e he => by
    cases hc : (e.n == n)
    · rfl
    · have : has l n = true := by
        unfold has fnd
        rw [List.find?_isSome]
        exact ⟨e, he, hc⟩
      rw [this] at h
      cases h)
  rw [h1]
  omega
theorem cnt_some {l : List Ent} {n : Nat} (hu : Up l) (h : has l n = true) : ∃ C : Int, ((l.length : Int) - ((l.filter fun e => !(e.n == n)).length : Nat)) = C ∧ (C == 0) = false ∧ ¬ C = 0 := by
  obtain ⟨e, he, hen⟩ := (has_iff hu).1 h
  have h1 : (l.filter fun e => !(e.n == n)).length < l.length := by
    refine Nat.lt_of_le_of_ne (List.length_filter_le _ _) (fun h2 => ?_)
    have := List.length_filter_eq_length_iff.1 h2 e he
    simp [hen] at this
  have h3 : ¬ ((l.length : Int) - ((l.filter fun e => !(e.n == n)).length : Nat)) = 0 := by omega
  exact ⟨_, rfl, by simpa using h3, h3⟩
theorem grp_bit {n : Nat} (hn : n < 281474976710656) : (n : Int) / 1099511627776 % 2 = if grp n then 1 else 0 := by
  have h := grouped_bit (ofN_lt n)
  rw [mac_num hn] at h
  unfold grp
  rw [h]
  have h2 : (n : Int) / 1099511627776 % 2 = 0 ∨ (n : Int) / 1099511627776 % 2 = 1 := by omega
  rcases h2 with h2 | h2 <;> rw [h2] <;> rfl
theorem stat_eq {l : List Ent} {n : Nat} {y : Ent} (h : fnd l n = some y) : stat l n = y.st := by unfold stat; rw [h]
theorem stat_no {l : List Ent} {n : Nat} (h : has l n = false) : stat l n = false := by
  unfold has at h
  unfold stat
  cases hf : fnd l n with
  | none => rfl
  | some e => rw [hf] at h; cases h
/-- A call's cells. -/
abbrev actC (k n : Nat) (N : Int) : Array Value := #[.int .u8 (k : Nat), .int .u8 (ofN n 0 : Nat), .int .u8 (ofN n 1 : Nat), .int .u8 (ofN n 2 : Nat), .int .u8 (ofN n 3 : Nat), .int .u8 (ofN n 4 : Nat), .int .u8 (ofN n 5 : Nat), .int .i64 N]
abbrev actV (k n : Nat) (N : Int) : Value := .agg (actC k n N)
theorem actCells {k n : Nat} {N : Int} {c : Nat} (h : VarAt w c (actC k n N) 33) : w.cell? ⟨c, 0, none⟩ = some (.int .u8 (k : Nat)) ∧ w.cell? ⟨c, 1, none⟩ = some (.int .u8 (ofN n 0 : Nat)) ∧ w.cell? ⟨c, 2, none⟩ = some (.int .u8 (ofN n 1 : Nat)) ∧ w.cell? ⟨c, 3, none⟩ = some (.int .u8 (ofN n 2 : Nat)) ∧ w.cell? ⟨c, 4, none⟩ = some (.int .u8 (ofN n 3 : Nat)) ∧ w.cell? ⟨c, 5, none⟩ = some (.int .u8 (ofN n 4 : Nat)) ∧ w.cell? ⟨c, 6, none⟩ = some (.int .u8 (ofN n 5 : Nat)) ∧ w.cell? ⟨c, 7, none⟩ = some (.int .i64 N) :=
  ⟨(h.cell 0).trans rfl, (h.cell 1).trans rfl, (h.cell 2).trans rfl, (h.cell 3).trans rfl, (h.cell 4).trans rfl, (h.cell 5).trans rfl, (h.cell 6).trans rfl, (h.cell 7).trans rfl⟩

theorem e22 : ∀ args w, (callFunc 22 args).run Try.prog w = .ok (.enter 22 args) w := enters_of Try.func22 (by kernel_rfl) rfl
theorem e23 : ∀ args w, (callFunc 23 args).run Try.prog w = .ok (.enter 23 args) w := enters_of Try.func23 (by kernel_rfl) rfl
theorem e24 : ∀ args w, (callFunc 24 args).run Try.prog w = .ok (.enter 24 args) w := enters_of Try.func24 (by kernel_rfl) rfl
theorem e25 : ∀ args w, (callFunc 25 args).run Try.prog w = .ok (.enter 25 args) w := enters_of Try.func25 (by kernel_rfl) rfl
theorem cl_all (e : Ent) (W : World) : Calls Try.prog 25 (#[entV e] ++ #[]) W fun r w' => r = .returned (.bool (rmv (fun _ => true) e)) ∧ Below W.heap.size W w' := by
  have HB := Lib.hid (box_below W (.cells (entC e) 39))
  go_enter Try.func25, Try.ntmps25
  go_wp2
  go_ret
  exact ⟨by simp [rmv], HB.out⟩
theorem cl_port (e : Ent) (W : World) (c : Nat) (port : Int) (hc : W.cell? ⟨c, 0, none⟩ = some (.int .i64 port)) : Calls Try.prog 23 (#[entV e] ++ #[.pointer (some ⟨c, 0, none⟩)]) W fun r w' => r = .returned (.bool (rmv (fun e => e.port == port) e)) ∧ Below W.heap.size W w' := by
  have hb := box_below W (.cells (entC e) 39)
  have hc1 := (hb.cell (p := ⟨c, 0, none⟩) (block_lt_of_cell hc)).trans hc
  have k9 := (entCells (var_new W (entC e) 39)).2.2.2.2.2.2.2.2.2
  have HB := Lib.hid hb
  clear hb hc
  unfold rmv
  cases hs : e.st
  · rw [hs] at k9
    go_enter Try.func23, Try.ntmps23
    go_wp2
    go_ret
    exact ⟨by simp, HB.out⟩
  · rw [hs] at k9
    go_enter Try.func23, Try.ntmps23
    go_wp2
    go_ret
    exact ⟨by simp, HB.out⟩
theorem cl_age (e : Ent) (W : World) (c : Nat) (n : Int) (hc : W.cell? ⟨c, 0, none⟩ = some (.int .i64 n)) : Calls Try.prog 24 (#[entV e] ++ #[.pointer (some ⟨c, 0, none⟩)]) W fun r w' => r = .returned (.bool (rmv (fun e => decide (n ≤ e.age)) e)) ∧ Below W.heap.size W w' := by
  have hb := box_below W (.cells (entC e) 39)
  have hc1 := (hb.cell (p := ⟨c, 0, none⟩) (block_lt_of_cell hc)).trans hc
  have k9 := (entCells (var_new W (entC e) 39)).2.2.2.2.2.2.2.2.2
  have HB := Lib.hid hb
  clear hb hc
  unfold rmv
  cases hs : e.st
  · rw [hs] at k9
    go_enter Try.func24, Try.ntmps24
    go_wp2
    go_ret
    exact ⟨by simp, HB.out⟩
  · rw [hs] at k9
    go_enter Try.func24, Try.ntmps24
    go_wp2
    go_ret
    exact ⟨by simp, HB.out⟩
theorem cl_mac (e : Ent) (he : e.n < 281474976710656) (W : World) (c k n : Nat) (hn : n < 281474976710656) (N : Int) (hc : VarAt W c (actC k n N) 33) : Calls Try.prog 22 (#[entV e] ++ #[.pointer (some ⟨c, 0, none⟩)]) W fun r w' => r = .returned (.bool (e.n == n)) ∧ Below W.heap.size W w' := by
  have hb := box_below W (.cells (entC e) 39)
  obtain ⟨a0, a1, a2, a3, a4, a5, a6, a7⟩ := actCells (hc.below hb hc.lt)
  obtain ⟨x0, x1, x2, x3, x4, x5, _⟩ := entCells (var_new W (entC e) 39)
  have heq := mac_eq e.n n he hn
  simp only [macN, macV] at heq
  have hg := g23
  have HB := Lib.hid hb
  clear hb hc
  generalize (e.n == n) = r at *
  go_enter Try.func22, Try.ntmps22
  go_wp2
  go_ret
  exact ⟨rfl, HB.out⟩
end Go.Proofs.Ytkdaloikpljccaa
