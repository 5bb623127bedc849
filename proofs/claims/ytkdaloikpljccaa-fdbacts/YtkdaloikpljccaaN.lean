/- removeLearnt and what calls it with a closure: Flush, Start. -/
import Derived.Test.YtkdaloikpljccaaM
namespace Go.Proofs.Ytkdaloikpljccaa
open Go.RowKit Go.Sort Go.Maps
variable {w w' : World} {tb b : Nat} {most : Int} {E : Nat → Option Ent} {l : List Ent}
/-- A learnt entry that is picked. -/
def rmv (pd : Ent → Bool) (e : Ent) : Bool := !e.st && pd e
theorem entCells {W : World} {q : Nat} {e : Ent} (h : VarAt W q (entC e) 39) : W.cell? ⟨q, 0, none⟩ = some (.int .u8 (ofN e.n 0 : Nat)) ∧ W.cell? ⟨q, 1, none⟩ = some (.int .u8 (ofN e.n 1 : Nat)) ∧ W.cell? ⟨q, 2, none⟩ = some (.int .u8 (ofN e.n 2 : Nat)) ∧ W.cell? ⟨q, 3, none⟩ = some (.int .u8 (ofN e.n 3 : Nat)) ∧ W.cell? ⟨q, 4, none⟩ = some (.int .u8 (ofN e.n 4 : Nat)) ∧ W.cell? ⟨q, 5, none⟩ = some (.int .u8 (ofN e.n 5 : Nat)) ∧ W.cell? ⟨q, 6, none⟩ = some (.int .i64 e.port) ∧ W.cell? ⟨q, 7, none⟩ = some (.int .u32 e.ports) ∧ W.cell? ⟨q, 8, none⟩ = some (.int .i64 e.age) ∧ W.cell? ⟨q, 9, none⟩ = some (.bool e.st) := by
  refine ⟨(h.cell 0).trans rfl, (h.cell 1).trans rfl, (h.cell 2).trans rfl, (h.cell 3).trans rfl, (h.cell 4).trans rfl, (h.cell 5).trans rfl, (h.cell 6).trans rfl, (h.cell 7).trans rfl, (h.cell 8).trans rfl, (h.cell 9).trans rfl⟩
theorem goes_any (pd : Ent → Bool) (g : Nat) (cb : Array Value) (eg : ∀ args w, (callFunc g args).run Try.prog w = .ok (.enter g args) w) (W : World) (q : Nat) (e : Ent) (gb : Nat) (hv : VarAt W q (entC e) 39) (hc : W.cell? ⟨gb, 0, none⟩ = some (.func (.func g) #[] cb))
    (hgo : ∀ W' : World, Below W.heap.size W W' → Calls Try.prog g (#[entV e] ++ cb) W' fun r w' => r = .returned (.bool (pd e)) ∧ Below W'.heap.size W' w') :
    Calls Try.prog 39 #[macN e.n, .pointer (some ⟨q, 0, none⟩), .pointer (some ⟨gb, 0, none⟩)] W fun r w' => r = .returned (.bool (rmv pd e)) ∧ Below W.heap.size W w' := by
  have hb := box_below W (macO (ofN e.n) 24)
  have hv1 := hv.below hb hv.lt
  have hc1 := (hb.cell (p := ⟨gb, 0, none⟩) (block_lt_of_cell hc)).trans hc
  have HB := Lib.hid hb
  have hgo1 : ∀ d os, Calls Try.prog g (#[entV e] ++ cb) (grow (redrawn (W.alloc (macO (ofN e.n) 24)) d) os) fun r w' => r = .returned (.bool (pd e)) ∧ Below (grow (redrawn (W.alloc (macO (ofN e.n) 24)) d) os).heap.size (grow (redrawn (W.alloc (macO (ofN e.n) 24)) d) os) w' :=
    fun d os => hgo _ (below_next hb (below_regrown _ d os))
  clear hgo hb hc hv
  cases hs : e.st
  · have hr : rmv pd e = pd e := by simp [rmv, hs]
    rw [hr]
    go_enter Try.func39, Try.ntmps39
    go_wp2
    generalize W.alloc (macO (ofN e.n) 24) = V at *
    have k := fun d os => entCells (hv1.below (below_regrown V d os) hv1.lt)
    have k0 := fun d os => (k d os).1
    have k1 := fun d os => (k d os).2.1
    have k2 := fun d os => (k d os).2.2.1
    have k3 := fun d os => (k d os).2.2.2.1
    have k4 := fun d os => (k d os).2.2.2.2.1
    have k5 := fun d os => (k d os).2.2.2.2.2.1
    have k6 := fun d os => (k d os).2.2.2.2.2.2.1
    have k7 := fun d os => (k d os).2.2.2.2.2.2.2.1
    have k8 := fun d os => (k d os).2.2.2.2.2.2.2.2.1
    have k9 := fun d os => (k d os).2.2.2.2.2.2.2.2.2
    rw [hs] at k9
    have hc2 := fun d os => ((below_regrown V d os).cell (p := ⟨gb, 0, none⟩) (block_lt_of_cell hc1)).trans hc1
    have cg : ∀ d os, Calls Try.prog g (#[entV e] ++ cb) (grow (redrawn V d) os) fun r w' => r = .returned (.bool (pd e)) ∧ ∃ p : Regrown, w' = grow (redrawn V p.d) p.os := fun d os => Calls.regrown_of (hgo1 d os)
    simp only [entV, entC, hs] at cg
    clear k hv1 hc1 hgo1
    refine wp_region_quiet_below (by kernel_rfl) (by kernel_rfl) ?_
    repeat (go_big_quiet_step (first | with_reducible exact cg _ _))
    refine wpQuiet_nil ?_
    intro _ hw'
    obtain ⟨⟨dq, osq⟩, hw''⟩ := hw'
    subst hw''
    go_wp2
    go_ret
    exact ⟨rfl, below_next HB.out (below_regrown V dq osq)⟩
  · have hr : rmv pd e = false := by simp [rmv, hs]
    rw [hr]
    have k9 := (entCells hv1).2.2.2.2.2.2.2.2.2
    rw [hs] at k9
    clear hv1 hc1 hgo1
    go_enter Try.func39, Try.ntmps39
    go_wp2
    go_quiet (fail)
    go_wp2
    go_ret
    exact ⟨rfl, below_dn HB.out⟩

def cntR (l : List Ent) (pd : Ent → Bool) : Int := (l.length : Int) - ((l.filter fun e => !rmv pd e).length : Nat)
theorem removeLearnt_any (h : Tab w tb b most E l) (pd : Ent → Bool) (g : Nat) (cb : Array Value) (eg : ∀ args w, (callFunc g args).run Try.prog w = .ok (.enter g args) w)
    (hgo : ∀ (W' : World) (e : Ent), Off (fun k => k = b) w W' → Calls Try.prog g (#[entV e] ++ cb) W' fun r w' => r = .returned (.bool (pd e)) ∧ Below W'.heap.size W' w') :
    Calls Try.prog 26 #[.pointer (some ⟨tb, 0, none⟩), .func (.func g) #[] cb] w fun e w' => e = .returned (.int .i64 (cntR l pd)) ∧ Tab w' tb b most E (l.filter fun e => !rmv pd e) ∧ Off (fun k => k = b) w w' := by
  have hb := box_below w (.cells #[.func (.func g) #[] cb] 57)
  have h1 := h.below hb
  have hv := var_new w #[.func (.func g) #[] cb] 57
  have e39 : ∀ args w, (callFunc 39 args).run Try.prog w = .ok (.enter 39 args) w := enters_of Try.func39 (by kernel_rfl) rfl
  have hcon := deleteFunc_any h1 (rmv pd) 39 #[.pointer (some ⟨w.heap.size, 0, none⟩)] e39 (fun W q e hg hq => by
    have ho := off_grown hg
    have hv1 := ho.var hv (fun e0 => by
      have h2 := h1.at_map
      obtain ⟨es, cl, h3⟩ := h2
      unfold VarAt at hv
      rw [e0, h3] at hv
      cases hv)
    refine (goes_any pd g cb eg W q e w.heap.size (ho.var (h1.ents q e hq) (h1.ne_ent hq)) (by simpa using hv1.cell 0) (fun W' hW' => hgo W' e ((Below.off hb _).trans (ho.trans (Below.off hW' _) (fun _ _ x => x)) (fun _ _ x => x)))).mono ?_
    rintro r w' ⟨h2, h3⟩
    exact ⟨h2, grown_of_below h3⟩)
  have r1 := h1.row.cell 1
  simp at r1
  have hl := fun ty => h1.len _ rfl ty
  have f1 := h.few
  have f2 : (l.filter fun e => !rmv pd e).length ≤ l.length := List.length_filter_le _ _
  have HB := Lib.hid hb
  clear hb hv hgo h h1
  unfold cntR
  go_enter Try.func26, Try.ntmps26
  go_wp2_with fail
  refine hcon.mono ?_
  rintro e w2 ⟨rfl, ht2, ho2⟩
  have s1 := ht2.row.cell 1
  simp at s1
  have hl2 := fun ty => ht2.len _ rfl ty
  have HT := Lib.hid ht2
  have HO := Lib.hid ho2
  clear ht2 ho2 hcon
  go_wp2
  go_ret
  exact ⟨rfl, HT.out, (Below.off HB.out _).trans HO.out (fun _ _ x => x)⟩
theorem removeLearnt_nil (fv : Value) (w : World) (hf : fv.oneCell' = true) :
    Calls Try.prog 26 #[.pointer none, fv] w fun e w' => e = .returned (.int .i64 0) ∧ Below w.heap.size w w' := by
  have HB := Lib.hid (box_below w (.cells #[fv] 57))
  go_enter Try.func26, Try.ntmps26
  go_wp2
  go_ret
  exact ⟨rfl, HB.out⟩

/-- The closures. -/
theorem all_cl (e : Ent) (W : World) : Calls Try.prog 27 (#[entV e] ++ #[]) W fun r w' => r = .returned (.bool true) ∧ Below W.heap.size W w' := by
  have HB := Lib.hid (box_below W (.cells (entC e) 39))
  go_enter Try.func27, Try.ntmps27
  go_wp2
  go_ret
  exact ⟨rfl, HB.out⟩
theorem port_cl (e : Ent) (W : World) (c : Nat) (port : Int) (hc : W.cell? ⟨c, 0, none⟩ = some (.int .i64 port)) : Calls Try.prog 32 (#[entV e] ++ #[.pointer (some ⟨c, 0, none⟩)]) W fun r w' => r = .returned (.bool (e.port == port)) ∧ Below W.heap.size W w' := by
  have hb := box_below W (.cells (entC e) 39)
  have hc1 := (hb.cell (p := ⟨c, 0, none⟩) (block_lt_of_cell hc)).trans hc
  have HB := Lib.hid hb
  clear hb hc
  go_enter Try.func32, Try.ntmps32
  go_wp2
  go_ret
  exact ⟨rfl, HB.out⟩
theorem age_cl (e : Ent) (W : World) (c : Nat) (n : Int) (hc : W.cell? ⟨c, 0, none⟩ = some (.int .i64 n)) : Calls Try.prog 34 (#[entV e] ++ #[.pointer (some ⟨c, 0, none⟩)]) W fun r w' => r = .returned (.bool (decide (n ≤ e.age))) ∧ Below W.heap.size W w' := by
  have hb := box_below W (.cells (entC e) 39)
  have hc1 := (hb.cell (p := ⟨c, 0, none⟩) (block_lt_of_cell hc)).trans hc
  have HB := Lib.hid hb
  clear hb hc
  go_enter Try.func34, Try.ntmps34
  go_wp2
  go_ret
  exact ⟨rfl, HB.out⟩
end Go.Proofs.Ytkdaloikpljccaa
