/- The model's put, where the address has an entry, and where there is no room. -/
import Derived.Test.YtkdaloikpljccaaW
namespace Go.Proofs.Ytkdaloikpljccaa
open Go.RowKit Go.Sort Go.Maps
variable {w w' : World} {mb B : Nat} {v : Value} {most : Int} {l : List Ent}
/-- What put reads: the model's slice, the entry in its box. -/
abbrev S3 (mb c : Nat) (v : Value) (e : Ent) (w' : World) : Prop := w'.cell? ⟨mb, 0, none⟩ = some v ∧
  w'.cell? ⟨c, 0, none⟩ = some (.int .u8 (ofN e.n 0 : Nat)) ∧ w'.cell? ⟨c, 1, none⟩ = some (.int .u8 (ofN e.n 1 : Nat)) ∧ w'.cell? ⟨c, 2, none⟩ = some (.int .u8 (ofN e.n 2 : Nat)) ∧ w'.cell? ⟨c, 3, none⟩ = some (.int .u8 (ofN e.n 3 : Nat)) ∧ w'.cell? ⟨c, 4, none⟩ = some (.int .u8 (ofN e.n 4 : Nat)) ∧ w'.cell? ⟨c, 5, none⟩ = some (.int .u8 (ofN e.n 5 : Nat)) ∧ w'.cell? ⟨c, 6, none⟩ = some (.int .i64 e.port) ∧ w'.cell? ⟨c, 7, none⟩ = some (.int .u32 e.ports) ∧ w'.cell? ⟨c, 8, none⟩ = some (.int .i64 e.age) ∧ w'.cell? ⟨c, 9, none⟩ = some (.bool e.st)
theorem S3.of {mb c : Nat} {v : Value} {e : Ent} {xs : Array Value} (h1 : VarAt w mb xs 31) (hx : xs[0]? = some v) (h2 : VarAt w c (entC e) 39) : S3 mb c v e w := ⟨by rw [h1.cell, hx], entCells h2⟩
/-- What a put leaves of the model. -/
def MOff (mb : Nat) (v : Value) (k : Nat) : Prop := k = mb ∨ v.ownBlock = some k
theorem setL_off {F : Nat → Prop} {b : Nat} (hb : F b) : ∀ (ys : List Value) {a w : World} (o : Nat), Off F a w → Off F a (w.setCells b o ys)
  | [], _, _, _, h => h
  | y :: ys, a, w, o, h => setL_off hb ys (o + 1) (h.trans (⟨rfl, rfl, rfl, by simp [World.setCell], fun k _ hk => Below.heap_setCell _ _ _ _ (fun e => hk (by rw [e]; exact hb))⟩ : Off F w (w.setCell ⟨b, o, none⟩ y)) (fun _ _ x => x))

theorem set10_eq (w : World) (g o : Nat) (e : Ent) : w.setCells g o (encE e) = ((((((((((w.setCell ⟨g, o, none⟩ (.int .u8 (ofN e.n 0 : Nat))).setCell ⟨g, o + 1, none⟩ (.int .u8 (ofN e.n 1 : Nat))).setCell ⟨g, o + 2, none⟩ (.int .u8 (ofN e.n 2 : Nat))).setCell ⟨g, o + 3, none⟩ (.int .u8 (ofN e.n 3 : Nat))).setCell ⟨g, o + 4, none⟩ (.int .u8 (ofN e.n 4 : Nat))).setCell ⟨g, o + 5, none⟩ (.int .u8 (ofN e.n 5 : Nat))).setCell ⟨g, o + 6, none⟩ (.int .i64 e.port)).setCell ⟨g, o + 7, none⟩ (.int .u32 e.ports)).setCell ⟨g, o + 8, none⟩ (.int .i64 e.age)).setCell ⟨g, o + 9, none⟩ (.bool e.st)) := rfl

theorem Mdl.known {g n cap : Nat} (h : Mdl w mb (.slice (some ⟨g, 0, none⟩) n cap) most B l) : Row10 w g l ∧ n = l.length ∧ l.length ≤ cap ∧ B ≤ g ∧ g < w.heap.size ∧ (∀ k, w.frozen? ⟨g, k, none⟩ = false) ∧ mb ≠ g := by
  have hne : mb ≠ g := fun e0 => by
    obtain ⟨_, h7 | ⟨g', cap', cur, hv7, _, hg7, _⟩⟩ := h.own
    · cases h7.1
    · simp only [Value.slice.injEq, Option.some.injEq, Addr.mk.injEq] at hv7
      exact var_ne h.row (show VarAt w g' cur 39 from hg7) (by decide) (e0.trans hv7.1.1)
  rcases h.slice.2 with rfl | ⟨g', cap', he, h1, h2, h3, h4, h5⟩
  · obtain ⟨_, h7 | ⟨g', cap', cur, hv7, hB, hg7, h8, _⟩⟩ := h.own
    · cases h7.1
    · simp only [Value.slice.injEq, Option.some.injEq, Addr.mk.injEq] at hv7
      obtain ⟨⟨rfl, _⟩, rfl, rfl⟩ := hv7
      exact ⟨fun i e hi => by simp at hi, rfl, h8, hB, (Array.getElem?_eq_some_iff.1 hg7).1, fun k => VarAt.frozen (show VarAt w g cur 39 from hg7) k, hne⟩
  · simp only [Value.slice.injEq, Option.some.injEq, Addr.mk.injEq] at he
    obtain ⟨⟨rfl, _⟩, rfl, rfl⟩ := he
    exact ⟨h1, rfl, h2, h3, h4, h5, hne⟩
theorem S3.far {mb c : Nat} {v : Value} {e : Ent} (h : S3 mb c v e w) {F : Nat → Prop} (ho : Off F w w') (h1 : ¬ F mb) (h2 : ¬ F c) : S3 mb c v e w' := by
  obtain ⟨a, k0, k1, k2, k3, k4, k5, k6, k7, k8, k9⟩ := h
  have f : ∀ {b o : Nat} {u : Value}, w.cell? ⟨b, o, none⟩ = some u → ¬ F b → w'.cell? ⟨b, o, none⟩ = some u := fun hc hb => (World.cell?_of_block (w := w) (ho.block _ (block_lt_of_cell hc) hb)).trans hc
  exact ⟨f a h1, f k0 h2, f k1 h2, f k2 h2, f k3 h2, f k4 h2, f k5 h2, f k6 h2, f k7 h2, f k8 h2, f k9 h2⟩

theorem S3.drew {mb c : Nat} {v : Value} {e : Ent} (h : S3 mb c v e w) : S3 mb c v e w.drew := h
theorem Mdl.drew (h : Mdl w mb v most B l) : Mdl w.drew mb v most B l := ⟨h.row.drew, h.own, h.up, h.few⟩
theorem Off.drew {F : Nat → Prop} (h : Off F w w') : Off F w w'.drew := ⟨h.os, h.tape, h.output, h.size, h.block⟩

set_option maxHeartbeats 1000000 in
theorem put_has (h : Mdl w mb v most B l) (e : Ent) (he : e.n < 281474976710656) (hh : has l e.n = true) :
    Calls Try.prog 20 #[.pointer (some ⟨mb, 0, none⟩), entV e] w fun r w' => r = .returned (.bool true) ∧ (∃ v', Mdl w' mb v' most B (putE e l) ∧ (∀ k, v'.ownBlock = some k → v.ownBlock = some k ∨ w.heap.size ≤ k)) ∧ Off (MOff mb v) w w' := by
  have hb := box_below w (.cells (entC e) 39)
  have h1 := h.below hb
  have hv := var_new w (entC e) 39
  obtain ⟨y, hy, _, _⟩ := pos_has h.up hh
  have hi : pos l e.n < l.length := (List.getElem?_eq_some_iff.1 hy).1
  have hput := putE_set h.up hh
  have hu2 := h.up.putE he
  rcases h.slice.2 with hnil | ⟨g, cap, rfl, _, _, _, hgw, _⟩
  · rw [hnil] at hi
    simp at hi
  obtain ⟨x0, x1, x2, x3, x4, x5, _⟩ := entCells hv
  have HB := Lib.hid hb
  have H1 := Lib.hid h1
  have HV := Lib.hid hv
  have HU2 := Lib.hid hu2
  have HPUT := Lib.hid hput
  have hfew := h.few
  clear h hb h1 hv hu2 hput
  go_enter Try.func20, Try.ntmps20
  go_wp2_with fail
  refine (at_any H1.out he).mono ?_
  rintro r w2 ⟨rfl, hb2⟩
  rw [hh]
  have h2 := H1.out.below hb2
  have hv2 := HV.out.below hb2 HV.out.lt
  obtain ⟨hrow, _, hcap, hBg, hgl, hfz, hmg⟩ := h2.known
  have hS0 : S3 mb w.heap.size (.slice (some ⟨g, 0, none⟩) l.length cap) e w2.drew := S3.of h2.row rfl hv2
  have i0 := idx29 g 0 l.length cap (pos l e.n) hi
  simp only [Nat.zero_add] at i0
  obtain ⟨k0, k1, k2, k3, k4, k5, k6, k7, k8, k9⟩ := hrow.cells hy
  have f0 := hfz (pos l e.n * 10); have f1 := hfz (pos l e.n * 10 + 1); have f2 := hfz (pos l e.n * 10 + 2); have f3 := hfz (pos l e.n * 10 + 3); have f4 := hfz (pos l e.n * 10 + 4)
  have f5 := hfz (pos l e.n * 10 + 5); have f6 := hfz (pos l e.n * 10 + 6); have f7 := hfz (pos l e.n * 10 + 7); have f8 := hfz (pos l e.n * 10 + 8); have f9 := hfz (pos l e.n * 10 + 9)
  have ho : Off (fun k => k = g) w2 (w2.setCells g (pos l e.n * 10) (encE e)) := setL_off (F := fun k => k = g) rfl _ _ (Off.refl _ _)
  have hM0 : Mdl (w2.setCells g (pos l e.n * 10) (encE e)) mb (.slice (some ⟨g, 0, none⟩) l.length cap) most B (putE e l) := by
    have h9 := own_set (e := e) h2.own hi
    have hlen : (putE e l).length = l.length := by rw [HPUT.out]; simp
    rw [← HPUT.out] at h9
    refine ⟨ho.var h2.row hmg, ?_, HU2.out, by rw [hlen]; exact hfew⟩
    have e1 : Value.slice (some ⟨g, 0, none⟩) (putE e l).length cap = .slice (some ⟨g, 0, none⟩) l.length cap := by rw [hlen]
    rw [e1] at h9
    exact h9
  have hS2 := (S3.far (show S3 mb w.heap.size (.slice (some ⟨g, 0, none⟩) l.length cap) e w2 from hS0) ho hmg (fun e0 => by omega)).drew
  have hM := hM0.drew
  have hO : Off (MOff mb (.slice (some ⟨g, 0, none⟩) l.length cap)) w (w2.setCells g (pos l e.n * 10) (encE e)).drew := ((Below.off (below_next HB.out hb2) _).trans (ho.mono (fun k _ hk => Or.inr (by rw [hk]; rfl))) (fun _ _ x => x)).drew
  rw [set10_eq] at hS2 hM hO
  have HS0 := Lib.hid hS0
  have HS2 := Lib.hid hS2
  have HM := Lib.hid hM
  have HO := Lib.hid hO
  clear hfz hS0 hS2 hM hM0 hO ho hrow h2 hv2 hb2 x0 x1 x2 x3 x4 x5
  go_wp2_with fail
  go_region_held (S3 mb w.heap.size (.slice (some ⟨g, 0, none⟩) l.length cap) e)
    (first | with_reducible exact HS0.out | with_reducible exact HS2.out | with_reducible assumption) (fail)
  go_wp2
  go_ret
  exact ⟨rfl, ⟨_, HM.out, fun k hk => Or.inl hk⟩, HO.out⟩

theorem put_full (h : Mdl w mb v most B l) (e : Ent) (he : e.n < 281474976710656) (hh : has l e.n = false) (hr : decide ((l.length : Int) < most) = false) :
    Calls Try.prog 20 #[.pointer (some ⟨mb, 0, none⟩), entV e] w fun r w' => r = .returned (.bool false) ∧ Below w.heap.size w w' := by
  have hb := box_below w (.cells (entC e) 39)
  have h1 := h.below hb
  have hv := var_new w (entC e) 39
  obtain ⟨x0, x1, x2, x3, x4, x5, _⟩ := entCells hv
  obtain ⟨p, cap, rfl⟩ := h.slice.1
  have hr' : decide (most ≤ (l.length : Int)) = true := by simp at hr ⊢; exact hr
  have HB := Lib.hid hb
  have H1 := Lib.hid h1
  clear h hb h1 hv hr
  go_enter Try.func20, Try.ntmps20
  go_wp2_with fail
  refine (at_any H1.out he).mono ?_
  rintro r w2 ⟨rfl, hb2⟩
  rw [hh]
  have h2 := H1.out.below hb2
  have r0 := h2.row.cell 0
  have r1 := h2.row.cell 1
  simp at r0 r1
  have HB2 := Lib.hid (below_next HB.out hb2)
  clear h2 hb2 x0 x1 x2 x3 x4 x5
  go_wp2_with fail
  go_quiet (fail)
  go_wp2
  go_ret
  exact ⟨rfl, below_dn HB2.out⟩
end Go.Proofs.Ytkdaloikpljccaa
