/- Contracts of Learn and Fix. -/
import Derived.Test.YtkdaloikpljccaaH
namespace Go.Proofs.Ytkdaloikpljccaa
open Go.RowKit Go.Sort Go.Maps

/-- No other blocks are entries than those that were, and new ones. -/
def Grew (w : World) (E E' : Nat → Option Ent) : Prop := ∀ k, k < w.heap.size → (E' k).isSome = true → (E k).isSome = true
theorem Grew.refl (w : World) (E : Nat → Option Ent) : Grew w E E := fun _ _ h => h
theorem Grew.upd {w w1 : World} {E : Nat → Option Ent} (h : w.heap.size ≤ w1.heap.size) (e : Ent) : Grew w E (upd E w1.heap.size e) := fun k hk h1 => by
  unfold Ytkdaloikpljccaa.upd at h1
  rw [if_neg (by omega)] at h1
  exact h1
def grp (n : Nat) : Bool := (ofN n 0 : Int) % 2 == 1
def room (l : List Ent) (most : Int) (n : Nat) : Bool := has l n || decide ((l.length : Int) < most)
def okL (l : List Ent) (most : Int) (n : Nat) : Bool := !grp n && !stat l n && room l most n

variable {w w' : World} {tb b : Nat} {most : Int} {E : Nat → Option Ent} {l : List Ent}
theorem Tab.room (h : Tab w tb b most E l) {e : Ent} (hr : room l most e.n = true) : (putE e l).length ≤ 60 := by
  rw [putE_length h.up]
  have h1 := h.few
  have h2 := h.small
  split
  · exact h1
  · rename_i hh
    unfold Ytkdaloikpljccaa.room at hr
    simp [hh] at hr
    omega
theorem below_drew2 {B : Nat} {a w : World} (h : Below B a w) : Below B a w.drew := h.drew

theorem At.drew {c : Nat} {x : Nat → Nat} (h : At w c x) : At w.drew c x := h
theorem At.other {F : Nat → Prop} {c : Nat} {x : Nat → Nat} (h : At w c x) (ho : Off F w w') (hf : ¬ F c) : At w' c x := fun k hk => (World.cell?_of_block (w := w) (ho.block c h.lt hf)).trans (h k hk)
theorem Tab.ne_map (h : Tab w tb b most E l) {c : Nat} {x : Nat → Nat} (ha : At w c x) : ¬ c = b := fun e => by
  subst e
  obtain ⟨es, cl, he⟩ := h.at_map
  have := ha 0 (by omega)
  simp [World.cell?, he] at this
/-- What a region reads that stores into the map: the table's second cell, the address in its box. -/
abbrev SL (tb c b n : Nat) (w' : World) : Prop := w'.cell? ⟨tb, 1, none⟩ = some (.map (some b)) ∧ w'.cell? ⟨c, 0, none⟩ = some (.int .u8 (ofN n 0 : Nat)) ∧ w'.cell? ⟨c, 1, none⟩ = some (.int .u8 (ofN n 1 : Nat)) ∧
  w'.cell? ⟨c, 2, none⟩ = some (.int .u8 (ofN n 2 : Nat)) ∧ w'.cell? ⟨c, 3, none⟩ = some (.int .u8 (ofN n 3 : Nat)) ∧ w'.cell? ⟨c, 4, none⟩ = some (.int .u8 (ofN n 4 : Nat)) ∧ w'.cell? ⟨c, 5, none⟩ = some (.int .u8 (ofN n 5 : Nat))
theorem SL.alloc {tb c b n : Nat} {w : World} (h : SL tb c b n w) (o : Obj) : SL tb c b n (w.alloc o) := by
  have hb := box_below w o
  obtain ⟨h0, h1, h2, h3, h4, h5, h6⟩ := h
  exact ⟨(hb.cell (block_lt_of_cell h0)).trans h0, (hb.cell (block_lt_of_cell h1)).trans h1, (hb.cell (block_lt_of_cell h2)).trans h2, (hb.cell (block_lt_of_cell h3)).trans h3, (hb.cell (block_lt_of_cell h4)).trans h4, (hb.cell (block_lt_of_cell h5)).trans h5, (hb.cell (block_lt_of_cell h6)).trans h6⟩
theorem SL.allocd {tb c b n : Nat} {w : World} (h : SL tb c b n w.drew) (o : Obj) : SL tb c b n (w.alloc o).drew := SL.alloc (w := w) h o

theorem learn_any (h : Tab w tb b most E l) {n : Nat} (hn : n < 281474976710656) (port : Int) :
    Calls Try.prog 11 #[.pointer (some ⟨tb, 0, none⟩), macN n, .int .i64 port] w fun e w' => e = .returned (.bool (okL l most n)) ∧ (∃ E', Tab w' tb b most E' (if okL l most n then putE ⟨n, port, 0, 0, false⟩ l else l) ∧ Grew w E E') ∧ Off (fun k => k = b) w w' := by
  have hb := box_below w (macO (ofN n) 24)
  have h1 := h.below hb
  have ha := box_at w (ofN n) 24
  have HN := Lib.hid hn
  clear hn
  have m0 := ha 0 (by omega); have m1 := ha 1 (by omega); have m2 := ha 2 (by omega); have m3 := ha 3 (by omega); have m4 := ha 4 (by omega); have m5 := ha 5 (by omega)
  have HA := Lib.hid ha
  have HB := Lib.hid hb
  have H1 := Lib.hid h1
  have HT := Lib.hid h
  clear h ha hb h1
  cases hg : grp n
  · cases hs : stat l n
    · cases hr : room l most n
      · have ho : okL l most n = false := by simp [okL, hg, hs, hr]
        rw [ho, if_neg (by simp)]
        unfold grp at hg
        unfold room at hr
        go_enter Try.func11, Try.ntmps11
        go_wp2_with fail
        refine (grouped_any _ _).mono ?_; rintro e w1 ⟨rfl, hb1⟩
        rw [hg]
        obtain ⟨c0, c1, c2, c3, c4, c5⟩ := (HA.out.below hb1 HA.out.lt).n
        have B1 := Lib.hid hb1
        clear hb1
        go_wp2_with fail
        refine (isStatic_any (H1.out.below B1.out) HN.out).mono ?_; rintro e w2 ⟨rfl, hb2⟩
        rw [hs]
        obtain ⟨d0, d1, d2, d3, d4, d5⟩ := ((HA.out.below B1.out HA.out.lt).below hb2 (HA.out.below B1.out HA.out.lt).lt).n
        have B2 := Lib.hid hb2
        clear hb2
        go_wp2_with fail
        refine (hasRoom_any ((H1.out.below B1.out).below B2.out) HN.out).mono ?_; rintro e w3 ⟨rfl, hb3⟩
        rw [hr]
        have B3 := Lib.hid hb3
        clear hb3
        go_wp2
        go_ret
        have hall := below_next (below_next (below_next HB.out B1.out) B2.out) B3.out
        exact ⟨rfl, ⟨E, HT.out.below hall, Grew.refl _ _⟩, Below.off hall _⟩
      · have ho : okL l most n = true := by simp [okL, hg, hs, hr]
        rw [ho, if_pos rfl]
        unfold grp at hg
        have hr' := hr
        unfold room at hr'
        have HR := Lib.hid hr
        clear hr
        go_enter Try.func11, Try.ntmps11
        go_wp2_with fail
        refine (grouped_any _ _).mono ?_; rintro e w1 ⟨rfl, hb1⟩
        rw [hg]
        obtain ⟨c0, c1, c2, c3, c4, c5⟩ := (HA.out.below hb1 HA.out.lt).n
        have B1 := Lib.hid hb1
        clear hb1
        go_wp2_with fail
        refine (isStatic_any (H1.out.below B1.out) HN.out).mono ?_; rintro e w2 ⟨rfl, hb2⟩
        rw [hs]
        obtain ⟨d0, d1, d2, d3, d4, d5⟩ := ((HA.out.below B1.out HA.out.lt).below hb2 (HA.out.below B1.out HA.out.lt).lt).n
        have B2 := Lib.hid hb2
        clear hb2
        go_wp2_with fail
        refine (hasRoom_any ((H1.out.below B1.out).below B2.out) HN.out).mono ?_; rintro e w3 ⟨rfl, hb3⟩
        rw [hr']
        have a3 := ((HA.out.below B1.out HA.out.lt).below B2.out (HA.out.below B1.out HA.out.lt).lt).below hb3 ((HA.out.below B1.out HA.out.lt).below B2.out (HA.out.below B1.out HA.out.lt).lt).lt
        have ht3 := (((H1.out.below B1.out).below B2.out).below hb3)
        obtain ⟨W2, hrun, ht4, ho4⟩ := ht3.put (e := ⟨n, port, 0, 0, false⟩) HN.out (ht3.room HR.out) (w1 := (w3.alloc (.cells (entC ⟨n, port, 0, 0, false⟩) 39)).drew) rfl ⟨rfl, rfl, rfl⟩
        have r1 := ht3.row.cell 1
        simp at r1
        have HS0 := Lib.hid (show SL tb w.heap.size b n w3.drew from ⟨r1, a3.n⟩)
        have HS2 := Lib.hid (show SL tb w.heap.size b n W2 from ⟨by have := ht4.row.cell 1; simpa using this, (a3.other ho4 (ht3.ne_map a3)).n⟩)
        have hall := below_next (below_next (below_next HB.out B1.out) B2.out) hb3
        have HALL := Lib.hid (show Off (fun k => k = b) w W2 from (Below.off hall _).trans ho4 (fun _ _ h => h))
        have HT4 := Lib.hid (show ∃ E', Tab W2 tb b most E' (putE ⟨n, port, 0, 0, false⟩ l) ∧ Grew w E E' from ⟨_, ht4, Grew.upd hall.size _⟩)
        simp only [macN, macV, entC] at hrun
        clear ht3 ht4 ho4 hall a3 hb3 hr' c0 c1 c2 c3 c4 c5 d0 d1 d2 d3 d4 d5 m0 m1 m2 m3 m4 m5
        go_wp2_with fail
        go_region_held (SL tb w.heap.size b n) (first | with_reducible exact HS0.out | with_reducible exact HS2.out | exact SL.allocd HS0.out _ | with_reducible assumption) (fail)
        go_wp2
        go_ret
        exact ⟨rfl, HT4.out, HALL.out⟩
    · have ho : okL l most n = false := by simp [okL, hg, hs]
      rw [ho, if_neg (by simp)]
      unfold grp at hg
      go_enter Try.func11, Try.ntmps11
      go_wp2_with fail
      refine (grouped_any _ _).mono ?_; rintro e w1 ⟨rfl, hb1⟩
      rw [hg]
      obtain ⟨c0, c1, c2, c3, c4, c5⟩ := (HA.out.below hb1 HA.out.lt).n
      have B1 := Lib.hid hb1
      clear hb1
      go_wp2_with fail
      refine (isStatic_any (H1.out.below B1.out) HN.out).mono ?_; rintro e w2 ⟨rfl, hb2⟩
      rw [hs]
      obtain ⟨d0, d1, d2, d3, d4, d5⟩ := ((HA.out.below B1.out HA.out.lt).below hb2 (HA.out.below B1.out HA.out.lt).lt).n
      have B2 := Lib.hid hb2
      clear hb2
      go_wp2
      go_ret
      have hall := below_next (below_next HB.out B1.out) B2.out
      exact ⟨rfl, ⟨E, HT.out.below hall, Grew.refl _ _⟩, Below.off hall _⟩
  · have ho : okL l most n = false := by simp [okL, hg]
    rw [ho, if_neg (by simp)]
    unfold grp at hg
    go_enter Try.func11, Try.ntmps11
    go_wp2_with fail
    refine (grouped_any _ _).mono ?_; rintro e w1 ⟨rfl, hb1⟩
    rw [hg]
    have B1 := Lib.hid hb1
    clear hb1
    go_wp2
    go_ret
    have hall := below_next HB.out B1.out
    exact ⟨rfl, ⟨E, HT.out.below hall, Grew.refl _ _⟩, Below.off hall _⟩
theorem learn_nil (n : Nat) (port : Int) (w : World) :
    Calls Try.prog 11 #[.pointer none, macN n, .int .i64 port] w fun e w' => e = .returned (.bool false) ∧ Below w.heap.size w w' := by
  have HB := Lib.hid (box_below w (macO (ofN n) 24))
  go_enter Try.func11, Try.ntmps11
  go_wp2
  go_ret
  exact ⟨rfl, HB.out⟩
end Go.Proofs.Ytkdaloikpljccaa
